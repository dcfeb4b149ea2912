/-
  Plain mathematics of the law ZstateTwice: a change that is applied a second time tells the same and does nothing. No condition but the numbers' order.
-/
import Derived.Test.YtflgemlhocjipaaGreatDoorSMath
namespace Go.Proofs.Zs
open Go.Proofs.Zt (Tr Evt doL endL mx)

theorem chg_twice (S : St) (t : Tx) (z' : Int) : Zs.chg ⟨z', (Zs.chg S t).1.T, (Zs.chg S t).1.L, (Zs.chg S t).1.D⟩ t = (⟨z', (Zs.chg S t).1.T, (Zs.chg S t).1.L, (Zs.chg S t).1.D⟩, (Zs.chg S t).2.1, []) := by
  by_cases h1 : t.n < 1 ∨ mx < t.n ∨ t.n < (fd S.D t.s).n ∨ 6 < t.l.length
  · have e : Zs.chg S t = (S, er 1, []) := by unfold Zs.chg; rw [if_pos h1]
    rw [e]
    dsimp only
    unfold Zs.chg
    rw [if_pos h1]
  · by_cases h2 : t.n = (fd S.D t.s).n
    · have e : Zs.chg S t = (S, (fd S.D t.s).r, []) := by unfold Zs.chg; rw [if_neg h1, if_pos h2]
      rw [e]
      dsimp only
      unfold Zs.chg
      rw [if_neg h1, if_pos h2]
    · have e := show Zs.chg S t = (⟨S.z, (doL S.T S.z t.s t.l).T, S.L, fg S.D t.s ++ [⟨t.s, t.n, ⟨(doL S.T S.z t.s t.l).e, 0, (doL S.T S.z t.s t.l).ps⟩⟩]⟩, ⟨(doL S.T S.z t.s t.l).e, 0, (doL S.T S.z t.s t.l).ps⟩, (doL S.T S.z t.s t.l).es) by unfold Zs.chg; rw [if_neg h1, if_neg h2]
      rw [e]
      dsimp only
      have hf : fd (fg S.D t.s ++ [⟨t.s, t.n, ⟨(doL S.T S.z t.s t.l).e, 0, (doL S.T S.z t.s t.l).ps⟩⟩]) t.s = ⟨t.s, t.n, ⟨(doL S.T S.z t.s t.l).e, 0, (doL S.T S.z t.s t.l).ps⟩⟩ := by
        rw [fd_put S.D ⟨t.s, t.n, ⟨(doL S.T S.z t.s t.l).e, 0, (doL S.T S.z t.s t.l).ps⟩⟩ t.s, if_pos rfl]
      unfold Zs.chg
      dsimp only
      rw [hf]
      dsimp only
      rw [if_neg (by omega), if_pos rfl]
theorem chg_L (S : St) (t : Tx) : (Zs.chg S t).1.L = S.L := by
  unfold Zs.chg
  split
  · rfl
  · split <;> rfl
theorem chg_z (S : St) (t : Tx) : (Zs.chg S t).1.z = S.z := by
  unfold Zs.chg
  split
  · rfl
  · split <;> rfl
/-- The second Apply of one change. -/
theorem app_twice {S : St} (h0 : 0 ≤ S.z) (hz : S.z ≤ 2305843009213693952) {t : Tx} (hk : t.k = 4) :
    (Zs.app S (S.z + 1) t).1.z = S.z + 1 ∧
    Zs.app (Zs.app S (S.z + 1) t).1 (S.z + 2) t = (⟨S.z + 2, (Zs.app S (S.z + 1) t).1.T, (Zs.app S (S.z + 1) t).1.L, (Zs.app S (S.z + 1) t).1.D⟩, (Zs.app S (S.z + 1) t).2.1, []) := by
  have hb1 : badZ S (S.z + 1) = false := by unfold badZ mx; simp; omega
  have ha : ∀ (S' : St) (zx : Int), badZ S' zx = false → Zs.app S' zx t = Zs.forS ⟨zx, S'.T, S'.L, S'.D⟩ t := fun S' zx hb => by
    unfold Zs.app Zs.doS
    rw [if_neg (by rw [hb]; simp), if_neg (by omega), if_neg (by omega), if_neg (by omega)]
  rw [ha S _ hb1]
  cases hh : Le.has S.L t.s with
  | none =>
    have e : Zs.forS ⟨S.z + 1, S.T, S.L, S.D⟩ t = (⟨S.z + 1, S.T, S.L, S.D⟩, er 100, []) := by unfold Zs.forS; dsimp only; rw [hh]
    rw [e]
    dsimp only
    refine ⟨rfl, ?_⟩
    rw [ha _ _ (by unfold badZ mx; simp; omega)]
    unfold Zs.forS
    dsimp only
    rw [hh]
  | some x =>
    have e : Zs.forS ⟨S.z + 1, S.T, S.L, S.D⟩ t = Zs.chg ⟨S.z + 1, S.T, S.L, S.D⟩ t := by unfold Zs.forS; dsimp only; rw [hh]; dsimp only; rw [if_pos hk]
    rw [e]
    have hcz := chg_z ⟨S.z + 1, S.T, S.L, S.D⟩ t
    have hcl := chg_L ⟨S.z + 1, S.T, S.L, S.D⟩ t
    dsimp only at hcz hcl
    refine ⟨hcz, ?_⟩
    rw [ha _ _ (by unfold badZ mx; rw [hcz]; simp; omega)]
    have e2 : Zs.forS ⟨S.z + 2, (Zs.chg ⟨S.z + 1, S.T, S.L, S.D⟩ t).1.T, (Zs.chg ⟨S.z + 1, S.T, S.L, S.D⟩ t).1.L, (Zs.chg ⟨S.z + 1, S.T, S.L, S.D⟩ t).1.D⟩ t = Zs.chg ⟨S.z + 2, (Zs.chg ⟨S.z + 1, S.T, S.L, S.D⟩ t).1.T, (Zs.chg ⟨S.z + 1, S.T, S.L, S.D⟩ t).1.L, (Zs.chg ⟨S.z + 1, S.T, S.L, S.D⟩ t).1.D⟩ t := by
      unfold Zs.forS
      dsimp only
      rw [hcl, hh]
      dsimp only
      rw [if_pos hk]
    rw [e2, chg_twice]
end Go.Proofs.Zs
