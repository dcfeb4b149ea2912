/-
  Plain mathematics of trees of znodes: one change alone; numbers that rise under one parent. No program in it; no condition.
-/
import Derived.Test.YtfkhnnmibecbeaaDoorTree4
namespace Go.Proofs.Zt
open Go.Proofs.Zn

theorem doL_one (T : Tr) (zx se : Int) (c : Chg) : doL T zx se [c] = if inr zx = false ∨ inr se = false then ⟨T, [], [], 1⟩ else
    if (one T zx se c).e ≠ 0 then ⟨T, [], [], (one T zx se c).e⟩ else ⟨(one T zx se c).T, [(one T zx se c).path], (one T zx se c).evs, 0⟩ := by
  unfold doL doGo doGo
  rfl
def qP : Txt := [47, 113]
def qN : Txt := [47, 113, 47, 110]
def cQ : Chg := ⟨1, qP, [], 0, false, false⟩
def cN : Chg := ⟨1, qN, [], 0, false, true⟩
def RInv (T : Tr) (last : Txt) : Prop := ∃ q, get T qP = some q ∧ (last = [] ∨ ∃ k, numOk qN k = true ∧ last = number qN k ∧ k < q.nx)
theorem rinv_start : RInv (doL new 1 0 [cQ]).T [] := by
  have : (get (doL new 1 0 [cQ]).T qP).isSome = true := by decide
  obtain ⟨q, hq⟩ := Option.isSome_iff_exists.1 this
  exact ⟨q, hq, .inl rfl⟩
theorem rinv_do {T : Tr} (hg : Good T) {last : Txt} (h : RInv T last) (zx se : Int) (c : Chg) (hc : ¬ (c.kind = 2 ∧ c.path = qP)) : RInv (doL T zx se [c]).T last := by
  rw [doL_one]
  by_cases h1 : inr zx = false ∨ inr se = false
  · rw [if_pos h1]; exact h
  rw [if_neg h1]
  by_cases h2 : (one T zx se c).e ≠ 0
  · rw [if_pos h2]; exact h
  rw [if_neg h2]
  obtain ⟨q, hq, hl⟩ := h
  obtain ⟨q', h3, h4⟩ := one_keeps hg hq (by simpa using h2) hc
  refine ⟨q', h3, ?_⟩
  rcases hl with hl | ⟨k, a, b, c⟩
  · exact .inl hl
  · exact .inr ⟨k, a, b, by omega⟩
theorem parent_qN : parent qN = qP := by decide
theorem number_ne {l : Txt} {n : Int} (h : numOk l n = true) : ([] : Txt) < number l n := by
  have : (number l n).length ≠ 0 := by
    unfold number
    rw [if_pos h, number_len]
    omega
  cases hn : number l n with
  | nil => rw [hn] at this; exact absurd rfl this
  | cons c t => exact List.nil_lt_cons c t
theorem rinv_create {T : Tr} (hg : Good T) {last : Txt} (h : RInv T last) (zx : Int) :
    ((doL T zx 0 [cN]).e ≠ 0 ∧ RInv (doL T zx 0 [cN]).T last) ∨ ((doL T zx 0 [cN]).e = 0 ∧ ∃ p, (doL T zx 0 [cN]).ps = [p] ∧ last < p ∧ RInv (doL T zx 0 [cN]).T p) := by
  have hk := rinv_do hg h zx 0 cN (by decide)
  by_cases he : (doL T zx 0 [cN]).e ≠ 0
  · exact .inl ⟨he, hk⟩
  · refine .inr ⟨by simpa using he, ?_⟩
    rw [doL_one] at he ⊢
    by_cases h1 : inr zx = false ∨ inr 0 = false
    · rw [if_pos h1] at he; exact absurd (show (1 : Int) ≠ 0 by decide) he
    rw [if_neg h1] at he ⊢
    by_cases h2 : (one T zx 0 cN).e ≠ 0
    · rw [if_pos h2] at he; exact absurd h2 he
    rw [if_neg h2]
    obtain ⟨q, hq, hl⟩ := h
    obtain ⟨h3, h4, q', h5, h6⟩ := create_rises (c := cN) (zx := zx) (se := 0) rfl rfl (by show get T (parent qN) = some q; rw [parent_qN]; exact hq) (by simpa using h2)
    refine ⟨_, rfl, ?_, ?_⟩
    · rw [h3]
      rcases hl with rfl | ⟨k, a, rfl, c⟩
      · exact number_ne h4
      · exact (number_rises a h4).2 c
    · have h5' : get (one T zx 0 cN).T (parent qN) = some q' := h5
      rw [parent_qN] at h5'
      exact ⟨q', h5', .inr ⟨q.nx, h4, h3, h6⟩⟩
end Go.Proofs.Zt
