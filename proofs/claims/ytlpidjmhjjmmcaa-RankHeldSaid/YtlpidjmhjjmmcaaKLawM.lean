/-
  RankMeets returns true. No condition.
-/
import Derived.Test.YtlpidjmhjjmmcaaKAlive
namespace Go.Proofs.Ytlpidjmhjjmmcaa
set_option maxRecDepth 100000
open Go.ChangeShapes Go.WideShapes Go.ChangeAt Go.RowKit Go.Proofs.Rk

theorem bools_at (a0 a1 a2 a3 a4 a5 a6 : Bool) (k : Nat) (hk : k < 7) : (#[.bool a0, .bool a1, .bool a2, .bool a3, .bool a4, .bool a5, .bool a6] : Array Value)[k]? = some (.bool ([a0, a1, a2, a3, a4, a5, a6].getD k false)) := by
  have : k = 0 ∨ k = 1 ∨ k = 2 ∨ k = 3 ∨ k = 4 ∨ k = 5 ∨ k = 6 := by omega
  rcases this with rfl | rfl | rfl | rfl | rfl | rfl | rfl <;> rfl
set_option maxHeartbeats 8000000 in
theorem meets_law {w : World} (x : Int) (a0 a1 a2 a3 a4 a5 a6 b0 b1 b2 b3 b4 b5 b6 : Bool) : Calls Try.prog 4 #[.int .i64 x, .agg #[.bool a0, .bool a1, .bool a2, .bool a3, .bool a4, .bool a5, .bool a6], .agg #[.bool b0, .bool b1, .bool b2, .bool b3, .bool b4, .bool b5, .bool b6]] w fun e w' => e = .returned (.bool true) ∧ Below w.heap.size w w' := by
  obtain ⟨w2, hw2, hb2, hq, hr, hs2⟩ := two_box w (.cells #[.bool a0, .bool a1, .bool a2, .bool a3, .bool a4, .bool a5, .bool a6] 28) (.cells #[.bool b0, .bool b1, .bool b2, .bool b3, .bool b4, .bool b5, .bool b6] 28)
  obtain ⟨q, eq⟩ : ∃ q, q = w.heap.size := ⟨_, rfl⟩
  obtain ⟨r, er⟩ : ∃ r, r = w.heap.size + 1 := ⟨_, rfl⟩
  rw [← eq] at hq
  rw [← er] at hr
  have HFA : Hid (∀ k, k < 7 → w2.cell? ⟨q, k, none⟩ = some (.bool ([a0, a1, a2, a3, a4, a5, a6].getD k false))) := Lib.hid (fun k hk => cell_of hq (bools_at _ _ _ _ _ _ _ k hk))
  have HFB : Hid (∀ k, k < 7 → w2.cell? ⟨r, k, none⟩ = some (.bool ([b0, b1, b2, b3, b4, b5, b6].getD k false))) := Lib.hid (fun k hk => cell_of hr (bools_at _ _ _ _ _ _ _ k hk))
  obtain ⟨f, hf⟩ : ∃ f : Nat → Bool, f = fun k => [a0, a1, a2, a3, a4, a5, a6].getD k false := ⟨_, rfl⟩
  obtain ⟨g, hg⟩ : ∃ g : Nat → Bool, g = fun k => [b0, b1, b2, b3, b4, b5, b6].getD k false := ⟨_, rfl⟩
  have HF : Hid (∀ k, k < 7 → w2.cell? ⟨q, k, none⟩ = some (.bool (f k))) := Lib.hid (by rw [hf]; exact HFA.out)
  have HG : Hid (∀ k, k < 7 → w2.cell? ⟨r, k, none⟩ = some (.bool (g k))) := Lib.hid (by rw [hg]; exact HFB.out)
  have HW2 := Lib.hid hw2
  have EQ := Lib.hid eq
  have ER := Lib.hid er
  have HB2 := Lib.hid hb2
  have HA := Lib.hid (fun W => alive_any W)
  have HQ := Lib.hid (fun W => quorum_any x W)
  clear hw2 hb2 hq hr hs2 eq er hf hg HFA HFB
  go_enter Try.func4, Try.ntmps4
  go_upto_region 1 with fail
  rw [← HW2.out, ← ER.out, ← EQ.out]
  by_cases hgr : isG x = true
  · have hx : 1 ≤ x ∧ x ≤ 7 := by simpa [isG] using hgr
    obtain ⟨hx1, hx2⟩ := hx
    have HM := Lib.hid (fun a b => meets hgr f g a b)
    have HQT := Lib.hid (quo_two hgr)
    obtain ⟨z, hz⟩ : ∃ z, quo x = z := ⟨_, rfl⟩
    rw [hz] at HQ HM HQT
    obtain ⟨n, rfl⟩ : ∃ n : Nat, x = n := ⟨x.toNat, by omega⟩
    rw [Int.toNat_natCast] at HM
    have hn7 : n ≤ 7 := by omega
    have hz1 : ¬ z = 0 := by have := HQT.out; omega
    have hzz : (z == 0) = false := by simpa using hz1
    clear hz hgr
    go_wp2_with fail
    refine (HQ.out _).mono ?_
    rintro e w0 ⟨rfl, rfl⟩
    go_wp2_with fail
    go_loopw [8, 9, 10, 26] (fun u v y i wr => ∃ (k : Nat) (p1 p2 p3 : Nat), k ≤ n ∧ i = .int .i64 k ∧ u = .int .i64 p1 ∧ v = .int .i64 p2 ∧ y = .int .i64 p3 ∧ p1 ≤ k ∧ p2 ≤ k ∧ p3 ≤ k ∧ Hid (picked f k = p1) ∧ Hid (picked g k = p2) ∧ Hid (picked (fun i => f i && g i) k = p3) ∧ Hid (Below w2.heap.size w2 wr)) (fun _ _ _ i _ => n - (intOf i).toNat)
    case atStart => exact ⟨0, 0, 0, 0, Nat.zero_le _, rfl, rfl, rfl, rfl, Nat.zero_le _, Nat.zero_le _, Nat.zero_le _, Lib.hid rfl, Lib.hid rfl, Lib.hid rfl, Lib.hid (Below.refl _ _)⟩
    case round =>
      obtain ⟨k, p1, p2, p3, hk, rfl, rfl, rfl, rfl, hp1, hp2, hp3, HP1, HP2, HP3, HX⟩ := hrel
      by_cases hlt : k < n
      · have hk0 : (0 : Int) ≤ (k : Int) := by omega
        have hki : (k : Int) < (n : Int) := by omega
        have hk7 : (k : Int) < 7 := by omega
        have hwk : IntKind.i64.wrap ((k : Int) + 1) = (k : Int) + 1 := by rw [IntKind.wrap_i64]; omega
        have hw1 : IntKind.i64.wrap ((p1 : Int) + 1) = (p1 : Int) + 1 := by rw [IntKind.wrap_i64]; omega
        have hw2' : IntKind.i64.wrap ((p2 : Int) + 1) = (p2 : Int) + 1 := by rw [IntKind.wrap_i64]; omega
        have hw3 : IntKind.i64.wrap ((p3 : Int) + 1) = (p3 : Int) + 1 := by rw [IntKind.wrap_i64]; omega
        have c0 : wr.cell? ⟨q, k, none⟩ = some (.bool (f k)) := (HX.out.cell (cell_lt (HF.out k (by omega)))).trans (HF.out k (by omega))
        have c1 : wr.cell? ⟨r, k, none⟩ = some (.bool (g k)) := (HX.out.cell (cell_lt (HG.out k (by omega)))).trans (HG.out k (by omega))
        obtain ⟨t1, ht1⟩ : ∃ t, f k = t := ⟨_, rfl⟩
        obtain ⟨t2, ht2⟩ : ∃ t, g k = t := ⟨_, rfl⟩
        rw [ht1] at c0
        rw [ht2] at c1
        have N1 : Hid (picked f (k + 1) = p1 + if t1 then 1 else 0) := Lib.hid (by unfold picked; rw [HP1.out, ht1])
        have N2 : Hid (picked g (k + 1) = p2 + if t2 then 1 else 0) := Lib.hid (by unfold picked; rw [HP2.out, ht2])
        have N3 : Hid (picked (fun i => f i && g i) (k + 1) = p3 + if (t1 && t2) then 1 else 0) := Lib.hid (by unfold picked; rw [HP3.out, ht1, ht2])
        clear ht1 ht2
        cases t1 with
        | false =>
          cases t2 with
          | false =>
            have M1 : Hid (picked f (k + 1) = p1) := Lib.hid (by rw [N1.out]; rfl)
            have M2 : Hid (picked g (k + 1) = p2) := Lib.hid (by rw [N2.out]; rfl)
            have M3 : Hid (picked (fun i => f i && g i) (k + 1) = p3) := Lib.hid (by rw [N3.out]; rfl)
            go_wp2_with fail
            go_roundw
            case rel => exact ⟨k + 1, p1, p2, p3, by omega, by go_num, by first | rfl | go_num, by first | rfl | go_num, by first | rfl | go_num, by omega, by omega, by omega, M1, M2, M3, HX⟩
            case measure => simp [intOf]; omega
          | true =>
            have M1 : Hid (picked f (k + 1) = p1) := Lib.hid (by rw [N1.out]; rfl)
            have M2 : Hid (picked g (k + 1) = p2 + 1) := Lib.hid (by rw [N2.out]; rfl)
            have M3 : Hid (picked (fun i => f i && g i) (k + 1) = p3) := Lib.hid (by rw [N3.out]; rfl)
            go_wp2_with fail
            go_roundw
            case rel => exact ⟨k + 1, p1, p2 + 1, p3, by omega, by go_num, by first | rfl | go_num, by first | rfl | go_num, by first | rfl | go_num, by omega, by omega, by omega, M1, M2, M3, HX⟩
            case measure => simp [intOf]; omega
        | true =>
          cases t2 with
          | false =>
            have M1 : Hid (picked f (k + 1) = p1 + 1) := Lib.hid (by rw [N1.out]; rfl)
            have M2 : Hid (picked g (k + 1) = p2) := Lib.hid (by rw [N2.out]; rfl)
            have M3 : Hid (picked (fun i => f i && g i) (k + 1) = p3) := Lib.hid (by rw [N3.out]; rfl)
            go_wp2_with fail
            go_roundw
            case rel => exact ⟨k + 1, p1 + 1, p2, p3, by omega, by go_num, by first | rfl | go_num, by first | rfl | go_num, by first | rfl | go_num, by omega, by omega, by omega, M1, M2, M3, HX⟩
            case measure => simp [intOf]; omega
          | true =>
            have M1 : Hid (picked f (k + 1) = p1 + 1) := Lib.hid (by rw [N1.out]; rfl)
            have M2 : Hid (picked g (k + 1) = p2 + 1) := Lib.hid (by rw [N2.out]; rfl)
            have M3 : Hid (picked (fun i => f i && g i) (k + 1) = p3 + 1) := Lib.hid (by rw [N3.out]; rfl)
            go_wp2_with fail
            go_roundw
            case rel => exact ⟨k + 1, p1 + 1, p2 + 1, p3 + 1, by omega, by go_num, by first | rfl | go_num, by first | rfl | go_num, by first | rfl | go_num, by omega, by omega, by omega, M1, M2, M3, HX⟩
            case measure => simp [intOf]; omega
      · obtain rfl : k = n := by omega
        have hki : ¬ (k : Int) < (k : Int) := by omega
        obtain ⟨s1, hs1⟩ : ∃ t, decide ((p1 : Int) < z) = t := ⟨_, rfl⟩
        obtain ⟨s2, hs2⟩ : ∃ t, decide ((p2 : Int) < z) = t := ⟨_, rfl⟩
        obtain ⟨s3, hs3⟩ : ∃ t, decide ((0 : Int) < (p3 : Int)) = t := ⟨_, rfl⟩
        have hs3' : decide (0 < p3) = s3 := by rw [← hs3]; simp
        have HT : Hid ((s1 || s2 || s3) = true) := Lib.hid (by
          have := HM.out
          rw [HP1.out, HP2.out, HP3.out] at this
          rw [← hs1, ← hs2, ← hs3]
          by_cases e1 : (p1 : Int) < z
          · simp [e1]
          · by_cases e2 : (p2 : Int) < z
            · simp [e2]
            · have := this (by omega) (by omega)
              simp; omega)
        have HX' := Lib.hid (HB2.out.trans (HX.out.mono HB2.out.size))
        go_wp2_with fail
        refine (HA.out _).mono ?_
        rintro e w4 ⟨rfl, hbw4⟩
        have HB4 := Lib.hid (HX'.out.trans (hbw4.mono HX'.out.size))
        clear hbw4
        cases s1 with
        | true =>
          go_wp2_with fail
          go_ret
          exact ⟨rfl, HB4.out⟩
        | false =>
          cases s2 with
          | true =>
            go_wp2_with fail
            go_ret
            exact ⟨rfl, HB4.out⟩
          | false =>
            cases s3 with
            | true =>
              go_wp2_with fail
              go_ret
              exact ⟨rfl, HB4.out⟩
            | false =>
              exact absurd HT.out (by simp)
  · have HQZ : Hid (quo x = 0) := Lib.hid (by unfold quo; rw [if_neg hgr])
    rw [HQZ.out] at HQ
    obtain ⟨s1, hs1⟩ : ∃ t, decide (x < 1) = t := ⟨_, rfl⟩
    obtain ⟨s2, hs2⟩ : ∃ t, decide (7 < x) = t := ⟨_, rfl⟩
    have HT : Hid ((s1 || s2) = true) := Lib.hid (by
      rw [← hs1, ← hs2]
      simp [isG] at hgr
      simp; omega)
    clear hgr
    go_wp2_with fail
    refine (HQ.out _).mono ?_
    rintro e w0 ⟨rfl, rfl⟩
    go_wp2_with fail
    refine (HA.out _).mono ?_
    rintro e w4 ⟨rfl, hbw4⟩
    have HB4 := Lib.hid (HB2.out.trans (hbw4.mono HB2.out.size))
    clear hbw4
    cases s1 with
    | true =>
      go_wp2_with fail
      go_ret
      exact ⟨rfl, HB4.out⟩
    | false =>
      cases s2 with
      | true =>
        go_wp2_with fail
        go_ret
        exact ⟨rfl, HB4.out⟩
      | false =>
        exact absurd HT.out (by simp)
end Go.Proofs.Ytlpidjmhjjmmcaa
