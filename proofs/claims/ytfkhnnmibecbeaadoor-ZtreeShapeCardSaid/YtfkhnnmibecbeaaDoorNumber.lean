/-
  What Number returns of any path and number, and Cut of what Number made. Conditions: the text's length.
-/
import Derived.Test.YtfkhnnmibecbeaaDoorDigits
namespace Go.Proofs.YtfkhnnmibecbeaaDoor
open Go.ChangeShapes Go.WideShapes Go.ChangeAt Go.RowKit Go.Proofs.Zn

theorem number_no {l : Txt} {n : Int} (h : numOk l n = false) : number l n = [] := by
  unfold number; rw [h]; rfl
theorem number_yes {l : Txt} {n : Int} (h : numOk l n = true) : number l n = l ++ ten n.toNat := by
  unfold number; rw [h]; rfl
theorem numOk_no {l : Txt} {n : Int} (h : ¬ (1 ≤ depth l ∧ 0 ≤ n ∧ n ≤ 9999999999)) : numOk l n = false := by
  cases hh : numOk l n
  · rfl
  · rw [numOk_iff] at hh; exact absurd ⟨hh.1, hh.2.1, hh.2.2.1⟩ h
set_option maxHeartbeats 1000000 in
theorem number_first (s : ByteArray) (n : Int) (w : World) (hs : s.size ≤ 140737488355328) (h : ¬ (1 ≤ depth (L s) ∧ 0 ≤ n ∧ n ≤ 9999999999)) :
    Calls Tryd.prog 53 #[.string s, .int .i64 n] w fun e w' => e = .returned (.tuple #[.string ByteArray.empty, .bool false]) ∧ Below w.heap.size w w' := by
  obtain ⟨d, hd⟩ : ∃ d, depth (L s) = d := ⟨_, rfl⟩
  rw [hd] at h
  have HD := Lib.hid hd
  have HH := Lib.hid h
  clear hd h
  by_cases h1 : d < 1
  · go_enter Tryd.func53, Tryd.ntmps53
    go_wp2_with fail
    refine (depth_any _ _ (by omega)).mono ?_
    rintro e w1 ⟨rfl, hb⟩
    rw [HD.out]
    have HB := Lib.hid hb
    clear hb
    go_wp2
    go_ret2
    exact ⟨rfl, HB.out⟩
  · by_cases h2 : n < 0
    · go_enter Tryd.func53, Tryd.ntmps53
      go_wp2_with fail
      refine (depth_any _ _ (by omega)).mono ?_
      rintro e w1 ⟨rfl, hb⟩
      rw [HD.out]
      have HB := Lib.hid hb
      clear hb
      go_wp2
      go_ret2
      exact ⟨rfl, HB.out⟩
    · have h3 : 9999999999 < n := by have := HH.out; omega
      go_enter Tryd.func53, Tryd.ntmps53
      go_wp2_with fail
      refine (depth_any _ _ (by omega)).mono ?_
      rintro e w1 ⟨rfl, hb⟩
      rw [HD.out]
      have HB := Lib.hid hb
      clear hb
      go_wp2
      go_ret2
      exact ⟨rfl, HB.out⟩
set_option maxHeartbeats 1000000 in
theorem number_then (s : ByteArray) (n : Nat) (w : World) (hs : s.size ≤ 140737488355328) (h1 : 1 ≤ depth (L s)) (hn : n ≤ 9999999999) :
    Calls Tryd.prog 53 #[.string s, .int .i64 n] w fun e w' => e = .returned (.tuple #[.string (B (number (L s) n)), .bool (numOk (L s) n)]) ∧ Below w.heap.size w w' := by
  have hv : valid (L s ++ ten n) = numOk (L s) n := by
    unfold numOk
    rw [decide_eq_true h1, decide_eq_true (show (0 : Int) ≤ n by omega), decide_eq_true (show (n : Int) ≤ 9999999999 by omega)]
    simp
  obtain ⟨d, hd⟩ : ∃ d, depth (L s) = d := ⟨_, rfl⟩
  rw [hd] at h1
  have HD := Lib.hid hd
  have hl : (ten n).length = 10 := tenK_length _ _
  have hsum : ∀ w, (Op.stringOp .add s (B (ten n))).run Tryd.prog w = .ok (.string (B (L s ++ ten n))) w := add_any _ _ _ (by rw [LB, LB]) (by have := B_size (ten n); omega)
  have hsz : (B (L s ++ ten n)).size ≤ 4611686018427387904 := by rw [B_size, List.length_append, hl, L_len]; omega
  cases hk : numOk (L s) n
  · rw [number_no hk]
    rw [hk] at hv
    have HV := Lib.hid hv
    clear hd hv hk hl
    go_enter Tryd.func53, Tryd.ntmps53
    go_wp2_with fail
    refine (depth_any _ _ (by omega)).mono ?_
    rintro e w1 ⟨rfl, hb⟩
    rw [HD.out]
    have HB := Lib.hid hb
    clear hb
    go_wp2_with fail
    refine (digits_any _ _ hn).mono ?_
    rintro e w2 ⟨rfl, hb⟩
    have HB2 := Lib.hid (HB.out.trans (hb.mono HB.out.size))
    clear hb
    go_wp2_with fail
    refine (valid_any _ _ hsz).mono ?_
    rintro e w3 ⟨rfl, hb⟩
    rw [LB, HV.out]
    have HB3 := Lib.hid (HB2.out.trans (hb.mono HB2.out.size))
    clear hb
    go_wp2
    go_ret2
    exact ⟨rfl, HB3.out⟩
  · have HN := Lib.hid (number_yes hk)
    rw [hk] at hv
    have HV := Lib.hid hv
    clear hd hv hk hl
    go_enter Tryd.func53, Tryd.ntmps53
    go_wp2_with fail
    refine (depth_any _ _ (by omega)).mono ?_
    rintro e w1 ⟨rfl, hb⟩
    rw [HD.out]
    have HB := Lib.hid hb
    clear hb
    go_wp2_with fail
    refine (digits_any _ _ hn).mono ?_
    rintro e w2 ⟨rfl, hb⟩
    have HB2 := Lib.hid (HB.out.trans (hb.mono HB.out.size))
    clear hb
    go_wp2_with fail
    refine (valid_any _ _ hsz).mono ?_
    rintro e w3 ⟨rfl, hb⟩
    rw [LB, HV.out]
    have HB3 := Lib.hid (HB2.out.trans (hb.mono HB2.out.size))
    clear hb
    go_wp2
    go_ret2
    exact ⟨by rw [HN.out]; rfl, HB3.out⟩
theorem number_any (s : ByteArray) (n : Int) (w : World) (hs : s.size ≤ 140737488355328) :
    Calls Tryd.prog 53 #[.string s, .int .i64 n] w fun e w' => e = .returned (.tuple #[.string (B (number (L s) n)), .bool (numOk (L s) n)]) ∧ Below w.heap.size w w' := by
  by_cases h : 1 ≤ depth (L s) ∧ 0 ≤ n ∧ n ≤ 9999999999
  · obtain ⟨h1, h2, h3⟩ := h
    obtain ⟨m, rfl⟩ := Int.eq_ofNat_of_zero_le h2
    exact number_then s m w hs h1 (by omega)
  · have hk := numOk_no h
    rw [hk, number_no hk]
    exact number_first s n w hs h
end Go.Proofs.YtfkhnnmibecbeaaDoor
