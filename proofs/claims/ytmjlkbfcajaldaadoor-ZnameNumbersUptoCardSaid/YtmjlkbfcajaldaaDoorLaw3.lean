/-
  The laws ZnameNumbers, ZnameRises return true. Conditions: the texts' lengths.
-/
import Derived.Test.YtmjlkbfcajaldaaDoorAlive
import Derived.WalkLawsBesides
namespace Go.Proofs.YtmjlkbfcajaldaaDoor
open Go.ChangeShapes Go.WideShapes Go.ChangeAt Go.RowKit Go.Proofs.Zn

theorem less_lt (x y : Txt) : Op.bytesLess x y = decide (x < y) := by
  induction x generalizing y with
  | nil => cases y <;> simp [Op.bytesLess]
  | cons a x ih =>
    cases y with
    | nil => simp [Op.bytesLess]
    | cons b y =>
      rw [Op.bytesLess, ih, Bool.eq_iff_iff]
      simp [List.cons_lt_cons_iff]
set_option maxHeartbeats 2000000 in
theorem law_numbers_no (s : ByteArray) (n : Int) (w : World) (hs : s.size ≤ 1048576) (hx : numOk (L s) n = false) : Calls Tryd.prog 6 #[.string s, .int .i64 n] w fun e w' => e = .returned (.bool true) ∧ Below w.heap.size w w' := by
  have hs1 : s.size ≤ 140737488355328 := by omega
  have HX := Lib.hid hx
  have HN := Lib.hid (number_no hx)
  clear hx
  go_enter Tryd.func6, Tryd.ntmps6
  go_wp2_with fail
  refine (number_any s _ _ hs1).mono ?_
  rintro e w1 ⟨rfl, hb⟩
  rw [HN.out, HX.out]
  have HB1 := Lib.hid hb
  clear hb
  go_wp2_with fail
  refine (rnumber_any s _ _ hs).mono ?_
  rintro e w2 ⟨rfl, hb⟩
  rw [HN.out, HX.out]
  have HB2 := Lib.hid (HB1.out.trans (hb.mono HB1.out.size))
  clear hb
  go_wp2_with fail
  refine (cut_empty _).mono ?_
  rintro e w3 ⟨rfl, hb⟩
  have HB3 := Lib.hid (HB2.out.trans (hb.mono HB2.out.size))
  clear hb
  go_wp2_with fail
  refine (alive_any _).mono ?_
  rintro e w4 ⟨rfl, hb⟩
  have HB4 := Lib.hid (HB3.out.trans (hb.mono HB3.out.size))
  clear hb
  go_wp2_with fail
  go_ret
  exact ⟨rfl, HB4.out⟩
set_option maxHeartbeats 2000000 in
theorem law_numbers_yes (s : ByteArray) (n : Int) (w : World) (hs : s.size ≤ 1048576) (hx : numOk (L s) n = true) : Calls Tryd.prog 6 #[.string s, .int .i64 n] w fun e w' => e = .returned (.bool true) ∧ Below w.heap.size w w' := by
  have hs1 : s.size ≤ 140737488355328 := by omega
  have HX := Lib.hid hx
  have HN := Lib.hid (number_yes hx)
  obtain ⟨h1, h2, h3, -⟩ := numOk_iff.1 hx
  obtain ⟨m, rfl⟩ := Int.eq_ofNat_of_zero_le h2
  have hm : m ≤ 9999999999 := by omega
  have H1 := Lib.hid h1
  obtain ⟨j, hj⟩ : ∃ j, number (L s) m = j := ⟨_, rfl⟩
  have HJ := Lib.hid hj
  rw [hj] at HN
  have HJN : Hid (L (B j) = L s ++ ten m) := Lib.hid (by rw [LB, HN.out]; rfl)
  have hjl : (B j).size ≤ 140737488355328 := by
    have := number_len (L s) (m : Int)
    rw [B_size, HN.out, this, L_len]; omega
  clear hx h1 h2 h3 hj
  go_enter Tryd.func6, Tryd.ntmps6
  go_wp2_with fail
  refine (number_any s _ _ hs1).mono ?_
  rintro e w1 ⟨rfl, hb⟩
  rw [HJ.out, HX.out]
  have HB1 := Lib.hid hb
  clear hb
  go_wp2_with fail
  refine (rnumber_any s _ _ hs).mono ?_
  rintro e w2 ⟨rfl, hb⟩
  rw [HJ.out, HX.out]
  have HB2 := Lib.hid (HB1.out.trans (hb.mono HB1.out.size))
  clear hb
  go_wp2_with fail
  refine (cut_num (B j) (L s) m _ hjl HJN.out H1.out hm).mono ?_
  rintro e w3 ⟨rfl, hb⟩
  rw [BL]
  have HB3 := Lib.hid (HB2.out.trans (hb.mono HB2.out.size))
  clear hb
  go_wp2_with fail
  refine (alive_any _).mono ?_
  rintro e w4 ⟨rfl, hb⟩
  have HB4 := Lib.hid (HB3.out.trans (hb.mono HB3.out.size))
  clear hb
  go_wp2_with fail
  go_ret
  exact ⟨rfl, HB4.out⟩
theorem law_numbers (s : ByteArray) (n : Int) (w : World) (hs : s.size ≤ 1048576) : Calls Tryd.prog 6 #[.string s, .int .i64 n] w fun e w' => e = .returned (.bool true) ∧ Below w.heap.size w w' := by
  cases hx : numOk (L s) n
  · exact law_numbers_no s n w hs hx
  · exact law_numbers_yes s n w hs hx
set_option maxHeartbeats 2000000 in
theorem law_rises_a (s : ByteArray) (n m : Int) (w : World) (hs : s.size ≤ 140737488355328) (hx : numOk (L s) n = false) : Calls Tryd.prog 7 #[.string s, .int .i64 n, .int .i64 m] w fun e w' => e = .returned (.bool true) ∧ Below w.heap.size w w' := by
  have HX := Lib.hid hx
  clear hx
  obtain ⟨a, ha⟩ : ∃ a, number (L s) n = a := ⟨_, rfl⟩
  have HA := Lib.hid ha
  clear ha
  obtain ⟨b, hb⟩ : ∃ b, number (L s) m = b := ⟨_, rfl⟩
  have HB0 := Lib.hid hb
  clear hb
  obtain ⟨y, hy⟩ : ∃ y, numOk (L s) m = y := ⟨_, rfl⟩
  have HY := Lib.hid hy
  clear hy
  go_enter Tryd.func7, Tryd.ntmps7
  go_wp2_with fail
  refine (number_any s n _ hs).mono ?_
  rintro e w1 ⟨rfl, hb⟩
  rw [HA.out, HX.out]
  have HB1 := Lib.hid hb
  clear hb
  go_wp2_with fail
  refine (number_any s m _ hs).mono ?_
  rintro e w2 ⟨rfl, hb⟩
  rw [HB0.out, HY.out]
  have HB2 := Lib.hid (HB1.out.trans (hb.mono HB1.out.size))
  clear hb
  go_wp2_with fail
  refine (alive_any _).mono ?_
  rintro e w3 ⟨rfl, hb⟩
  have HB3 := Lib.hid (HB2.out.trans (hb.mono HB2.out.size))
  clear hb
  go_wp2_with fail
  go_ret
  exact ⟨rfl, HB3.out⟩
set_option maxHeartbeats 2000000 in
theorem law_rises_b (s : ByteArray) (n m : Int) (w : World) (hs : s.size ≤ 140737488355328) (hx : numOk (L s) n = true) (hy : numOk (L s) m = false) : Calls Tryd.prog 7 #[.string s, .int .i64 n, .int .i64 m] w fun e w' => e = .returned (.bool true) ∧ Below w.heap.size w w' := by
  have HX := Lib.hid hx
  clear hx
  obtain ⟨a, ha⟩ : ∃ a, number (L s) n = a := ⟨_, rfl⟩
  have HA := Lib.hid ha
  clear ha
  obtain ⟨b, hb⟩ : ∃ b, number (L s) m = b := ⟨_, rfl⟩
  have HB0 := Lib.hid hb
  clear hb
  have HY := Lib.hid hy
  clear hy
  go_enter Tryd.func7, Tryd.ntmps7
  go_wp2_with fail
  refine (number_any s n _ hs).mono ?_
  rintro e w1 ⟨rfl, hb⟩
  rw [HA.out, HX.out]
  have HB1 := Lib.hid hb
  clear hb
  go_wp2_with fail
  refine (number_any s m _ hs).mono ?_
  rintro e w2 ⟨rfl, hb⟩
  rw [HB0.out, HY.out]
  have HB2 := Lib.hid (HB1.out.trans (hb.mono HB1.out.size))
  clear hb
  go_wp2_with fail
  refine (alive_any _).mono ?_
  rintro e w3 ⟨rfl, hb⟩
  have HB3 := Lib.hid (HB2.out.trans (hb.mono HB2.out.size))
  clear hb
  go_wp2_with fail
  go_ret
  exact ⟨rfl, HB3.out⟩
set_option maxHeartbeats 2000000 in
theorem law_rises_c (s : ByteArray) (n m : Int) (w : World) (hs : s.size ≤ 140737488355328) (hx : numOk (L s) n = true) (hy : numOk (L s) m = true) : Calls Tryd.prog 7 #[.string s, .int .i64 n, .int .i64 m] w fun e w' => e = .returned (.bool true) ∧ Below w.heap.size w w' := by
  have HZ := Lib.hid (number_rises hx hy)
  have HX := Lib.hid hx
  clear hx
  obtain ⟨a, ha⟩ : ∃ a, number (L s) n = a := ⟨_, rfl⟩
  have HA := Lib.hid ha
  clear ha
  obtain ⟨b, hb⟩ : ∃ b, number (L s) m = b := ⟨_, rfl⟩
  have HB0 := Lib.hid hb
  clear hb
  have HY := Lib.hid hy
  clear hy
  rw [HA.out, HB0.out] at HZ
  go_enter Tryd.func7, Tryd.ntmps7
  go_wp2_with fail
  refine (number_any s n _ hs).mono ?_
  rintro e w1 ⟨rfl, hb⟩
  rw [HA.out, HX.out]
  have HB1 := Lib.hid hb
  clear hb
  go_wp2_with fail
  refine (number_any s m _ hs).mono ?_
  rintro e w2 ⟨rfl, hb⟩
  rw [HB0.out, HY.out]
  have HB2 := Lib.hid (HB1.out.trans (hb.mono HB1.out.size))
  clear hb
  go_wp2_with fail
  refine (alive_any _).mono ?_
  rintro e w3 ⟨rfl, hb⟩
  have HB3 := Lib.hid (HB2.out.trans (hb.mono HB2.out.size))
  clear hb
  go_wp2_with fail
  go_ret
  exact ⟨ret_bool (by rw [less_lt]; simp [HZ.out]), HB3.out⟩
theorem law_rises (s : ByteArray) (n m : Int) (w : World) (hs : s.size ≤ 140737488355328) : Calls Tryd.prog 7 #[.string s, .int .i64 n, .int .i64 m] w fun e w' => e = .returned (.bool true) ∧ Below w.heap.size w w' := by
  cases hx : numOk (L s) n
  · exact law_rises_a s n m w hs hx
  · cases hy : numOk (L s) m
    · exact law_rises_b s n m w hs hx hy
    · exact law_rises_c s n m w hs hx hy
end Go.Proofs.YtmjlkbfcajaldaaDoor
