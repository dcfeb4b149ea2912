/-
  The laws ZnameParts, ZnameUnder return true. Conditions: the texts' lengths.
-/
import Derived.Test.YtmjlkbfcajaldaaDoorAlive
namespace Go.Proofs.YtmjlkbfcajaldaaDoor
open Go.ChangeShapes Go.WideShapes Go.ChangeAt Go.RowKit Go.Proofs.Zn

set_option maxHeartbeats 2000000 in
theorem law_parts (s : ByteArray) (w : World) (hs : s.size ≤ 1048576) : Calls Tryd.prog 3 #[.string s] w fun e w' => e = .returned (.bool true) ∧ Below w.heap.size w w' := by
  have h47 : s.size ≤ 140737488355328 := by omega
  have h62 : s.size ≤ 4611686018427387904 := by omega
  have h21 : s.size ≤ 2097152 := by omega
  obtain ⟨P, hP⟩ : ∃ P, parent (L s) = P := ⟨_, rfl⟩
  have HP := Lib.hid hP
  clear hP
  obtain ⟨po, hpo⟩ : ∃ po, parentOk (L s) = po := ⟨_, rfl⟩
  have HPO := Lib.hid hpo
  clear hpo
  obtain ⟨vd, hvd⟩ : ∃ vd, valid (L s) = vd := ⟨_, rfl⟩
  have HVD := Lib.hid hvd
  clear hvd
  obtain ⟨d, hd⟩ : ∃ d, depth (L s) = d := ⟨_, rfl⟩
  have HD := Lib.hid hd
  clear hd
  obtain ⟨b, hb⟩ : ∃ b, base (L s) = b := ⟨_, rfl⟩
  have HBA := Lib.hid hb
  clear hb
  go_enter Tryd.func3, Tryd.ntmps3
  go_wp2_with fail
  refine (parent_any s _ h47).mono ?_
  rintro e w1 ⟨rfl, hb⟩
  rw [HP.out, HPO.out]
  have HB1 := Lib.hid hb
  clear hb
  go_wp2_with fail
  refine (rparent_any s _ h21).mono ?_
  rintro e w2 ⟨rfl, hb⟩
  rw [HP.out, HPO.out]
  have HB2 := Lib.hid (HB1.out.trans (hb.mono HB1.out.size))
  clear hb
  go_wp2_with fail
  refine (alive_any _).mono ?_
  rintro e w3 ⟨rfl, hb⟩
  have HB3 := Lib.hid (HB2.out.trans (hb.mono HB2.out.size))
  clear hb
  go_wp2_with fail
  refine (valid_any s _ h62).mono ?_
  rintro e w4 ⟨rfl, hb⟩
  rw [HVD.out]
  have HB4 := Lib.hid (HB3.out.trans (hb.mono HB3.out.size))
  clear hb
  go_wp2_with fail
  refine (rvalid_any s _ h21).mono ?_
  rintro e w5 ⟨rfl, hb⟩
  rw [HVD.out]
  have HB5 := Lib.hid (HB4.out.trans (hb.mono HB4.out.size))
  clear hb
  go_wp2_with fail
  refine (depth_any s _ h62).mono ?_
  rintro e w6 ⟨rfl, hb⟩
  rw [HD.out]
  have HB6 := Lib.hid (HB5.out.trans (hb.mono HB5.out.size))
  clear hb
  go_wp2_with fail
  refine (rdepth_any s _ h21).mono ?_
  rintro e w7 ⟨rfl, hb⟩
  rw [HD.out]
  have HB7 := Lib.hid (HB6.out.trans (hb.mono HB6.out.size))
  clear hb
  go_wp2_with fail
  refine (base_any s _ h47).mono ?_
  rintro e w8 ⟨rfl, hb⟩
  rw [HBA.out]
  have HB8 := Lib.hid (HB7.out.trans (hb.mono HB7.out.size))
  clear hb
  go_wp2_with fail
  refine (rbase_any s _ h21).mono ?_
  rintro e w9 ⟨rfl, hb⟩
  rw [HBA.out]
  have HB9 := Lib.hid (HB8.out.trans (hb.mono HB8.out.size))
  clear hb
  go_wp2_with fail
  go_ret
  exact ⟨rfl, HB9.out⟩
set_option maxHeartbeats 2000000 in
theorem law_under_a (s t r : ByteArray) (w : World) (hs : s.size ≤ 1048576) (ht : t.size ≤ 1048576) (hr : r.size ≤ 1048576) (hx : under (L s) (L t) = false) : Calls Tryd.prog 5 #[.string s, .string t, .string r] w fun e w' => e = .returned (.bool true) ∧ Below w.heap.size w w' := by
  have hs1 : s.size ≤ 140737488355328 := by omega
  have ht1 : t.size ≤ 140737488355328 := by omega
  have hr1 : r.size ≤ 140737488355328 := by omega
  have hs2 : s.size ≤ 2097152 := by omega
  have ht2 : t.size ≤ 2097152 := by omega
  have hr2 : r.size ≤ 2097152 := by omega
  have HX := Lib.hid hx
  clear hx
  obtain ⟨y, hy⟩ : ∃ y, under (L t) (L r) = y := ⟨_, rfl⟩
  have HY := Lib.hid hy
  clear hy
  go_enter Tryd.func5, Tryd.ntmps5
  go_wp2_with fail
  refine (under_any s t _ hs1 ht1).mono ?_
  rintro e w1 ⟨rfl, hb⟩
  rw [HX.out]
  have HB1 := Lib.hid hb
  clear hb
  go_wp2_with fail
  refine (under_any t r _ ht1 hr1).mono ?_
  rintro e w2 ⟨rfl, hb⟩
  rw [HY.out]
  have HB2 := Lib.hid (HB1.out.trans (hb.mono HB1.out.size))
  clear hb
  go_wp2_with fail
  refine (alive_any _).mono ?_
  rintro e w3 ⟨rfl, hb⟩
  have HB3 := Lib.hid (HB2.out.trans (hb.mono HB2.out.size))
  clear hb
  go_wp2_with fail
  refine (runder_any s t _ hs2 ht2).mono ?_
  rintro e w4 ⟨rfl, hb⟩
  rw [HX.out]
  have HB4 := Lib.hid (HB3.out.trans (hb.mono HB3.out.size))
  clear hb
  go_wp2_with fail
  refine (runder_any t r _ ht2 hr2).mono ?_
  rintro e w5 ⟨rfl, hb⟩
  rw [HY.out]
  have HB5 := Lib.hid (HB4.out.trans (hb.mono HB4.out.size))
  clear hb
  go_wp2_with fail
  go_ret
  exact ⟨rfl, HB5.out⟩
set_option maxHeartbeats 2000000 in
theorem law_under_b (s t r : ByteArray) (w : World) (hs : s.size ≤ 1048576) (ht : t.size ≤ 1048576) (hr : r.size ≤ 1048576) (hx : under (L s) (L t) = true) (hy : under (L t) (L r) = false) : Calls Tryd.prog 5 #[.string s, .string t, .string r] w fun e w' => e = .returned (.bool true) ∧ Below w.heap.size w w' := by
  have hs1 : s.size ≤ 140737488355328 := by omega
  have ht1 : t.size ≤ 140737488355328 := by omega
  have hr1 : r.size ≤ 140737488355328 := by omega
  have hs2 : s.size ≤ 2097152 := by omega
  have ht2 : t.size ≤ 2097152 := by omega
  have hr2 : r.size ≤ 2097152 := by omega
  have HX := Lib.hid hx
  clear hx
  have HY := Lib.hid hy
  clear hy
  go_enter Tryd.func5, Tryd.ntmps5
  go_wp2_with fail
  refine (under_any s t _ hs1 ht1).mono ?_
  rintro e w1 ⟨rfl, hb⟩
  rw [HX.out]
  have HB1 := Lib.hid hb
  clear hb
  go_wp2_with fail
  refine (under_any t r _ ht1 hr1).mono ?_
  rintro e w2 ⟨rfl, hb⟩
  rw [HY.out]
  have HB2 := Lib.hid (HB1.out.trans (hb.mono HB1.out.size))
  clear hb
  go_wp2_with fail
  refine (alive_any _).mono ?_
  rintro e w3 ⟨rfl, hb⟩
  have HB3 := Lib.hid (HB2.out.trans (hb.mono HB2.out.size))
  clear hb
  go_wp2_with fail
  refine (runder_any s t _ hs2 ht2).mono ?_
  rintro e w4 ⟨rfl, hb⟩
  rw [HX.out]
  have HB4 := Lib.hid (HB3.out.trans (hb.mono HB3.out.size))
  clear hb
  go_wp2_with fail
  refine (runder_any t r _ ht2 hr2).mono ?_
  rintro e w5 ⟨rfl, hb⟩
  rw [HY.out]
  have HB5 := Lib.hid (HB4.out.trans (hb.mono HB4.out.size))
  clear hb
  go_wp2_with fail
  go_ret
  exact ⟨rfl, HB5.out⟩
set_option maxHeartbeats 2000000 in
theorem law_under_c (s t r : ByteArray) (w : World) (hs : s.size ≤ 1048576) (ht : t.size ≤ 1048576) (hr : r.size ≤ 1048576) (hx : under (L s) (L t) = true) (hy : under (L t) (L r) = true) : Calls Tryd.prog 5 #[.string s, .string t, .string r] w fun e w' => e = .returned (.bool true) ∧ Below w.heap.size w w' := by
  have hs1 : s.size ≤ 140737488355328 := by omega
  have ht1 : t.size ≤ 140737488355328 := by omega
  have hr1 : r.size ≤ 140737488355328 := by omega
  have hs2 : s.size ≤ 2097152 := by omega
  have ht2 : t.size ≤ 2097152 := by omega
  have hr2 : r.size ≤ 2097152 := by omega
  have HZ := Lib.hid (under_trans hx hy)
  have HX := Lib.hid hx
  clear hx
  have HY := Lib.hid hy
  clear hy
  go_enter Tryd.func5, Tryd.ntmps5
  go_wp2_with fail
  refine (under_any s t _ hs1 ht1).mono ?_
  rintro e w1 ⟨rfl, hb⟩
  rw [HX.out]
  have HB1 := Lib.hid hb
  clear hb
  go_wp2_with fail
  refine (under_any t r _ ht1 hr1).mono ?_
  rintro e w2 ⟨rfl, hb⟩
  rw [HY.out]
  have HB2 := Lib.hid (HB1.out.trans (hb.mono HB1.out.size))
  clear hb
  go_wp2_with fail
  refine (alive_any _).mono ?_
  rintro e w3 ⟨rfl, hb⟩
  have HB3 := Lib.hid (HB2.out.trans (hb.mono HB2.out.size))
  clear hb
  go_wp2_with fail
  refine (runder_any s t _ hs2 ht2).mono ?_
  rintro e w4 ⟨rfl, hb⟩
  rw [HX.out]
  have HB4 := Lib.hid (HB3.out.trans (hb.mono HB3.out.size))
  clear hb
  go_wp2_with fail
  refine (runder_any t r _ ht2 hr2).mono ?_
  rintro e w5 ⟨rfl, hb⟩
  rw [HY.out]
  have HB5 := Lib.hid (HB4.out.trans (hb.mono HB4.out.size))
  clear hb
  go_wp2_with fail
  refine (under_any s r _ hs1 hr1).mono ?_
  rintro e w6 ⟨rfl, hb⟩
  rw [HZ.out]
  have HB6 := Lib.hid (HB5.out.trans (hb.mono HB5.out.size))
  clear hb
  go_wp2_with fail
  go_ret
  exact ⟨rfl, HB6.out⟩
theorem law_under (s t r : ByteArray) (w : World) (hs : s.size ≤ 1048576) (ht : t.size ≤ 1048576) (hr : r.size ≤ 1048576) : Calls Tryd.prog 5 #[.string s, .string t, .string r] w fun e w' => e = .returned (.bool true) ∧ Below w.heap.size w w' := by
  cases hx : under (L s) (L t)
  · exact law_under_a s t r w hs ht hr hx
  · cases hy : under (L t) (L r)
    · exact law_under_b s t r w hs ht hr hx hy
    · exact law_under_c s t r w hs ht hr hx hy
end Go.Proofs.YtmjlkbfcajaldaaDoor
