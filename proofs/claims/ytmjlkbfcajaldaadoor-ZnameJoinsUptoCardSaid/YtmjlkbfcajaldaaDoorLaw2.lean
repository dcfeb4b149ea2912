/-
  The laws ZnameJoins, ZnameDeep return true. Conditions: the texts' lengths.
-/
import Derived.Test.YtmjlkbfcajaldaaDoorAlive
namespace Go.Proofs.YtmjlkbfcajaldaaDoor
open Go.ChangeShapes Go.WideShapes Go.ChangeAt Go.RowKit Go.Proofs.Zn

theorem join_len (l s : Txt) : (join l s).length ≤ 488 := by
  cases h : joinOk l s
  · rw [join_no h]; simp
  · obtain ⟨ps, _, _, _, e⟩ := names_joined h
    exact len_le (by unfold valid; rw [e]; rfl)
theorem parent_len {l : Txt} (h : parentOk l = true) : (parent l).length ≤ 488 := by
  obtain ⟨ps, b, _, e, _⟩ := parent_names h
  exact len_le (by unfold valid; rw [e]; rfl)
theorem base_len {l : Txt} (h : parentOk l = true) : (base l).length ≤ 488 := by
  obtain ⟨ps, b, _, _, _, e, _, ho⟩ := parent_names h
  rw [e]
  have := name_pos (((ok_iff _).1 ho).1 b (by simp))
  omega
theorem B_le {l : Txt} (h : l.length ≤ 488) : (B l).size ≤ 488 := by rw [B_size]; exact h
theorem parent_no {l : Txt} (h : parentOk l = false) : parent l = [] := by
  unfold parentOk at h
  unfold parent
  cases hn : names l <;> simp_all
set_option maxHeartbeats 2000000 in
theorem law_joins_no (s t : ByteArray) (w : World) (hs : s.size ≤ 1048576) (ht : t.size ≤ 1048576) (hx : joinOk (L s) (L t) = false) : Calls Tryd.prog 4 #[.string s, .string t] w fun e w' => e = .returned (.bool true) ∧ Below w.heap.size w w' := by
  have hs1 : s.size ≤ 140737488355328 := by omega
  have ht1 : t.size ≤ maxLen := by unfold maxLen; omega
  have hs2 : s.size ≤ 2097152 := by omega
  have ht2 : t.size ≤ 2097152 := by omega
  have HL := Lib.hid (B_le (join_len (L s) (L t)))
  have HX := Lib.hid hx
  clear hx
  obtain ⟨j, hj⟩ : ∃ j, join (L s) (L t) = j := ⟨_, rfl⟩
  have HJ := Lib.hid hj
  clear hj
  rw [HJ.out] at HL
  have hl := HL.out
  obtain ⟨p, hp⟩ : ∃ p, parent (L (B j)) = p := ⟨_, rfl⟩
  have HP := Lib.hid hp
  clear hp
  obtain ⟨po, hpo⟩ : ∃ po, parentOk (L (B j)) = po := ⟨_, rfl⟩
  have HPO := Lib.hid hpo
  clear hpo
  go_enter Tryd.func4, Tryd.ntmps4
  go_wp2_with fail
  refine (join_any s t _ hs1 ht1).mono ?_
  rintro e w1 ⟨rfl, hb⟩
  rw [HJ.out, HX.out]
  have HB1 := Lib.hid hb
  clear hb
  go_wp2_with fail
  refine (rjoin_any s t _ hs2 ht2).mono ?_
  rintro e w2 ⟨rfl, hb⟩
  rw [HJ.out, HX.out]
  have HB2 := Lib.hid (HB1.out.trans (hb.mono HB1.out.size))
  clear hb
  go_wp2_with fail
  refine (parent_any (B j) _ (by omega)).mono ?_
  rintro e w3 ⟨rfl, hb⟩
  rw [HP.out, HPO.out]
  have HB3 := Lib.hid (HB2.out.trans (hb.mono HB2.out.size))
  clear hb
  go_wp2_with fail
  refine (alive_any _).mono ?_
  rintro e w4 ⟨rfl, hb⟩
  have HB4 := Lib.hid (HB3.out.trans (hb.mono HB3.out.size))
  clear hb
  go_wp2_with fail
  go_ret
  exact ⟨rfl, HB4.out⟩
set_option maxHeartbeats 2000000 in
theorem law_joins_yes (s t : ByteArray) (w : World) (hs : s.size ≤ 1048576) (ht : t.size ≤ 1048576) (hx : joinOk (L s) (L t) = true) : Calls Tryd.prog 4 #[.string s, .string t] w fun e w' => e = .returned (.bool true) ∧ Below w.heap.size w w' := by
  have hs1 : s.size ≤ 140737488355328 := by omega
  have ht1 : t.size ≤ maxLen := by unfold maxLen; omega
  have hs2 : s.size ≤ 2097152 := by omega
  have ht2 : t.size ≤ 2097152 := by omega
  have HL := Lib.hid (B_le (join_len (L s) (L t)))
  have HX := Lib.hid hx
  have H1 := Lib.hid (joined_parent hx)
  have H2 := Lib.hid (joined_base hx)
  have H3 := Lib.hid (joined_under hx)
  clear hx
  obtain ⟨j, hj⟩ : ∃ j, join (L s) (L t) = j := ⟨_, rfl⟩
  have HJ := Lib.hid hj
  clear hj
  rw [HJ.out] at HL H1 H2 H3
  have hl := HL.out
  go_enter Tryd.func4, Tryd.ntmps4
  go_wp2_with fail
  refine (join_any s t _ hs1 ht1).mono ?_
  rintro e w1 ⟨rfl, hb⟩
  rw [HJ.out, HX.out]
  have HB1 := Lib.hid hb
  clear hb
  go_wp2_with fail
  refine (rjoin_any s t _ hs2 ht2).mono ?_
  rintro e w2 ⟨rfl, hb⟩
  rw [HJ.out, HX.out]
  have HB2 := Lib.hid (HB1.out.trans (hb.mono HB1.out.size))
  clear hb
  obtain ⟨po, hpo⟩ : ∃ po, parentOk (L (B j)) = po := ⟨_, rfl⟩
  have HPO := Lib.hid hpo
  clear hpo
  go_wp2_with fail
  refine (parent_any (B j) _ (by omega)).mono ?_
  rintro e w3 ⟨rfl, hb⟩
  rw [LB, H1.out, BL]
  have HB3 := Lib.hid (HB2.out.trans (hb.mono HB2.out.size))
  clear hb
  go_wp2_with fail
  refine (alive_any _).mono ?_
  rintro e w4 ⟨rfl, hb⟩
  have HB4 := Lib.hid (HB3.out.trans (hb.mono HB3.out.size))
  clear hb
  go_wp2_with fail
  refine (base_any (B j) _ (by omega)).mono ?_
  rintro e w5 ⟨rfl, hb⟩
  rw [LB, H2.out, BL]
  have HB5 := Lib.hid (HB4.out.trans (hb.mono HB4.out.size))
  clear hb
  go_wp2_with fail
  refine (under_any (B j) s _ (by omega) hs1).mono ?_
  rintro e w6 ⟨rfl, hb⟩
  rw [LB, H3.out]
  have HB6 := Lib.hid (HB5.out.trans (hb.mono HB5.out.size))
  clear hb
  go_wp2_with fail
  go_ret
  exact ⟨rfl, HB6.out⟩
theorem law_joins (s t : ByteArray) (w : World) (hs : s.size ≤ 1048576) (ht : t.size ≤ 1048576) : Calls Tryd.prog 4 #[.string s, .string t] w fun e w' => e = .returned (.bool true) ∧ Below w.heap.size w w' := by
  cases hx : joinOk (L s) (L t)
  · exact law_joins_no s t w hs ht hx
  · exact law_joins_yes s t w hs ht hx
set_option maxHeartbeats 2000000 in
theorem law_deep_no (s : ByteArray) (w : World) (hs : s.size ≤ 140737488355328) (hx : parentOk (L s) = false) : Calls Tryd.prog 8 #[.string s] w fun e w' => e = .returned (.bool true) ∧ Below w.heap.size w w' := by
  have H1 := Lib.hid (parent_no hx)
  have HX := Lib.hid hx
  clear hx
  go_enter Tryd.func8, Tryd.ntmps8
  go_wp2_with fail
  refine (parent_any s _ hs).mono ?_
  rintro e w1 ⟨rfl, hb⟩
  rw [H1.out, HX.out]
  have HB1 := Lib.hid hb
  clear hb
  go_wp2_with fail
  refine (alive_any _).mono ?_
  rintro e w2 ⟨rfl, hb⟩
  have HB2 := Lib.hid (HB1.out.trans (hb.mono HB1.out.size))
  clear hb
  go_wp2_with fail
  go_ret
  exact ⟨rfl, HB2.out⟩
set_option maxHeartbeats 2000000 in
theorem law_deep_yes (s : ByteArray) (w : World) (hs : s.size ≤ 140737488355328) (hx : parentOk (L s) = true) : Calls Tryd.prog 8 #[.string s] w fun e w' => e = .returned (.bool true) ∧ Below w.heap.size w w' := by
  have h62 : s.size ≤ 4611686018427387904 := by omega
  have H1 := Lib.hid (deep_depth hx)
  have H2 := Lib.hid (deep_under hx)
  have H3 := Lib.hid (deep_not hx)
  have H4 := Lib.hid (deep_joinOk hx)
  have H5 := Lib.hid (deep_join hx)
  have HP := Lib.hid (B_le (parent_len hx))
  have HBA := Lib.hid (B_le (base_len hx))
  have hd := depth_bd (parent (L s))
  have HX := Lib.hid hx
  clear hx
  obtain ⟨p, hp⟩ : ∃ p, parent (L s) = p := ⟨_, rfl⟩
  obtain ⟨b, hb⟩ : ∃ b, base (L s) = b := ⟨_, rfl⟩
  rw [hp] at H1 H2 H3 H4 H5 HP hd
  rw [hb] at H4 H5 HBA
  obtain ⟨d, hdd⟩ : ∃ d, depth p = d := ⟨_, rfl⟩
  rw [hdd] at H1 hd
  have HPP := Lib.hid hp
  have HBB := Lib.hid hb
  have HDD := Lib.hid hdd
  obtain ⟨hd1, hd2⟩ := hd
  have hps := HP.out
  have hbs := HBA.out
  have hbm : (B b).size ≤ maxLen := by unfold maxLen; omega
  clear hp hb hdd
  go_enter Tryd.func8, Tryd.ntmps8
  go_wp2_with fail
  refine (parent_any s _ hs).mono ?_
  rintro e w1 ⟨rfl, hb⟩
  rw [HPP.out, HX.out]
  have HB1 := Lib.hid hb
  clear hb
  go_wp2_with fail
  refine (base_any s _ hs).mono ?_
  rintro e w2 ⟨rfl, hb⟩
  rw [HBB.out]
  have HB2 := Lib.hid (HB1.out.trans (hb.mono HB1.out.size))
  clear hb
  go_wp2_with fail
  refine (join_any (B p) (B b) _ (by omega) hbm).mono ?_
  rintro e w3 ⟨rfl, hb⟩
  rw [LB, LB, H5.out, H4.out, BL]
  have HB3 := Lib.hid (HB2.out.trans (hb.mono HB2.out.size))
  clear hb
  go_wp2_with fail
  refine (alive_any _).mono ?_
  rintro e w4 ⟨rfl, hb⟩
  have HB4 := Lib.hid (HB3.out.trans (hb.mono HB3.out.size))
  clear hb
  go_wp2_with fail
  refine (depth_any s _ h62).mono ?_
  rintro e w5 ⟨rfl, hb⟩
  rw [H1.out]
  have HB5 := Lib.hid (HB4.out.trans (hb.mono HB4.out.size))
  clear hb
  go_wp2_with fail
  refine (depth_any (B p) _ (by omega)).mono ?_
  rintro e w6 ⟨rfl, hb⟩
  rw [LB, HDD.out]
  have HB6 := Lib.hid (HB5.out.trans (hb.mono HB5.out.size))
  clear hb
  go_wp2_with fail
  refine (under_any s (B p) _ hs (by omega)).mono ?_
  rintro e w7 ⟨rfl, hb⟩
  rw [LB, H2.out]
  have HB7 := Lib.hid (HB6.out.trans (hb.mono HB6.out.size))
  clear hb
  go_wp2_with fail
  refine (under_any (B p) s _ (by omega) hs).mono ?_
  rintro e w8 ⟨rfl, hb⟩
  rw [LB, H3.out]
  have HB8 := Lib.hid (HB7.out.trans (hb.mono HB7.out.size))
  clear hb
  go_wp2_with fail
  go_ret
  exact ⟨rfl, HB8.out⟩
theorem law_deep (s : ByteArray) (w : World) (hs : s.size ≤ 140737488355328) : Calls Tryd.prog 8 #[.string s] w fun e w' => e = .returned (.bool true) ∧ Below w.heap.size w w' := by
  cases hx : parentOk (L s)
  · exact law_deep_no s w hs hx
  · exact law_deep_yes s w hs hx
end Go.Proofs.YtmjlkbfcajaldaaDoor
