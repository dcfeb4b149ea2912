/-
  What Join and Under return of any texts. Condition: the texts' lengths.
-/
import Derived.Test.YtmjlkbfcajaldaaDoorPart
import Derived.Test.YtmjlkbfcajaldaaDoorMath2
import Derived.Laws.Concat
namespace Go.Proofs.YtmjlkbfcajaldaaDoor
open Go.ChangeShapes Go.WideShapes Go.ChangeAt Go.RowKit Go.Proofs.Zn

theorem B_add (s t : ByteArray) : s ++ t = B (L s ++ L t) := by
  have h := ByteArray.mk_append_mk (L s) (L t)
  rw [show ByteArray.mk (L s).toArray = s from BL s, show ByteArray.mk (L t).toArray = t from BL t] at h
  exact h
theorem add_any (s t r : ByteArray) (h : L s ++ L t = L r) (hl : s.size + t.size ≤ 9223372036854775807) (w : World) : (Op.stringOp .add s t).run Tryd.prog w = .ok (.string r) w := by
  have e := run_string_add_sum (P := Tryd.prog) (w := w) s t hl
  rw [B_add, h, BL] at e
  exact e
set_option maxHeartbeats 1000000 in
theorem join_refused (s t : ByteArray) (w : World) (hs : s.size ≤ 140737488355328) (ht : t.size ≤ maxLen) (h : depth (L s) < 0 ∨ depth (L s) = 8 ∨ nameB (L t) = false) :
    Calls Tryd.prog 18 #[.string s, .string t] w fun e w' => e = .returned (.tuple #[.string ByteArray.empty, .bool false]) ∧ Below w.heap.size w w' := by
  obtain ⟨d, hd⟩ : ∃ d, depth (L s) = d := ⟨_, rfl⟩
  rw [hd] at h
  have HD := Lib.hid hd
  clear hd
  rcases h with h | h | h
  · go_enter Tryd.func18, Tryd.ntmps18
    go_wp2_with fail
    refine (depth_any _ _ (by omega)).mono ?_
    rintro e w1 ⟨rfl, hb⟩
    rw [HD.out]
    have HB := Lib.hid hb
    clear hb
    go_wp2
    go_ret2
    exact ⟨rfl, HB.out⟩
  · subst h
    go_enter Tryd.func18, Tryd.ntmps18
    go_wp2_with fail
    refine (depth_any _ _ (by omega)).mono ?_
    rintro e w1 ⟨rfl, hb⟩
    rw [HD.out]
    have HB := Lib.hid hb
    clear hb
    go_wp2
    go_ret2
    exact ⟨rfl, HB.out⟩
  · have HN := Lib.hid h
    clear h
    by_cases h0 : d < 0
    · go_enter Tryd.func18, Tryd.ntmps18
      go_wp2_with fail
      refine (depth_any _ _ (by omega)).mono ?_
      rintro e w1 ⟨rfl, hb⟩
      rw [HD.out]
      have HB := Lib.hid hb
      clear hb
      go_wp2
      go_ret2
      exact ⟨rfl, HB.out⟩
    · by_cases h8 : d = 8
      · subst h8
        go_enter Tryd.func18, Tryd.ntmps18
        go_wp2_with fail
        refine (depth_any _ _ (by omega)).mono ?_
        rintro e w1 ⟨rfl, hb⟩
        rw [HD.out]
        have HB := Lib.hid hb
        clear hb
        go_wp2
        go_ret2
        exact ⟨rfl, HB.out⟩
      · have h8' : (d == 8) = false := by simpa using h8
        go_enter Tryd.func18, Tryd.ntmps18
        go_wp2_with fail
        refine (depth_any _ _ (by omega)).mono ?_
        rintro e w1 ⟨rfl, hb⟩
        rw [HD.out]
        have HB := Lib.hid hb
        clear hb
        go_wp2_with fail
        refine (name_any _ _ ht).mono ?_
        rintro e w2 ⟨rfl, hb⟩
        rw [show nameB t.data.toList = false from HN.out]
        have HB2 := Lib.hid (HB.out.trans (hb.mono HB.out.size))
        clear hb
        go_wp2
        go_ret2
        exact ⟨rfl, HB2.out⟩
set_option maxHeartbeats 1000000 in
theorem join_done (s t : ByteArray) (w : World) (hs : s.size ≤ 140737488355328) (ht : t.size ≤ maxLen) (h0 : ¬ depth (L s) < 0) (h8 : ¬ depth (L s) = 8) (hn : nameB (L t) = true) :
    Calls Tryd.prog 18 #[.string s, .string t] w fun e w' => e = .returned (.tuple #[.string (B (join (L s) (L t))), .bool true]) ∧ Below w.heap.size w w' := by
  have hj := joinOk_yes h0 h8 hn
  have htl := (name_pos hn).2
  rw [L_len] at htl
  obtain ⟨d, hd⟩ : ∃ d, depth (L s) = d := ⟨_, rfl⟩
  rw [hd] at h0 h8
  have HN := Lib.hid hn
  have h8' : (d == 8) = false := by simpa using h8
  by_cases hz : d = 0
  · have HJ := Lib.hid (join_zero hj (hd.trans hz))
    subst hz
    have HD := Lib.hid hd
    have hsum : ∀ w, (Op.stringOp .add ⟨#[47]⟩ t).run Tryd.prog w = .ok (.string (B (47 :: L t))) w := add_any _ _ _ rfl (by show 1 + t.size ≤ _; omega)
    clear hd hn hj
    go_enter Tryd.func18, Tryd.ntmps18
    go_wp2_with fail
    refine (depth_any _ _ (by omega)).mono ?_
    rintro e w1 ⟨rfl, hb⟩
    rw [HD.out]
    have HB := Lib.hid hb
    clear hb
    go_wp2_with fail
    refine (name_any _ _ ht).mono ?_
    rintro e w2 ⟨rfl, hb⟩
    rw [show nameB t.data.toList = true from HN.out]
    have HB2 := Lib.hid (HB.out.trans (hb.mono HB.out.size))
    clear hb
    go_wp2
    go_ret2
    exact ⟨by rw [HJ.out]; rfl, HB2.out⟩
  · have HJ := Lib.hid (join_more hj (fun e => hz (hd.symm.trans e)))
    have hz' : (d == 0) = false := by simpa using hz
    have HD := Lib.hid hd
    have hsum : ∀ w, (Op.stringOp .add s ⟨#[47]⟩).run Tryd.prog w = .ok (.string (B (L s ++ [47]))) w := add_any _ _ _ (LB _).symm (by show s.size + 1 ≤ _; omega)
    have hsum2 : ∀ w, (Op.stringOp .add (B (L s ++ [47])) t).run Tryd.prog w = .ok (.string (B (L s ++ 47 :: L t))) w := add_any _ _ _ (by rw [LB, LB]; simp) (by rw [B_size, List.length_append, L_len]; simp; omega)
    clear hd hn hj
    go_enter Tryd.func18, Tryd.ntmps18
    go_wp2_with fail
    refine (depth_any _ _ (by omega)).mono ?_
    rintro e w1 ⟨rfl, hb⟩
    rw [HD.out]
    have HB := Lib.hid hb
    clear hb
    go_wp2_with fail
    refine (name_any _ _ ht).mono ?_
    rintro e w2 ⟨rfl, hb⟩
    rw [show nameB t.data.toList = true from HN.out]
    have HB2 := Lib.hid (HB.out.trans (hb.mono HB.out.size))
    clear hb
    go_wp2
    go_ret2
    exact ⟨by rw [HJ.out]; rfl, HB2.out⟩
theorem join_any (s t : ByteArray) (w : World) (hs : s.size ≤ 140737488355328) (ht : t.size ≤ maxLen) :
    Calls Tryd.prog 18 #[.string s, .string t] w fun e w' => e = .returned (.tuple #[.string (B (join (L s) (L t))), .bool (joinOk (L s) (L t))]) ∧ Below w.heap.size w w' := by
  have no : joinOk (L s) (L t) = false → (depth (L s) < 0 ∨ depth (L s) = 8 ∨ nameB (L t) = false) → Calls Tryd.prog 18 #[.string s, .string t] w fun e w' => e = .returned (.tuple #[.string (B (join (L s) (L t))), .bool (joinOk (L s) (L t))]) ∧ Below w.heap.size w w' := fun e h => by
    rw [join_no e, e]
    exact join_refused s t w hs ht h
  by_cases h0 : depth (L s) < 0
  · exact no (joinOk_neg h0) (.inl h0)
  · by_cases h8 : depth (L s) = 8
    · exact no (joinOk_full h8) (.inr (.inl h8))
    · cases hn : nameB (L t)
      · exact no (joinOk_name hn) (.inr (.inr hn))
      · rw [joinOk_yes h0 h8 hn]
        exact join_done s t w hs ht h0 h8 hn
theorem toL_eq (s t : ByteArray) : (s.toList == t.toList) = decide (L s = L t) := by
  rw [toL, toL, Bool.eq_iff_iff, beq_iff_eq, decide_eq_true_iff]
set_option maxHeartbeats 1000000 in
theorem under_any (s t : ByteArray) (w : World) (hs : s.size ≤ 140737488355328) (ht : t.size ≤ 140737488355328) :
    Calls Tryd.prog 20 #[.string s, .string t] w fun e w' => e = .returned (.bool (under (L s) (L t))) ∧ Below w.heap.size w w' := by
  cases h1 : valid (L s)
  · rw [under_left h1]
    have H1 := Lib.hid h1
    clear h1
    go_enter Tryd.func20, Tryd.ntmps20
    go_wp2_with fail
    refine (valid_any _ _ (by omega)).mono ?_
    rintro e w1 ⟨rfl, hb⟩
    rw [H1.out]
    have HB := Lib.hid hb
    clear hb
    go_wp2
    go_ret
    exact ⟨rfl, HB.out⟩
  cases h2 : valid (L t)
  · rw [under_right h2]
    have H1 := Lib.hid h1
    have H2 := Lib.hid h2
    clear h1 h2
    go_enter Tryd.func20, Tryd.ntmps20
    go_wp2_with fail
    refine (valid_any _ _ (by omega)).mono ?_
    rintro e w1 ⟨rfl, hb⟩
    rw [H1.out]
    have HB := Lib.hid hb
    clear hb
    go_wp2_with fail
    refine (valid_any _ _ (by omega)).mono ?_
    rintro e w2 ⟨rfl, hb⟩
    rw [H2.out]
    have HB2 := Lib.hid (HB.out.trans (hb.mono HB.out.size))
    clear hb
    go_wp2
    go_ret
    exact ⟨rfl, HB2.out⟩
  by_cases h3 : L t = [47]
  · rw [show under (L s) (L t) = true by rw [h3]; exact under_root h1]
    have H1 := Lib.hid h1
    have H2 := Lib.hid h2
    have q3 : (t.toList == [47]) = true := by rw [toL]; simpa using h3
    clear h1 h2 h3
    go_enter Tryd.func20, Tryd.ntmps20
    go_wp2_with fail
    refine (valid_any _ _ (by omega)).mono ?_
    rintro e w1 ⟨rfl, hb⟩
    rw [H1.out]
    have HB := Lib.hid hb
    clear hb
    go_wp2_with fail
    refine (valid_any _ _ (by omega)).mono ?_
    rintro e w2 ⟨rfl, hb⟩
    rw [H2.out]
    have HB2 := Lib.hid (HB.out.trans (hb.mono HB.out.size))
    clear hb
    go_wp2
    go_ret
    exact ⟨rfl, HB2.out⟩
  have q3 : (t.toList == [47]) = false := by rw [toL]; simpa using h3
  by_cases h4 : L s = L t
  · rw [show under (L s) (L t) = true by rw [← h4]; exact under_self h1]
    have H1 := Lib.hid h1
    have H2 := Lib.hid h2
    have q4 : (s.toList == t.toList) = true := by rw [toL_eq]; simpa using h4
    clear h1 h2 h3 h4
    go_enter Tryd.func20, Tryd.ntmps20
    go_wp2_with fail
    refine (valid_any _ _ (by omega)).mono ?_
    rintro e w1 ⟨rfl, hb⟩
    rw [H1.out]
    have HB := Lib.hid hb
    clear hb
    go_wp2_with fail
    refine (valid_any _ _ (by omega)).mono ?_
    rintro e w2 ⟨rfl, hb⟩
    rw [H2.out]
    have HB2 := Lib.hid (HB.out.trans (hb.mono HB.out.size))
    clear hb
    go_wp2
    go_ret
    exact ⟨rfl, HB2.out⟩
  · rw [under_rest h1 h2 h3 h4]
    have H1 := Lib.hid h1
    have H2 := Lib.hid h2
    have q4 : (s.toList == t.toList) = false := by rw [toL_eq]; simpa using h4
    have hsum : ∀ w, (Op.stringOp .add t ⟨#[47]⟩).run Tryd.prog w = .ok (.string (B (L t ++ [47]))) w := add_any _ _ _ (LB _).symm (by show t.size + 1 ≤ _; omega)
    clear h1 h2 h3 h4
    go_enter Tryd.func20, Tryd.ntmps20
    go_wp2_with fail
    refine (valid_any _ _ (by omega)).mono ?_
    rintro e w1 ⟨rfl, hb⟩
    rw [H1.out]
    have HB := Lib.hid hb
    clear hb
    go_wp2_with fail
    refine (valid_any _ _ (by omega)).mono ?_
    rintro e w2 ⟨rfl, hb⟩
    rw [H2.out]
    have HB2 := Lib.hid (HB.out.trans (hb.mono HB.out.size))
    clear hb
    go_wp2_with fail
    refine (strings_HasPrefix _ _ _).mono ?_
    rintro e w3 ⟨rfl, rfl⟩
    go_wp2
    go_ret
    exact ⟨ret_bool (by rfl), HB2.out⟩
end Go.Proofs.YtmjlkbfcajaldaaDoor
