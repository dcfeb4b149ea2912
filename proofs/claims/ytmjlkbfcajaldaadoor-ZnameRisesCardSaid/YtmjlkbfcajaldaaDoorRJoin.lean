/-
  What the document's own Join and Under tell of any texts: the same as the program. Condition: the texts have at most 2^21 bytes.
-/
import Derived.Test.YtmjlkbfcajaldaaDoorRPart
namespace Go.Proofs.YtmjlkbfcajaldaaDoor
open Go.ChangeShapes Go.WideShapes Go.ChangeAt Go.RowKit Go.Proofs.Zn

theorem run_append_strs (w : World) (base ty : Nat) (i : TypeInfo) (hi : Tryd.prog.info? 9 = some i) (hz : i.zero = some (.string ByteArray.empty)) (hsize : i.size = 1) (hby : i.bytes = 16)
    (v : Value) (n : Nat) (xs : List Value) (hown : w.ownsRow base 9 1 v n xs) (A : Option Addr) (m c : Nat) (qs : List Txt) (hr : SRd w A m c qs) (h47 : n + m ≤ 1000) (hbase : base ≤ w.heap.size) :
    ∃ v' w', (Builtin.append_ #[36, 36] ty #[v, .slice A m c]).run Tryd.prog w = .ok v' w' ∧ w'.ownsRow base 9 1 v' (n + m) (xs ++ qs.map SV) ∧ w.grownBy w' v.ownBlock := by
  obtain ⟨h1, h2, h3, h4⟩ := hr
  rcases Nat.eq_zero_or_pos m with h0 | h0
  · subst h0
    obtain rfl : qs = [] := List.eq_nil_of_length_eq_zero h1
    refine ⟨v, w, ?_, by simpa using hown, World.grownBy.refl w _⟩
    rcases A with _ | ad
    · rcases hown.2 with ⟨rfl, rfl⟩ | ⟨g, cap, cur, rfl, _, _, hnc, _⟩
      · simp [Builtin.append_, run_underlying Tryd.underlying36, sizeOf, typeInfo, hi, Builtin.lenOf, Builtin.firstCells]
      · simp [Builtin.append_, run_underlying Tryd.underlying36, sizeOf, typeInfo, hi, Builtin.lenOf, Builtin.firstCells, hnc, storeCells]
    · rcases hown.2 with ⟨rfl, rfl⟩ | ⟨g, cap, cur, rfl, _, _, hnc, _⟩
      · simp [Builtin.append_, run_underlying Tryd.underlying36, sizeOf, typeInfo, hi, Builtin.lenOf, Builtin.firstCells, loadCells, loadCellsFrom]
      · simp [Builtin.append_, run_underlying Tryd.underlying36, sizeOf, typeInfo, hi, Builtin.lenOf, Builtin.firstCells, hnc, storeCells, loadCells, loadCellsFrom]
  · obtain ⟨b, off, rfl, hcl⟩ := h4 h0
    have hcells : ∀ j u, (qs.map SV)[j]? = some u → w.cell? (Addr.add ⟨b, off, none⟩ j) = some u := by
      intro j u hu
      rw [List.getElem?_map] at hu
      rcases hq : qs[j]? with _ | x
      · rw [hq] at hu; cases hu
      · rw [hq] at hu
        rw [Go.WideShapes.add_plain, hcl j x hq]; exact hu
    obtain ⟨v', w', hrun, g2, g3, _⟩ := run_append_own (P := Tryd.prog) w base 36 ty 9 i (.string ByteArray.empty) 1 16 Tryd.underlying36 hi hz hsize hby rfl (by decide) v n xs hown ⟨b, off, none⟩ m c (qs.map SV) (by rw [List.length_map, h1, Nat.mul_one]) hcells (by intro u hu; obtain ⟨x, _, rfl⟩ := List.mem_map.1 hu; rfl) (by unfold maxLen; omega) (by omega) hbase
    exact ⟨v', w', hrun, g2, g3⟩
theorem wpList_append_strs {w : World} {ops : Array Oper} {rest : List Oper} {o : Oper} {a : Act} {Q : Exit → Act → World → Prop} (hgd : o.guard = none) (s x : Operand)
    (ho : o.op = .call { callee := .builtin .append, args := #[s, x], argTypes := #[36, 36] })
    (base : Nat) (i : TypeInfo) (hi : Tryd.prog.info? 9 = some i) (hz : i.zero = some (.string ByteArray.empty)) (hsize : i.size = 1) (hby : i.bytes = 16)
    (v : Value) (n : Nat) (xs : List Value) (hs : a.eval s = v) (hown : w.ownsRow base 9 1 v n xs) (A : Option Addr) (m c : Nat) (qs : List Txt) (hx : a.eval x = .slice A m c) (hr : SRd w A m c qs) (h47 : n + m ≤ 1000) (hbase : base ≤ w.heap.size)
    (h : ∀ v' w', w'.ownsRow base 9 1 v' (n + m) (xs ++ qs.map SV) → w.grownBy w' v.ownBlock → wpList Tryd.prog ops Q rest (a.put o.dst v') w') : wpList Tryd.prog ops Q (o :: rest) a w := by
  refine wpList_plain hgd fun K hK => ?_
  obtain ⟨v', w', hrun, h2, h3⟩ := run_append_strs w base o.type i hi hz hsize hby v n xs hown A m c qs hr h47 hbase
  unfold Oper.wp execOp
  simp only [ho, resolve, invoke, builtin, Sem.run_bind, Sem.run_pure, Result.andThen_ok, List.map_toArray, List.map_cons, List.map_nil, hs, hx, hrun]
  exact hK _ _ (h v' w' h2 h3)
theorem first_row {w w1 : World} {v1 : Value} {m : Nat} {xs : List Value} (h1 : w1.ownsRow w.heap.size 9 1 v1 (0 + m) ([] ++ xs)) (h2 : (w.alloc (.cells #[] 9)).grownBy w1 (Value.slice (some ⟨w.heap.size, 0, none⟩) 0 0).ownBlock) :
    w1.ownsRow w.heap.size 9 1 v1 m xs ∧ Below w.heap.size w w1 := by
  rw [Nat.zero_add, List.nil_append] at h1
  exact ⟨h1, (box_below w _).grown h2 (by simp) (fun k hk => by simp [Value.ownBlock] at hk; omega)⟩
theorem own_two {w : World} {base n : Nat} {v : Value} {ps : List Txt} {p : Txt} {S : ByteArray} (hS : S = B p) (h : w.ownsRow base 9 1 v n (ps.map SV ++ [.string S])) (hn : n = ps.length + 1) : ∃ A c, v = .slice A n c ∧ SRd w A n c (ps ++ [p]) := by
  have e : (ps ++ [p]).length = n := by rw [List.length_append]; exact hn.symm
  have := own_srd (own_snoc hS h hn)
  rwa [e] at this
set_option maxHeartbeats 1000000 in
theorem rjoin_refused (s t : ByteArray) (w : World) (hs : s.size ≤ 2097152) (ht : t.size ≤ 2097152) (h : joinOk (L s) (L t) = false) :
    Calls Tryd.prog 19 #[.string s, .string t] w fun e w' => e = .returned (.tuple #[.string ByteArray.empty, .bool false]) ∧ Below w.heap.size w w' := by
  rcases hn : names (L s) with _ | ps
  · have HV := valid_no hn
    clear hn h
    go_enter Tryd.func19, Tryd.ntmps19
    go_wp2_with fail
    refine (rnames_any s _ hs).mono ?_
    rintro e w1 ⟨v, rfl, hb, -⟩
    rw [HV.out]
    have HB := Lib.hid hb
    clear hb
    go_wp2_with fail
    go_ret2
    exact ⟨rfl, HB.out⟩
  · have HV := valid_yes hn
    have HN := Lib.hid hn
    unfold joinOk at h
    rw [hn] at h
    have HH := Lib.hid h
    obtain ⟨r, hr⟩ : ∃ r, nameB (L t) = r := ⟨_, rfl⟩
    have HR := Lib.hid hr
    have h8 := ((ok_iff _).1 (names_join hn).2).2
    have ht2 : t.size ≤ maxLen := by unfold maxLen; omega
    clear hn h hr
    cases r
    · go_enter Tryd.func19, Tryd.ntmps19
      go_wp2_with fail
      refine (rnames_any s _ hs).mono ?_
      rintro e w1 ⟨v, rfl, hb, hx⟩
      obtain ⟨A, c, rfl, hrd⟩ := hx _ HN.out
      rw [HV.out]
      have HB := Lib.hid hb
      clear hb hx hrd
      go_wp2_with fail
      refine (rname_any t _ ht2).mono ?_
      rintro e w2 ⟨rfl, rfl⟩
      rw [show nameB t.data.toList = false from HR.out]
      go_wp2_with fail
      go_ret2
      exact ⟨rfl, HB.out⟩
    · have h8' : ps.length = 8 := by
        have := HH.out
        rw [HR.out] at this
        simpa using this
      obtain ⟨N, hN⟩ : ∃ N, ps.length = N := ⟨_, rfl⟩
      have hN8 : N = 8 := by omega
      have HNN := Lib.hid hN
      subst hN8
      clear hN h8' h8
      go_enter Tryd.func19, Tryd.ntmps19
      go_wp2_with fail
      refine (rnames_any s _ hs).mono ?_
      rintro e w1 ⟨v, rfl, hb, hx⟩
      obtain ⟨A, c, rfl, hrd⟩ := hx _ HN.out
      rw [HV.out, HNN.out]
      have HB := Lib.hid hb
      clear hb hx hrd
      go_wp2_with fail
      refine (rname_any t _ ht2).mono ?_
      rintro e w2 ⟨rfl, rfl⟩
      rw [show nameB t.data.toList = true from HR.out]
      go_wp2_with fail
      go_ret2
      exact ⟨rfl, HB.out⟩
set_option maxHeartbeats 1000000 in
theorem rjoin_done (s t : ByteArray) (w : World) (hs : s.size ≤ 2097152) (ht : t.size ≤ 2097152) (h : joinOk (L s) (L t) = true) :
    Calls Tryd.prog 19 #[.string s, .string t] w fun e w' => e = .returned (.tuple #[.string (B (join (L s) (L t))), .bool true]) ∧ Below w.heap.size w w' := by
  obtain ⟨i0, hi, hz0, hz1, hz2⟩ := info_parts info9
  obtain ⟨ps, hn, hname, h8, ho, -, ej⟩ := join_names h
  rw [ej]
  have hok := ok_snoc ho hname h8
  have HF := Lib.hid (flat_ok hok)
  have HV := valid_yes hn
  have HN := Lib.hid hn
  have HR := Lib.hid hname
  have hle := ((ok_iff _).1 ho).2
  have h8' : ((ps.length : Int) == 8) = false := by rw [beq_eq_false_iff_ne]; omega
  have ht2 : t.size ≤ maxLen := by unfold maxLen; omega
  clear hn hname h8 ho ej hok h
  go_enter Tryd.func19, Tryd.ntmps19
  go_wp2_with fail
  refine (rnames_any s _ hs).mono ?_
  rintro e w1 ⟨v, rfl, hb, hx⟩
  obtain ⟨A, c, rfl, hrd⟩ := hx _ HN.out
  rw [HV.out]
  have HB := Lib.hid hb
  have HRD := Lib.hid hrd
  clear hb hx hrd
  go_wp2_with fail
  refine (rname_any t _ ht2).mono ?_
  rintro e w2 ⟨rfl, rfl⟩
  rw [show nameB t.data.toList = true from HR.out]
  have hsz : w.heap.size ≤ w2.heap.size := HB.out.size
  have HO : Hid ((w2.alloc (.cells #[] 9)).ownsRow w2.heap.size 9 1 (.slice (some ⟨w2.heap.size, 0, none⟩) 0 0) 0 []) := Lib.hid (World.ownsRow_lit (base := w2.heap.size) (e := 9) (size := 1) w2 #[] 0 (Nat.le_refl _) (by unfold maxLen; omega) rfl)
  have HRD2 := Lib.hid (HRD.out.kept (box_below w2 (.cells #[] 9)))
  have hs1 : w2.heap.size ≤ (w2.alloc (.cells #[] 9)).heap.size := by simp
  have hm1 : 0 + ps.length ≤ 1000 := by omega
  have hm2 : ps.length + 1 ≤ maxLen := by unfold maxLen; omega
  have hm3 : (ps.length + 1) * 16 ≤ 140737488355328 := by omega
  go_wp2_with (first
    | (at_builtin; refine wpList_append_own _ rfl (.tmp 27) (.tmp 29) 36 rfl w2.heap.size 9 i0 (.string ByteArray.empty) 1 16 Tryd.underlying36 hi hz0 hz1 hz2 rfl (by decide) v1 ps.length (ps.map SV) rfl (HX.out.1.alloc _) ⟨w3.heap.size, 0, none⟩ 1 1 [.string t] rfl rfl (new_cell _ _ _) (by simp [Value.oneCell']) hm2 hm3 hs3 ?_; intro v2 w4 h5 h6 _; have HY2 := Lib.hid (HX.out.2.grown (grown_alloc h6) HX.out.2.size (own_ge HX.out.1)); obtain ⟨A2, c2, hv2, hr2⟩ := own_two (BL t).symm h5 rfl; clear h5 h6; subst hv2; have HZ := Lib.hid hr2; clear hr2)
    | (at_builtin; refine wpList_append_strs rfl (.tmp 25) (.tmp 26) rfl w2.heap.size i0 hi hz0 hz1 hz2 (.slice (some ⟨w2.heap.size, 0, none⟩) 0 0) 0 [] rfl HO.out A ps.length c ps rfl HRD2.out hm1 hs1 ?_; intro v1 w3 h5 h6; have HX := Lib.hid (first_row h5 h6); clear h5 h6; have hs3 : w2.heap.size ≤ (w3.alloc (.cells #[.string t] 9)).heap.size := by have := HX.out.2.size; simp; omega))
  have hfl : (flat (ps ++ [L t])).length ≤ 1000000 := by have := HF.out; omega
  refine (rpath_any A2 _ c2 _ _ HZ.out hfl).mono ?_
  rintro e w5 ⟨rfl, rfl⟩
  have HB2 := Lib.hid (HB.out.trans (HY2.out.mono HB.out.size))
  go_wp2_with fail
  go_ret2
  exact ⟨rfl, HB2.out⟩
theorem rjoin_any (s t : ByteArray) (w : World) (hs : s.size ≤ 2097152) (ht : t.size ≤ 2097152) :
    Calls Tryd.prog 19 #[.string s, .string t] w fun e w' => e = .returned (.tuple #[.string (B (join (L s) (L t))), .bool (joinOk (L s) (L t))]) ∧ Below w.heap.size w w' := by
  cases h : joinOk (L s) (L t)
  · rw [join_no h]; exact rjoin_refused s t w hs ht h
  · exact rjoin_done s t w hs ht h
theorem under_value {l m : Txt} {ps qs : List Txt} (h1 : names l = some ps) (h2 : names m = some qs) (h : qs.length ≤ ps.length) : (joinP (ps.take qs.length) == joinP qs) = under l m := by
  have o1 := ok_take (names_join h1).2 qs.length
  have o2 := (names_join h2).2
  unfold under
  rw [h1, h2]
  simp only []
  rw [decide_eq_true h, Bool.true_and, Bool.eq_iff_iff, beq_iff_eq, beq_iff_eq]
  exact ⟨fun e => join_inj o1 o2 e, fun e => by rw [e]⟩
set_option maxHeartbeats 1000000 in
theorem runder_any (s t : ByteArray) (w : World) (hs : s.size ≤ 2097152) (ht : t.size ≤ 2097152) :
    Calls Tryd.prog 21 #[.string s, .string t] w fun e w' => e = .returned (.bool (under (L s) (L t))) ∧ Below w.heap.size w w' := by
  rcases h1 : names (L s) with _ | ps
  · have HV := valid_no h1
    rw [under_left HV.out]
    clear h1
    go_enter Tryd.func21, Tryd.ntmps21
    go_wp2_with fail
    refine (rnames_any s _ hs).mono ?_
    rintro e w1 ⟨v, rfl, hb, -⟩
    rw [HV.out]
    have HB := Lib.hid hb
    clear hb
    go_wp2_with fail
    refine (rnames_any t _ ht).mono ?_
    rintro e w2 ⟨v2, rfl, hb, -⟩
    have HB2 := Lib.hid (HB.out.trans (hb.mono HB.out.size))
    clear hb
    go_wp2_with fail
    go_ret
    exact ⟨rfl, HB2.out⟩
  have HV := valid_yes h1
  have HN := Lib.hid h1
  rcases h2 : names (L t) with _ | qs
  · have HV2 := valid_no h2
    rw [under_right HV2.out]
    clear h1 h2
    go_enter Tryd.func21, Tryd.ntmps21
    go_wp2_with fail
    refine (rnames_any s _ hs).mono ?_
    rintro e w1 ⟨v, rfl, hb, -⟩
    rw [HV.out]
    have HB := Lib.hid hb
    clear hb
    go_wp2_with fail
    refine (rnames_any t _ ht).mono ?_
    rintro e w2 ⟨v2, rfl, hb, -⟩
    rw [HV2.out]
    have HB2 := Lib.hid (HB.out.trans (hb.mono HB.out.size))
    clear hb
    go_wp2_with fail
    go_ret
    exact ⟨rfl, HB2.out⟩
  have HV2 := valid_yes h2
  have HN2 := Lib.hid h2
  by_cases hlen : qs.length ≤ ps.length
  · have HU := Lib.hid (under_value h1 h2 hlen)
    have hlz : ¬ (ps.length : Int) < qs.length := by omega
    have HF1 := Lib.hid (flat_ok (ok_take (names_join h1).2 qs.length))
    have HF2 := Lib.hid (flat_ok (names_join h2).2)
    clear h1 h2
    go_enter Tryd.func21, Tryd.ntmps21
    go_wp2_with fail
    refine (rnames_any s _ hs).mono ?_
    rintro e w1 ⟨v, rfl, hb, hx⟩
    obtain ⟨A, c, rfl, hr⟩ := hx _ HN.out
    rw [HV.out]
    have HB := Lib.hid hb
    have HR := Lib.hid hr
    clear hb hx hr
    go_wp2_with fail
    refine (rnames_any t _ ht).mono ?_
    rintro e w2 ⟨v2, rfl, hb, hx⟩
    obtain ⟨A2, c2, rfl, hr2⟩ := hx _ HN2.out
    rw [HV2.out]
    have HB2 := Lib.hid (HB.out.trans (hb.mono HB.out.size))
    have HR2 := Lib.hid hr2
    obtain ⟨A3, hsl, hr3⟩ := to_any (HR.out.kept hb) qs.length hlen
    have HR3 := Lib.hid hr3
    clear hb hx hr2 hr3
    go_wp2_with fail
    refine (rpath_any A3 _ c _ _ HR3.out (by have := HF1.out; omega)).mono ?_
    rintro e w3 ⟨rfl, rfl⟩
    go_wp2_with fail
    refine (rpath_any A2 _ c2 _ _ HR2.out (by have := HF2.out; omega)).mono ?_
    rintro e w4 ⟨rfl, rfl⟩
    go_wp2_with fail
    go_ret
    exact ⟨ret_bool HU.out, HB2.out⟩
  · have hu : under (L s) (L t) = false := by
      unfold under; rw [h1, h2]; simp [hlen]
    rw [hu]
    have hlz : (ps.length : Int) < qs.length := by omega
    clear h1 h2 hu hlen
    go_enter Tryd.func21, Tryd.ntmps21
    go_wp2_with fail
    refine (rnames_any s _ hs).mono ?_
    rintro e w1 ⟨v, rfl, hb, hx⟩
    obtain ⟨A, c, rfl, hr⟩ := hx _ HN.out
    rw [HV.out]
    have HB := Lib.hid hb
    clear hb hx hr
    go_wp2_with fail
    refine (rnames_any t _ ht).mono ?_
    rintro e w2 ⟨v2, rfl, hb, hx⟩
    obtain ⟨A2, c2, rfl, hr2⟩ := hx _ HN2.out
    rw [HV2.out]
    have HB2 := Lib.hid (HB.out.trans (hb.mono HB.out.size))
    clear hb hx hr2
    go_wp2_with fail
    go_ret
    exact ⟨rfl, HB2.out⟩
end Go.Proofs.YtmjlkbfcajaldaaDoor
