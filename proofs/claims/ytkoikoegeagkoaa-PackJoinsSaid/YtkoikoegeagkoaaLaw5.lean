/-
  What the law PackJoins returns of two slices of fields that read: true, and older memory is as it was. No condition.
-/
import Derived.Test.YtkoikoegeagkoaaLaw4
namespace Go.Proofs.Ytkoikoegeagkoaa
open Go.ChangeShapes Go.WideShapes Go.ChangeAt Go.RowKit

theorem fcs_cells {w : World} {b off len : Nat} {l : List Fld} (hR : FReads w (some ⟨b, off, none⟩) len l) : ∀ j u, (fcs l)[j]? = some u → w.cell? (Addr.add ⟨b, off, none⟩ j) = some u := by
  intro j u hu
  obtain ⟨h1, h2⟩ := hR
  have hj : j < l.length * 3 := by
    rcases Nat.lt_or_ge j (l.length * 3) with h | h
    · exact h
    · rw [List.getElem?_eq_none (by rw [fcs_length]; exact h)] at hu; cases hu
  obtain ⟨b', off', e, hc⟩ := h2 (by omega)
  have e' := Option.some.inj e
  injection e' with eb eo
  subst eb eo
  obtain ⟨c1, c2, c3⟩ := hc (j / 3) (by omega)
  obtain ⟨f1, f2, f3⟩ := fcs_at l (j / 3) (by omega)
  rw [Go.WideShapes.add_plain]
  have hr : j = j / 3 * 3 ∨ j = j / 3 * 3 + 1 ∨ j = j / 3 * 3 + 2 := by omega
  rcases hr with hr | hr | hr
  · rw [← hr] at c1 f1
    rw [c1, ← hu, f1]
  · rw [← hr] at f2
    rw [Nat.add_assoc, ← hr] at c2
    rw [c2, ← hu, f2]
  · rw [← hr] at f3
    rw [Nat.add_assoc, ← hr] at c3
    rw [c3, ← hu, f3]
theorem fcs_one (l : List Fld) : ∀ u ∈ fcs l, u.oneCell' = true := by
  intro u hu
  simp only [fcs, List.mem_flatMap] at hu
  obtain ⟨f, _, hf⟩ := hu
  exact three_one f.k f.n f.s u hf
/-- Fields that read, nil ones too, laid behind a row of the call's own. -/
theorem run_append_fields (w : World) (base ty : Nat) (i : TypeInfo) (hi : Try.prog.info? 40 = some i) (hz : i.zero = some (.agg #[.int .i64 0, .int .i64 0, .string ⟨#[]⟩])) (hsize : i.size = 3) (hby : i.bytes = 32)
    (v : Value) (n : Nat) (xs : List Value) (hown : w.ownsRow base 40 3 v n xs) (A : Option Addr) (m c : Nat) (l : List Fld) (hr : FReads w A m l) (hnm : n + m ≤ 4294967296) (hbase : base ≤ w.heap.size) :
    ∃ v' w', (Builtin.append_ #[22, 22] ty #[v, .slice A m c]).run Try.prog w = .ok v' w' ∧ w'.ownsRow base 40 3 v' (n + m) (xs ++ fcs l) ∧ w.grownBy w' v.ownBlock := by
  rcases A with _ | ad
  · have hm : m = 0 := by
      rcases Nat.eq_zero_or_pos m with h0 | h0
      · exact h0
      · obtain ⟨b, off, h, _⟩ := hr.2 h0
        cases h
    subst hm
    have hn : l = [] := List.eq_nil_of_length_eq_zero hr.1
    subst hn
    refine ⟨v, w, ?_, by simpa [fcs] using hown, World.grownBy.refl w _⟩
    rcases hown.2 with ⟨rfl, rfl⟩ | ⟨g, cap, cur, rfl, _, _, hnc, _⟩
    · simp [Builtin.append_, run_underlying Try.underlying22, sizeOf, typeInfo, hi, Builtin.lenOf, Builtin.firstCells]
    · simp [Builtin.append_, run_underlying Try.underlying22, sizeOf, typeInfo, hi, Builtin.lenOf, Builtin.firstCells, hnc, storeCells]
  · have hcells : ∀ j u, (fcs l)[j]? = some u → w.cell? (ad.add j) = some u := by
      intro j u hu
      rcases Nat.eq_zero_or_pos m with h0 | h0
      · have hn : l = [] := List.eq_nil_of_length_eq_zero (hr.1.trans h0)
        subst hn
        simp [fcs] at hu
      · obtain ⟨b, off, h, _⟩ := hr.2 h0
        injection h with h
        subst h
        exact fcs_cells hr j u hu
    obtain ⟨v', w', hrun, h2, h3, _⟩ := run_append_own (P := Try.prog) w base 22 ty 40 i _ 3 32 Try.underlying22 hi hz hsize hby rfl (by decide) v n xs hown ad m c (fcs l) (by rw [fcs_length, hr.1]) hcells (fcs_one l) (by unfold maxLen; omega) (by omega) hbase
    exact ⟨v', w', hrun, h2, h3⟩
theorem wpList_append_fields {w : World} {ops : Array Oper} {rest : List Oper} {o : Oper} {a : Act} {Q : Exit → Act → World → Prop} (hgd : o.guard = none) (s x : Operand)
    (ho : o.op = .call { callee := .builtin .append, args := #[s, x], argTypes := #[22, 22] })
    (base : Nat) (i : TypeInfo) (hi : Try.prog.info? 40 = some i) (hz : i.zero = some (.agg #[.int .i64 0, .int .i64 0, .string ⟨#[]⟩])) (hsize : i.size = 3) (hby : i.bytes = 32)
    (v : Value) (n : Nat) (xs : List Value) (hs : a.eval s = v) (hown : w.ownsRow base 40 3 v n xs) (A : Option Addr) (m c : Nat) (l : List Fld) (hx : a.eval x = .slice A m c) (hr : FReads w A m l) (hnm : n + m ≤ 4294967296) (hbase : base ≤ w.heap.size)
    (h : ∀ v' w', w'.ownsRow base 40 3 v' (n + m) (xs ++ fcs l) → w.grownBy w' v.ownBlock → wpList Try.prog ops Q rest (a.put o.dst v') w') : wpList Try.prog ops Q (o :: rest) a w := by
  refine wpList_plain hgd fun K hK => ?_
  obtain ⟨v', w', hrun, h2, h3⟩ := run_append_fields w base o.type i hi hz hsize hby v n xs hown A m c l hr hnm hbase
  unfold Oper.wp execOp
  simp only [ho, resolve, invoke, builtin, Sem.run_bind, Sem.run_pure, Result.andThen_ok, List.map_toArray, List.map_cons, List.map_nil, hs, hx, hrun]
  exact hK _ _ (h v' w' h2 h3)
theorem fapp_one {w3 w4 : World} {v4 : Value} {n : Nat} {l : List Fld} (hown : w4.ownsRow w3.heap.size 40 3 v4 (0 + n) ([] ++ fcs l)) (hg : (w3.alloc (.cells #[] 40)).grownBy w4 (Value.slice (some ⟨w3.heap.size, 0, none⟩) 0 0).ownBlock) :
    w4.ownsRow w3.heap.size 40 3 v4 n (fcs l) ∧ Below w3.heap.size w3 w4 := by
  rw [Nat.zero_add, List.nil_append] at hown
  exact ⟨hown, (box_below w3 _).grown hg (by simp) (fun k hk => by simp [Value.ownBlock] at hk; omega)⟩
theorem fapp_two {w3 w4 w5 : World} {v4 v5 : Value} {n m : Nat} {l r : List Fld} (h4 : w4.ownsRow w3.heap.size 40 3 v4 n (fcs l)) (hb : Below w3.heap.size w3 w4) (hown : w5.ownsRow w3.heap.size 40 3 v5 (n + m) (fcs l ++ fcs r)) (hg : w4.grownBy w5 v4.ownBlock) :
    w5.ownsRow w3.heap.size 40 3 v5 (n + m) (fcs (l ++ r)) ∧ Below w3.heap.size w3 w5 := by
  have e : fcs (l ++ r) = fcs l ++ fcs r := by simp [fcs]
  rw [e]
  exact ⟨hown, hb.grown hg hb.size (own_ge h4)⟩
theorem encode_own {w : World} {n base : Nat} {v : Value} {l : List Fld} (h : w.ownsRow base 40 3 v n (fcs l)) (hm : n ≤ 4294967296) : Calls Try.prog 11 #[v] w (EncPost w l) := by
  obtain ⟨A, c, rfl, hf⟩ := fields_own h
  exact encode_any A n c l w hf hm
theorem run_min {P : Program} (ts : Array TypeId) (t : TypeId) (x y : Nat) (h : x ≤ y) (w : World) :
    (Builtin.min_ ts t #[.int .i64 (x : Int), .int .i64 (y : Int)]).run P w = .ok (.int .i64 (x : Int)) w := by
  have e : (if (y : Int) < (x : Int) then (y : Int) else (x : Int)) = (x : Int) := by rw [if_neg (by omega)]
  simp [Builtin.min_, Builtin.min2]
  omega
theorem joins_many (ad bd : Option Addr) (alen acap blen bcap : Nat) (w : World) (h : 200 < alen ∨ 200 < blen) :
    Calls Try.prog 8 #[.slice ad alen acap, .slice bd blen bcap] w fun e w' => e = .returned (.bool true) ∧ Below w.heap.size w w' := by
  by_cases h1 : 200 < alen
  · have h1' : decide ((200 : Int) < (alen : Int)) = true := by simp; omega
    clear h h1
    go_enter Try.func8, Try.ntmps8
    go_wp2_with fail
    refine (alive_any _).mono ?_
    rintro e w2 ⟨rfl, hb2⟩
    go_wp2
    go_ret
    exact ⟨rfl, hb2⟩
  · have h1' : decide ((200 : Int) < (alen : Int)) = false := by simp; omega
    have h2' : decide ((200 : Int) < (blen : Int)) = true := by simp; omega
    clear h h1
    go_enter Try.func8, Try.ntmps8
    go_wp2_with fail
    refine (alive_any _).mono ?_
    rintro e w2 ⟨rfl, hb2⟩
    go_wp2
    go_ret
    exact ⟨rfl, hb2⟩
set_option maxRecDepth 100000 in
set_option maxHeartbeats 2000000 in
theorem joins_bad (ad bd : Option Addr) (alen acap blen bcap : Nat) (fs gs : List Fld) (w : World) (hA : FReads w ad alen fs) (hB : FReads w bd blen gs) (ha : alen ≤ 200) (hb : blen ≤ 200) (he : errL fs ≠ 0 ∨ errL gs ≠ 0) :
    Calls Try.prog 8 #[.slice ad alen acap, .slice bd blen bcap] w fun e w' => e = .returned (.bool true) ∧ Below w.heap.size w w' := by
  have h1' : decide ((200 : Int) < (alen : Int)) = false := by simp; omega
  have h2' : decide ((200 : Int) < (blen : Int)) = false := by simp; omega
  have HA := Lib.hid hA
  have HB := Lib.hid hB
  have hma : alen ≤ 4294967296 := by omega
  have hmb : blen ≤ 4294967296 := by omega
  have hnm1 : 0 + alen ≤ 4294967296 := by omega
  have hnm2 : alen + blen ≤ 4294967296 := by omega
  obtain ⟨i0, hi, hz0, hz1, hz2⟩ := info_parts info40
  have hne : errL (fs ++ gs) ≠ 0 := by
    rw [errL_append]
    split
    · rcases he with h | h
      · contradiction
      · exact h
    · assumption
  obtain ⟨ea, hea⟩ : ∃ x, x = errL fs := ⟨_, rfl⟩
  obtain ⟨eb, heb⟩ : ∃ x, x = errL gs := ⟨_, rfl⟩
  obtain ⟨ec, hec⟩ : ∃ x, x = errL (fs ++ gs) := ⟨_, rfl⟩
  rw [← hea, ← heb] at he
  rw [← hec] at hne
  have hc : (ec != 0) = true := by simpa using hne
  have HEA := Lib.hid hea
  have HEB := Lib.hid heb
  have HEC := Lib.hid hec
  clear hA hB ha hb hea heb hec hne
  by_cases h0 : ea = 0
  · have g1 : (ea != 0) = false := by simpa using h0
    have g2 : (eb != 0) = true := by
      rcases he with h | h
      · exact absurd h0 h
      · simpa using h
    clear he h0
    go_enter Try.func8, Try.ntmps8
    go_wp2_with fail
    refine (encode_any _ _ _ fs _ HA.out hma).mono ?_
    rintro e w1 ⟨A1, n1, c1, rfl, -, -, -, -, hb1⟩
    rw [← HEA.out]
    have HB1 := Lib.hid hb1
    clear hb1
    go_wp2_with fail
    refine (encode_any _ _ _ gs _ (HB.out.kept HB1.out) hmb).mono ?_
    rintro e w2 ⟨A2, n2, c2, rfl, -, -, -, -, hb2⟩
    rw [← HEB.out]
    have HB2 := Lib.hid (HB1.out.trans (hb2.mono HB1.out.size))
    have HO2 := Lib.hid (World.ownsRow_lit (base := w2.heap.size) (e := 40) (size := 3) w2 #[] 0 (Nat.le_refl _) (by unfold maxLen; omega) rfl)
    have HA2 := Lib.hid ((HA.out.kept HB2.out).kept (box_below w2 (.cells #[] 40)))
    have hsz2 : w2.heap.size ≤ (w2.alloc (.cells #[] 40)).heap.size := by simp
    clear hb2
    go_wp2_with (first
      | (at_builtin; refine wpList_append_fields rfl (.tmp 36) (.tmp 37) rfl w2.heap.size i0 hi hz0 hz1 hz2 (.slice (some ⟨w2.heap.size, 0, none⟩) 0 0) 0 [] rfl HO2.out ad alen acap fs rfl HA2.out hnm1 hsz2 ?_; intro v5 w5 hown5 hgrow5; have HX5 := Lib.hid (fapp_one hown5 hgrow5); clear hgrow5 hown5)
      | (at_builtin; refine wpList_append_fields rfl (.tmp 38) (.tmp 39) rfl w2.heap.size i0 hi hz0 hz1 hz2 v5 alen (fcs fs) rfl HX5.out.1 bd blen bcap gs rfl ((HB.out.kept HB2.out).kept HX5.out.2) hnm2 HX5.out.2.size ?_; intro v6 w6 hown6 hgrow6; have HX6 := Lib.hid (fapp_two HX5.out.1 HX5.out.2 hown6 hgrow6); clear hown6 hgrow6))
    refine (encode_own HX6.out.1 hnm2).mono ?_
    rintro e w7 ⟨A7, n7, c7, rfl, -, -, -, -, hb7⟩
    rw [← HEC.out]
    have HB7 := Lib.hid (HB2.out.trans ((HX6.out.2.trans (hb7.mono HX6.out.2.size)).mono HB2.out.size))
    clear hb7
    go_wp2_with fail
    refine (alive_any _).mono ?_
    rintro e w8 ⟨rfl, hb8⟩
    have HB8 := Lib.hid (HB7.out.trans (hb8.mono HB7.out.size))
    clear hb8
    go_wp2
    go_ret
    exact ⟨rfl, HB8.out⟩
  · have g1 : (ea != 0) = true := by simpa using h0
    clear he h0
    go_enter Try.func8, Try.ntmps8
    go_wp2_with fail
    refine (encode_any _ _ _ fs _ HA.out hma).mono ?_
    rintro e w1 ⟨A1, n1, c1, rfl, -, -, -, -, hb1⟩
    rw [← HEA.out]
    have HB1 := Lib.hid hb1
    clear hb1
    go_wp2_with fail
    refine (encode_any _ _ _ gs _ (HB.out.kept HB1.out) hmb).mono ?_
    rintro e w2 ⟨A2, n2, c2, rfl, -, -, -, -, hb2⟩
    rw [← HEB.out]
    have HB2 := Lib.hid (HB1.out.trans (hb2.mono HB1.out.size))
    have HO2 := Lib.hid (World.ownsRow_lit (base := w2.heap.size) (e := 40) (size := 3) w2 #[] 0 (Nat.le_refl _) (by unfold maxLen; omega) rfl)
    have HA2 := Lib.hid ((HA.out.kept HB2.out).kept (box_below w2 (.cells #[] 40)))
    have hsz2 : w2.heap.size ≤ (w2.alloc (.cells #[] 40)).heap.size := by simp
    clear hb2
    go_wp2_with (first
      | (at_builtin; refine wpList_append_fields rfl (.tmp 36) (.tmp 37) rfl w2.heap.size i0 hi hz0 hz1 hz2 (.slice (some ⟨w2.heap.size, 0, none⟩) 0 0) 0 [] rfl HO2.out ad alen acap fs rfl HA2.out hnm1 hsz2 ?_; intro v5 w5 hown5 hgrow5; have HX5 := Lib.hid (fapp_one hown5 hgrow5); clear hgrow5 hown5)
      | (at_builtin; refine wpList_append_fields rfl (.tmp 38) (.tmp 39) rfl w2.heap.size i0 hi hz0 hz1 hz2 v5 alen (fcs fs) rfl HX5.out.1 bd blen bcap gs rfl ((HB.out.kept HB2.out).kept HX5.out.2) hnm2 HX5.out.2.size ?_; intro v6 w6 hown6 hgrow6; have HX6 := Lib.hid (fapp_two HX5.out.1 HX5.out.2 hown6 hgrow6); clear hown6 hgrow6))
    refine (encode_own HX6.out.1 hnm2).mono ?_
    rintro e w7 ⟨A7, n7, c7, rfl, -, -, -, -, hb7⟩
    rw [← HEC.out]
    have HB7 := Lib.hid (HB2.out.trans ((HX6.out.2.trans (hb7.mono HX6.out.2.size)).mono HB2.out.size))
    clear hb7
    go_wp2_with fail
    refine (alive_any _).mono ?_
    rintro e w8 ⟨rfl, hb8⟩
    have HB8 := Lib.hid (HB7.out.trans (hb8.mono HB7.out.size))
    clear hb8
    go_wp2
    go_ret
    exact ⟨rfl, HB8.out⟩
end Go.Proofs.Ytkoikoegeagkoaa
