/-
  What the law on two texts, one behind the other, returns: true, and older memory is as it was. Condition: the table's cells hold what its initialiser lays; the two texts take together no more than 2^47 bytes.
-/
import Derived.Test.YtcobgidmmfliaaaDoorWalk8
import Derived.Laws.AppendOwnNone
namespace Go.Proofs.YtcobgidmmfliaaaDoor
open Go.ChangeShapes Go.WideShapes Go.ChangeAt Go.RowKit Go.Proofs.Crc

theorem run_append_rd (w : World) (base ty : Nat) (i : TypeInfo) (hi : Tryd.prog.info? 5 = some i) (hz : i.zero = some (.int .u8 0)) (hsize : i.size = 1) (hby : i.bytes = 1)
    (v : Value) (n : Nat) (xs : List Value) (hown : w.ownsRow base 5 1 v n xs) (A : Option Addr) (m c : Nat) (zs : List Int) (hr : Reads w A m zs) (h47 : n + m ≤ 140737488355328) (hbase : base ≤ w.heap.size) :
    ∃ v' w', (Builtin.append_ #[22, 22] ty #[v, .slice A m c]).run Tryd.prog w = .ok v' w' ∧ w'.ownsRow base 5 1 v' (n + m) (xs ++ zs.map (Value.int .u8)) ∧ w.grownBy w' v.ownBlock := by
  rcases A with _ | ad
  · have hm : m = 0 := by
      rcases Nat.eq_zero_or_pos m with h0 | h0
      · exact h0
      · obtain ⟨b, off, h, _⟩ := hr.2.1 h0
        cases h
    subst hm
    have hn : zs = [] := List.eq_nil_of_length_eq_zero hr.1
    subst hn
    refine ⟨v, w, ?_, by simpa using hown, World.grownBy.refl w _⟩
    rcases hown.2 with ⟨rfl, rfl⟩ | ⟨g, cap, cur, rfl, _, _, hnc, _⟩
    · simp [Builtin.append_, run_underlying Tryd.underlying22, sizeOf, typeInfo, hi, Builtin.lenOf, Builtin.firstCells]
    · simp [Builtin.append_, run_underlying Tryd.underlying22, sizeOf, typeInfo, hi, Builtin.lenOf, Builtin.firstCells, hnc, storeCells]
  · have hcells : ∀ j u, (zs.map (Value.int .u8))[j]? = some u → w.cell? (ad.add j) = some u := by
      intro j u hu
      rcases Nat.eq_zero_or_pos m with h0 | h0
      · have hn : zs = [] := List.eq_nil_of_length_eq_zero (hr.1.trans h0)
        subst hn
        simp at hu
      · obtain ⟨b, off, h, _⟩ := hr.2.1 h0
        injection h with h
        subst h
        exact ints_cells hr j u hu
    obtain ⟨v', w', hrun, h2, h3, _⟩ := run_append_own (P := Tryd.prog) w base 22 ty 5 i (.int .u8 0) 1 1 Tryd.underlying22 hi hz hsize hby rfl (by decide) v n xs hown ad m c (zs.map (Value.int .u8)) (by rw [List.length_map, hr.1, Nat.mul_one]) hcells (ints_one zs) (by unfold maxLen; omega) (by omega) hbase
    exact ⟨v', w', hrun, h2, h3⟩
theorem wpList_append_rd {w : World} {ops : Array Oper} {rest : List Oper} {o : Oper} {a : Act} {Q : Exit → Act → World → Prop} (hwant : Region.wanted o (yielded ops a.tmps) = true) (s x : Operand)
    (ho : o.op = .call { callee := .builtin .append, args := #[s, x], argTypes := #[22, 22] })
    (base : Nat) (i : TypeInfo) (hi : Tryd.prog.info? 5 = some i) (hz : i.zero = some (.int .u8 0)) (hsize : i.size = 1) (hby : i.bytes = 1)
    (v : Value) (n : Nat) (xs : List Value) (hs : a.eval s = v) (hown : w.ownsRow base 5 1 v n xs) (A : Option Addr) (m c : Nat) (zs : List Int) (hx : a.eval x = .slice A m c) (hr : Reads w A m zs) (h47 : n + m ≤ 140737488355328) (hbase : base ≤ w.heap.size)
    (h : ∀ v' w', w'.ownsRow base 5 1 v' (n + m) (xs ++ zs.map (Value.int .u8)) → w.grownBy w' v.ownBlock → wpList Tryd.prog ops Q rest (a.put o.dst v') w') : wpList Tryd.prog ops Q (o :: rest) a w := by
  refine wpList_step fun K hK => ?_
  rw [if_pos hwant]
  obtain ⟨v', w', hrun, h2, h3⟩ := run_append_rd w base o.type i hi hz hsize hby v n xs hown A m c zs hr h47 hbase
  unfold Oper.wp execOp
  simp only [ho, resolve, invoke, builtin, Sem.run_bind, Sem.run_pure, Result.andThen_ok, List.map_toArray, List.map_cons, List.map_nil, hs, hx, hrun]
  exact hK _ _ (h v' w' h2 h3)
theorem sum_own {w : World} {base n : Nat} {v : Value} {zs : List Int} (h : w.ownsRow base 5 1 v n (zs.map (Value.int .u8))) (hb : ∀ j, 0 ≤ zs.getD j 0 ∧ zs.getD j 0 ≤ 255) (hT : Table w) (hn : n ≤ 9223372036854775807) :
    Calls Tryd.prog 11 #[v] w fun e w' => e = .returned (.int .u32 (U (more 0#32 zs))) ∧ w = w' := by
  rcases h.2 with ⟨rfl, rfl⟩ | ⟨g, cap, cur, rfl, _⟩
  · have hz : zs = [] := List.eq_nil_of_length_eq_zero (by have := h.1; rw [List.length_map] at this; omega)
    subst hz
    exact sum_any none 0 0 [] w ⟨rfl, fun h => absurd h (by omega), hb⟩ hT (by omega)
  · exact sum_any _ _ _ _ _ (reads_own h hb) hT hn
theorem getD_append_bytes {xs ys : List Int} (hx : ∀ j, 0 ≤ xs.getD j 0 ∧ xs.getD j 0 ≤ 255) (hy : ∀ j, 0 ≤ ys.getD j 0 ∧ ys.getD j 0 ≤ 255) : ∀ j, 0 ≤ (xs ++ ys).getD j 0 ∧ (xs ++ ys).getD j 0 ≤ 255 := by
  intro j
  rw [List.getD_eq_getElem?_getD, List.getElem?_append]
  split
  · rw [← List.getD_eq_getElem?_getD]; exact hx j
  · rw [← List.getD_eq_getElem?_getD]; exact hy _
theorem own_ge {w : World} {base n : Nat} {v : Value} {xs : List Value} (h : w.ownsRow base 5 1 v n xs) : ∀ k, v.ownBlock = some k → base ≤ k := by
  intro k hk
  rcases h.2 with ⟨rfl, _⟩ | ⟨g, cap, cur, rfl, hb, _⟩
  · simp [Value.ownBlock] at hk
  · simp [Value.ownBlock] at hk; omega
theorem first_append {w w1 w2 : World} {v2 : Value} {ad1 : Option Addr} {len0 len1 : Nat} {zs0 zs1 : List Int} (hsz : w.heap.size ≤ w1.heap.size) (hR1 : Reads w ad1 len1 zs1) (hb : Below w.heap.size w (w1.alloc (.cells #[] 5)))
    (hown : w2.ownsRow w.heap.size 5 1 v2 (0 + len0) ([] ++ zs0.map (Value.int .u8))) (hg : (w1.alloc (.cells #[] 5)).grownBy w2 (Value.slice (some ⟨w1.heap.size, 0, none⟩) 0 0).ownBlock) :
    w2.ownsRow w.heap.size 5 1 v2 len0 (zs0.map (Value.int .u8)) ∧ Reads w2 ad1 len1 zs1 ∧ Below w.heap.size w w2 := by
  rw [Nat.zero_add, List.nil_append] at hown
  have hb2 : Below w.heap.size w w2 := hb.grown hg hb.size (fun k hk => by
    simp [Value.ownBlock] at hk
    omega)
  exact ⟨hown, reads_kept hR1 hb2, hb2⟩
theorem second_append {w w2 w3 : World} {v2 v3 : Value} {ad0 ad1 : Option Addr} {len0 len1 : Nat} {zs0 zs1 : List Int} (hR0 : Reads w ad0 len0 zs0) (hR1 : Reads w ad1 len1 zs1) (hT : Table w)
    (hown2 : w2.ownsRow w.heap.size 5 1 v2 len0 (zs0.map (Value.int .u8))) (hb2 : Below w.heap.size w w2) (hown : w3.ownsRow w.heap.size 5 1 v3 (len0 + len1) (zs0.map (Value.int .u8) ++ zs1.map (Value.int .u8))) (hg : w2.grownBy w3 v2.ownBlock) :
    w3.ownsRow w.heap.size 5 1 v3 (len0 + len1) ((zs0 ++ zs1).map (Value.int .u8)) ∧ Reads w3 ad0 len0 zs0 ∧ Reads w3 ad1 len1 zs1 ∧ Table w3 ∧ Below w.heap.size w w3 := by
  rw [← List.map_append] at hown
  have hb3 : Below w.heap.size w w3 := hb2.grown hg hb2.size (own_ge hown2)
  exact ⟨hown, reads_kept hR0 hb3, reads_kept hR1 hb3, table_below hT hb3 (table_lt hT), hb3⟩
set_option maxHeartbeats 1000000 in
theorem law_joins (ad0 ad1 : Option Addr) (len0 cap0 len1 cap1 : Nat) (zs0 zs1 : List Int) (w : World) (hR0 : Reads w ad0 len0 zs0) (hR1 : Reads w ad1 len1 zs1) (hT : Table w) (hs : len0 + len1 ≤ 140737488355328) :
    Calls Tryd.prog 6 #[.slice ad0 len0 cap0, .slice ad1 len1 cap1] w fun e w' => e = .returned (.bool true) ∧ Below w.heap.size w w' := by
  obtain ⟨i0, hi, hz0, hz1, hz2⟩ := info_parts info5
  have HR0 := Lib.hid hR0
  have HR1 := Lib.hid hR1
  have HT := Lib.hid hT
  have h47a : 0 + len0 ≤ 140737488355328 := by omega
  clear hR0 hR1 hT
  go_enter Tryd.func6, Tryd.ntmps6
  go_wp2_with fail
  refine (alive_any w HT.out).mono ?_
  rintro e w1 ⟨rfl, hb1⟩
  have hb1' : Below w.heap.size w (w1.alloc (.cells #[] 5)) := hb1.alloc hb1.size _
  have HO := Lib.hid (World.ownsRow_lit (base := w.heap.size) (e := 5) (size := 1) w1 #[] 0 hb1.size (by unfold maxLen; omega) rfl)
  have HA := Lib.hid (reads_kept HR0.out hb1')
  have HB1 := Lib.hid hb1'
  have hsz1 := hb1.size
  clear hb1 hb1'
  go_wp2_with (first
    | (at_builtin; refine wpList_append_rd rfl (.tmp 7) (.tmp 8) rfl w.heap.size i0 hi hz0 hz1 hz2 (.slice (some ⟨w1.heap.size, 0, none⟩) 0 0) 0 [] rfl HO.out ad0 len0 cap0 zs0 rfl HA.out h47a (by simp; omega) ?_; intro v2 w2 hown2 hgrow2; have HX2 := Lib.hid (first_append hsz1 HR1.out HB1.out hown2 hgrow2); clear hgrow2 hown2)
    | (at_builtin; refine wpList_append_rd rfl (.tmp 9) (.tmp 10) rfl w.heap.size i0 hi hz0 hz1 hz2 v2 len0 (zs0.map (Value.int .u8)) rfl HX2.out.1 ad1 len1 cap1 zs1 rfl HX2.out.2.1 hs HX2.out.2.2.size ?_; intro v3 w3 hown3 hgrow3; have HX3 := Lib.hid (second_append HR0.out HR1.out HT.out HX2.out.1 HX2.out.2.2 hown3 hgrow3); clear hown3 hgrow3))
  refine (sum_own HX3.out.1 (getD_append_bytes HR0.out.2.2 HR1.out.2.2) HX3.out.2.2.2.1 (by omega)).mono ?_
  rintro e w4 ⟨rfl, rfl⟩
  go_wp2_with fail
  refine (sum_any _ _ _ _ _ HX3.out.2.1 HX3.out.2.2.2.1 (by omega)).mono ?_
  rintro e w4 ⟨rfl, rfl⟩
  go_wp2_with fail
  refine (more_any _ _ _ _ _ _ HX3.out.2.2.1 HX3.out.2.2.2.1 (by omega)).mono ?_
  rintro e w4 ⟨rfl, rfl⟩
  go_wp2_with fail
  go_ret
  exact ⟨ret_bool8 (by rw [more_append]; exact beq_self_eq_true _), HX3.out.2.2.2.2⟩
end Go.Proofs.YtcobgidmmfliaaaDoor
