/-
  What ledger.markIn returns of a slot, on a disk that lives: the mark that its sector is, and whether it is whole. No condition.
-/
import Derived.Test.YtdbpnfceabklkaaLread
import Derived.ChangeKeysEq
namespace Go.Proofs.Ytdbpnfceabklkaa
open Go.ChangeShapes Go.WideShapes Go.ChangeAt Go.RowKit

/-- A zero mark's cells. -/
def Z11 : Array Value := #[.int .i64 0] ++ Z8 ++ #[.int .i64 0, .int .i64 0]
theorem size72 : (Try.prog.info? 72).map (·.size) = some 11 := by kernel_rfl
theorem info72 : (Try.prog.info? 72).map (fun i => (i.zero, i.size, i.bytes)) = some (some (.agg Z11), 11, 32) := by kernel_rfl
theorem z11_size : Z11.size = 11 := by kernel_rfl
theorem z8_size : Z8.size = 8 := by kernel_rfl
theorem run_alloc72 (w : World) (v : Value) : (Instr.alloc 72 true v).run Try.prog w = .ok (.pointer (some ⟨w.heap.size, 0, none⟩)) (w.alloc (.cells Z11 72)) := by
  obtain ⟨i0, hi, hz0, hz1, hz2⟩ := info_parts info72
  have hzc : (Value.agg Z11).cells = Z11 := rfl
  simp [Instr.alloc, zeroValue, typeInfo, hi, hz0, newVar, newRow, hzc]
theorem wpList_alloc72 {ops : Array Oper} {rest : List Oper} {o : Oper} {a : Act} {w : World} {Q : Exit → Act → World → Prop} (hgd : o.guard = none) (ho : o.op = .alloc 72)
    (h : wpList Try.prog ops Q rest (a.put o.dst (.pointer (some ⟨w.heap.size, 0, none⟩))) (w.alloc (.cells Z11 72))) : wpList Try.prog ops Q (o :: rest) a w :=
  wpList_plain hgd fun K hK => by
    unfold Oper.wp execOp
    simp only [ho]
    rw [Sem.run_bind, run_alloc72 w]
    exact hK _ _ h
theorem run_alloc70 (w : World) (v : Value) : (Instr.alloc 70 true v).run Try.prog w = .ok (.pointer (some ⟨w.heap.size, 0, none⟩)) (w.alloc (.cells Z8 70)) := by
  obtain ⟨i0, hi, hz0, hz1, hz2⟩ := info_parts info70
  have hzc : (Value.agg Z8).cells = Z8 := rfl
  simp [Instr.alloc, zeroValue, typeInfo, hi, hz0, newVar, newRow, hzc]
/-- Steps of regions. -/
theorem alloc70_l {l : List Value} {ds : List Deferred} {o : Oper} {w : World} {K : Act → World → Prop} {Q : Exit → Act → World → Prop} (d : Nat) (hd : o.dst = some d) (ho : o.op = .alloc 70)
    (h : K (Act.mk (l.set d (.pointer (some ⟨w.heap.size, 0, none⟩))).toArray ds) (w.alloc (.cells Z8 70))) : o.wp Try.prog (Act.mk l.toArray ds) w K Q := by
  unfold Oper.wp execOp
  simp only [ho]
  rw [Sem.run_bind, run_alloc70 w]
  have e := put_lit l ds o.dst d (.pointer (some ⟨w.heap.size, 0, none⟩)) hd
  show K ((Act.mk l.toArray ds).put o.dst _) _
  rw [e]; exact h
theorem store_l {l : List Value} {ds : List Deferred} {o : Oper} {w : World} {K : Act → World → Prop} {Q : Exit → Act → World → Prop} (hd : o.dst = none) (T : TypeId) (x y : Operand) (ho : o.op = .store T x y) (g off : Nat) (C : Array Value) (hx : (Act.mk l.toArray ds).eval x = .pointer (some ⟨g, off, none⟩)) (hy : (Act.mk l.toArray ds).eval y = .agg C)
    (ht : w.there g off C.size) (hi : (Try.prog.info? T).map (·.size) = some C.size) (h1 : C.all (·.oneCell') = true)
    (h : K (Act.mk l.toArray ds) (w.setCells g off C.toList)) : o.wp Try.prog (Act.mk l.toArray ds) w K Q := by
  refine wp_store_mid T x y ho g off C hx hy ht hi h1 ?_
  rw [hd]; exact h
theorem part_int (w : World) (l : List Int) (i : Nat) (hi : i < l.length) : (part 5 (ints l).toArray (i * 1)).run Try.prog w = .ok (.int .u8 (l.getD i 0)) w := by
  have e : (ints l).toArray[i]? = some (.int .u8 (l.getD i 0)) := by
    rw [List.getElem?_toArray]
    unfold ints
    rw [List.getElem?_map, List.getElem?_eq_getElem hi, getD_eq _ hi]; rfl
  unfold part isAgg
  simp [Sem.run_bind, run_underlying Try.underlying5, e]
theorem run_eq5 (w : World) (d : Nat) (x y : Int) : (Op.equalIn (d + 1) 5 (.int .u8 x) (.int .u8 y)).run Try.prog w = .ok (x == y) w := by
  simp [Op.equalIn, Sem.run_bind, run_underlying Try.underlying5]
theorem run_items (w : World) (d : Nat) (a b : List Int) : ∀ (is : List Nat), (∀ i ∈ is, i < a.length ∧ i < b.length) → (Op.eqItems (d + 1) 5 1 (ints a).toArray (ints b).toArray is).run Try.prog w = .ok (decide (∀ i ∈ is, a.getD i 0 = b.getD i 0)) w
  | [], _ => by simp [Op.eqItems]
  | i :: is, h => by
    obtain ⟨h1, h2⟩ := h i (by simp)
    have ih := run_items w d a b is (fun j hj => h j (by simp [hj]))
    simp only [Op.eqItems, Sem.run_bind, part_int w a i h1, part_int w b i h2, Result.andThen_ok, run_eq5]
    by_cases hx : a.getD i 0 = b.getD i 0
    · have hiff : (∀ j ∈ i :: is, a.getD j 0 = b.getD j 0) ↔ ∀ j ∈ is, a.getD j 0 = b.getD j 0 :=
        ⟨fun h j hj => h j (List.mem_cons_of_mem _ hj), fun h j hj => (List.mem_cons.1 hj).elim (fun e => e ▸ hx) (h j)⟩
      have hb : (a.getD i 0 == b.getD i 0) = true := by simpa using hx
      rw [hb]
      simp only [Bool.not_true, Bool.false_eq_true, if_false]
      rw [ih]
      simp only [hiff]
    · have hb : (a.getD i 0 == b.getD i 0) = false := by simpa using hx
      rw [hb, decide_eq_false (fun h => hx (h i (by simp)))]
      rfl
theorem run_eql70 (w : World) (a b : List Int) (ha : a.length = 8) (hb : b.length = 8) : (binOp .eql 70 (.agg (ints a).toArray) (.agg (ints b).toArray)).run Try.prog w = .ok (.bool (decide (a = b))) w := by
  obtain ⟨i0, h5, hz0, hz1, hz2⟩ := info_parts info5
  have hc : Try.prog.cellsOf 5 = 1 := by kernel_rfl
  have e := run_equalIn_array (P := Try.prog) w (9998 + 1) (ints a).toArray (ints b).toArray Try.underlying70 h5
  rw [hc, run_items w 9998 a b (List.range 8) (fun i hi => by rw [List.mem_range] at hi; omega)] at e
  have e2 : decide (∀ i ∈ List.range 8, a.getD i 0 = b.getD i 0) = decide (a = b) := by
    by_cases hx : a = b
    · subst hx; simp
    · rw [decide_eq_false hx, decide_eq_false]
      exact fun h => hx (ext_getD (by omega) fun i hi => h i (by rw [List.mem_range]; omega))
  rw [e2] at e
  show (do pure (.bool (← Op.equal 70 (.agg (ints a).toArray) (.agg (ints b).toArray))) : Sem Value).run Try.prog w = _
  rw [Sem.run_bind]
  show ((Op.equalIn 10000 70 _ _).run Try.prog w).andThen _ = _
  rw [show (10000 : Nat) = 9998 + 1 + 1 from rfl, e]
  rfl
theorem guard70 (w : World) (x y : Operand) (A B : Array Value) : (eqGuard .eql 70 x y (.agg A) (.agg B)).run Try.prog w = .ok () w := by
  have h : Try.prog.eqGuardType Try.prog.depth 70 = false := by kernel_rfl
  simp [eqGuard, Sem.run_bind, run_program, h]
theorem yields_eql70 {ops : Array Oper} {S : World → Prop} {o : Oper} {a : Act} (hw : Region.wanted o (yielded ops a.tmps) = true) (x y : Operand) (ho : o.op = .binOp .eql 70 x y 70) (p q : List Int) (hx : a.eval x = .agg (ints p).toArray) (hy : a.eval y = .agg (ints q).toArray) (hp : p.length = 8) (hq : q.length = 8) :
    YieldsIf Try.prog ops S o (.bool (decide (p = q))) a :=
  .inl ⟨hw, fun w _ => by
    unfold execOp
    simp only [ho, hx, hy]
    rw [Sem.run_bind, Sem.run_bind, guard70]
    simp only [Result.andThen_ok, run_eql70 w p q hp hq]
    rfl⟩
/-- A mark built. -/
theorem built72 (x h u : Int) (C : Array Value) (hC : C.size = 8) : Try.prog.built 72 [(0, .int .i64 x), (1, .agg C), (2, .int .i64 h), (3, .int .i64 u)] = some (#[.int .i64 x] ++ C ++ #[.int .i64 h, .int .i64 u]) := by
  have e : Try.prog.built 72 [(0, .int .i64 x), (1, .agg C), (2, .int .i64 h), (3, .int .i64 u)] = Instr.fill (#[((0 : Nat), (1 : Nat)), (1, 8), (9, 1), (10, 1)][·]?) Z11 [(0, .int .i64 x), (1, .agg C), (2, .int .i64 h), (3, .int .i64 u)] := by kernel_rfl
  have hz : Z11.size = 11 := z11_size
  have k1 : (Z11.toList.take 0 ++ (Value.int .i64 x).cells.toList ++ Z11.toList.drop (0 + 1)).toArray = #[Value.int .i64 x] ++ Z8 ++ #[Value.int .i64 0, Value.int .i64 0] := by kernel_rfl
  have k1s : (#[Value.int .i64 x] ++ Z8 ++ #[Value.int .i64 0, Value.int .i64 0]).size = 11 := by kernel_rfl
  have t1 : (#[Value.int .i64 x] ++ Z8 ++ #[Value.int .i64 0, Value.int .i64 0]).toList.take 1 = [Value.int .i64 x] := by kernel_rfl
  have d1 : (#[Value.int .i64 x] ++ Z8 ++ #[Value.int .i64 0, Value.int .i64 0]).toList.drop (1 + 8) = [Value.int .i64 0, Value.int .i64 0] := by kernel_rfl
  have hcl : C.toList.length = 8 := by rw [Array.length_toList]; exact hC
  have c2 : ([Value.int .i64 x] ++ C.toList ++ [Value.int .i64 0, Value.int .i64 0]).toArray.size = 11 := by simp [hC]
  have t2 : ([Value.int .i64 x] ++ C.toList ++ [Value.int .i64 0, Value.int .i64 0]).take 9 = [Value.int .i64 x] ++ C.toList := by
    rw [List.take_append_of_le_length (by simp [hcl]), List.take_of_length_le (by simp [hcl])]
  have d2 : ([Value.int .i64 x] ++ C.toList ++ [Value.int .i64 0, Value.int .i64 0]).drop (9 + 1) = [Value.int .i64 0] := by
    rw [List.drop_append, List.drop_eq_nil_of_le (by simp [hcl])]; simp [hcl]
  have c3 : ([Value.int .i64 x] ++ C.toList ++ [Value.int .i64 h] ++ [Value.int .i64 0]).toArray.size = 11 := by simp [hC]
  have t3 : ([Value.int .i64 x] ++ C.toList ++ [Value.int .i64 h] ++ [Value.int .i64 0]).take 10 = [Value.int .i64 x] ++ C.toList ++ [Value.int .i64 h] := by
    rw [List.take_append_of_le_length (by simp [hcl]), List.take_of_length_le (by simp [hcl])]
  have d3 : ([Value.int .i64 x] ++ C.toList ++ [Value.int .i64 h] ++ [Value.int .i64 0]).drop (10 + 1) = [] := List.drop_eq_nil_of_le (by simp [hcl])
  rw [e, fill_cons (off := 0) (size := 1) rfl rfl (by omega), k1, fill_cons (v := .agg C) (off := 1) (size := 8) rfl hC (by omega), t1, d1]
  rw [fill_cons (off := 9) (size := 1) rfl rfl (by rw [show (Value.agg C).cells.toList = C.toList from rfl, c2]; decide)]
  rw [show (Value.agg C).cells.toList = C.toList from rfl, show ([Value.int .i64 x] ++ C.toList ++ [Value.int .i64 0, Value.int .i64 0]).toArray.toList = [Value.int .i64 x] ++ C.toList ++ [Value.int .i64 0, Value.int .i64 0] from rfl, t2, d2]
  rw [fill_cons (off := 10) (size := 1) rfl rfl (by rw [show (Value.int IntKind.i64 h).cells.toList = [Value.int .i64 h] from rfl, c3]; decide)]
  rw [show (Value.int IntKind.i64 h).cells.toList = [Value.int .i64 h] from rfl, show ([Value.int .i64 x] ++ C.toList ++ [Value.int .i64 h] ++ [Value.int .i64 0]).toArray.toList = [Value.int .i64 x] ++ C.toList ++ [Value.int .i64 h] ++ [Value.int .i64 0] from rfl, t3, d3]
  simp [Instr.fill, Value.cells]
theorem yields_build72 {ops : Array Oper} {S : World → Prop} {o : Oper} {a : Act} (hw : Region.wanted o (yielded ops a.tmps) = true) (x y z u : Operand) (ho : o.op = .build 72 #[(0, x), (1, y), (2, z), (3, u)]) (n h k : Int) (C : Array Value) (hx : a.eval x = .int .i64 n) (hy : a.eval y = .agg C) (hz : a.eval z = .int .i64 h) (hu : a.eval u = .int .i64 k) (hC : C.size = 8) :
    YieldsIf Try.prog ops S o (.agg (#[.int .i64 n] ++ C ++ #[.int .i64 h, .int .i64 k])) a :=
  .inl ⟨hw, fun w _ => by
    unfold execOp
    simp only [ho, List.map_toArray, List.map_cons, List.map_nil, hx, hy, hz, hu]
    rw [Sem.run_bind, run_build w 72 _ _ (by simpa using built72 n h k C hC), Array.append_assoc]
    rfl⟩
/-- What the first region leaves: the two numbers of the sector, each in a block of its own. -/
structure MkMid (wk : World) (s : List Int) (v7 v8 : Value) (wx : World) : Prop where
  two : ∃ g7 g8, v7 = .pointer (some ⟨g7, 0, none⟩) ∧ v8 = .pointer (some ⟨g8, 0, none⟩) ∧ wx.heap[g7]? = some (.cells (ints (s.take 8)).toArray 70 (0, 0)) ∧ wx.heap[g8]? = some (.cells (ints (s.drop 56)).toArray 70 (0, 0))
  below : Below wk.heap.size wk wx
theorem mk_two {wk wx : World} {s : List Int} {g7 g8 : Nat} (hs : s.length = 64) (h7 : wx.heap[g7]? = some (.cells Z8 70 (0, 0))) (h8 : wx.heap[g8]? = some (.cells Z8 70 (0, 0))) (hne : g7 ≠ g8) (l7 : wk.heap.size ≤ g7) (l8 : wk.heap.size ≤ g8) (hb : Below wk.heap.size wk wx) :
    MkMid wk s (.pointer (some ⟨g7, 0, none⟩)) (.pointer (some ⟨g8, 0, none⟩)) ((wx.setCells g7 0 (ints (s.take 8))).setCells g8 0 (ints (s.drop 56))) := by
  have e7 : (ints (s.take 8)).length = Z8.size := by rw [ints_length, List.length_take, hs]; kernel_rfl
  have e8 : (ints (s.drop 56)).length = Z8.size := by rw [ints_length, List.length_drop, hs]; kernel_rfl
  have x8 : (wx.setCells g7 0 (ints (s.take 8))).heap[g8]? = some (.cells Z8 70 (0, 0)) := by rw [setCells_other _ _ _ _ (fun e => hne e.symm)]; exact h8
  have b7 : Below wk.heap.size wk (wx.setCells g7 0 (ints (s.take 8))) := hb.grown (setCells_grown _ _ _) hb.size (fun k e => by injection e with e; omega)
  refine ⟨⟨g7, g8, rfl, rfl, ?_, set_whole x8 e8⟩, b7.grown (setCells_grown _ _ _) b7.size (fun k e => by injection e with e; omega)⟩
  rw [setCells_other _ _ _ _ hne]; exact set_whole h7 e7
/-- What region 2 reads. -/
def MS (b : Nat) (s : List Int) (w' : World) : Prop := w'.rangeAt b 0 (ints (s.take 8)) ∧ w'.rangeAt b 56 (ints (s.drop 56))
theorem ms_of {w : World} {b : Nat} {s : List Int} (h : w.heap[b]? = some (.cells (ints s).toArray 86 (0, 0))) : MS b s w := by
  refine ⟨fun j v hv => ?_, fun j v hv => ?_⟩ <;> rw [cell_of_row w b _ _ _ _ h, List.getElem?_toArray]
  · unfold ints at hv ⊢
    rw [List.getElem?_map, List.getElem?_take] at hv
    rw [List.getElem?_map, Nat.zero_add]
    split at hv
    · exact hv
    · simp at hv
  · unfold ints at hv ⊢
    rw [List.getElem?_map, List.getElem?_drop] at hv
    rw [List.getElem?_map]; exact hv
theorem ms_block {w w' : World} {b : Nat} {s : List Int} (h : w.heap[b]? = some (.cells (ints s).toArray 86 (0, 0))) (hk : w'.heap[b]? = w.heap[b]?) : MS b s w' := ms_of (hk.trans h)
end Go.Proofs.Ytdbpnfceabklkaa
