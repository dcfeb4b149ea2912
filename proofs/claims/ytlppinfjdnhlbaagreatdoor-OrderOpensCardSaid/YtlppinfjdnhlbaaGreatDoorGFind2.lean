/-
 What ledger.markIn returns of a slot,on a disk that lives: the mark that its sector is,and whether it is whole. No condition.
 What ledger.markIn returns of a slot,on a disk that lives: the mark that its sector is,and whether it is whole. No condition.
 What ledger.counting returns on a disk that lives: the mark that counts,and whether there is one. No condition.
 Words for ledger.find: a ledger's struct laid over; appends of bytes as a step of a region; what is found and what is not. No condition.
 What ledger.find leaves of a new ledger's struct,on a disk that lives: the ledger that is there,if there is one. Conditions: the ledger's sectors are the disk's; no more than 65536 of them.
-/
import Derived.Test.YtlppinfjdnhlbaaGreatDoorHd
import Derived.Test.YtlppinfjdnhlbaaGreatDoorGLread
import Derived.ChangeKeysEq
namespace Go.Proofs.YtlppinfjdnhlbaaGreatDoor.Gq
set_option maxRecDepth 100000
open Go.ChangeShapes Go.WideShapes Go.ChangeAt Go.RowKit

def Z11 : Array Value:=#[.int .i64 0] ++ Z8 ++ #[.int .i64 0,.int .i64 0]
theorem size72 : (Tryz.prog.info? 217).map (·.size) = some 11:=by kernel_rfl
theorem info72 : (Tryz.prog.info? 217).map (fun i => (i.zero,i.size,i.bytes)) = some (some (.agg Z11),11,32):=by kernel_rfl
theorem z11_size : Z11.size = 11:=by kernel_rfl
theorem z8_size : Z8.size = 8:=by kernel_rfl
theorem run_alloc72 (w : World) (v : Value) : (Instr.alloc 217 true v).run Tryz.prog w = .ok (.pointer (some ⟨w.heap.size,0,none⟩)) (w.alloc (.cells Z11 217)):=by
 obtain ⟨i0,hi,hz0,hz1,hz2⟩:=info_parts info72
 have hzc : (Value.agg Z11).cells = Z11:=rfl
 simp [Instr.alloc,zeroValue,typeInfo,hi,hz0,newVar,newRow,hzc]
theorem wpList_alloc72 {ops : Array Oper} {rest : List Oper} {o : Oper} {a : Act} {w : World} {Q : Exit -> Act -> World -> Prop} (hgd : o.guard = none) (ho : o.op = .alloc 217)
  (h : wpList Tryz.prog ops Q rest (a.put o.dst (.pointer (some ⟨w.heap.size,0,none⟩))) (w.alloc (.cells Z11 217))) : wpList Tryz.prog ops Q (o :: rest) a w :=
 wpList_plain hgd fun K hK => by
  unfold Oper.wp execOp
  simp only [ho]
  rw [Sem.run_bind,run_alloc72 w]
  exact hK _ _ h
theorem run_alloc70 (w : World) (v : Value) : (Instr.alloc 215 true v).run Tryz.prog w = .ok (.pointer (some ⟨w.heap.size,0,none⟩)) (w.alloc (.cells Z8 215)):=by
 obtain ⟨i0,hi,hz0,hz1,hz2⟩:=info_parts info70
 have hzc : (Value.agg Z8).cells = Z8:=rfl
 simp [Instr.alloc,zeroValue,typeInfo,hi,hz0,newVar,newRow,hzc]
theorem alloc70_l {l : List Value} {ds : List Deferred} {o : Oper} {w : World} {K : Act -> World -> Prop} {Q : Exit -> Act -> World -> Prop} (d : Nat) (hd : o.dst = some d) (ho : o.op = .alloc 215)
  (h : K (Act.mk (l.set d (.pointer (some ⟨w.heap.size,0,none⟩))).toArray ds) (w.alloc (.cells Z8 215))) : o.wp Tryz.prog (Act.mk l.toArray ds) w K Q:=by
 unfold Oper.wp execOp
 simp only [ho]
 rw [Sem.run_bind,run_alloc70 w]
 have e:=put_lit l ds o.dst d (.pointer (some ⟨w.heap.size,0,none⟩)) hd
 show K ((Act.mk l.toArray ds).put o.dst _) _
 rw [e]; exact h
theorem store_l {l : List Value} {ds : List Deferred} {o : Oper} {w : World} {K : Act -> World -> Prop} {Q : Exit -> Act -> World -> Prop} (hd : o.dst = none) (T : TypeId) (x y : Operand) (ho : o.op = .store T x y) (g off : Nat) (C : Array Value) (hx : (Act.mk l.toArray ds).eval x = .pointer (some ⟨g,off,none⟩)) (hy : (Act.mk l.toArray ds).eval y = .agg C)
  (ht : w.there g off C.size) (hi : (Tryz.prog.info? T).map (·.size) = some C.size) (h1 : C.all (·.oneCell') = true)
  (h : K (Act.mk l.toArray ds) (w.setCells g off C.toList)) : o.wp Tryz.prog (Act.mk l.toArray ds) w K Q:=by
 refine wp_store_mid T x y ho g off C hx hy ht hi h1 ?_
 rw [hd]; exact h
theorem part_int (w : World) (l : List Int) (i : Nat) (hi : i < l.length) : (part 5 (ints l).toArray (i * 1)).run Tryz.prog w = .ok (.int .u8 (l.getD i 0)) w:=by
 have e : (ints l).toArray[i]? = some (.int .u8 (l.getD i 0)):=by
  rw [List.getElem?_toArray]
  unfold ints
  rw [List.getElem?_map,List.getElem?_eq_getElem hi,getD_eq _ hi]; rfl
 unfold part isAgg
 simp [Sem.run_bind,run_underlying Tryz.underlying5,e]
theorem run_eq5 (w : World) (d : Nat) (x y : Int) : (Op.equalIn (d + 1) 5 (.int .u8 x) (.int .u8 y)).run Tryz.prog w = .ok (x == y) w:=by
 simp [Op.equalIn,Sem.run_bind,run_underlying Tryz.underlying5]
theorem run_items (w : World) (d : Nat) (a b : List Int) : ∀ (is : List Nat),(∀ i ∈ is,i < a.length /\ i < b.length) -> (Op.eqItems (d + 1) 5 1 (ints a).toArray (ints b).toArray is).run Tryz.prog w = .ok (decide (∀ i ∈ is,a.getD i 0 = b.getD i 0)) w
 | [],_ => by simp [Op.eqItems]
 | i :: is,h => by
  obtain ⟨h1,h2⟩:=h i (by simp)
  have ih:=run_items w d a b is (fun j hj => h j (by simp [hj]))
  simp only [Op.eqItems,Sem.run_bind,part_int w a i h1,part_int w b i h2,Result.andThen_ok,run_eq5]
  by_cases hx : a.getD i 0 = b.getD i 0
  ·have hiff : (∀ j ∈ i :: is,a.getD j 0 = b.getD j 0) ↔ ∀ j ∈ is,a.getD j 0 = b.getD j 0 :=
    ⟨fun h j hj => h j (List.mem_cons_of_mem _ hj),fun h j hj => (List.mem_cons.1 hj).elim (fun e => e ▸ hx) (h j)⟩
   have hb : (a.getD i 0 == b.getD i 0) = true:=by simpa using hx
   rw [hb]
   simp only [Bool.not_true,Bool.false_eq_true,if_false]
   rw [ih]
   simp only [hiff]
  ·have hb : (a.getD i 0 == b.getD i 0) = false:=by simpa using hx
   rw [hb,decide_eq_false (fun h => hx (h i (by simp)))]
   rfl
theorem run_eql70 (w : World) (a b : List Int) (ha : a.length = 8) (hb : b.length = 8) : (binOp .eql 215 (.agg (ints a).toArray) (.agg (ints b).toArray)).run Tryz.prog w = .ok (.bool (decide (a = b))) w:=by
 obtain ⟨i0,h5,hz0,hz1,hz2⟩:=info_parts info5
 have hc : Tryz.prog.cellsOf 5 = 1:=by kernel_rfl
 have e:=run_equalIn_array (P:=Tryz.prog) w (9998 + 1) (ints a).toArray (ints b).toArray Tryz.underlying215 h5
 rw [hc,run_items w 9998 a b (List.range 8) (fun i hi => by rw [List.mem_range] at hi; omega)] at e
 have e2 : decide (∀ i ∈ List.range 8,a.getD i 0 = b.getD i 0) = decide (a = b):=by
  by_cases hx : a = b
  ·subst hx; simp
  ·rw [decide_eq_false hx,decide_eq_false]
   exact fun h => hx (ext_getD (by omega) fun i hi => h i (by rw [List.mem_range]; omega))
 rw [e2] at e
 show (do pure (.bool (<- Op.equal 215 (.agg (ints a).toArray) (.agg (ints b).toArray))) : Sem Value).run Tryz.prog w = _
 rw [Sem.run_bind]
 show ((Op.equalIn 10000 215 _ _).run Tryz.prog w).andThen _ = _
 rw [show (10000 : Nat) = 9998 + 1 + 1 from rfl,e]
 rfl
theorem guard70 (w : World) (x y : Operand) (A B : Array Value) : (eqGuard .eql 215 x y (.agg A) (.agg B)).run Tryz.prog w = .ok () w:=by
 have h : Tryz.prog.eqGuardType Tryz.prog.depth 215 = false:=by kernel_rfl
 simp [eqGuard,Sem.run_bind,run_program,h]
theorem yields_eql70 {ops : Array Oper} {S : World -> Prop} {o : Oper} {a : Act} (hw : Region.wanted o (yielded ops a.tmps) = true) (x y : Operand) (ho : o.op = .binOp .eql 215 x y 215) (p q : List Int) (hx : a.eval x = .agg (ints p).toArray) (hy : a.eval y = .agg (ints q).toArray) (hp : p.length = 8) (hq : q.length = 8) :
  YieldsIf Tryz.prog ops S o (.bool (decide (p = q))) a :=
 .inl ⟨hw,fun w _ => by
  unfold execOp
  simp only [ho,hx,hy]
  rw [Sem.run_bind,Sem.run_bind,guard70]
  simp only [Result.andThen_ok,run_eql70 w p q hp hq]
  rfl⟩
theorem built72 (x h u : Int) (C : Array Value) (hC : C.size = 8) : Tryz.prog.built 217 [(0,.int .i64 x),(1,.agg C),(2,.int .i64 h),(3,.int .i64 u)] = some (#[.int .i64 x] ++ C ++ #[.int .i64 h,.int .i64 u]):=by
 have e : Tryz.prog.built 217 [(0,.int .i64 x),(1,.agg C),(2,.int .i64 h),(3,.int .i64 u)] = Instr.fill (#[((0 : Nat),(1 : Nat)),(1,8),(9,1),(10,1)][·]?) Z11 [(0,.int .i64 x),(1,.agg C),(2,.int .i64 h),(3,.int .i64 u)]:=by kernel_rfl
 have hz : Z11.size = 11:=z11_size
 have k1 : (Z11.toList.take 0 ++ (Value.int .i64 x).cells.toList ++ Z11.toList.drop (0 + 1)).toArray = #[Value.int .i64 x] ++ Z8 ++ #[Value.int .i64 0,Value.int .i64 0]:=by kernel_rfl
 have k1s : (#[Value.int .i64 x] ++ Z8 ++ #[Value.int .i64 0,Value.int .i64 0]).size = 11:=by kernel_rfl
 have t1 : (#[Value.int .i64 x] ++ Z8 ++ #[Value.int .i64 0,Value.int .i64 0]).toList.take 1 = [Value.int .i64 x]:=by kernel_rfl
 have d1 : (#[Value.int .i64 x] ++ Z8 ++ #[Value.int .i64 0,Value.int .i64 0]).toList.drop (1 + 8) = [Value.int .i64 0,Value.int .i64 0]:=by kernel_rfl
 have hcl : C.toList.length = 8:=by rw [Array.length_toList]; exact hC
 have c2 : ([Value.int .i64 x] ++ C.toList ++ [Value.int .i64 0,Value.int .i64 0]).toArray.size = 11:=by simp [hC]
 have t2 : ([Value.int .i64 x] ++ C.toList ++ [Value.int .i64 0,Value.int .i64 0]).take 9 = [Value.int .i64 x] ++ C.toList:=by
  rw [List.take_append_of_le_length (by simp [hcl]),List.take_of_length_le (by simp [hcl])]
 have d2 : ([Value.int .i64 x] ++ C.toList ++ [Value.int .i64 0,Value.int .i64 0]).drop (9 + 1) = [Value.int .i64 0]:=by
  rw [List.drop_append,List.drop_eq_nil_of_le (by simp [hcl])]; simp [hcl]
 have c3 : ([Value.int .i64 x] ++ C.toList ++ [Value.int .i64 h] ++ [Value.int .i64 0]).toArray.size = 11:=by simp [hC]
 have t3 : ([Value.int .i64 x] ++ C.toList ++ [Value.int .i64 h] ++ [Value.int .i64 0]).take 10 = [Value.int .i64 x] ++ C.toList ++ [Value.int .i64 h]:=by
  rw [List.take_append_of_le_length (by simp [hcl]),List.take_of_length_le (by simp [hcl])]
 have d3 : ([Value.int .i64 x] ++ C.toList ++ [Value.int .i64 h] ++ [Value.int .i64 0]).drop (10 + 1) = []:=List.drop_eq_nil_of_le (by simp [hcl])
 rw [e,fill_cons (off:=0) (size:=1) rfl rfl (by omega),k1,fill_cons (v:=.agg C) (off:=1) (size:=8) rfl hC (by omega),t1,d1]
 rw [fill_cons (off:=9) (size:=1) rfl rfl (by rw [show (Value.agg C).cells.toList = C.toList from rfl,c2]; decide)]
 rw [show (Value.agg C).cells.toList = C.toList from rfl,show ([Value.int .i64 x] ++ C.toList ++ [Value.int .i64 0,Value.int .i64 0]).toArray.toList = [Value.int .i64 x] ++ C.toList ++ [Value.int .i64 0,Value.int .i64 0] from rfl,t2,d2]
 rw [fill_cons (off:=10) (size:=1) rfl rfl (by rw [show (Value.int IntKind.i64 h).cells.toList = [Value.int .i64 h] from rfl,c3]; decide)]
 rw [show (Value.int IntKind.i64 h).cells.toList = [Value.int .i64 h] from rfl,show ([Value.int .i64 x] ++ C.toList ++ [Value.int .i64 h] ++ [Value.int .i64 0]).toArray.toList = [Value.int .i64 x] ++ C.toList ++ [Value.int .i64 h] ++ [Value.int .i64 0] from rfl,t3,d3]
 simp [Instr.fill,Value.cells]
theorem yields_build72 {ops : Array Oper} {S : World -> Prop} {o : Oper} {a : Act} (hw : Region.wanted o (yielded ops a.tmps) = true) (x y z u : Operand) (ho : o.op = .build 217 #[(0,x),(1,y),(2,z),(3,u)]) (n h k : Int) (C : Array Value) (hx : a.eval x = .int .i64 n) (hy : a.eval y = .agg C) (hz : a.eval z = .int .i64 h) (hu : a.eval u = .int .i64 k) (hC : C.size = 8) :
  YieldsIf Tryz.prog ops S o (.agg (#[.int .i64 n] ++ C ++ #[.int .i64 h,.int .i64 k])) a :=
 .inl ⟨hw,fun w _ => by
  unfold execOp
  simp only [ho,List.map_toArray,List.map_cons,List.map_nil,hx,hy,hz,hu]
  rw [Sem.run_bind,run_build w 217 _ _ (by simpa using built72 n h k C hC),Array.append_assoc]
  rfl⟩
structure MkMid (wk : World) (s : List Int) (v7 v8 : Value) (wx : World) : Prop where
 two : ∃ g7 g8,v7 = .pointer (some ⟨g7,0,none⟩) /\ v8 = .pointer (some ⟨g8,0,none⟩) /\ wx.heap[g7]? = some (.cells (ints (s.take 8)).toArray 215 (0,0)) /\ wx.heap[g8]? = some (.cells (ints (s.drop 56)).toArray 215 (0,0))
 below : Below wk.heap.size wk wx
theorem mk_two {wk wx : World} {s : List Int} {g7 g8 : Nat} (hs : s.length = 64) (h7 : wx.heap[g7]? = some (.cells Z8 215 (0,0))) (h8 : wx.heap[g8]? = some (.cells Z8 215 (0,0))) (hne : g7 ≠ g8) (l7 : wk.heap.size <= g7) (l8 : wk.heap.size <= g8) (hb : Below wk.heap.size wk wx) :
  MkMid wk s (.pointer (some ⟨g7,0,none⟩)) (.pointer (some ⟨g8,0,none⟩)) ((wx.setCells g7 0 (ints (s.take 8))).setCells g8 0 (ints (s.drop 56))):=by
 have e7 : (ints (s.take 8)).length = Z8.size:=by rw [ints_length,List.length_take,hs]; kernel_rfl
 have e8 : (ints (s.drop 56)).length = Z8.size:=by rw [ints_length,List.length_drop,hs]; kernel_rfl
 have x8 : (wx.setCells g7 0 (ints (s.take 8))).heap[g8]? = some (.cells Z8 215 (0,0)):=by rw [setCells_other _ _ _ _ (fun e => hne e.symm)]; exact h8
 have b7 : Below wk.heap.size wk (wx.setCells g7 0 (ints (s.take 8))):=hb.grown (setCells_grown _ _ _) hb.size (fun k e => by injection e with e; omega)
 refine ⟨⟨g7,g8,rfl,rfl,?_,set_whole x8 e8⟩,b7.grown (setCells_grown _ _ _) b7.size (fun k e => by injection e with e; omega)⟩
 rw [setCells_other _ _ _ _ hne]; exact set_whole h7 e7
def MS (b : Nat) (s : List Int) (w' : World) : Prop:=w'.rangeAt b 0 (ints (s.take 8)) /\ w'.rangeAt b 56 (ints (s.drop 56))
theorem ms_of {w : World} {b : Nat} {s : List Int} (h : w.heap[b]? = some (.cells (ints s).toArray 151 (0,0))) : MS b s w:=by
 refine ⟨fun j v hv => ?_,fun j v hv => ?_⟩ <;> rw [cell_of_row w b _ _ _ _ h,List.getElem?_toArray]
 ·unfold ints at hv ⊢
  rw [List.getElem?_map,List.getElem?_take] at hv
  rw [List.getElem?_map,Nat.zero_add]
  split at hv
  ·exact hv
  ·simp at hv
 ·unfold ints at hv ⊢
  rw [List.getElem?_map,List.getElem?_drop] at hv
  rw [List.getElem?_map]; exact hv
theorem ms_block {w w' : World} {b : Nat} {s : List Int} (h : w.heap[b]? = some (.cells (ints s).toArray 151 (0,0))) (hk : w'.heap[b]? = w.heap[b]?) : MS b s w':=ms_of (hk.trans h)
open Go.ChangeShapes Go.WideShapes Go.ChangeAt Go.RowKit

theorem below_cells {w w' : World} {B g o : Nat} {vs : List Value} (h : Below B w w') (hg : B <= g) (hB : B <= w.heap.size:=by exact Nat.le_refl _) : Below B w (w'.setCells g o vs) :=
 h.grown (setCells_grown _ _ _) (Nat.le_trans hB h.size) (fun k e => by injection e with e; omega)
theorem there_other {w : World} {g k : Nat} {cs : Array Value} {vs : List Value} {t : TypeId} {n : Nat} (h : w.heap[g]? = some (.cells cs t (0,0))) (hk : g ≠ k) (hn : n <= cs.size) : (w.setCells k 0 vs).there g 0 n :=
 there_whole ((setCells_other vs 0 w g hk).trans h) hn
structure MT (g7 g8 b : Nat) (s : List Int) (W : World) : Prop where
 c7 : W.heap[g7]? = some (.cells (ints (s.take 8)).toArray 215 (0,0))
 c8 : W.heap[g8]? = some (.cells (ints (s.drop 56)).toArray 215 (0,0))
 c6 : W.heap[b]? = some (.cells (ints s).toArray 151 (0,0))
theorem mt_cell {g7 g8 b : Nat} {s : List Int} {W : World} {z : Int} (hs : Sok s) (hz : z = s.getD 8 0) (h : MT g7 g8 b s W) : W.cell? ⟨b,8,none⟩ = some (.int .u8 z):=by
 rw [cell_of_row W b 8 _ _ _ h.c6,List.getElem?_toArray]
 unfold ints
 rw [List.getElem?_map,List.getElem?_eq_getElem (by rw [hs.1]; decide),hz,getD_eq _ (by rw [hs.1]; decide)]; rfl
theorem mt_reads {g7 g8 b : Nat} {s : List Int} {W : World} (hs : Sok s) (h : MT g7 g8 b s W) : Reads W (some ⟨b,9,none⟩) 4 ((s.drop 9).take 4) :=
 reads_mk (by rw [List.length_take,List.length_drop,hs.1]; rfl) (fun _ => ⟨b,9,rfl,fun i hi => by
  rw [cell_of_row W b _ _ _ _ h.c6,List.getElem?_toArray,take_getD _ _ _ hi,drop_getD]
  unfold ints
  rw [List.getElem?_map,List.getElem?_eq_getElem (by rw [hs.1]; omega),getD_eq _ (by rw [hs.1]; omega)]; rfl⟩) (bys_take _ (bys_drop _ hs.2))
theorem mt_set {g7 g8 b g : Nat} {s : List Int} {W : World} {vs : List Value} (h : MT g7 g8 b s W) (hne : g7 ≠ g /\ g8 ≠ g /\ b ≠ g) : MT g7 g8 b s (W.setCells g 0 vs) :=
 ⟨(setCells_other vs 0 W _ hne.1).trans h.c7,(setCells_other vs 0 W _ hne.2.1).trans h.c8,(setCells_other vs 0 W _ hne.2.2).trans h.c6⟩
theorem markin_end {w wx : World} {m : Mk} (hm : (mcells m).length = 11) (h : wx.heap[w.heap.size]? = some (.cells Z11 217 (0,0))) (hb : Below w.heap.size w wx) :
  (wx.setCells w.heap.size 0 (mcells m)).heap[w.heap.size]? = some (.cells (mcells m).toArray 217 (0,0)) /\ Below w.heap.size w (wx.setCells w.heap.size 0 (mcells m)) :=
 ⟨set_whole h (by rw [hm,z11_size]),below_cells hb (Nat.le_refl _)⟩
theorem results_ct {fn : Func} {p q : Tmp} {T : TypeId} {d : TypeDesc} (h : fn.results = #[.cell p T,.tmp q]) (hd : Tryz.prog.underlying T = some d) (hr : d.isRow = true) (tmps : Array Value) (w : World) (g : Nat) (cs : List Value) (v : Value) (hi : (Tryz.prog.info? T).map (·.size) = some cs.length)
  (hp : tmps.getD p undef = .pointer (some ⟨g,0,none⟩)) (hq : tmps.getD q undef = v) (hg : w.heap[g]? = some (.cells cs.toArray T (0,0))) : (results fn tmps).run Tryz.prog w = .ok (.tuple #[.agg cs.toArray,v]) w:=by
 have hp' : tmps[p]?.getD undef = .pointer (some ⟨g,0,none⟩):=by simpa using hp
 have hq' : tmps[q]?.getD undef = v:=by simpa using hq
 have r2:=run_loadVar_mid (P:=Tryz.prog) w g 0 T cs d (range_whole hg) hd hr hi
 simp [results,h,hp',hq',asAddr,r2]
set_option maxHeartbeats 1000000 in
theorem markin_any (B : Bz) (q p slot : Nat) (G : Lg) (bv : Value) (D : Dk) (w : World) (hD : PDisk w B p D) (h : LCells w q p G bv) (hd : D.dead = false) (hf : G.fr <= 65536) (hn : G.fr + slot < D.firm.length) (hsl : slot <= 1) :
  Calls Tryz.prog 199 #[.pointer (some ⟨q,0,none⟩),.int .i64 (slot : Int)] w fun e w' => e = .returned (.tuple #[.agg (mcells (mkOf ((cur D).getD (G.fr + slot) []) slot).1).toArray,.bool (mkOf ((cur D).getD (G.fr + slot) []) slot).2]) /\ Below w.heap.size w w':=by
 have hok : Dok D:=by obtain ⟨_,_,_,h⟩:=hD; exact h.ok
 have HS : Hid (Sok ((cur D).getD (G.fr + slot) [])):=hJQ (lok_getD (cur_ok hok) (by rw [cur_len]; exact hn))
 obtain ⟨s,hs⟩ : ∃ s,s = (cur D).getD (G.fr + slot) []:=⟨_,rfl⟩
 have hb1:=box_below w (.cells Z11 217)
 have hlr:=(lread_any B q p (G.fr + slot) G bv D (w.alloc (.cells Z11 217)) (hD.kept hb1) (h.kept hb1) hd hn)
 rw [show ((G.fr + slot : Nat) : Int) = (G.fr : Int) + (slot : Int) by omega] at hlr
 have HLR:=hJQ hlr
 clear hlr
 rw [<- hs] at HS HLR ⊢
 have c1 : (w.alloc (.cells Z11 217)).cell? ⟨q,1,none⟩ = some (.int .i64 (G.fr : Int)):=(hb1.cell (p:=⟨q,1,none⟩) (cell_lt h.c1)).trans h.c1
 obtain ⟨w1,hw1⟩ : ∃ w1,w1 = w.alloc (.cells Z11 217):=⟨_,rfl⟩
 have hz1 : w1.heap.size = w.heap.size + 1:=by rw [hw1]; simp
 have HZ1:=hJQ hz1
 have HB1 : Hid (Below w.heap.size w w1):=hJQ (by rw [hw1]; exact hb1)
 have HG1 : Hid (w1.heap[w.heap.size]? = some (.cells Z11 217 (0,0))):=hJQ (by rw [hw1]; exact new_block w _)
 rw [<- hw1] at HLR c1
 obtain ⟨C,hC⟩ : ∃ C,C = (ints s).toArray:=⟨_,rfl⟩
 rw [<- hC] at HLR
 have HC:=hJQ hC
 have HL : Hid ((ints s).length = 64):=hJQ (by rw [ints_length]; exact HS.out.1)
 have HS2 : Hid ((Tryz.prog.info? 151).map (·.size) = some C.size):=hJQ (by rw [hC,List.size_toArray,HL.out]; exact size86)
 have HZC : Hid (Z64.size = C.size):=hJQ (by rw [z64_size,hC,List.size_toArray,HL.out])
 have HON : Hid (C.all (·.oneCell') = true):=hJQ (by rw [hC]; exact all_oneCell_toArray (ints_one _))
 have hs0 : (0 : Int) <= (slot : Int):=by omega
 have hs1 : (slot : Int) <= 1:=by omega
 have hf0 : (0 : Int) <= (G.fr : Int):=by omega
 have hf1 : (G.fr : Int) <= 65536:=by omega
 clear hs hD h hok hd hn hb1 hC hz1
 go_enter Tryz.func199,Tryz.ntmps199
 go_upto_region 1 with (first | (with_reducible refine wpList_alloc72 rfl rfl ?_) | fail)
 rw [<- hw1]
 clear hw1
 go_upto_region 2 with (first
  | ((with_reducible refine HLR.out.mono ?_); rintro e w2 ⟨rfl,hb2⟩; have HB2:=hJQ hb2; clear hb2 c1)
  | (with_reducible refine wpList_alloc86 rfl rfl ?_)
  | ((with_reducible refine wpList_store_new rfl 151 (.tmp 6) (.tmp 16) rfl Z64 C ?_ ?_ HS2.out HZC.out HON.out ?_); rfl; rfl)
  | fail)
 obtain ⟨w3,hw3⟩ : ∃ w3,w3 = w2.alloc (.cells C 151):=⟨_,rfl⟩
 rw [<- hw3]
 have HG6 : Hid (w3.heap[w2.heap.size]? = some (.cells (ints s).toArray 151 (0,0))):=hJQ (by rw [hw3,<- HC.out]; exact new_block w2 _)
 have HB3 : Hid (Below w1.heap.size w1 w3):=hJQ (by rw [hw3]; exact HB2.out.trans ((box_below w2 _).mono HB2.out.size))
 have HL3 : Hid (w2.heap.size < w3.heap.size):=hJQ (by rw [hw3]; simp)
 clear hw3
 have har1 : ∀ W : World,(Instr.arrayAt 215 (.slice (some ⟨w2.heap.size,0,none⟩) 8 64)).run Tryz.prog W = .ok (.pointer (some ⟨w2.heap.size,0,none⟩)) W:=fun W => by simp [Instr.arrayAt,Sem.run_bind,run_underlying Tryz.underlying215]
 have har2 : ∀ W : World,(Instr.arrayAt 215 (.slice (some ⟨w2.heap.size,56,none⟩) 8 8)).run Tryz.prog W = .ok (.pointer (some ⟨w2.heap.size,56,none⟩)) W:=fun W => by simp [Instr.arrayAt,Sem.run_bind,run_underlying Tryz.underlying215]
 have HF8 : Hid ((ints (s.take 8)).length = 8):=hJQ (by rw [ints_length,List.length_take,HS.out.1]; rfl)
 have HT8 : Hid ((ints (s.drop 56)).length = 8):=hJQ (by rw [ints_length,List.length_drop,HS.out.1])
 have HFS : Hid ((Tryz.prog.info? 215).map (·.size) = some (ints (s.take 8)).length):=hJQ (by rw [HF8.out]; exact size70)
 have HTS : Hid ((Tryz.prog.info? 215).map (·.size) = some (ints (s.drop 56)).length):=hJQ (by rw [HT8.out]; exact size70)
 have HFA : Hid ((Tryz.prog.info? 215).map (·.size) = some (ints (s.take 8)).toArray.size):=hJQ (by rw [List.size_toArray]; exact HFS.out)
 have HTA : Hid ((Tryz.prog.info? 215).map (·.size) = some (ints (s.drop 56)).toArray.size):=hJQ (by rw [List.size_toArray]; exact HTS.out)
 have HFZ : Hid ((ints (s.take 8)).toArray.size <= Z8.size):=hJQ (by rw [List.size_toArray,HF8.out]; exact Nat.le_of_eq z8_size.symm)
 have HTZ : Hid ((ints (s.drop 56)).toArray.size <= Z8.size):=hJQ (by rw [List.size_toArray,HT8.out]; exact Nat.le_of_eq z8_size.symm)
 have HFO : Hid ((ints (s.take 8)).toArray.all (·.oneCell') = true):=hJQ (all_oneCell_toArray (ints_one _))
 have HTO : Hid ((ints (s.drop 56)).toArray.all (·.oneCell') = true):=hJQ (all_oneCell_toArray (ints_one _))
 -- the two blocks,in either order
 have hbl : ∀ W : World,Below w3.heap.size w3 W -> MS w2.heap.size s W:=fun W hb => ms_block HG6.out (hb.block _ HL3.out)
 have HBL:=hJQ hbl
 have hn1 : ((w3.drew).alloc (.cells Z8 215)).heap.size = w3.heap.size + 1:=by simp
 have hx0:=new_block w3.drew (.cells Z8 215)
 have hx1:=new_block ((w3.drew).alloc (.cells Z8 215)) (.cells Z8 215)
 rw [hn1] at hx1
 have hA : Below w3.heap.size w3 ((w3.drew).alloc (.cells Z8 215)):=(Below.refl _ _).drew.alloc (Nat.le_refl _) _
 have hB : Below w3.heap.size w3 (((w3.drew).alloc (.cells Z8 215)).alloc (.cells Z8 215)):=hA.alloc (by simp) _
 have hy0 : (((w3.drew).alloc (.cells Z8 215)).alloc (.cells Z8 215)).heap[w3.heap.size]? = some (.cells Z8 215 (0,0)):=(Below.heap_alloc _ _ _ (by simp)).trans hx0
 have HA:=hJQ hA
 have HB:=hJQ hB
 have HY0:=hJQ hy0
 have HY1:=hJQ hx1
 have HN1:=hJQ hn1
 have HM1:=hJQ (mk_two HS.out.1 hy0 hx1 (by omega) (Nat.le_refl _) (Nat.le_succ _) hB)
 have HM2:=hJQ (mk_two HS.out.1 hx1 hy0 (by omega) (Nat.le_succ _) (Nat.le_refl _) hB)
 clear hbl hn1 hx0 hx1 hA hB hy0
 simp only [Act.put,List.setIfInBounds_toArray,List.set_cons_zero,List.set_cons_succ]
 go_cut [7,8] (fun v7 v8 wx => MkMid w3 s v7 v8 wx)
 case first =>
  refine wp_region_held_drew (S:=MS w2.heap.size s) (by kernel_rfl) (HBL.out _ (Below.refl _ _).drew) (fun hHeld => ?_)
  refine take_op 0 17 (.slice (some ⟨w2.heap.size,0,none⟩) 8 64) rfl rfl (by kernel_rfl) (by kernel_rfl) (by kernel_rfl) (fun _ _ _ h => h) (.inl ⟨by rfl,fun w' hw' => by go_simp⟩) hHeld ?_
  simp only [List.set_cons_zero,List.set_cons_succ]
  refine take_op 1 18 (.pointer (some ⟨w2.heap.size,0,none⟩)) rfl rfl (by kernel_rfl) (by kernel_rfl) (by kernel_rfl) (fun _ _ _ h => h) (.inl ⟨by rfl,fun w' hw' => by go_simp⟩) hHeld ?_
  simp only [List.set_cons_zero,List.set_cons_succ]
  refine take_op 2 19 (.agg (ints (s.take 8)).toArray) rfl rfl (by kernel_rfl) (by kernel_rfl) (by kernel_rfl) (fun _ _ _ h => h) (yieldsIf_load_mid (by rfl) 215 (.tmp 18) rfl w2.heap.size 0 rfl (ints (s.take 8)) (.array 8 5) (fun w h => h.1) Tryz.underlying215 rfl HFS.out) hHeld ?_
  simp only [List.set_cons_zero,List.set_cons_succ]
  refine take_op 3 20 (.slice (some ⟨w2.heap.size,56,none⟩) 8 8) rfl rfl (by kernel_rfl) (by kernel_rfl) (by kernel_rfl) (fun _ _ _ h => h) (.inl ⟨by rfl,fun w' hw' => by go_simp⟩) hHeld ?_
  simp only [List.set_cons_zero,List.set_cons_succ]
  refine take_op 4 21 (.pointer (some ⟨w2.heap.size,56,none⟩)) rfl rfl (by kernel_rfl) (by kernel_rfl) (by kernel_rfl) (fun _ _ _ h => h) (.inl ⟨by rfl,fun w' hw' => by go_simp⟩) hHeld ?_
  simp only [List.set_cons_zero,List.set_cons_succ]
  refine take_op 5 22 (.agg (ints (s.drop 56)).toArray) rfl rfl (by kernel_rfl) (by kernel_rfl) (by kernel_rfl) (fun _ _ _ h => h) (yieldsIf_load_mid (by rfl) 215 (.tmp 21) rfl w2.heap.size 56 rfl (ints (s.drop 56)) (.array 8 5) (fun w h => h.2) Tryz.underlying215 rfl HTS.out) hHeld ?_
  simp only [List.set_cons_zero,List.set_cons_succ]
  refine wpAnyH_ready (rs:=[6,7]) (by kernel_rfl) (by simp) (AllReadyH.cons rfl (fun K hK => ?_) (AllReadyH.cons rfl (fun K hK => ?_) AllReadyH.nil))
  ·rw [if_pos (by rfl)]
   refine alloc70_l 7 rfl rfl ?_
   simp only [List.set_cons_zero,List.set_cons_succ]
   refine hK.out _ _ (HBL.out _ HA.out) (fun _ => ?_)
   refine wpAnyH_ready (rs:=[7]) (by kernel_rfl) (by simp) (AllReadyH.cons rfl (fun K2 hK2 => ?_) AllReadyH.nil)
   rw [if_pos (by rfl)]
   refine alloc70_l 8 rfl rfl ?_
   rw [HN1.out]
   simp only [List.set_cons_zero,List.set_cons_succ]
   refine hK2.out _ _ (HBL.out _ HB.out) (fun _ => ?_)
   refine wpAnyH_ready (rs:=[8]) (by kernel_rfl) (by simp) (AllReadyH.cons rfl (fun K3 hK3 => ?_) AllReadyH.nil)
   rw [if_pos (by rfl)]
   refine store_l rfl 215 (.tmp 7) (.tmp 19) rfl w3.heap.size 0 (ints (s.take 8)).toArray rfl rfl (there_whole HY0.out HFZ.out) HFA.out HFO.out ?_
   refine hK3.out _ _ (HBL.out _ (below_cells HB.out (Nat.le_refl _))) (fun _ => ?_)
   refine wpAnyH_ready (rs:=[9]) (by kernel_rfl) (by simp) (AllReadyH.cons rfl (fun K4 hK4 => ?_) AllReadyH.nil)
   rw [if_pos (by rfl)]
   refine store_l rfl 215 (.tmp 8) (.tmp 22) rfl (w3.heap.size + 1) 0 (ints (s.drop 56)).toArray rfl rfl (there_other HY1.out (by omega) HTZ.out) HTA.out HTO.out ?_
   refine hK4.out _ _ (HBL.out _ HM1.out.below) (fun _ => ?_)
   refine wpAnyH_done (by kernel_rfl) ?_ _
   go_wp2_with fail
   go_meet
   exact HM1.out
  ·rw [if_pos (by rfl)]
   refine alloc70_l 8 rfl rfl ?_
   simp only [List.set_cons_zero,List.set_cons_succ]
   refine hK.out _ _ (HBL.out _ HA.out) (fun _ => ?_)
   refine wpAnyH_ready (rs:=[6]) (by kernel_rfl) (by simp) (AllReadyH.cons rfl (fun K2 hK2 => ?_) AllReadyH.nil)
   rw [if_pos (by rfl)]
   refine alloc70_l 7 rfl rfl ?_
   rw [HN1.out]
   simp only [List.set_cons_zero,List.set_cons_succ]
   refine hK2.out _ _ (HBL.out _ HB.out) (fun _ => ?_)
   refine wpAnyH_ready (rs:=[8]) (by kernel_rfl) (by simp) (AllReadyH.cons rfl (fun K3 hK3 => ?_) AllReadyH.nil)
   rw [if_pos (by rfl)]
   refine store_l rfl 215 (.tmp 7) (.tmp 19) rfl (w3.heap.size + 1) 0 (ints (s.take 8)).toArray rfl rfl (there_whole HY1.out HFZ.out) HFA.out HFO.out ?_
   refine hK3.out _ _ (HBL.out _ (below_cells HB.out (Nat.le_succ _))) (fun _ => ?_)
   refine wpAnyH_ready (rs:=[9]) (by kernel_rfl) (by simp) (AllReadyH.cons rfl (fun K4 hK4 => ?_) AllReadyH.nil)
   rw [if_pos (by rfl)]
   refine store_l rfl 215 (.tmp 8) (.tmp 22) rfl w3.heap.size 0 (ints (s.drop 56)).toArray rfl rfl (there_other HY0.out (by omega) HTZ.out) HTA.out HTO.out ?_
   refine hK4.out _ _ (HBL.out _ HM2.out.below) (fun _ => ?_)
   refine wpAnyH_done (by kernel_rfl) ?_ _
   go_wp2_with fail
   go_meet
   exact HM2.out
 case rest =>
  obtain ⟨⟨g7,g8,rfl,rfl,h7,h8⟩,hbx⟩:=hcut
  have h6 : wc.heap[w2.heap.size]? = some (.cells (ints s).toArray 151 (0,0)):=(hbx.block _ HL3.out).trans HG6.out
  have hbw : Below w1.heap.size w1 wc:=HB3.out.trans (hbx.mono HB3.out.size)
  have h4 : wc.heap[w.heap.size]? = some (.cells Z11 217 (0,0)):=(hbw.block _ (by rw [HZ1.out]; omega)).trans HG1.out
  have hbb : Below w.heap.size w wc:=HB1.out.trans (hbw.mono HB1.out.size)
  obtain ⟨z,hz⟩ : ∃ z,z = s.getD 8 0:=⟨_,rfl⟩
  obtain ⟨u,hu⟩ : ∃ u,u = le ((s.drop 9).take 4):=⟨_,rfl⟩
  have hzb:=bys_getD HS.out.2 8
  rw [<- hz] at hzb
  obtain ⟨z0,z1⟩:=hzb
  have hS3 : ∀ W : World,W.heap = wc.heap -> MT g7 g8 w2.heap.size s W:=fun W e => ⟨by rw [e]; exact h7,by rw [e]; exact h8,by rw [e]; exact h6⟩
  have HS3:=hJQ hS3
  have HJ : Hid (∀ W : World,MT g7 g8 w2.heap.size s W -> Calls Tryz.prog 182 #[.slice (some ⟨w2.heap.size,9,none⟩) 4 55] W fun e w' => e = .returned (.int .i64 u) /\ W = w'):=hJQ (fun W hW => by
   rw [hu]; exact join_any _ 4 55 _ W (mt_reads HS.out hW) (Nat.le_refl _))
  have HZ:=hJQ hz
  have HU:=hJQ hu
  have HNE : Hid (g7 ≠ w.heap.size /\ g8 ≠ w.heap.size /\ w2.heap.size ≠ w.heap.size):=hJQ (by
   refine ⟨fun e => ?_,fun e => ?_,fun e => ?_⟩
   ·rw [e,h4] at h7; injection h7 with h7; injection h7 with _ h7 _; cases h7
   ·rw [e,h4] at h8; injection h8 with h8; injection h8 with _ h8 _; cases h8
   ·rw [e,h4] at h6; injection h6 with h6; injection h6 with _ h6 _; cases h6)
  have HML : Hid ((mcells (mkOf s slot).1).length = 11):=hJQ (mcells_len (mkOf_ok HS.out slot).2)
  have H4:=hJQ h4
  have HBB:=hJQ hbb
  have HMC : Hid ((#[Value.int .i64 (slot : Int)] ++ (ints (s.take 8)).toArray ++ #[.int .i64 z,.int .i64 u]) = (mcells (mkOf s slot).1).toArray):=hJQ (by
   have hu0:=(le_take4 (bys_drop 9 HS.out.2)).1
   have e1 : ((s.getD 8 0).toNat : Int) = s.getD 8 0:=by rw [<- hz]; omega
   have e2 : ((le ((s.drop 9).take 4)).toNat : Int) = le ((s.drop 9).take 4):=by omega
   simp only [mkOf,mcells,e1,e2,hz,hu]
   simp)
  have HSA : Hid ((Tryz.prog.info? 217).map (·.size) = some (mcells (mkOf s slot).1).toArray.size):=hJQ (by rw [List.size_toArray,HML.out]; exact size72)
  have HSO : Hid ((mcells (mkOf s slot).1).toArray.all (·.oneCell') = true):=hJQ (all_oneCell_toArray (mcells_one _))
  have HSZ : Hid ((mcells (mkOf s slot).1).toArray.size <= Z11.size):=hJQ (by rw [List.size_toArray,HML.out]; exact Nat.le_of_eq z11_size.symm)
  have HEND:=hJQ (markin_end (wx:=wc.drew) HML.out h4 hbb.drew)
  have HSI : Hid ((Tryz.prog.info? 217).map (·.size) = some (mcells (mkOf s slot).1).length):=hJQ (by rw [HML.out]; exact size72)
  have hwz : IntKind.i64.wrap z = z:=by rw [IntKind.wrap_i64]; omega
  have HFA8 : Hid ((s.take 8).length = 8):=hJQ (by rw [List.length_take,HS.out.1]; rfl)
  have HTA8 : Hid ((s.drop 56).length = 8):=hJQ (by rw [List.length_drop,HS.out.1])
  have HFC : Hid ((ints (s.take 8)).toArray.size = 8):=hJQ (by rw [List.size_toArray]; exact HF8.out)
  clear h7 h8 hbx h6 hbw h4 hbb hz hu hS3
  go_wp2_with fail
  refine wp_region_held_drew (S:=MT g7 g8 w2.heap.size s) (by kernel_rfl) (HS3.out _ rfl) (fun hHeld => ?_)
  refine take_op 0 23 (.int .i64 (slot : Int)) rfl rfl (by kernel_rfl) (by kernel_rfl) (by kernel_rfl) (fun _ _ _ h => h) (.inl ⟨by rfl,fun w' hw' => by go_simp⟩) hHeld ?_
  simp only [List.set_cons_zero,List.set_cons_succ]
  refine take_op 1 24 (.agg (ints (s.take 8)).toArray) rfl rfl (by kernel_rfl) (by kernel_rfl) (by kernel_rfl) (fun _ _ _ h => h) (yieldsIf_load_mid (by rfl) 215 (.tmp 7) rfl g7 0 rfl (ints (s.take 8)) (.array 8 5) (fun w h => range_whole h.c7) Tryz.underlying215 rfl HFS.out) hHeld ?_
  simp only [List.set_cons_zero,List.set_cons_succ]
  refine take_op 2 25 (.pointer (some ⟨w2.heap.size,8,none⟩)) rfl rfl (by kernel_rfl) (by kernel_rfl) (by kernel_rfl) (fun _ _ _ h => h) (.inl ⟨by rfl,fun w' hw' => by go_simp⟩) hHeld ?_
  simp only [List.set_cons_zero,List.set_cons_succ]
  refine take_op 3 26 (.int .u8 z) rfl rfl (by kernel_rfl) (by kernel_rfl) (by kernel_rfl) (fun _ _ _ h => h) (.inl ⟨by rfl,fun w' hw' => by have hc:=mt_cell HS.out HZ.out hw'; go_simp⟩) hHeld ?_
  simp only [List.set_cons_zero,List.set_cons_succ]
  refine take_op 4 27 (.int .i64 z) rfl rfl (by kernel_rfl) (by kernel_rfl) (by kernel_rfl) (fun _ _ _ h => h) (.inl ⟨by rfl,fun w' hw' => by go_simp⟩) hHeld ?_
  simp only [List.set_cons_zero,List.set_cons_succ]
  refine take_op 5 28 (.slice (some ⟨w2.heap.size,9,none⟩) 4 55) rfl rfl (by kernel_rfl) (by kernel_rfl) (by kernel_rfl) (fun _ _ _ h => h) (.inl ⟨by rfl,fun w' hw' => by go_simp⟩) hHeld ?_
  simp only [List.set_cons_zero,List.set_cons_succ]
  refine take_op 8 31 (.agg (ints (s.take 8)).toArray) rfl rfl (by kernel_rfl) (by kernel_rfl) (by kernel_rfl) (fun _ _ _ h => h) (yieldsIf_load_mid (by rfl) 215 (.tmp 7) rfl g7 0 rfl (ints (s.take 8)) (.array 8 5) (fun w h => range_whole h.c7) Tryz.underlying215 rfl HFS.out) hHeld ?_
  simp only [List.set_cons_zero,List.set_cons_succ]
  refine take_op 9 32 (.agg (ints (s.drop 56)).toArray) rfl rfl (by kernel_rfl) (by kernel_rfl) (by kernel_rfl) (fun _ _ _ h => h) (yieldsIf_load_mid (by rfl) 215 (.tmp 8) rfl g8 0 rfl (ints (s.drop 56)) (.array 8 5) (fun w h => range_whole h.c8) Tryz.underlying215 rfl HTS.out) hHeld ?_
  simp only [List.set_cons_zero,List.set_cons_succ]
  refine take_op 10 33 (.bool (decide (s.take 8 = s.drop 56))) rfl rfl (by kernel_rfl) (by kernel_rfl) (by kernel_rfl) (fun _ _ _ h => h) (yields_eql70 (by rfl) (.tmp 31) (.tmp 32) rfl (s.take 8) (s.drop 56) rfl rfl HFA8.out HTA8.out) hHeld ?_
  simp only [List.set_cons_zero,List.set_cons_succ]
  refine wpAnyH_ready (rs:=[6]) (by kernel_rfl) (by simp) (AllReadyH.cons rfl (fun K hK => ?_) AllReadyH.nil)
  go_simp
  refine (HJ.out _ hHeld).mono ?_
  rintro e w' ⟨rfl,rfl⟩
  go_wp2_with fail
  refine hK.out _ _ hHeld (fun _ => ?_)
  refine take_op 7 30 (.agg (#[.int .i64 (slot : Int)] ++ (ints (s.take 8)).toArray ++ #[.int .i64 z,.int .i64 u])) rfl rfl (by kernel_rfl) (by kernel_rfl) (by kernel_rfl) (fun _ _ _ h => h) (yields_build72 (by rfl) (.tmp 23) (.tmp 24) (.tmp 27) (.tmp 29) rfl (slot : Int) z u (ints (s.take 8)).toArray rfl rfl rfl rfl HFC.out) hHeld ?_
  simp only [List.set_cons_zero,List.set_cons_succ]
  rw [HMC.out]
  refine wpAnyH_ready (rs:=[11]) (by kernel_rfl) (by simp) (AllReadyH.cons rfl (fun K2 hK2 => ?_) AllReadyH.nil)
  rw [if_pos (by rfl)]
  refine store_l rfl 217 (.tmp 4) (.tmp 30) rfl w.heap.size 0 (mcells (mkOf s slot).1).toArray rfl rfl (there_whole H4.out HSZ.out) HSA.out HSO.out ?_
  refine hK2.out _ _ (mt_set (HS3.out wc.drew rfl) HNE.out) (fun hHeld2 => ?_)
  refine take_op 12 5 (.bool (decide (s.take 8 = s.drop 56))) rfl rfl (by kernel_rfl) (by kernel_rfl) (by kernel_rfl) (fun _ _ _ h => h) (.inl ⟨by rfl,fun w' hw' => by go_simp⟩) hHeld2 ?_
  simp only [List.set_cons_zero,List.set_cons_succ]
  refine wpAnyH_done (by kernel_rfl) ?_ _
  go_wp2_with fail
  exact bodyPost_ret (v:=.tuple #[.agg (mcells (mkOf s slot).1).toArray,.bool (mkOf s slot).2]) (results_ct rfl Tryz.underlying217 rfl _ _ w.heap.size (mcells (mkOf s slot).1) _ HSI.out rfl rfl (by exact HEND.out.1)) rfl ⟨rfl,HEND.out.2⟩
open Go.ChangeShapes Go.WideShapes Go.ChangeAt Go.RowKit

structure CtMid (w : World) (g4 g6 : Nat) (a b : Mk) (wx : World) : Prop where
 r : wx.heap[w.heap.size]? = some (.cells Z11 217 (0,0))
 a : wx.heap[g4]? = some (.cells (mcells a).toArray 217 (0,0))
 b : wx.heap[g6]? = some (.cells (mcells b).toArray 217 (0,0))
 below : Below w.heap.size w wx
theorem CtMid.kept {w wx wy : World} {g4 g6 : Nat} {a b : Mk} (h : CtMid w g4 g6 a b wx) (hb : Below wx.heap.size wx wy) : CtMid w g4 g6 a b wy :=
 ⟨(hb.block _ (Array.getElem?_eq_some_iff.1 h.r).1).trans h.r,(hb.block _ (Array.getElem?_eq_some_iff.1 h.a).1).trans h.a,(hb.block _ (Array.getElem?_eq_some_iff.1 h.b).1).trans h.b,h.below.trans (hb.mono h.below.size)⟩
theorem range_num {W : World} {g : Nat} {m : Mk} (hN : Nok m.num) (h : W.heap[g]? = some (.cells (mcells m).toArray 217 (0,0))) : W.rangeAt g 1 (ints m.num):=fun j v hv => by
 have hj : j < 8:=by have:=(List.getElem?_eq_some_iff.1 hv).1; rw [ints_length,hN.1] at this; exact this
 rw [cell_of_row W g _ _ _ _ h,List.getElem?_toArray,mcells_num hN j hj]; exact hv
set_option maxHeartbeats 1000000 in
theorem count_any (B : Bz) (q p : Nat) (G : Lg) (bv : Value) (D : Dk) (w : World) (hD : PDisk w B p D) (h : LCells w q p G bv) (hd : D.dead = false) (hf : G.fr <= 65536) (hn : G.fr + 1 < D.firm.length) :
  Calls Tryz.prog 173 #[.pointer (some ⟨q,0,none⟩)] w fun e w' => e = .returned (.tuple #[.agg (mcells (rdMk (cur D) G.fr).1).toArray,.bool (rdMk (cur D) G.fr).2]) /\ Below w.heap.size w w':=by
 have hok : Dok D:=by obtain ⟨_,_,_,h⟩:=hD; exact h.ok
 have hS0:=lok_getD (cur_ok hok) (k:=G.fr) (by rw [cur_len]; omega)
 have hS1:=lok_getD (cur_ok hok) (k:=G.fr + 1) (by rw [cur_len]; exact hn)
 have hb1:=box_below w (.cells Z11 217)
 obtain ⟨w1,hw1⟩ : ∃ w1,w1 = w.alloc (.cells Z11 217):=⟨_,rfl⟩
 have HR1 : Hid (w1.heap[w.heap.size]? = some (.cells Z11 217 (0,0))):=hJQ (by rw [hw1]; exact new_block w _)
 rw [<- hw1] at hb1
 have HB1:=hJQ hb1
 have ha:=markin_any B q p 0 G bv D w1 (hD.kept hb1) (h.kept hb1) hd hf (by omega) (by omega)
 rw [show ((0 : Nat) : Int) = 0 from rfl,Nat.add_zero] at ha
 have HA:=hJQ ha
 clear ha
 have hdd:=fun W (hb : Below w1.heap.size w1 W) => markin_any B q p 1 G bv D W ((hD.kept hb1).kept hb) ((h.kept hb1).kept hb) hd hf hn (Nat.le_refl _)
 rw [show ((1 : Nat) : Int) = 1 from rfl] at hdd
 have HD:=hJQ hdd
 clear hdd
 obtain ⟨mA,hmA⟩ : ∃ mA,mA = (mkOf ((cur D).getD G.fr []) 0).1:=⟨_,rfl⟩
 obtain ⟨kA,hkA⟩ : ∃ kA,kA = (mkOf ((cur D).getD G.fr []) 0).2:=⟨_,rfl⟩
 obtain ⟨mB,hmB⟩ : ∃ mB,mB = (mkOf ((cur D).getD (G.fr + 1) []) 1).1:=⟨_,rfl⟩
 obtain ⟨kB,hkB⟩ : ∃ kB,kB = (mkOf ((cur D).getD (G.fr + 1) []) 1).2:=⟨_,rfl⟩
 have HNA : Hid (Nok mA.num):=hJQ (by rw [hmA]; exact (mkOf_ok hS0 0).2)
 have HNB : Hid (Nok mB.num):=hJQ (by rw [hmB]; exact (mkOf_ok hS1 1).2)
 rw [<- hmA,<- hkA] at HA
 rw [<- hmB,<- hkB] at HD
 have HPK : Hid (rdMk (cur D) G.fr = pick (mA,kA) (mB,kB)):=hJQ (by unfold rdMk; rw [hmA,hkA,hmB,hkB])
 have HSA : Hid ((Tryz.prog.info? 217).map (·.size) = some (mcells mA).toArray.size):=hJQ (by rw [List.size_toArray,mcells_len HNA.out]; exact size72)
 have HSB : Hid ((Tryz.prog.info? 217).map (·.size) = some (mcells mB).toArray.size):=hJQ (by rw [List.size_toArray,mcells_len HNB.out]; exact size72)
 have HZA : Hid (Z11.size = (mcells mA).toArray.size):=hJQ (by rw [z11_size,List.size_toArray,mcells_len HNA.out])
 have HZB : Hid (Z11.size = (mcells mB).toArray.size):=hJQ (by rw [z11_size,List.size_toArray,mcells_len HNB.out])
 have HOA : Hid ((mcells mA).toArray.all (·.oneCell') = true):=hJQ (all_oneCell_toArray (mcells_one _))
 have HOB : Hid ((mcells mB).toArray.all (·.oneCell') = true):=hJQ (all_oneCell_toArray (mcells_one _))
 clear hmA hkA hmB hkB hok hS0 hS1 hb1 hD h hd hn
 rw [HPK.out]
 go_enter Tryz.func173,Tryz.ntmps173
 go_upto_region 1 with (first | (with_reducible refine wpList_alloc72 rfl rfl ?_) | fail)
 rw [<- hw1]
 clear hw1
 go_upto_region 2 with (first
  | ((with_reducible refine HA.out.mono ?_); rintro e w2 ⟨rfl,hb2⟩; have HB2:=hJQ hb2; clear hb2)
  | (with_reducible refine wpList_alloc72 rfl rfl ?_)
  | ((with_reducible refine wpList_store_new rfl 217 (.tmp 4) (.tmp 11) rfl Z11 (mcells mA).toArray ?_ ?_ HSA.out HZA.out HOA.out ?_); rfl; rfl)
  | fail)
 try simp only [Act.put,List.setIfInBounds_toArray,List.set_cons_zero,List.set_cons_succ]
 obtain ⟨w3,hw3⟩ : ∃ w3,w3 = w2.alloc (.cells (mcells mA).toArray 217):=⟨_,rfl⟩
 rw [<- hw3]
 have HG4 : Hid (w3.heap[w2.heap.size]? = some (.cells (mcells mA).toArray 217 (0,0))):=hJQ (by rw [hw3]; exact new_block w2 _)
 have HB3 : Hid (Below w1.heap.size w1 w3):=hJQ (by rw [hw3]; exact HB2.out.trans ((box_below w2 _).mono HB2.out.size))
 clear hw3
 have HD3:=hJQ (HD.out w3 HB3.out)
 go_upto_region 3 with (first
  | ((with_reducible refine HD3.out.mono ?_); rintro e w4 ⟨rfl,hb4⟩; have HB4:=hJQ hb4; clear hb4)
  | (with_reducible refine wpList_alloc72 rfl rfl ?_)
  | ((with_reducible refine wpList_store_new rfl 217 (.tmp 6) (.tmp 16) rfl Z11 (mcells mB).toArray ?_ ?_ HSB.out HZB.out HOB.out ?_); rfl; rfl)
  | fail)
 try simp only [Act.put,List.setIfInBounds_toArray,List.set_cons_zero,List.set_cons_succ]
 obtain ⟨w5,hw5⟩ : ∃ w5,w5 = w4.alloc (.cells (mcells mB).toArray 217):=⟨_,rfl⟩
 rw [<- hw5]
 have HM : Hid (CtMid w w2.heap.size w4.heap.size mA mB w5):=hJQ (by
  have hb5 : Below w3.heap.size w3 w5:=by rw [hw5]; exact HB4.out.trans ((box_below w4 _).mono HB4.out.size)
  have hb15:=HB3.out.trans (hb5.mono HB3.out.size)
  exact ⟨(hb15.block _ (Array.getElem?_eq_some_iff.1 HR1.out).1).trans HR1.out,(hb5.block _ (Array.getElem?_eq_some_iff.1 HG4.out).1).trans HG4.out,by rw [hw5]; exact new_block w4 _,HB1.out.trans (hb15.mono HB1.out.size)⟩)
 clear hw5
 by_cases hkb : kB = false
 ·subst hkb
  have HMD:=hJQ (fun n => HM.out.kept (below_drewN (Below.refl _ _) n))
  go_wp2_with fail
  go_quiet (fail)
  have HRES : Hid (Ending.returned (.tuple #[.agg (mcells mA).toArray,.bool kA]) = .returned (.tuple #[.agg (mcells (pick (mA,kA) (mB,false)).1).toArray,.bool (pick (mA,kA) (mB,false)).2])):=hJQ (by unfold pick; rw [if_neg (by simp)])
  have HRG:=hJQ (range_whole (HMD.out nq).a)
  have HSI : Hid ((Tryz.prog.info? 217).map (·.size) = some (mcells mA).length):=hJQ (by rw [mcells_len HNA.out]; exact size72)
  have HTH:=hJQ (there_whole (n:=(mcells mA).toArray.size) (HMD.out nq).r (by rw [<- HZA.out]; exact Nat.le_refl _))
  have HEND:=hJQ (markin_end (mcells_len HNA.out) (HMD.out nq).r (HMD.out nq).below)
  go_wp2_with (first
   | ((with_reducible refine wpList_load_mid rfl 217 (.tmp 4) rfl w2.heap.size 0 ?_ (mcells mA) _ HRG.out Tryz.underlying217 ?_ HSI.out ?_); rfl; rfl)
   | ((with_reducible refine wpList_store_mid rfl 217 (.tmp 2) (.tmp 32) rfl w.heap.size 0 (mcells mA).toArray ?_ ?_ HTH.out HSA.out HOA.out ?_); rfl; rfl)
   | fail)
  exact bodyPost_ret (v:=.tuple #[.agg (mcells mA).toArray,.bool kA]) (results_ct rfl Tryz.underlying217 rfl _ _ w.heap.size (mcells mA) _ HSI.out rfl rfl (by exact HEND.out.1)) rfl ⟨HRES.out,HEND.out.2⟩
 have hkb' : kB = true:=by cases kB <;> simp_all
 subst hkb'
 clear hkb
 by_cases hka : kA = false
 ·subst hka
  have HMD:=hJQ (fun n => HM.out.kept (below_drewN (Below.refl _ _) n))
  go_wp2_with fail
  go_quiet (fail)
  have HRES : Hid (Ending.returned (.tuple #[.agg (mcells mB).toArray,.bool true]) = .returned (.tuple #[.agg (mcells (pick (mA,false) (mB,true)).1).toArray,.bool (pick (mA,false) (mB,true)).2])):=hJQ (by unfold pick; rw [if_pos ⟨rfl,.inl rfl⟩])
  have HRG:=hJQ (range_whole (HMD.out nq).b)
  have HSI : Hid ((Tryz.prog.info? 217).map (·.size) = some (mcells mB).length):=hJQ (by rw [mcells_len HNB.out]; exact size72)
  have HTH:=hJQ (there_whole (n:=(mcells mB).toArray.size) (HMD.out nq).r (by rw [<- HZB.out]; exact Nat.le_refl _))
  have HEND:=hJQ (markin_end (mcells_len HNB.out) (HMD.out nq).r (HMD.out nq).below)
  go_wp2_with (first
   | ((with_reducible refine wpList_load_mid rfl 217 (.tmp 6) rfl w4.heap.size 0 ?_ (mcells mB) _ HRG.out Tryz.underlying217 ?_ HSI.out ?_); rfl; rfl)
   | ((with_reducible refine wpList_store_mid rfl 217 (.tmp 2) (.tmp 31) rfl w.heap.size 0 (mcells mB).toArray ?_ ?_ HTH.out HSB.out HOB.out ?_); rfl; rfl)
   | fail)
  exact bodyPost_ret (v:=.tuple #[.agg (mcells mB).toArray,.bool true]) (results_ct rfl Tryz.underlying217 rfl _ _ w.heap.size (mcells mB) _ HSI.out rfl rfl (by exact HEND.out.1)) rfl ⟨HRES.out,HEND.out.2⟩
 ·have hka' : kA = true:=by cases kA <;> simp_all
  subst hka'
  clear hka
  have HFL : Hid ((Tryz.prog.info? 215).map (·.size) = some (ints mA.num).length):=hJQ (by rw [ints_length,HNA.out.1]; exact size70)
  have HTL : Hid ((Tryz.prog.info? 215).map (·.size) = some (ints mB.num).length):=hJQ (by rw [ints_length,HNB.out.1]; exact size70)
  have HNX:=hJQ (next_any (ints mA.num).toArray mA.num w5.drew HNA.out rfl)
  have HNL : Hid ((nxt mA.num).length = 8):=hJQ (nok_nxt HNA.out).1
  have HBL : Hid (mB.num.length = 8):=hJQ HNB.out.1
  have HMD:=hJQ (HM.out.kept (Below.refl _ _).drew)
  go_wp2_with fail
  refine wp_region_held_drew (S:=CtMid w w2.heap.size w4.heap.size mA mB) (by kernel_rfl) HMD.out (fun hHeld => ?_)
  refine take_op 0 18 (.bool true) rfl rfl (by kernel_rfl) (by kernel_rfl) (by kernel_rfl) (fun _ _ _ h => h) (.inl ⟨by rfl,fun w' hw' => by go_simp⟩) hHeld ?_
  simp only [List.set_cons_zero,List.set_cons_succ]
  refine take_op 1 19 (.bool true) rfl rfl (by kernel_rfl) (by kernel_rfl) (by kernel_rfl) (fun _ _ _ h => h) (.inl ⟨by rfl,fun w' hw' => by go_simp⟩) hHeld ?_
  simp only [List.set_cons_zero,List.set_cons_succ]
  refine take_op 2 20 (.bool true) rfl rfl (by kernel_rfl) (by kernel_rfl) (by kernel_rfl) (fun _ _ _ h => h) (.inl ⟨by rfl,fun w' hw' => by go_simp⟩) hHeld ?_
  simp only [List.set_cons_zero,List.set_cons_succ]
  refine take_op 3 21 (.bool false) rfl rfl (by kernel_rfl) (by kernel_rfl) (by kernel_rfl) (fun _ _ _ h => h) (.inl ⟨by rfl,fun w' hw' => by go_simp⟩) hHeld ?_
  simp only [List.set_cons_zero,List.set_cons_succ]
  refine take_op 4 22 (.bool false) rfl rfl (by kernel_rfl) (by kernel_rfl) (by kernel_rfl) (fun _ _ _ h => h) (.inl ⟨by rfl,fun w' hw' => by go_simp⟩) hHeld ?_
  simp only [List.set_cons_zero,List.set_cons_succ]
  refine take_op 5 23 (.pointer (some ⟨w4.heap.size,1,none⟩)) rfl rfl (by kernel_rfl) (by kernel_rfl) (by kernel_rfl) (fun _ _ _ h => h) (.inl ⟨by rfl,fun w' hw' => by go_simp⟩) hHeld ?_
  simp only [List.set_cons_zero,List.set_cons_succ]
  refine take_op 6 24 (.agg (ints mB.num).toArray) rfl rfl (by kernel_rfl) (by kernel_rfl) (by kernel_rfl) (fun _ _ _ h => h) (yieldsIf_load_mid (by rfl) 215 (.tmp 23) rfl w4.heap.size 1 rfl (ints mB.num) (.array 8 5) (fun w h => range_num HNB.out h.b) Tryz.underlying215 rfl HTL.out) hHeld ?_
  simp only [List.set_cons_zero,List.set_cons_succ]
  refine take_op 7 25 (.pointer (some ⟨w2.heap.size,1,none⟩)) rfl rfl (by kernel_rfl) (by kernel_rfl) (by kernel_rfl) (fun _ _ _ h => h) (.inl ⟨by rfl,fun w' hw' => by go_simp⟩) hHeld ?_
  simp only [List.set_cons_zero,List.set_cons_succ]
  refine take_op 8 26 (.agg (ints mA.num).toArray) rfl rfl (by kernel_rfl) (by kernel_rfl) (by kernel_rfl) (fun _ _ _ h => h) (yieldsIf_load_mid (by rfl) 215 (.tmp 25) rfl w2.heap.size 1 rfl (ints mA.num) (.array 8 5) (fun w h => range_num HNA.out h.a) Tryz.underlying215 rfl HFL.out) hHeld ?_
  simp only [List.set_cons_zero,List.set_cons_succ]
  refine wpAnyH_ready (rs:=[9]) (by kernel_rfl) (by simp) (AllReadyH.cons rfl (fun K hK => ?_) AllReadyH.nil)
  go_simp
  refine HNX.out.mono ?_
  rintro e w6 ⟨rfl,hb6⟩
  have HM6:=hJQ (HMD.out.kept hb6)
  clear hb6
  go_wp2_with fail
  refine hK.out _ _ HM6.out (fun hHeld2 => ?_)
  refine take_op 10 28 (.bool (decide (mB.num = nxt mA.num))) rfl rfl (by kernel_rfl) (by kernel_rfl) (by kernel_rfl) (fun _ _ _ h => h) (yields_eql70 (by rfl) (.tmp 24) (.tmp 27) rfl mB.num (nxt mA.num) rfl rfl HBL.out HNL.out) hHeld2 ?_
  simp only [List.set_cons_zero,List.set_cons_succ]
  refine take_op 11 29 (.bool (decide (mB.num = nxt mA.num))) rfl rfl (by kernel_rfl) (by kernel_rfl) (by kernel_rfl) (fun _ _ _ h => h) (.inl ⟨by rfl,fun w' hw' => by go_simp⟩) hHeld2 ?_
  simp only [List.set_cons_zero,List.set_cons_succ]
  refine take_op 12 30 (.bool (decide (mB.num = nxt mA.num))) rfl rfl (by kernel_rfl) (by kernel_rfl) (by kernel_rfl) (fun _ _ _ h => h) (.inl ⟨by rfl,fun w' hw' => by go_simp⟩) hHeld2 ?_
  simp only [List.set_cons_zero,List.set_cons_succ]
  refine wpAnyH_done (by kernel_rfl) ?_ _
  by_cases hq : mB.num = nxt mA.num
  ·rw [decide_eq_true hq]
   have HRES : Hid (Ending.returned (.tuple #[.agg (mcells mB).toArray,.bool true]) = .returned (.tuple #[.agg (mcells (pick (mA,true) (mB,true)).1).toArray,.bool (pick (mA,true) (mB,true)).2])):=hJQ (by unfold pick; rw [if_pos ⟨rfl,.inr hq⟩])
   have HRG:=hJQ (range_whole HM6.out.b)
   have HSI : Hid ((Tryz.prog.info? 217).map (·.size) = some (mcells mB).length):=hJQ (by rw [mcells_len HNB.out]; exact size72)
   have HTH:=hJQ (there_whole (n:=(mcells mB).toArray.size) HM6.out.r (by rw [<- HZB.out]; exact Nat.le_refl _))
   have HEND:=hJQ (markin_end (mcells_len HNB.out) HM6.out.r HM6.out.below)
   clear hq
   go_wp2_with (first
    | ((with_reducible refine wpList_load_mid rfl 217 (.tmp 6) rfl w4.heap.size 0 ?_ (mcells mB) _ HRG.out Tryz.underlying217 ?_ HSI.out ?_); rfl; rfl)
    | ((with_reducible refine wpList_store_mid rfl 217 (.tmp 2) (.tmp 31) rfl w.heap.size 0 (mcells mB).toArray ?_ ?_ HTH.out HSB.out HOB.out ?_); rfl; rfl)
    | fail)
   exact bodyPost_ret (v:=.tuple #[.agg (mcells mB).toArray,.bool true]) (results_ct rfl Tryz.underlying217 rfl _ _ w.heap.size (mcells mB) _ HSI.out rfl rfl (by exact HEND.out.1)) rfl ⟨HRES.out,HEND.out.2⟩
  ·rw [decide_eq_false hq]
   have HRES : Hid (Ending.returned (.tuple #[.agg (mcells mA).toArray,.bool true]) = .returned (.tuple #[.agg (mcells (pick (mA,true) (mB,true)).1).toArray,.bool (pick (mA,true) (mB,true)).2])):=hJQ (by unfold pick; rw [if_neg (by simp [hq])])
   have HRG:=hJQ (range_whole HM6.out.a)
   have HSI : Hid ((Tryz.prog.info? 217).map (·.size) = some (mcells mA).length):=hJQ (by rw [mcells_len HNA.out]; exact size72)
   have HTH:=hJQ (there_whole (n:=(mcells mA).toArray.size) HM6.out.r (by rw [<- HZA.out]; exact Nat.le_refl _))
   have HEND:=hJQ (markin_end (mcells_len HNA.out) HM6.out.r HM6.out.below)
   clear hq
   go_wp2_with (first
    | ((with_reducible refine wpList_load_mid rfl 217 (.tmp 4) rfl w2.heap.size 0 ?_ (mcells mA) _ HRG.out Tryz.underlying217 ?_ HSI.out ?_); rfl; rfl)
    | ((with_reducible refine wpList_store_mid rfl 217 (.tmp 2) (.tmp 32) rfl w.heap.size 0 (mcells mA).toArray ?_ ?_ HTH.out HSA.out HOA.out ?_); rfl; rfl)
    | fail)
   exact bodyPost_ret (v:=.tuple #[.agg (mcells mA).toArray,.bool true]) (results_ct rfl Tryz.underlying217 rfl _ _ w.heap.size (mcells mA) _ HSI.out rfl rfl (by exact HEND.out.1)) rfl ⟨HRES.out,HEND.out.2⟩
open Go.ChangeShapes Go.WideShapes Go.ChangeAt Go.RowKit

theorem lcells_splice {p : Nat} {G : Lg} {bv : Value} {m' : Mk} (h : Nok G.m.num) (h' : Nok m'.num) : splice (lcells p G bv) 3 (mcells m') = lcells p { G with m:=m' } bv:=by
 unfold splice lcells
 rw [mcells_len h']
 simp [mcells_len h]
theorem lcells_set {p : Nat} {G : Lg} {bv v : Value} (h : Nok G.m.num) : (lcells p G bv).set 14 v = lcells p G v:=by
 unfold lcells
 simp only [List.set_cons_succ]
 rw [List.set_append_right _ _ (by rw [mcells_len h]; decide),mcells_len h]
 rfl
theorem set_mark {w : World} {q p : Nat} {G : Lg} {bv : Value} {m' : Mk} (hN : Nok G.m.num) (hN' : Nok m'.num) (h : w.heap[q]? = some (.cells (lcells p G bv).toArray 219 (0,0))) : (w.setCells q 3 (mcells m')).heap[q]? = some (.cells (lcells p { G with m:=m' } bv).toArray 219 (0,0)):=by
 rw [setCells_splice (mcells m') 3 (lcells p G bv) w h (by rw [mcells_len hN',lcells_len hN]; decide),lcells_splice hN hN']
theorem set_bytes {w : World} {q p : Nat} {G : Lg} {bv v : Value} (hN : Nok G.m.num) (h : w.heap[q]? = some (.cells (lcells p G bv).toArray 219 (0,0))) : (w.setCell ⟨q,14,none⟩ v).heap[q]? = some (.cells (lcells p G v).toArray 219 (0,0)):=by
 have:=heap_setCell_same w q 14 _ 219 v h
 rwa [List.setIfInBounds_toArray,lcells_set hN] at this
theorem there_part {w : World} {g o n : Nat} {cs : Array Value} {t : TypeId} (h : w.heap[g]? = some (.cells cs t (0,0))) (hn : o + n <= cs.size) : w.there g o n:=fun j hj => by
 refine ⟨?_,frozen_of_row w g _ _ _ h⟩
 rw [cell_of_row w g _ _ t _ h,Array.getElem?_eq_getElem (by omega)]; rfl
theorem Kl.of_grown {B : Bz} {q : Nat} {w w' : World} {cs : Array Value} {fr : Nat × Nat} (hq : w.heap[q]? = some (.cells cs 219 fr)) (hB : B <= q) (hz : ¬ B.z q) (hg : w.grownBy w' (some q)) : Kl B w w' :=
 ⟨(Below.refl _ _).grown hg (Nat.le_trans hB (Nat.le_of_lt (Array.getElem?_eq_some_iff.1 hq).1)) (fun k e => by injection e with e; omega),fun k o hk ht => by
  refine (hg.block k (Array.getElem?_eq_some_iff.1 hk).1 (fun e => ?_)).trans hk
  injection e with e
  subst e
  rw [hq] at hk
  injection hk with hk
  rcases ht with ht | ht
  ·exact hz ht
  ·exact (ht _ _ _ hk.symm).2.2.2.2 rfl⟩
theorem PDisk.grown {w w' : World} {B : Bz} {p q : Nat} {D : Dk} {cs : Array Value} {fr : Nat × Nat} (h : PDisk w B p D) (hq : w.heap[q]? = some (.cells cs 219 fr)) (hg : w.grownBy w' (some q)) : PDisk w' B p D :=
 h.tags hg.size fun k cs' t fr' hk ht => by
  refine (hg.block k (Array.getElem?_eq_some_iff.1 hk).1 (fun e => ?_)).trans hk
  injection e with e
  subst e
  rw [hq] at hk
  injection hk with hk
  injection hk with _ hk _
  subst hk
  rcases ht with h | h | h <;> cases h
theorem app5_l {l : List Value} {ds : List Deferred} {o : Oper} {w : World} {K : Act -> World -> Prop} {Q : Exit -> Act -> World -> Prop} (d : Nat) (hd : o.dst = some d) (s x : Operand)
  (ho : o.op = .call { callee:=.builtin .append,args:=#[s,x],argTypes:=#[82,82] }) (B : Nat) (v : Value) (n : Nat) (xs : List Value) (hs : (Act.mk l.toArray ds).eval s = v) (hown : w.ownsRow B 5 1 v n xs) (A : Option Addr) (m c : Nat) (zs : List Int)
  (hx : (Act.mk l.toArray ds).eval x = .slice A m c) (hr : Reads w A m zs) (h47 : n + m <= 140737488355328) (hB : B <= w.heap.size)
  (h : ∀ v' w',w'.ownsRow B 5 1 v' (n + m) (xs ++ ints zs) -> w.grownBy w' v.ownBlock -> K (Act.mk (l.set d v').toArray ds) w') : o.wp Tryz.prog (Act.mk l.toArray ds) w K Q:=by
 obtain ⟨i0,hi,hz0,hz1,hz2⟩:=info_parts info5
 obtain ⟨v',w',hrun,h2,h3⟩:=run_append_rd w B o.type i0 hi hz0 hz1 hz2 v n xs hown A m c zs hr h47 hB
 unfold Oper.wp execOp
 simp only [ho,resolve,invoke,builtin,Sem.run_bind,Sem.run_pure,Result.andThen_ok,List.map_toArray,List.map_cons,List.map_nil,hs,hx,hrun]
 have e:=put_lit l ds o.dst d v' hd
 show K ((Act.mk l.toArray ds).put o.dst v') w'
 rw [e]; exact h v' w' h2 h3
theorem grown_of_below' {w w3 : World} {q : Option Nat} (h : Below w.heap.size w w3) (n : Nat) : w.grownBy (w3.drewN n) q:=⟨h.os,h.tape,h.output,h.size,fun k hk _ => h.block k hk⟩
def FdPost (w : World) (q p fr sz : Nat) (D : Dk) (e : Ending) (w' : World) : Prop :=
 w.grownBy w' (some q) /\ ((∃ m bs bv,e = .returned (.bool true) /\ Found (cur D) fr sz m bs /\ w'.heap[q]? = some (.cells (lcells p ⟨fr,sz,m,bs⟩ bv).toArray 219 (0,0)) /\ w'.ownsRow w.heap.size 5 1 bv bs.length (ints bs)) ∨
  (e = .returned (.bool false) /\ ∀ m bs,¬ Found (cur D) fr sz m bs))
def FdRel (w : World) (q p fr sz : Nat) (m : Mk) (L : List (List Int)) (b0 g3 : Nat) (v5 : Value) (wr : World) : Prop :=
 ∃ (i t : Nat) (bv : Value),t = b0 + i /\ v5 = .int .i64 (t : Int) /\ 64 * i < m.used + 64 /\ wr.heap[q]? = some (.cells (lcells p ⟨fr,sz,m,[]⟩ bv).toArray 219 (0,0)) /\ wr.ownsRow w.heap.size 5 1 bv (min m.used (64 * i)) (ints (rd L b0 (min m.used (64 * i)))) /\
  wr.heap[g3]? = some (.cells (mcells m).toArray 217 (0,0)) /\ w.grownBy wr (some q)
theorem fd_next {w wr w1 w2 : World} {q p fr sz i c n b0 g3 : Nat} {m : Mk} {L : List (List Int)} {bv v2 : Value} {sv : List Int} (hN : Nok m.num) (hn : n = min m.used (64 * i)) (hlt : n < m.used) (hc : c = min 64 (m.used - n)) (hq : wr.heap[q]? = some (.cells (lcells p ⟨fr,sz,m,[]⟩ bv).toArray 219 (0,0)))
  (hsv : sv = L.getD (b0 + i) []) (hsl : sv.length = 64) (hg3 : wr.heap[g3]? = some (.cells (mcells m).toArray 217 (0,0))) (hg : w.grownBy wr (some q)) (hrow : wr.ownsRow w.heap.size 5 1 bv n (ints (rd L b0 n))) (hb : Below wr.heap.size wr w1) (ho : w2.ownsRow w.heap.size 5 1 v2 (n + c) (ints (rd L b0 n) ++ ints (sv.take c))) (hgr : w1.grownBy w2 bv.ownBlock) :
  FdRel w q p fr sz m L b0 g3 (.int .i64 (((b0 + i : Nat) : Int) + 1)) (w2.setCell ⟨q,14,none⟩ v2):=by
 have hq1:=(hb.block q (Array.getElem?_eq_some_iff.1 hq).1).trans hq
 have hrow1:=own_below hrow hb
 have hq2 : w2.heap[q]? = some (.cells (lcells p ⟨fr,sz,m,[]⟩ bv).toArray 219 (0,0)):=by
  refine (hgr.block q (Array.getElem?_eq_some_iff.1 hq1).1 (fun e => ?_)).trans hq1
  exact own_ne hrow1 hq1 (by decide) e.symm
 have hg31:=(hb.block g3 (Array.getElem?_eq_some_iff.1 hg3).1).trans hg3
 have hg32 : w2.heap[g3]? = some (.cells (mcells m).toArray 217 (0,0)):=by
  refine (hgr.block g3 (Array.getElem?_eq_some_iff.1 hg31).1 (fun e => ?_)).trans hg31
  exact own_ne hrow1 hg31 (by decide) e.symm
 have hn64 : n = 64 * i:=by omega
 have hnc : n + c = min m.used (64 * (i + 1)):=by omega
 have hrd : rd L b0 (n + c) = rd L b0 n ++ sv.take c:=by
  rw [hn64,hsv]
  exact rd_more L _ i c (by omega) (by rw [<- hsv]; exact hsl)
 have hne : g3 ≠ q:=fun e => by rw [e,hq2] at hg32; injection hg32 with hg32; injection hg32 with _ h _; cases h
 have hgw : w.grownBy w2 (some q):=by
  refine ⟨hgr.os.trans (hb.os.trans hg.os),hgr.tape.trans (hb.tape.trans hg.tape),hgr.output.trans (hb.output.trans hg.output),Nat.le_trans hg.size (Nat.le_trans hb.size hgr.size),fun k hk hkq => ?_⟩
  refine ((hgr.block k (Nat.lt_of_lt_of_le hk (Nat.le_trans hg.size hb.size)) (fun e => ?_)).trans (hb.block k (Nat.lt_of_lt_of_le hk hg.size))).trans (hg.block k hk hkq)
  have:=own_ge hrow k e.symm
  omega
 refine ⟨i + 1,b0 + i + 1,v2,by omega,by go_num,by omega,set_bytes hN hq2,?_,?_,?_⟩
 ·rw [<- hnc,hrd]
  have h:=ownsRow_setCell_other ho (own_ne ho hq2 (by decide)) v2 (a:=⟨q,14,none⟩)
  have e : ints (rd L b0 n ++ sv.take c) = ints (rd L b0 n) ++ ints (sv.take c):=by simp [ints]
  rw [e]; exact h
 ·rw [heap_setCell_other w2 _ _ _ hne]; exact hg32
 ·exact hgw.trans (setCells_grown [v2] 14 w2)
theorem arr_to {W : World} {g : Nat} {s : List Int} (hs : Sok s) (hg : W.heap[g]? = some (.cells (ints s).toArray 151 (0,0))) (c : Nat) (hc : c <= 64) :
  ∃ S : Value,(∀ w' : World,(Instr.sliceAt 151 (.pointer (some ⟨g,0,none⟩)) none (some (.int .i64 (c : Int))) none).run Tryz.prog w' = .ok S w') /\ ∃ (A : Option Addr) (k : Nat),S = .slice A c k /\ Reads W A c (s.take c):=by
 obtain ⟨i0,hi,hz0,hz1,hz2⟩:=info_parts info5
 have ha : Tryz.prog.arrayLen 151 = 64:=by kernel_rfl
 have he : Tryz.prog.elem 151 = 5:=by kernel_rfl
 have hu : Tryz.prog.underlying 151 = some (.array (Tryz.prog.arrayLen 151) (Tryz.prog.elem 151)):=by kernel_rfl
 refine ⟨.slice (some ⟨g,0,none⟩) c 64,fun w' => ?_,some ⟨g,0,none⟩,64,rfl,?_⟩
 ·rw [run_sliceAt_array_h (P:=Tryz.prog) w' 151 ⟨g,0,none⟩ hu .i64 (c : Int) (by omega) (by rw [ha]; omega),ha,he]
  simp [sizeOf,typeInfo,hi,hz1,slicedAt,Go.WideShapes.add_plain]
 ·exact reads_mk (by rw [List.length_take,hs.1]; omega) (fun _ => ⟨g,0,rfl,fun i hi => by
   rw [cell_of_row W g _ _ _ _ hg,List.getElem?_toArray,take_getD _ _ _ hi,Nat.zero_add]
   unfold ints
   rw [List.getElem?_map,List.getElem?_eq_getElem (by rw [hs.1]; omega),getD_eq _ (by rw [hs.1]; omega)]; rfl⟩) (bys_take _ hs.2)
theorem fd_cells {wr w1 w2 : World} {q p fr sz n g3 base : Nat} {m : Mk} {bv : Value} {xs : List Value} (hN : Nok m.num) (hq : wr.heap[q]? = some (.cells (lcells p ⟨fr,sz,m,[]⟩ bv).toArray 219 (0,0))) (hg3 : wr.heap[g3]? = some (.cells (mcells m).toArray 217 (0,0))) (hrow : wr.ownsRow base 5 1 bv n xs) (hb : Below wr.heap.size wr w1) (hgr : w1.grownBy w2 bv.ownBlock) :
  w2.cell? ⟨q,14,none⟩ = some bv /\ w2.cell? ⟨g3,10,none⟩ = some (.int .i64 (m.used : Int)) /\ w2.frozen? ⟨q,14,none⟩ = false /\ ∀ v,(w2.setCell ⟨q,14,none⟩ v).cell? ⟨g3,10,none⟩ = some (.int .i64 (m.used : Int)):=by
 have hq1:=(hb.block q (Array.getElem?_eq_some_iff.1 hq).1).trans hq
 have hrow1:=own_below hrow hb
 have hq2 : w2.heap[q]? = some (.cells (lcells p ⟨fr,sz,m,[]⟩ bv).toArray 219 (0,0)) :=
  (hgr.block q (Array.getElem?_eq_some_iff.1 hq1).1 (fun e => own_ne hrow1 hq1 (by decide) e.symm)).trans hq1
 have hg31:=(hb.block g3 (Array.getElem?_eq_some_iff.1 hg3).1).trans hg3
 have hg32 : w2.heap[g3]? = some (.cells (mcells m).toArray 217 (0,0)) :=
  (hgr.block g3 (Array.getElem?_eq_some_iff.1 hg31).1 (fun e => own_ne hrow1 hg31 (by decide) e.symm)).trans hg31
 have hne : g3 ≠ q:=fun e => by rw [e,hq2] at hg32; injection hg32 with hg32; injection hg32 with _ h _; cases h
 have hu : ∀ W : World,W.heap[g3]? = some (.cells (mcells m).toArray 217 (0,0)) -> W.cell? ⟨g3,10,none⟩ = some (.int .i64 (m.used : Int)):=fun W h => by
  rw [cell_of_row W _ _ _ _ _ h,List.getElem?_toArray]; exact mcells_used hN
 exact ⟨(LCells.of (G:=⟨fr,sz,m,[]⟩) hq2 hN).c14,hu _ hg32,frozen_of_row _ _ _ _ _ hq2,fun v => hu _ ((heap_setCell_other w2 _ _ _ hne).trans hg32)⟩
theorem fd_end {w wr w9 : World} {q p fr sz n b0 : Nat} {m : Mk} {D : Dk} {bv : Value} {l : List (List Int)} {r : List Int} (hpk : rdMk (cur D) fr = (m,true)) (hh : m.half <= 1) (hu : m.used <= sz * 64) (hb0 : b0 = fr + 2 + m.half * sz) (hn : n = m.used) (hq : wr.heap[q]? = some (.cells (lcells p ⟨fr,sz,m,[]⟩ bv).toArray 219 (0,0)))
  (hrow : wr.ownsRow w.heap.size 5 1 bv n (ints (rd (cur D) b0 n))) (hgr : w.grownBy wr (some q)) (hb : Below wr.heap.size wr w9) (hr : Rc (rd (cur D) b0 n) l r) (hg : gt r = none) : FdPost w q p fr sz D (.returned (.bool (decide (r = [])))) w9:=by
 have hgw : w.grownBy w9 (some q):=by
  refine ⟨hb.os.trans hgr.os,hb.tape.trans hgr.tape,hb.output.trans hgr.output,Nat.le_trans hgr.size hb.size,fun k hk hkq => (hb.block k (Nat.lt_of_lt_of_le hk hgr.size)).trans (hgr.block k hk hkq)⟩
 subst hn hb0
 refine ⟨hgw,?_⟩
 by_cases he : r = []
 ·subst he
  refine .inl ⟨m,rd (cur D) (fr + 2 + m.half * sz) m.used,bv,rfl,⟨hpk,hh,hu,rfl,l,hr⟩,(hb.block q (Array.getElem?_eq_some_iff.1 hq).1).trans hq,?_⟩
  rw [rd_len]; exact own_below hrow hb
 ·refine .inr ⟨by rw [decide_eq_false he],fun m' bs' hf => ?_⟩
  have e:=hpk.symm.trans hf.pk
  injection e with e _
  subst e
  obtain ⟨l',hl'⟩:=hf.whole
  rw [<- hf.data] at hl'
  exact he (hr.same hl' hg gt_nil).2
open Go.ChangeShapes Go.WideShapes Go.ChangeAt Go.RowKit

set_option maxHeartbeats 2000000 in
theorem find_any (B : Bz) (q p fr sz : Nat) (D : Dk) (w : World) (hD : PDisk w B p D) (hq : w.heap[q]? = some (.cells (lcells p ⟨fr,sz,mk0,[]⟩ (.slice none 0 0)).toArray 219 (0,0))) (hd : D.dead = false) (hfit : fr + 2 + 2 * sz <= D.firm.length) (hn : D.firm.length <= 65536) :
  Calls Tryz.prog 151 #[.pointer (some ⟨q,0,none⟩)] w (FdPost w q p fr sz D):=by
 have hok : Dok D:=by obtain ⟨_,_,_,h⟩:=hD; exact h.ok
 have hLok:=cur_ok hok
 have hLn : (cur D).length = D.firm.length:=cur_len D
 have hc:=LCells.of (G:=⟨fr,sz,mk0,[]⟩) hq nok0
 have HCT:=hJQ (count_any B q p ⟨fr,sz,mk0,[]⟩ (.slice none 0 0) D w hD hc hd (by show fr <= 65536; omega) (by show fr + 1 < _; omega))
 obtain ⟨L,hL⟩ : ∃ L,L = cur D:=⟨_,rfl⟩
 obtain ⟨m,hm⟩ : ∃ m,m = (rdMk (cur D) fr).1:=⟨_,rfl⟩
 obtain ⟨k,hk⟩ : ∃ k,k = (rdMk (cur D) fr).2:=⟨_,rfl⟩
 have hmok:=rdMk_ok hLok (fr:=fr) (by rw [hLn]; omega)
 rw [<- hm] at hmok
 have HNM:=hJQ hmok.2
 have HSL:=hJQ hmok.1
 have HMK : Hid (rdMk (cur D) fr = (m,k)):=hJQ (by rw [hm,hk])
 change Hid (Calls _ _ _ _ fun e w' => e = .returned (.tuple #[.agg (mcells (rdMk (cur D) fr).1).toArray,.bool (rdMk (cur D) fr).2]) /\ _) at HCT
 rw [<- hm,<- hk] at HCT
 have HQ:=hJQ hq
 have HDK:=hJQ hD
 have HLK:=hJQ hLok
 have HLN:=hJQ hLn
 have HD:=hJQ hd
 have HSA : Hid ((Tryz.prog.info? 217).map (·.size) = some (mcells m).toArray.size):=hJQ (by rw [List.size_toArray,mcells_len HNM.out]; exact size72)
 have HSZ : Hid ((Tryz.prog.info? 217).map (·.size) = some (mcells m).length):=hJQ (by rw [mcells_len HNM.out]; exact size72)
 have HZA : Hid (Z11.size = (mcells m).toArray.size):=hJQ (by rw [z11_size,List.size_toArray,mcells_len HNM.out])
 have HOA : Hid ((mcells m).toArray.all (·.oneCell') = true):=hJQ (all_oneCell_toArray (mcells_one _))
 have hql:=(Array.getElem?_eq_some_iff.1 hq).1
 clear hm hk hmok hq hD hLok hLn hd hok hc hL
 go_enter Tryz.func151,Tryz.ntmps151
 go_upto_region 2 with (first
  | ((with_reducible refine HCT.out.mono ?_); rintro e w2 ⟨rfl,hb2⟩; have HB2:=hJQ hb2; clear hb2)
  | (with_reducible refine wpList_alloc72 rfl rfl ?_)
  | ((with_reducible refine wpList_store_new rfl 217 (.tmp 3) (.tmp 10) rfl Z11 (mcells m).toArray ?_ ?_ HSA.out HZA.out HOA.out ?_); rfl; rfl)
  | fail)
 try simp only [Act.put,List.setIfInBounds_toArray,List.set_cons_zero,List.set_cons_succ]
 obtain ⟨w3,hw3⟩ : ∃ w3,w3 = w2.alloc (.cells (mcells m).toArray 217):=⟨_,rfl⟩
 rw [<- hw3]
 have HG3 : Hid (w3.heap[w2.heap.size]? = some (.cells (mcells m).toArray 217 (0,0))):=hJQ (by rw [hw3]; exact new_block w2 _)
 have HB3 : Hid (Below w.heap.size w w3):=hJQ (by rw [hw3]; exact HB2.out.trans ((box_below w2 _).mono HB2.out.size))
 have HQ3 : Hid (w3.heap[q]? = some (.cells (lcells p ⟨fr,sz,mk0,[]⟩ (.slice none 0 0)).toArray 219 (0,0))):=hJQ ((HB3.out.block q hql).trans HQ.out)
 clear hw3
 have hc3:=LCells.of (G:=⟨fr,sz,mk0,[]⟩) HQ3.out nok0
 have HC3:=hJQ hc3
 have g9 : w3.cell? ⟨w2.heap.size,9,none⟩ = some (.int .i64 (m.half : Int)):=by rw [cell_of_row w3 _ _ _ _ _ HG3.out,List.getElem?_toArray]; exact mcells_half HNM.out
 have g10 : w3.cell? ⟨w2.heap.size,10,none⟩ = some (.int .i64 (m.used : Int)):=by rw [cell_of_row w3 _ _ _ _ _ HG3.out,List.getElem?_toArray]; exact mcells_used HNM.out
 have HMO : Hid (∀ n : Nat,Calls Tryz.prog 174 #[.pointer (some ⟨q,0,none⟩)] (w3.drewN n) fun e w' => e = .returned (.int .i64 ((sz : Int) * 64)) /\ w' = w3.drewN n):=hJQ (fun n =>
  (most_any q p ⟨fr,sz,mk0,[]⟩ (.slice none 0 0) (w3.drewN n) (HC3.out.kept (below_drewN (Below.refl _ _) n)) (by show sz <= 65536; omega)).mono fun _ _ ⟨h1,h2⟩ => ⟨h1,h2.symm⟩)
 clear hc3
 have hh0 : (0 : Int) <= (m.half : Int):=by omega
 have hu0 : (0 : Int) <= (m.used : Int):=by omega
 cases k with
 | false =>
  go_wp2_with fail
  go_quiet (fail)
  go_wp2_with fail
  go_ret
  exact ⟨(grown_of_below' HB3.out nq),.inr ⟨rfl,fun m' bs' hf => by have h:=hf.pk; rw [HMK.out] at h; injection h with _ h; cases h⟩⟩
 | true =>
  by_cases h1 : 1 < m.half
  ·have h1' : (1 : Int) < (m.half : Int):=by omega
   go_wp2_with fail
   go_quiet (fail)
   go_wp2_with fail
   go_ret
   exact ⟨(grown_of_below' HB3.out nq),.inr ⟨rfl,fun m' bs' hf => by have h:=hf.pk; rw [HMK.out] at h; injection h with h _; have:=hf.half; rw [<- h] at this; omega⟩⟩
  ·have h1' : ¬ (1 : Int) < (m.half : Int):=by omega
   by_cases h2 : sz * 64 < m.used
   ·have h2' : (sz : Int) * 64 < (m.used : Int):=by omega
    go_wp2_with fail
    go_quiet ((go_at_call 174; exact Calls.quiet_of_same (HMO.out _)))
    go_wp2_with fail
    go_ret
    exact ⟨(grown_of_below' HB3.out nq),.inr ⟨rfl,fun m' bs' hf => by have h:=hf.pk; rw [HMK.out] at h; injection h with h _; have:=hf.used; rw [<- h] at this; omega⟩⟩
   ·have h2' : ¬ (sz : Int) * 64 < (m.used : Int):=by omega
    go_wp2_with fail
    go_quiet ((go_at_call 174; exact Calls.quiet_of_same (HMO.out _)))
    have HRG:=hJQ (range_whole (w:=w3.drewN nq) HG3.out)
    have HTH : Hid ((w3.drewN nq).there q 3 (mcells m).toArray.size):=hJQ (there_part (w:=w3.drewN nq) HQ3.out (by rw [List.size_toArray,List.size_toArray,mcells_len HNM.out,lcells_len nok0]; decide))
    go_upto_region 5 with (first
     | ((with_reducible refine wpList_load_mid rfl 217 (.tmp 3) rfl w2.heap.size 0 ?_ (mcells m) _ HRG.out Tryz.underlying217 ?_ HSZ.out ?_); rfl; rfl)
     | ((with_reducible refine wpList_store_mid rfl 217 (.tmp 29) (.tmp 27) rfl q 3 (mcells m).toArray ?_ ?_ HTH.out HSA.out HOA.out ?_); rfl; rfl)
     | fail)
    try simp only [Act.put]
    obtain ⟨w4,hw4⟩ : ∃ w4,w4 = (w3.drewN nq).setCells q 3 (mcells m):=⟨_,rfl⟩
    have hw4' : (w3.drewN nq).setCells q 3 (mcells m).toArray.toList = w4:=hw4.symm
    rw [hw4']
    clear hw4'
    have HQ4 : Hid (w4.heap[q]? = some (.cells (lcells p ⟨fr,sz,m,[]⟩ (.slice none 0 0)).toArray 219 (0,0))):=hJQ (by rw [hw4]; exact set_mark (w:=w3.drewN nq) (G:=⟨fr,sz,mk0,[]⟩) nok0 HNM.out HQ3.out)
    have HGW : Hid (w.grownBy w4 (some q)):=hJQ (by rw [hw4]; exact (grown_of_below' HB3.out nq).trans (setCells_grown _ _ _))
    have hne3 : w2.heap.size ≠ q:=by have:=HB2.out.size; omega
    have HG4 : Hid (w4.heap[w2.heap.size]? = some (.cells (mcells m).toArray 217 (0,0))):=hJQ (by rw [hw4,setCells_other _ _ _ _ hne3]; exact HG3.out)
    have k9 : w4.cell? ⟨w2.heap.size,9,none⟩ = some (.int .i64 (m.half : Int)):=by rw [cell_of_row w4 _ _ _ _ _ HG4.out,List.getElem?_toArray]; exact mcells_half HNM.out
    obtain ⟨b0,hb0⟩ : ∃ b0,b0 = fr + 2 + m.half * sz:=⟨_,rfl⟩
    have hbg:=(begin_any q p ⟨fr,sz,m,[]⟩ (.slice none 0 0) m.half w4 (LCells.of HQ4.out HNM.out) (by show fr <= 65536; omega) (by show sz <= 65536; omega) (by omega))
    change Calls _ _ _ _ fun e w' => e = .returned (.int .i64 ((fr + 2 + m.half * sz : Nat) : Int)) /\ _ at hbg
    rw [<- hb0] at hbg
    have HBG:=hJQ hbg
    have hsz:=half_le (h:=m.half) (sz:=sz) (by omega)
    have HB0:=hJQ hb0
    have hbl : b0 <= fr + 2 + sz:=by omega
    clear hw4 hbg hb0 hsz g9 g10
    go_wp2_with fail
    refine HBG.out.mono ?_
    rintro e w5 ⟨rfl,nb,rfl⟩
    have HST : Hid (FdRel w q p fr sz m (cur D) b0 w2.heap.size (.int .i64 (b0 : Int)) (w4.drewN nb)):=hJQ ⟨0,b0,.slice none 0 0,rfl,rfl,by omega,HQ4.out,by rw [Nat.mul_zero,Nat.min_zero]; exact World.ownsRow_nil _ _ _ _,HG4.out,HGW.out.trans (grown_of_below' (below_drewN (Below.refl _ _) nb) 0)⟩
    clear h2' h1' hu0 hh0
    have h2n : m.used <= sz * 64:=by omega
    go_wp2_with fail
    go_loopw [5,6] (fun v5 _ wr => FdRel w q p fr sz m (cur D) b0 w2.heap.size v5 wr) (fun v5 _ _ => (b0 + sz + 1) - (intOf v5).toNat)
    case atStart => exact HST.out
    case round =>
     obtain ⟨i,t,bv,ht,rfl,hi,hqr,hrow,hg3,hgr⟩:=hrel
     obtain ⟨n,hn'⟩ : ∃ n,n = min m.used (64 * i):=⟨_,rfl⟩
     rw [<- hn'] at hrow
     have hlc:=LCells.of (G:=⟨fr,sz,m,[]⟩) hqr HNM.out
     obtain ⟨A,cb,rfl,hncb,hcbm,-⟩:=own_form hrow
     have b14:=hlc.c14
     have r10 : wr.cell? ⟨w2.heap.size,10,none⟩ = some (.int .i64 (m.used : Int)):=by rw [cell_of_row wr _ _ _ _ _ hg3,List.getElem?_toArray]; exact mcells_used HNM.out
     have HQR:=hJQ hqr
     have HROW:=hJQ hrow
     have HG3R:=hJQ hg3
     have HGR:=hJQ hgr
     have HLC:=hJQ hlc
     have HT:=hJQ ht
     have HI:=hJQ hi
     have HNN:=hJQ hn'
     by_cases hlt : n < m.used
     ·have hlt' : (n : Int) < (m.used : Int):=by omega
      have hi2 : t < b0 + sz:=by omega
      have htn : t < D.firm.length:=by omega
      obtain ⟨sv,hsv⟩ : ∃ sv,sv = (cur D).getD t []:=⟨_,rfl⟩
      have HSO : Hid (Sok sv):=hJQ (by rw [hsv]; exact lok_getD HLK.out (by rw [HLN.out]; exact htn))
      have HSV : Hid (sv = (cur D).getD (b0 + i) []):=hJQ (by rw [hsv,ht])
      have HLR:=hJQ (fun n' => lread_any B q p t ⟨fr,sz,m,[]⟩ (.slice A n cb) D (wr.drewN n') ((HDK.out.grown HQ.out hgr).kept (below_drewN (Below.refl _ _) n')) (hlc.kept (below_drewN (Below.refl _ _) n')) HD.out htn)
      rw [<- hsv] at HLR
      obtain ⟨C,hC⟩ : ∃ C,C = (ints sv).toArray:=⟨_,rfl⟩
      rw [<- hC] at HLR
      have HC:=hJQ hC
      have HS2 : Hid ((Tryz.prog.info? 151).map (·.size) = some C.size):=hJQ (by rw [hC,List.size_toArray,ints_length,HSO.out.1]; exact size86)
      have HZC : Hid (Z64.size = C.size):=hJQ (by rw [z64_size,hC,List.size_toArray,ints_length,HSO.out.1])
      have HON : Hid (C.all (·.oneCell') = true):=hJQ (by rw [hC]; exact all_oneCell_toArray (ints_one _))
      have ht0 : (0 : Int) <= (t : Int):=by omega
      have ht1 : (t : Int) <= 200000:=by omega
      clear hqr hrow hg3 hgr hlc ht hi hn' hsv hC
      go_wp2_with fail
      go_quiet (fail)
      go_upto_region 9 with (first
       | ((with_reducible refine (HLR.out _).mono ?_); rintro e w6 ⟨rfl,hb6⟩; have HB6:=hJQ hb6; clear hb6)
       | (with_reducible refine wpList_alloc86 rfl rfl ?_)
       | ((with_reducible refine wpList_store_new rfl 151 (.tmp 6) (.tmp 46) rfl Z64 C ?_ ?_ HS2.out HZC.out HON.out ?_); rfl; rfl)
       | fail)
      try simp only [Act.put,List.setIfInBounds_toArray,List.set_cons_zero,List.set_cons_succ]
      have HW7 : Hid (Below wr.heap.size wr (w6.alloc (.cells C 151)).drew):=hJQ (((below_drewN (Below.refl _ _) _).trans (HB6.out.trans ((box_below w6 _).mono HB6.out.size))).drew)
      have HG7 : Hid ((w6.alloc (.cells C 151)).drew.heap[w6.heap.size]? = some (.cells (ints sv).toArray 151 (0,0))):=hJQ (by rw [<- HC.out]; exact new_block w6 _)
      obtain ⟨w7,hw7⟩ : ∃ w7,w7 = w6.alloc (.cells C 151):=⟨_,rfl⟩
      rw [<- hw7] at HW7 HG7 ⊢
      clear hw7
      obtain ⟨c,hc⟩ : ∃ c,c = min 64 (m.used - n):=⟨_,rfl⟩
      have hw59 : IntKind.i64.wrap ((m.used : Int) - (n : Int)) = (m.used : Int) - (n : Int):=by rw [IntKind.wrap_i64]; omega
      have hm60 : min (64 : Int) ((m.used : Int) - (n : Int)) = (c : Int):=by omega
      have hc64 : c <= 64:=by omega
      obtain ⟨S61,hs61,A61,k61,rfl,hr61⟩:=arr_to (W:=w7.drew) (g:=w6.heap.size) (s:=sv) HSO.out HG7.out c hc64
      have HCC:=hJQ hc
      have HR61:=hJQ hr61
      have l14 : w7.cell? ⟨q,14,none⟩ = some (.slice A n cb):=(HW7.out.cell (p:=⟨q,14,none⟩) (cell_lt b14)).trans b14
      have HOW:=hJQ (own_below HROW.out HW7.out)
      have HWS : Hid (w.heap.size <= w7.drew.heap.size):=hJQ (Nat.le_trans HGR.out.size HW7.out.size)
      have h47 : n + c <= 140737488355328:=by omega
      have HS9 : Hid (w7.drew.cell? ⟨w2.heap.size,10,none⟩ = some (.int .i64 (m.used : Int))):=hJQ ((HW7.out.cell (p:=⟨w2.heap.size,10,none⟩) (cell_lt r10)).trans r10)
      have HNX:=hJQ (fun (v2 : Value) (w8 : World) (ho : w8.ownsRow w.heap.size 5 1 v2 (n + c) (ints (rd (cur D) b0 n) ++ ints (sv.take c))) (hg : w7.drew.grownBy w8 (Value.slice A n cb).ownBlock) =>
       fd_next HNM.out HNN.out hlt HCC.out HQR.out HSV.out HSO.out.1 HG3R.out HGR.out HROW.out HW7.out ho hg)
      have hn64 : n <= 200000 * 64:=by omega
      clear hc hr61 b14 r10
      refine wp_region_held_drew (S:=fun w' => w'.cell? ⟨w2.heap.size,10,none⟩ = some (.int .i64 (m.used : Int))) (by kernel_rfl) HS9.out (fun hHeld => ?_)
      refine take_op 0 47 (.pointer (some ⟨q,0,none⟩)) rfl rfl (by kernel_rfl) (by kernel_rfl) (by kernel_rfl) (fun _ _ _ h => h) (.inl ⟨by rfl,fun w' hw' => by go_simp⟩) hHeld ?_
      simp only [List.set_cons_zero,List.set_cons_succ]
      refine take_op 1 48 (.pointer (some ⟨q,0,none⟩)) rfl rfl (by kernel_rfl) (by kernel_rfl) (by kernel_rfl) (fun _ _ _ h => h) (.inl ⟨by rfl,fun w' hw' => by go_simp⟩) hHeld ?_
      simp only [List.set_cons_zero,List.set_cons_succ]
      refine take_op 2 49 (.pointer (some ⟨q,0,none⟩)) rfl rfl (by kernel_rfl) (by kernel_rfl) (by kernel_rfl) (fun _ _ _ h => h) (.inl ⟨by rfl,fun w' hw' => by go_simp⟩) hHeld ?_
      simp only [List.set_cons_zero,List.set_cons_succ]
      refine take_op 3 50 (.pointer (some ⟨q,14,none⟩)) rfl rfl (by kernel_rfl) (by kernel_rfl) (by kernel_rfl) (fun _ _ _ h => h) (.inl ⟨by rfl,fun w' hw' => by go_simp⟩) hHeld ?_
      simp only [List.set_cons_zero,List.set_cons_succ]
      refine take_op 5 52 (.pointer (some ⟨w2.heap.size,10,none⟩)) rfl rfl (by kernel_rfl) (by kernel_rfl) (by kernel_rfl) (fun _ _ _ h => h) (.inl ⟨by rfl,fun w' hw' => by go_simp⟩) hHeld ?_
      simp only [List.set_cons_zero,List.set_cons_succ]
      refine take_op 6 53 (.int .i64 (m.used : Int)) rfl rfl (by kernel_rfl) (by kernel_rfl) (by kernel_rfl) (fun _ _ _ h => h) (.inl ⟨by rfl,fun w' hw' => by go_simp⟩) hHeld ?_
      simp only [List.set_cons_zero,List.set_cons_succ]
      refine take_op 7 54 (.pointer (some ⟨q,0,none⟩)) rfl rfl (by kernel_rfl) (by kernel_rfl) (by kernel_rfl) (fun _ _ _ h => h) (.inl ⟨by rfl,fun w' hw' => by go_simp⟩) hHeld ?_
      simp only [List.set_cons_zero,List.set_cons_succ]
      refine take_op 8 55 (.pointer (some ⟨q,0,none⟩)) rfl rfl (by kernel_rfl) (by kernel_rfl) (by kernel_rfl) (fun _ _ _ h => h) (.inl ⟨by rfl,fun w' hw' => by go_simp⟩) hHeld ?_
      simp only [List.set_cons_zero,List.set_cons_succ]
      refine take_op 9 56 (.pointer (some ⟨q,14,none⟩)) rfl rfl (by kernel_rfl) (by kernel_rfl) (by kernel_rfl) (fun _ _ _ h => h) (.inl ⟨by rfl,fun w' hw' => by go_simp⟩) hHeld ?_
      simp only [List.set_cons_zero,List.set_cons_succ]
      refine wpAnyH_ready (rs:=[4,10]) (by kernel_rfl) (by simp) (AllReadyH.cons rfl (fun K hK => ?_) (AllReadyH.cons rfl (fun K hK => ?_) AllReadyH.nil))
      ·go_simp
       refine hK.out _ _ hHeld (fun _ => ?_)
       refine wpAnyH_ready (rs:=[10]) (by kernel_rfl) (by simp) (AllReadyH.cons rfl (fun K2 hK2 => ?_) AllReadyH.nil)
       go_simp
       refine hK2.out _ _ hHeld (fun _ => ?_)
       refine take_op 11 58 (.int .i64 (n : Int)) rfl rfl (by kernel_rfl) (by kernel_rfl) (by kernel_rfl) (fun _ _ _ h => h) (.inl ⟨by rfl,fun w' hw' => by go_simp⟩) hHeld ?_
       simp only [List.set_cons_zero,List.set_cons_succ]
       refine take_op 12 59 (.int .i64 ((m.used : Int) - (n : Int))) rfl rfl (by kernel_rfl) (by kernel_rfl) (by kernel_rfl) (fun _ _ _ h => h) (.inl ⟨by rfl,fun w' hw' => by go_simp⟩) hHeld ?_
       simp only [List.set_cons_zero,List.set_cons_succ]
       refine take_op 13 60 (.int .i64 (c : Int)) rfl rfl (by kernel_rfl) (by kernel_rfl) (by kernel_rfl) (fun _ _ _ h => h) (.inl ⟨by rfl,fun w' hw' => by go_simp⟩) hHeld ?_
       simp only [List.set_cons_zero,List.set_cons_succ]
       refine take_op 14 61 (.slice A61 c k61) rfl rfl (by kernel_rfl) (by kernel_rfl) (by kernel_rfl) (fun _ _ _ h => h) (.inl ⟨by rfl,fun w' hw' => by go_simp⟩) hHeld ?_
       simp only [List.set_cons_zero,List.set_cons_succ]
       refine wpAnyH_ready (rs:=[15]) (by kernel_rfl) (by simp) (AllReadyH.cons rfl (fun K3 hK3 => ?_) AllReadyH.nil)
       rw [if_pos (by rfl)]
       refine app5_l 62 rfl (.tmp 51) (.tmp 61) rfl w.heap.size (.slice A n cb) n (ints (rd (cur D) b0 n)) rfl HOW.out A61 c k61 (sv.take c) rfl HR61.out h47 HWS.out ?_
       intro v2 w8 ho8 hg8
       have HX:=hJQ (HNX.out v2 w8 ho8 hg8)
       obtain ⟨A2,k2,rfl,-,-,-⟩:=own_form ho8
       have hz:=fd_cells HNM.out HQR.out HG3R.out HROW.out HW7.out hg8
       obtain ⟨z14,z10,zf,z10'⟩:=hz
       clear ho8 hg8
       simp only [List.set_cons_zero,List.set_cons_succ]
       refine hK3.out _ _ z10 (fun hHeld3 => ?_)
       refine take_op 16 63 (.pointer (some ⟨q,0,none⟩)) rfl rfl (by kernel_rfl) (by kernel_rfl) (by kernel_rfl) (fun _ _ _ h => h) (.inl ⟨by rfl,fun w' hw' => by go_simp⟩) hHeld3 ?_
       simp only [List.set_cons_zero,List.set_cons_succ]
       refine take_op 17 64 (.pointer (some ⟨q,14,none⟩)) rfl rfl (by kernel_rfl) (by kernel_rfl) (by kernel_rfl) (fun _ _ _ h => h) (.inl ⟨by rfl,fun w' hw' => by go_simp⟩) hHeld3 ?_
       simp only [List.set_cons_zero,List.set_cons_succ]
       refine wpAnyH_ready (rs:=[18]) (by kernel_rfl) (by simp) (AllReadyH.cons rfl (fun K4 hK4 => ?_) AllReadyH.nil)
       go_simp
       refine hK4.out _ _ (z10' _) (fun _ => ?_)
       refine wpAnyH_done (by kernel_rfl) ?_ _
       go_wp2_with fail
       go_roundw
       case rel => rw [HT.out]; exact HX.out
       case measure => simp [intOf]; omega
      ·go_simp
       refine hK.out _ _ hHeld (fun _ => ?_)
       refine take_op 11 58 (.int .i64 (n : Int)) rfl rfl (by kernel_rfl) (by kernel_rfl) (by kernel_rfl) (fun _ _ _ h => h) (.inl ⟨by rfl,fun w' hw' => by go_simp⟩) hHeld ?_
       simp only [List.set_cons_zero,List.set_cons_succ]
       refine take_op 12 59 (.int .i64 ((m.used : Int) - (n : Int))) rfl rfl (by kernel_rfl) (by kernel_rfl) (by kernel_rfl) (fun _ _ _ h => h) (.inl ⟨by rfl,fun w' hw' => by go_simp⟩) hHeld ?_
       simp only [List.set_cons_zero,List.set_cons_succ]
       refine take_op 13 60 (.int .i64 (c : Int)) rfl rfl (by kernel_rfl) (by kernel_rfl) (by kernel_rfl) (fun _ _ _ h => h) (.inl ⟨by rfl,fun w' hw' => by go_simp⟩) hHeld ?_
       simp only [List.set_cons_zero,List.set_cons_succ]
       refine take_op 14 61 (.slice A61 c k61) rfl rfl (by kernel_rfl) (by kernel_rfl) (by kernel_rfl) (fun _ _ _ h => h) (.inl ⟨by rfl,fun w' hw' => by go_simp⟩) hHeld ?_
       simp only [List.set_cons_zero,List.set_cons_succ]
       refine wpAnyH_ready (rs:=[4]) (by kernel_rfl) (by simp) (AllReadyH.cons rfl (fun K2 hK2 => ?_) AllReadyH.nil)
       go_simp
       refine hK2.out _ _ hHeld (fun _ => ?_)
       refine wpAnyH_ready (rs:=[15]) (by kernel_rfl) (by simp) (AllReadyH.cons rfl (fun K3 hK3 => ?_) AllReadyH.nil)
       rw [if_pos (by rfl)]
       refine app5_l 62 rfl (.tmp 51) (.tmp 61) rfl w.heap.size (.slice A n cb) n (ints (rd (cur D) b0 n)) rfl HOW.out A61 c k61 (sv.take c) rfl HR61.out h47 HWS.out ?_
       intro v2 w8 ho8 hg8
       have HX:=hJQ (HNX.out v2 w8 ho8 hg8)
       obtain ⟨A2,k2,rfl,-,-,-⟩:=own_form ho8
       have hz:=fd_cells HNM.out HQR.out HG3R.out HROW.out HW7.out hg8
       obtain ⟨z14,z10,zf,z10'⟩:=hz
       clear ho8 hg8
       simp only [List.set_cons_zero,List.set_cons_succ]
       refine hK3.out _ _ z10 (fun hHeld3 => ?_)
       refine take_op 16 63 (.pointer (some ⟨q,0,none⟩)) rfl rfl (by kernel_rfl) (by kernel_rfl) (by kernel_rfl) (fun _ _ _ h => h) (.inl ⟨by rfl,fun w' hw' => by go_simp⟩) hHeld3 ?_
       simp only [List.set_cons_zero,List.set_cons_succ]
       refine take_op 17 64 (.pointer (some ⟨q,14,none⟩)) rfl rfl (by kernel_rfl) (by kernel_rfl) (by kernel_rfl) (fun _ _ _ h => h) (.inl ⟨by rfl,fun w' hw' => by go_simp⟩) hHeld3 ?_
       simp only [List.set_cons_zero,List.set_cons_succ]
       refine wpAnyH_ready (rs:=[18]) (by kernel_rfl) (by simp) (AllReadyH.cons rfl (fun K4 hK4 => ?_) AllReadyH.nil)
       go_simp
       refine hK4.out _ _ (z10' _) (fun _ => ?_)
       refine wpAnyH_done (by kernel_rfl) ?_ _
       go_wp2_with fail
       go_roundw
       case rel => rw [HT.out]; exact HX.out
       case measure => simp [intOf]; omega
     ·have hge : ¬ (n : Int) < (m.used : Int):=by omega
      clear hqr hrow hg3 hgr hlc ht hi hn'
      have hnu : n = m.used:=by have:=HNN.out; omega
      have HRD:=hJQ (own_reads HROW.out (rd_bys HLK.out b0 n))
      have HRC:=hJQ (fun k => recs_any A n cb (rd (cur D) b0 n) (wr.drewN k) (by obtain ⟨A',c',e,h,_⟩:=HRD.out; injection e with e1 e2 e3; subst e1; exact h.kept (below_drewN (Below.refl _ _) k)) hncb (by omega))
      have HNU:=hJQ hnu
      clear hnu
      go_wp2_with fail
      go_quiet (fail)
      go_wp2_with fail
      refine (HRC.out _).mono ?_
      rintro e w9 ⟨v,l,r,rfl,hr,hg,-,hb9⟩
      have HE:=hJQ (fd_end HMK.out (by omega) h2n HB0.out HNU.out HQR.out HROW.out HGR.out ((below_drewN (Below.refl _ _) _).trans hb9) hr hg)
      clear hr hg hb9
      go_wp2_with fail
      go_ret
      exact HE.out
end Go.Proofs.YtlppinfjdnhlbaaGreatDoor.Gq
