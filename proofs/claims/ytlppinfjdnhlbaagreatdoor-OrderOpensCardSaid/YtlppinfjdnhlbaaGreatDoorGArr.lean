/-
 Arrays of 64 bytes by value: a write built of its number and its sector; a row of one write; a zero sector; what loads and stores of them do. No condition.
-/
import Derived.Test.YtlppinfjdnhlbaaGreatDoorGSub
import Derived.Deep.WholeRow
import Derived.Laws.MakeOwn
namespace Go.Proofs.YtlppinfjdnhlbaaGreatDoor.Gq
set_option maxRecDepth 100000
open Go.ChangeShapes Go.WideShapes Go.ChangeAt Go.RowKit

theorem fold_list : ∀ (v : List Value) (cs : Array Value) (off k : Nat),off + k + v.length <= cs.size ->
  (v.zipIdx k).foldl (fun (cs : Array Value) (c : Value × Nat) => cs.setIfInBounds (off + c.2) c.1) cs = (cs.toList.take (off + k) ++ v ++ cs.toList.drop (off + k + v.length)).toArray
 | [],cs,off,k,_ => by simp
 | x :: v,cs,off,k,h => by
  rw [List.zipIdx_cons,List.foldl_cons]
  have h' : off + (k + 1) + v.length <= (cs.setIfInBounds (off + k) x).size:=by simp at h ⊢; omega
  rw [fold_list v _ off (k + 1) h']
  have e:=list_seg_step cs.toList (off + k) x v (by simp at h ⊢; omega)
  simp only [Array.toList_setIfInBounds,List.length_cons]
  rw [show off + (k + 1) = off + k + 1 by omega,e]
theorem fold_arr (v : Array Value) (cs : Array Value) (off : Nat) (h : off + v.size <= cs.size) :
  v.zipIdx.foldl (fun (cs : Array Value) (c : Value × Nat) => cs.setIfInBounds (off + c.2) c.1) cs = (cs.toList.take off ++ v.toList ++ cs.toList.drop (off + v.size)).toArray:=by
 rw [<- Array.foldl_toList,Array.toList_zipIdx,fold_list v.toList cs off 0 (by simpa using h)]
 simp
theorem fill_cons {place : Nat -> Option (Nat × Nat)} {cells : Array Value} {i : Nat} {v : Value} {rest : List (Nat × Value)} {off size : Nat} (hp : place i = some (off,size)) (hs : v.cells.size = size) (hf : off + size <= cells.size) :
  Instr.fill place cells ((i,v) :: rest) = Instr.fill place (cells.toList.take off ++ v.cells.toList ++ cells.toList.drop (off + size)).toArray rest:=by
 conv => lhs; unfold Instr.fill
 simp only [hp]
 rw [if_neg (by simp [hs]; omega),fold_arr v.cells cells off (by omega),hs]
theorem fill_all (place : Nat -> Option (Nat × Nat)) (cells : Array Value) (C : Array Value) (n : Nat) (hn : C.size = n) (hc : cells.size = n) (hp : place 0 = some (0,n)) : Instr.fill place cells [(0,.agg C)] = some C:=by
 rw [fill_cons (v:=.agg C) hp hn (by omega),List.take_zero,List.nil_append,Nat.zero_add,List.drop_eq_nil_of_le (by rw [Array.length_toList]; omega),List.append_nil]
 simp [Instr.fill,Value.cells]
theorem built74 (x : Int) (C : Array Value) (hC : C.size = 64) : Tryz.prog.built 154 [(0,.int .i64 x),(1,.agg C)] = some (#[.int .i64 x] ++ C):=by
 have e : Tryz.prog.built 154 [(0,.int .i64 x),(1,.agg C)] = Instr.fill (#[((0 : Nat),(1 : Nat)),(1,64)][·]?) (#[Value.int .i64 0] ++ Z64) [(0,.int .i64 x),(1,.agg C)]:=by kernel_rfl
 have hz : (#[Value.int .i64 0] ++ Z64).size = 65:=by kernel_rfl
 rw [e,fill_cons (off:=0) (size:=1) rfl rfl (by omega)]
 have h65 : ((#[Value.int .i64 0] ++ Z64).toList.take 0 ++ (Value.int .i64 x).cells.toList ++ (#[Value.int .i64 0] ++ Z64).toList.drop (0 + 1)).toArray = #[Value.int .i64 x] ++ Z64:=by kernel_rfl
 have hz2 : (#[Value.int .i64 x] ++ Z64).size = 65:=by kernel_rfl
 rw [h65,fill_cons (v:=.agg C) (off:=1) (size:=64) rfl hC (by omega),List.drop_eq_nil_of_le (by rw [Array.length_toList]; omega)]
 have ht : (#[Value.int .i64 x] ++ Z64).toList.take 1 = [Value.int .i64 x]:=by kernel_rfl
 rw [ht]
 simp [Instr.fill,Value.cells]
theorem built66 : Tryz.prog.built 152 [] = some Z64:=by kernel_rfl
theorem size66 : (Tryz.prog.info? 152).map (·.size) = some 64:=by kernel_rfl
theorem size5 : (Tryz.prog.info? 5).map (·.size) = some 1:=by kernel_rfl
theorem z64_size : Z64.size = 64:=by kernel_rfl
theorem z64_list : Z64.toList = ints (List.replicate 64 0):=by kernel_rfl
theorem run_row1 (w : World) (C : Array Value) (hC : C.size = 65) : (Instr.buildSlice 119 1 #[(0,.agg C)]).run Tryz.prog w = .ok (.slice (some ⟨w.heap.size,0,none⟩) 1 1) (w.alloc (.cells C 154)):=by
 obtain ⟨i0,hi,hz0,hz1,hz2⟩:=info_parts info74
 obtain ⟨Z,hZ⟩ : ∃ Z,Z = #[Value.int .i64 0] ++ Z64:=⟨_,rfl⟩
 rw [<- hZ] at hz0
 have hf : Instr.fill (fun i => some (i * 65,65)) ((Array.range 65).map (fun (x : Nat) => Z[x % Z.size]!)) [(0,.agg C)] = some C:=fill_all _ _ C 65 hC (by simp) rfl
 have hzc : (Value.agg Z).cells = Z:=rfl
 simp [Instr.buildSlice,run_underlying Tryz.underlying119,sizeOf,typeInfo,hi,hz1,zeroValue,hz0,hzc,newRow,hf]

theorem yields_build74 {ops : Array Oper} {S : World -> Prop} {o : Oper} {a : Act} (hw : Region.wanted o (yielded ops a.tmps) = true) (x y : Operand) (ho : o.op = .build 154 #[(0,x),(1,y)]) (n : Int) (C : Array Value) (hx : a.eval x = .int .i64 n) (hy : a.eval y = .agg C) (hC : C.size = 64) :
  YieldsIf Tryz.prog ops S o (.agg (#[.int .i64 n] ++ C)) a :=
 .inl ⟨hw,fun w _ => by
  unfold execOp
  simp only [ho,List.map_toArray,List.map_cons,List.map_nil,hx,hy]
  rw [Sem.run_bind,run_build w 154 _ _ (by simpa using built74 n C hC)]
  rfl⟩
theorem wp_row1 {o : Oper} {a : Act} {w : World} {K : Act -> World -> Prop} {Q : Exit -> Act -> World -> Prop} (x : Operand) (ho : o.op = .buildSlice 119 1 #[(0,x)]) (C : Array Value) (hx : a.eval x = .agg C) (hC : C.size = 65)
  (h : K (a.put o.dst (.slice (some ⟨w.heap.size,0,none⟩) 1 1)) (w.alloc (.cells C 154))) : o.wp Tryz.prog a w K Q:=by
 unfold Oper.wp execOp
 simp only [ho,List.map_toArray,List.map_cons,List.map_nil,hx]
 rw [Sem.run_bind,run_row1 w C hC]
 exact h
theorem wpList_zero66 {ops : Array Oper} {rest : List Oper} {o : Oper} {a : Act} {w : World} {Q : Exit -> Act -> World -> Prop} (hgd : o.guard = none) (ho : o.op = .build 152 #[])
  (h : wpList Tryz.prog ops Q rest (a.put o.dst (.agg Z64)) w) : wpList Tryz.prog ops Q (o :: rest) a w :=
 wpList_plain hgd fun K hK => by
  unfold Oper.wp execOp
  simp only [ho,List.map_toArray,List.map_nil]
  rw [Sem.run_bind,run_build w 152 _ _ (by simpa using built66)]
  exact hK _ _ h
theorem run_alloc66 (w : World) (v : Value) : (Instr.alloc 152 true v).run Tryz.prog w = .ok (.pointer (some ⟨w.heap.size,0,none⟩)) (w.alloc (.cells Z64 152)):=by
 obtain ⟨i0,hi,hz0,hz1,hz2⟩:=info_parts info66
 have hzc : (Value.agg Z64).cells = Z64:=rfl
 simp [Instr.alloc,zeroValue,typeInfo,hi,hz0,newVar,newRow,hzc]
theorem wpList_alloc66 {ops : Array Oper} {rest : List Oper} {o : Oper} {a : Act} {w : World} {Q : Exit -> Act -> World -> Prop} (hgd : o.guard = none) (ho : o.op = .alloc 152)
  (h : wpList Tryz.prog ops Q rest (a.put o.dst (.pointer (some ⟨w.heap.size,0,none⟩))) (w.alloc (.cells Z64 152))) : wpList Tryz.prog ops Q (o :: rest) a w :=
 wpList_plain hgd fun K hK => by
  unfold Oper.wp execOp
  simp only [ho]
  rw [Sem.run_bind,run_alloc66 w]
  exact hK _ _ h
theorem wpList_store_new {ops : Array Oper} {rest : List Oper} {o : Oper} {a : Act} {w : World} {Q : Exit -> Act -> World -> Prop} (hgd : o.guard = none) (t : TypeId) (x y : Operand) (ho : o.op = .store t x y) (c c' : Array Value)
  (hx : a.eval x = .pointer (some ⟨w.heap.size,0,none⟩)) (hy : a.eval y = .agg c') (hi : (Tryz.prog.info? t).map (·.size) = some c'.size) (hs : c.size = c'.size) (h1 : c'.all (·.oneCell') = true)
  (h : wpList Tryz.prog ops Q rest (a.put o.dst undef) (w.alloc (.cells c' t))) : wpList Tryz.prog ops Q (o :: rest) a (w.alloc (.cells c t)) :=
 wpList_plain hgd fun K hK => by
  unfold Oper.wp execOp
  simp only [ho,hx,hy]
  rw [Sem.run_bind,run_storeAt_new w t c c' hi hs h1]
  exact hK _ _ h
theorem own_range {w : World} {base e size n g c : Nat} {xs : List Value} (h : w.ownsRow base e size (.slice (some ⟨g,0,none⟩) n c) n xs) (o : Nat) (cs : List Value) (hc : ∀ j,j < cs.length -> xs[o + j]? = cs[j]?) : w.rangeAt g o cs:=fun j v hv => by
 have hj : j < cs.length:=(List.getElem?_eq_some_iff.1 hv).1
 exact own_cell h (o + j) v (by rw [hc j hj]; exact hv)
end Go.Proofs.YtlppinfjdnhlbaaGreatDoor.Gq
