/-
 What ledger's mark.sector returns: the mark's sector in memory of its own. Condition: the mark's number has eight bytes,its half is 0 or 1,it uses no more than 2^31 bytes.
-/
import Derived.Test.YtlppinfjdnhlbaaGreatDoorHd
import Derived.Test.YtlppinfjdnhlbaaGreatDoorGNext
import Derived.StillTailTactics
namespace Go.Proofs.YtlppinfjdnhlbaaGreatDoor.Gq
set_option maxRecDepth 100000
open Go.ChangeShapes Go.WideShapes Go.ChangeAt Go.RowKit

def mcells (m : Mk) : List Value:=.int .i64 (m.slot : Int) :: (ints m.num ++ [.int .i64 (m.half : Int),.int .i64 (m.used : Int)])
theorem mcells_len {m : Mk} (h : Nok m.num) : (mcells m).length = 11:=by simp [mcells,ints_length,h.1]
theorem mcells_slot (m : Mk) : (mcells m)[0]? = some (.int .i64 (m.slot : Int)):=rfl
theorem mcells_num {m : Mk} (h : Nok m.num) (j : Nat) (hj : j < 8) : (mcells m)[1 + j]? = (ints m.num)[j]?:=by
 unfold mcells
 rw [Nat.add_comm,List.getElem?_cons_succ,List.getElem?_append_left (by rw [ints_length,h.1]; exact hj)]
theorem mcells_half {m : Mk} (h : Nok m.num) : (mcells m)[9]? = some (.int .i64 (m.half : Int)):=by
 unfold mcells
 rw [List.getElem?_cons_succ,List.getElem?_append_right (by rw [ints_length,h.1]; exact Nat.le_refl _),ints_length,h.1]; rfl
theorem mcells_used {m : Mk} (h : Nok m.num) : (mcells m)[10]? = some (.int .i64 (m.used : Int)):=by
 unfold mcells
 rw [List.getElem?_cons_succ,List.getElem?_append_right (by rw [ints_length,h.1]; decide),ints_length,h.1]; rfl
theorem mcells_one (m : Mk) : ∀ u ∈ mcells m,u.oneCell' = true:=fun u hu => by
 rcases List.mem_cons.1 hu with rfl | hu
 ·rfl
 ·rcases List.mem_append.1 hu with hu | hu
  ·exact ints_one _ u hu
  ·simp only [List.mem_cons,List.not_mem_nil,or_false] at hu
   rcases hu with rfl | rfl <;> rfl
theorem info86 : (Tryz.prog.info? 151).map (fun i => (i.zero,i.size,i.bytes)) = some (some (.agg Z64),64,64):=by kernel_rfl
theorem size86 : (Tryz.prog.info? 151).map (·.size) = some 64:=by kernel_rfl
theorem run_alloc86 (w : World) (v : Value) : (Instr.alloc 151 true v).run Tryz.prog w = .ok (.pointer (some ⟨w.heap.size,0,none⟩)) (w.alloc (.cells Z64 151)):=by
 obtain ⟨i0,hi,hz0,hz1,hz2⟩:=info_parts info86
 have hzc : (Value.agg Z64).cells = Z64:=rfl
 simp [Instr.alloc,zeroValue,typeInfo,hi,hz0,newVar,newRow,hzc]
theorem wpList_alloc86 {ops : Array Oper} {rest : List Oper} {o : Oper} {a : Act} {w : World} {Q : Exit -> Act -> World -> Prop} (hgd : o.guard = none) (ho : o.op = .alloc 151)
  (h : wpList Tryz.prog ops Q rest (a.put o.dst (.pointer (some ⟨w.heap.size,0,none⟩))) (w.alloc (.cells Z64 151))) : wpList Tryz.prog ops Q (o :: rest) a w :=
 wpList_plain hgd fun K hK => by
  unfold Oper.wp execOp
  simp only [ho]
  rw [Sem.run_bind,run_alloc86 w]
  exact hK _ _ h
def lay1 (m : Mk) : List Value:=splice (ints (List.replicate 64 0)) 0 (ints m.num)
def lay2 (m : Mk) : List Value:=(lay1 m).set 8 (.int .u8 (m.half : Int))
def lay3 (m : Mk) : List Value:=splice (lay2 m) 9 (ints (le4 m.used))
def lay4 (m : Mk) : List Value:=splice (lay3 m) 56 (ints m.num)
theorem splice_ints (a b : List Int) (o : Nat) : splice (ints a) o (ints b) = ints (a.take o ++ b ++ a.drop (o + b.length)):=by
 simp [splice,ints]
theorem lay4_sec {m : Mk} (h : Nok m.num) : lay4 m = ints (secOf m):=by
 obtain ⟨n,hn⟩ : ∃ n,n = m.num:=⟨_,rfl⟩
 have hl : n.length = 8:=by rw [hn]; exact h.1
 unfold lay4 lay3 lay2 lay1 secOf
 rw [<- hn]
 match n,hl with
 | [a0,a1,a2,a3,a4,a5,a6,a7],_ => rfl
structure SecMid (w : World) (m : Mk) (X : List Value) (wk : World) : Prop where
 mark : wk.heap[w.heap.size]? = some (.cells (mcells m).toArray 217 (0,0))
 sec : wk.heap[w.heap.size + 1]? = some (.cells X.toArray 151 (0,0))
 below : Below w.heap.size w wk
theorem SecMid.grown {w wk wn : World} {m : Mk} {X Y : List Value} (h : SecMid w m X wk) (hs : wn.heap[w.heap.size + 1]? = some (.cells Y.toArray 151 (0,0))) (hg : wk.grownBy wn (some (w.heap.size + 1))) : SecMid w m Y wn :=
 ⟨(hg.block _ (Array.getElem?_eq_some_iff.1 h.mark).1 (fun e => by injection e with e; omega)).trans h.mark,hs,h.below.grown hg h.below.size (fun k e => by injection e with e; omega)⟩
theorem SecMid.drew {w wk : World} {m : Mk} {X : List Value} (h : SecMid w m X wk) : SecMid w m X wk.drew:=⟨h.mark,h.sec,h.below.drew⟩
theorem SecMid.alloc {w wk : World} {m : Mk} {X : List Value} (h : SecMid w m X wk) (o : Obj) : SecMid w m X (wk.alloc o) :=
 ⟨(Below.heap_alloc _ _ _ (Array.getElem?_eq_some_iff.1 h.mark).1).trans h.mark,(Below.heap_alloc _ _ _ (Array.getElem?_eq_some_iff.1 h.sec).1).trans h.sec,h.below.alloc h.below.size o⟩
theorem SecMid.src {w wk : World} {m : Mk} {X : List Value} (h : SecMid w m X wk) (hN : Nok m.num) : ∀ j v,(ints m.num)[j]? = some v -> wk.cell? ((⟨w.heap.size,1,none⟩ : Addr).add j) = some v:=fun j v hv => by
 have hj : j < 8:=by have:=(List.getElem?_eq_some_iff.1 hv).1; rw [ints_length,hN.1] at this; exact this
 rw [Go.WideShapes.add_plain,cell_of_row wk _ _ _ _ _ h.mark,List.getElem?_toArray,mcells_num hN j hj]; exact hv
theorem SecMid.cell {w wk : World} {m : Mk} {X : List Value} (h : SecMid w m X wk) (hN : Nok m.num) : wk.cell? ⟨w.heap.size,9,none⟩ = some (.int .i64 (m.half : Int)) /\ wk.cell? ⟨w.heap.size,10,none⟩ = some (.int .i64 (m.used : Int)):=by
 refine ⟨?_,?_⟩ <;> rw [cell_of_row wk _ _ _ _ _ h.mark,List.getElem?_toArray]
 ·exact mcells_half hN
 ·exact mcells_used hN
theorem SecMid.old {w wk : World} {m : Mk} {X : List Value} (h : SecMid w m X wk) (j : Nat) (hj : j < X.length) : ∃ v,wk.cell? ⟨w.heap.size + 1,j,none⟩ = some v:=by
 rw [cell_of_row wk _ _ _ _ _ h.sec,List.getElem?_toArray,List.getElem?_eq_getElem hj]
 exact ⟨_,rfl⟩
theorem SecMid.set {w wk : World} {m : Mk} {X : List Value} (h : SecMid w m X wk) (j : Nat) (v : Value) : SecMid w m (X.set j v) (wk.setCell ⟨w.heap.size + 1,j,none⟩ v):=by
 refine h.grown ?_ (setCells_grown [v] j wk)
 have:=heap_setCell_same wk _ j _ 151 v h.sec
 rwa [List.setIfInBounds_toArray] at this
set_option maxRecDepth 100000 in
theorem sector_any (C : Array Value) (m : Mk) (w : World) (hN : Nok m.num) (hh : m.half <= 1) (hu : m.used <= 2147483647) (hC : C = (mcells m).toArray) :
  Calls Tryz.prog 186 #[.agg C] w fun e w' => ∃ g,e = .returned (.slice (some ⟨g,0,none⟩) 64 64) /\ w.heap.size <= g /\ w'.heap[g]? = some (.cells (ints (secOf m)).toArray 151 (0,0)) /\ Below w.heap.size w w':=by
 have HN:=hJQ hN
 have HC:=hJQ hC
 have H0 : Hid (SecMid w m (ints (List.replicate 64 0)) ((w.alloc (.cells C 217)).alloc (.cells Z64 151))):=hJQ (by
  have h:=new_block (w.alloc (.cells C 217)) (.cells Z64 151)
  rw [show (w.alloc (.cells C 217)).heap.size = w.heap.size + 1 by simp] at h
  refine ⟨(Below.heap_alloc _ _ _ (by simp)).trans (by rw [new_block w,hC]),?_,(box_below w _).alloc (by simp) _⟩
  rw [h]
  show some (Obj.cells Z64 151 (0,0)) = _
  rw [<- z64_list])
 have HL1 : Hid ((ints m.num).length = Nat.min 8 64):=hJQ (by rw [ints_length,hN.1]; rfl)
 have HL2 : Hid ((ints m.num).length = Nat.min 8 8):=hJQ (by rw [ints_length,hN.1]; rfl)
 have HL8 : Hid ((ints m.num).length = 8):=hJQ (by rw [ints_length,hN.1])
 have HZL : Hid ((ints (List.replicate 64 0)).length = 64):=hJQ (by rw [ints_length,List.length_replicate])
 clear hC hN
 obtain ⟨w2,hw2⟩ : ∃ w2,w2 = (w.alloc (.cells C 217)).alloc (.cells Z64 151):=⟨_,rfl⟩
 rw [<- hw2] at H0
 go_enter Tryz.func186,Tryz.ntmps186
 go_wp2_with (first | (with_reducible refine wpList_alloc86 rfl rfl ?_) | fail)
 rw [<- hw2]
 clear hw2
 go_region_held3 (fun _ => True) (trivial) (first
  | (refine copy_op rfl (.tmp 4) (.tmp 6) rfl (some ⟨w.heap.size + 1,0,none⟩) (some ⟨w.heap.size,1,none⟩) 64 64 8 8 rfl rfl (w.heap.size + 1) 0 (ints (List.replicate 64 0)) 151 H0.out.drew.sec (ints m.num) HL1.out (fun _ => ⟨rfl,_,rfl,H0.out.drew.src HN.out⟩) (by rw [HL8.out,HZL.out]; decide) (ints_one _) ?_; intro w3 hg3 hgr3; have H1:=hJQ (H0.out.drew.grown hg3 hgr3); clear hg3 hgr3)
  | fail)
 have X1 : (lay1 m).length = 64:=by unfold lay1; rw [length_splice _ _ _ (by rw [HL8.out,HZL.out]; decide),HZL.out]
 obtain ⟨c9,c10⟩:=H1.out.cell HN.out
 obtain ⟨v8,c8⟩:=H1.out.old 8 (by show 8 < (lay1 m).length; omega)
 have f8:=frozen_of_row w3 (w.heap.size + 1) 8 _ _ H1.out.sec
 have hh0 : (0 : Int) <= (m.half : Int):=by omega
 have hh1 : (m.half : Int) <= 1:=by omega
 have HX1:=hJQ X1
 clear X1
 go_wp2
 have H2 : Hid (SecMid w m (lay2 m) (w3.setCell ⟨w.heap.size + 1,8,none⟩ (.int .u8 (m.half : Int)))):=hJQ (H1.out.set 8 _)
 obtain ⟨w4,hw4⟩ : ∃ w4,w4 = w3.setCell ⟨w.heap.size + 1,8,none⟩ (.int .u8 (m.half : Int)):=⟨_,rfl⟩
 rw [<- hw4] at H2 ⊢
 clear hw4 c9 c10 c8 f8
 have HX2 : Hid ((lay2 m).length = 64):=hJQ (by unfold lay2; rw [List.length_set]; exact HX1.out)
 have d10:=(H2.out.drew.cell HN.out).2
 have H3 : Hid (SecMid w m (lay2 m) ((w4.alloc (.cells (ints (le4 m.used)).toArray 5)).drew)):=hJQ (H2.out.alloc _).drew
 have e10 : Hid (((w4.alloc (.cells (ints (le4 m.used)).toArray 5)).drew).cell? ⟨w.heap.size,10,none⟩ = some (.int .i64 (m.used : Int))):=hJQ (H3.out.cell HN.out).2
 have HS5 : Hid (∀ j v,(ints (le4 m.used))[j]? = some v -> ((w4.alloc (.cells (ints (le4 m.used)).toArray 5)).drew).cell? ((⟨w4.heap.size,0,none⟩ : Addr).add j) = some v):=hJQ (fun j v hv => by
  rw [Go.WideShapes.add_plain,Nat.zero_add,cell_of_row _ _ j _ 5 _ (show ((w4.alloc (.cells (ints (le4 m.used)).toArray 5)).drew).heap[w4.heap.size]? = _ from new_block w4 _),List.getElem?_toArray]; exact hv)
 go_region_held3 (fun w' => w'.cell? ⟨w.heap.size,10,none⟩ = some (.int .i64 (m.used : Int))) (first | exact e10.out | assumption) (first
  | (go_at_call 183; refine (length_any m.used _ hu).mono ?_; rintro e w5 ⟨rfl,rfl⟩)
  | (refine copy_op rfl (.tmp 12) (.tmp 15) rfl (some ⟨w.heap.size + 1,9,none⟩) (some ⟨w4.heap.size,0,none⟩) 55 55 4 4 rfl rfl (w.heap.size + 1) 9 (lay2 m) 151 H3.out.sec (ints (le4 m.used)) rfl (fun _ => ⟨rfl,_,rfl,HS5.out⟩) (by rw [HX2.out,ints_length,le4_len]; decide) (ints_one _) ?_; intro w6 hg6 hgr6; have H4:=hJQ (H3.out.grown hg6 hgr6); have k6:=(H4.out.cell HN.out).2; clear hg6 hgr6)
  | fail)
 go_wp2
 have HX3 : Hid ((lay3 m).length = 64):=hJQ (by unfold lay3; rw [length_splice _ _ _ (by rw [ints_length,le4_len,HX2.out]; decide),HX2.out])
 go_region_held3 (fun _ => True) (trivial) (first
  | (refine copy_op rfl (.tmp 17) (.tmp 19) rfl (some ⟨w.heap.size + 1,56,none⟩) (some ⟨w.heap.size,1,none⟩) 8 8 8 8 rfl rfl (w.heap.size + 1) 56 (lay3 m) 151 H4.out.drew.sec (ints m.num) HL2.out (fun _ => ⟨rfl,_,rfl,H4.out.drew.src HN.out⟩) (by rw [HX3.out,HL8.out]; decide) (ints_one _) ?_; intro w8 hg8 hgr8; have H5:=hJQ (H4.out.drew.grown hg8 hgr8); clear hg8 hgr8)
  | fail)
 go_wp2
 go_ret
 refine ⟨_,rfl,by omega,?_,H5.out.below⟩
 have h:=H5.out.sec
 rw [<- lay4_sec HN.out]; exact h
end Go.Proofs.YtlppinfjdnhlbaaGreatDoor.Gq
