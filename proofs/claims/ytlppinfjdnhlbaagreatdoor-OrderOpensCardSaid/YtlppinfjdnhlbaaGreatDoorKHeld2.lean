/-
 What Held returns of any numbers. Condition: memory holds the numbers.
-/
import Derived.Test.YtlppinfjdnhlbaaGreatDoorHd
import Derived.Test.YtlppinfjdnhlbaaGreatDoorKRight2
import Derived.Test.YtlppinfjdnhlbaaGreatDoorKShelf
import Derived.Sort.OwnSortedInts
namespace Go.Proofs.YtlppinfjdnhlbaaGreatDoor
set_option maxRecDepth 100000
open Go.ChangeShapes Go.WideShapes Go.ChangeAt Go.RowKit Go.Proofs.Rk Go.Sort Go.Shelf

theorem setCells_grown {g : Nat} : ∀ (vs : List Value) (o : Nat) (w : World),w.grownBy (w.setCells g o vs) (some g)
 | [],_,w => World.grownBy.refl w _
 | v :: vs,o,w => by
  have h1 : w.grownBy (w.setCell ⟨g,o,none⟩ v) (some g):=⟨rfl,rfl,rfl,by rw [Go.Deep.nblk_setCell]; exact Nat.le_refl _,fun k _ hk => Go.Deep.blk_setCell_other w _ _ k (by intro e; apply hk; rw [e])⟩
  have h2:=setCells_grown (g:=g) vs (o + 1) (w.setCell ⟨g,o,none⟩ v)
  exact ⟨h2.os.trans h1.os,h2.tape.trans h1.tape,h2.output.trans h1.output,Nat.le_trans h1.size h2.size,fun k hk hn => (h2.block k (Nat.lt_of_lt_of_le hk h1.size) hn).trans (h1.block k hk hn)⟩
theorem setCells_block {g t : Nat} {fr : Nat × Nat} : ∀ (vs : List Value) (o : Nat) (w : World) (cur : Array Value),w.heap[g]? = some (.cells cur t fr) -> o + vs.length <= cur.size -> (w.setCells g o vs).heap[g]? = some (.cells (splice cur.toList o vs).toArray t fr)
 | [],o,w,cur,h,_ => by
  have : splice cur.toList o [] = cur.toList:=by simp [splice]
  rw [this]; simpa [World.setCells] using h
 | v :: vs,o,w,cur,h,hl => by
  have h1 : (w.setCell ⟨g,o,none⟩ v).heap[g]? = some (.cells (cur.setIfInBounds o v) t fr):=by
   simp only [World.setCell,Array.getElem?_modify,h]
   simp
  have h2:=setCells_block vs (o + 1) _ _ h1 (by rw [Array.size_setIfInBounds]; simp at hl; omega)
  refine (show ((w.setCell ⟨g,o,none⟩ v).setCells g (o + 1) vs).heap[g]? = _ from h2).trans ?_
  congr 2
  have hlt : o < cur.size:=by simp at hl; omega
  have : splice (cur.setIfInBounds o v).toList (o + 1) vs = splice cur.toList o (v :: vs):=by
   have hlt' : o < cur.toList.length:=by rw [Array.length_toList]; exact hlt
   have e1 : (cur.toList.set o v).take (o + 1) = cur.toList.take o ++ [v]:=by
    rw [List.take_succ_eq_append_getElem (by rw [List.length_set]; exact hlt'),List.getElem_set_self,List.take_set_of_le (Nat.le_refl _)]
   have e2 : (cur.toList.set o v).drop (o + 1 + vs.length) = cur.toList.drop (o + (v :: vs).length):=by
    rw [List.drop_set_of_lt (by omega),List.length_cons]
    congr 1
    omega
   rw [Array.toList_setIfInBounds]
   unfold splice
   rw [e1,e2,List.append_assoc]
   rfl
  rw [this]
theorem run_copy_size {P : Program} (w : World) (dT sT ty elem : TypeId) (b o dLen dCap : Nat) (a : Addr) (sLen sCap sz : Nat) (cs : List Value)
  (hu : P.underlying dT = some (.slice elem)) (hs : (P.info? elem).map (·.size) = some sz) (hn : cs.length = Nat.min sLen dLen * sz)
  (hsrc : ∀ j v,cs[j]? = some v -> w.cell? (a.add j) = some v) (hc : ∀ j,j < cs.length -> (w.cell? ⟨b,o + j,none⟩).isSome = true) (hf : ∀ j,j < cs.length -> w.frozen? ⟨b,o + j,none⟩ = false) (h1 : ∀ v ∈ cs,v.oneCell' = true) :
  (Builtin.copy_ #[dT,sT] ty #[.slice (some ⟨b,o,none⟩) dLen dCap,.slice (some a) sLen sCap]).run P w = .ok (goInt (Nat.min sLen dLen)) (w.setCells b o cs):=by
 have hl:=run_loadCells_list (P:=P) w a cs hsrc
 have hst:=run_storeCells_cells (P:=P) b o cs 0 w (by simpa using hc) (by simpa using hf) h1
 rw [Nat.add_zero] at hst
 cases hq : P.info? elem with
 | none => simp [hq] at hs
 | some i =>
  have hi : i.size = sz:=by simpa [hq] using hs
  rw [hn] at hl
  simp [Builtin.copy_,run_underlying hu,Builtin.lenOf,Builtin.firstCells,sizeOf,typeInfo,hq,hi,hl,hst]
theorem setCells_size : ∀ (vs : List Value) (g o : Nat) (w : World),(w.setCells g o vs).heap.size = w.heap.size
 | [],_,_,_ => rfl
 | v :: vs,g,o,w => by rw [show w.setCells g o (v :: vs) = (w.setCell ⟨g,o,none⟩ v).setCells g (o + 1) vs from rfl,setCells_size vs g (o + 1),Go.Deep.nblk_setCell]
theorem sort_any {w : World} {b n cap : Nat} {l : List Int} (hl : l.length = n) (hn : n <= 7) (hb : b < w.heap.size) (hc : ∀ j v,l[j]? = some v -> w.cell? ⟨b,j,none⟩ = some (.int .i64 v)) (hf : ∀ j,w.frozen? ⟨b,j,none⟩ = false) :
  Calls Tryz.prog 143 #[.slice (some ⟨b,0,none⟩) n cap] w fun e w' => e = .returned (.tuple #[]) /\ w.grownBy w' (some b) /\ ∃ s : List Int,s.Perm l /\ s.Pairwise (· <= ·) /\ ∀ j v,s[j]? = some v -> w'.cell? ⟨b,j,none⟩ = some (.int .i64 v):=by
 have hH : Holds (Value.int .i64) w b 0 l.toArray:=fun j hj => by
  have hj' : j < l.length:=by simpa using hj
  refine ⟨?_,by rw [Nat.zero_add]; exact hf j⟩
  rw [Nat.zero_add,hc j l[j] (List.getElem?_eq_getElem hj')]
  simp [hj']
 have hC:=AnyM.slices_Sort_int sort32 b 0 cap l w hH hb (by omega)
 rw [hl] at hC
 refine (show Calls Tryz.prog 143 #[.slice (some ⟨b,0,none⟩) n cap] w _ from hC).mono ?_
 rintro e w' ⟨rfl,m,os,rfl⟩
 have hp:=List.mergeSort_perm l (fun x y => decide (x <= y))
 have hs:=List.pairwise_mergeSort (le:=fun (x y : Int) => decide (x <= y)) (fun a b c h1 h2 => by simp at *; omega) (fun a b => by simp; omega) l
 refine ⟨rfl,grownBy_sortedI _,_,hp,hs.imp (fun h => by simpa using h),fun j v hv => ?_⟩
 have hj : j < (l.mergeSort fun x y => decide (x <= y)).length:=(List.getElem?_eq_some_iff.1 hv).1
 have hsz : (putRow (Value.int .i64) (Sort.ahead w m) b 0 (l.mergeSort fun x y => decide (x <= y)).toArray).heap.size = w.heap.size:=by rw [size_putRow]; rfl
 rw [cell?_grow _ _ _ (by rw [hsz]; exact hb)]
 have:=cell?_putRow (Value.int .i64) (Sort.ahead w m) b 0 l.toArray (l.mergeSort fun x y => decide (x <= y)).toArray (holds_ahead _ _ _ _ _ _ hH) (by simp [List.length_mergeSort]) j (by simpa using hj)
 rw [Nat.zero_add] at this
 rw [this]
 rw [List.getElem?_eq_getElem hj] at hv
 injection hv with hv
 rw [<- hv,getElem!_pos _ j (by simpa using hj),List.getElem_toArray]
set_option maxHeartbeats 4000000 in
theorem held_any {w : World} {A : Option Addr} {n c : Nat} {l : List Int} (h : Rd icell 1 w A n l) (hn : n <= 9223372036854775807) : Calls Tryz.prog 108 #[.slice A n c] w fun e w' => ∃ r,Hd l r /\ e = .returned (.int .i64 r) /\ Below w.heap.size w w':=by
 have HQ0:=hJQ (fun W => quorum_any (n : Int) W)
 by_cases hg : 1 <= n /\ n <= 7
 ·obtain ⟨hg1,hg2'⟩:=hg
  have hq:=(qn_two hg1 hg2')
  obtain ⟨q,eq⟩ : ∃ q,qn n = q:=⟨_,rfl⟩
  rw [eq] at hq
  obtain ⟨hq1,hq2,hq3,hq4,hq5⟩:=hq
  rw [hq4] at HQ0
  obtain ⟨ba,off,x0,hA,-,-⟩:=h.at (show 0 < n by omega)
  subst hA
  obtain ⟨w1,hw1⟩ : ∃ w1,w1 = w.alloc (.cells #[.int .i64 0,.int .i64 0,.int .i64 0,.int .i64 0,.int .i64 0,.int .i64 0,.int .i64 0] 109):=⟨_,rfl⟩
  obtain ⟨b,eb⟩ : ∃ b,b = w.heap.size:=⟨_,rfl⟩
  have hb1 : Below w.heap.size w w1:=by rw [hw1]; exact box_below w _
  have hr1 : w1.heap[b]? = some (.cells #[.int .i64 0,.int .i64 0,.int .i64 0,.int .i64 0,.int .i64 0,.int .i64 0,.int .i64 0] 109 (0,0)):=by rw [hw1,eb]; exact new_block w _
  have hql : qn l.length = q:=by rw [h.len]; exact eq
  have HQL:=hJQ hql
  have HL:=hJQ h.len
  have HR1:=hJQ hr1
  have HB1:=hJQ hb1
  have EB:=hJQ eb
  have HW1:=hJQ hw1
  have HRD:=hJQ (h.below hb1)
  have hq0 : ¬ (q : Int) = 0:=by omega
  have hqz : ((q : Int) == 0) = false:=by simpa using hq0
  have hn7 : (n : Int) <= 7:=by omega
  have hn0 : (0 : Int) <= (n : Int):=by omega
  clear h hw1 eb hb1 hr1 hql hq4 hq1 hq5 eq
  have HC2 : Hid (∃ w2,(∀ ty : TypeId,(Builtin.copy_ #[52,52] ty #[.slice (some ⟨b,0,none⟩) n 7,.slice (some ⟨ba,off,none⟩) n c]).run Tryz.prog w1 = .ok (goInt n) w2) /\ w1.grownBy w2 (some b) /\ w2.heap.size = w1.heap.size /\ w2.heap[b]? = some (.cells (splice (#[.int .i64 0,.int .i64 0,.int .i64 0,.int .i64 0,.int .i64 0,.int .i64 0,.int .i64 0] : Array Value).toList 0 (icells l)).toArray 109 (0,0))):=hJQ (by
   have hlen : (icells l).length = n:=by rw [icells_length,HL.out]; omega
   refine ⟨w1.setCells b 0 (icells l),fun ty => ?_,setCells_grown _ _ _,setCells_size _ _ _ _,setCells_block _ 0 w1 _ HR1.out (by rw [hlen]; simp; omega)⟩
   have hrun:=run_copy_size (P:=Tryz.prog) w1 52 52 ty 3 b 0 n 7 ⟨ba,off,none⟩ n c 1 (icells l) Tryz.underlying52 (by kernel_rfl) (by rw [hlen]; simp)
    (fun j v hv => by
     obtain ⟨b9,off9,e9,hcc⟩:=HRD.out.cells (by omega)
     injection e9 with e9
     injection e9 with e9 e8
     subst e9; subst e8
     have hj : j < l.length:=by have:=(List.getElem?_eq_some_iff.1 hv).1; rw [icells_length] at this; omega
     have hv2 : (icell l[j])[0]? = some v:=by
      rw [icells_map,List.getElem?_map,List.getElem?_eq_getElem hj] at hv
      simpa [icell] using hv
     have:=hcc j hj 0 v hv2
     rw [Go.WideShapes.add_plain]
     simpa using this)
    (fun j hj => by rw [Nat.zero_add,cell_of_row w1 b j _ _ _ HR1.out,Array.getElem?_eq_getElem (by rw [hlen] at hj; simp; omega)]; rfl)
    (fun j _ => frozen_of_row w1 b _ _ _ HR1.out) (fun v hv => by rw [icells_map] at hv; obtain ⟨x,_,rfl⟩:=List.mem_map.1 hv; rfl)
   rw [hrun]
   simp)
  go_enter Tryz.func108,Tryz.ntmps108
  go_wp2_with fail
  refine (HQ0.out _).mono ?_
  rintro e w0 ⟨rfl,rfl⟩
  go_upto_region 6 with fail
  rw [<- HW1.out,<- EB.out]
  obtain ⟨w2,hcp,hg2,hs2,hb2⟩:=HC2.out
  have HG2:=hJQ hg2
  have HS2:=hJQ hs2
  have HBK2:=hJQ hb2
  clear hg2 hs2 hb2
  have HSO:=hJQ (sort_any (w:=w2) (b:=b) (cap:=7) (l:=l) HL.out hg2' (by rw [HS2.out]; exact blk_lt HR1.out)
   (fun j v hv => by
    have hj : j < l.length:=(List.getElem?_eq_some_iff.1 hv).1
    refine cell_of HBK2.out ?_
    have hlen : (icells l).length = l.length:=by rw [icells_length]; omega
    simp only [splice,List.take_zero,List.nil_append,List.getElem?_toArray]
    rw [List.getElem?_append_left (by omega),icells_map,List.getElem?_map,hv]
    rfl)
   (fun j => frozen_of_row w2 b j _ _ HBK2.out))
  go_wp2_with fail
  refine HSO.out.mono ?_
  rintro e w3 ⟨rfl,hg3,s,hp,hs,hc⟩
  obtain ⟨m,hm⟩ : ∃ m,m = n - q:=⟨_,rfl⟩
  have hwm : IntKind.i64.wrap ((n : Int) - (q : Int)) = (m : Int):=by rw [IntKind.wrap_i64]; omega
  have hm0 : (0 : Int) <= (m : Int):=by omega
  have hmn : (m : Int) < (n : Int):=by omega
  have hml : m < s.length:=by rw [hp.length_eq,HL.out]; omega
  obtain ⟨x,hx⟩ : ∃ x,s[m]? = some x:=⟨_,List.getElem?_eq_getElem hml⟩
  have c0:=hc m x hx
  have HE : Hid (Hd l (max x 0)):=hJQ (hd_some (by rw [HL.out]; exact ⟨hg1,hg2'⟩) (held_sorted hp hs (by rw [HL.out]; exact hg1) (by rw [HL.out]; exact hg2') (by rw [HQL.out,HL.out,<- hm]; exact hx)))
  have HB3 : Hid (Below w.heap.size w w3):=hJQ (by
   have h2 : Below w.heap.size w w2:=HB1.out.trans (gb_to HG2.out (by rw [EB.out]; exact Nat.le_refl _) HB1.out.size)
   exact h2.trans (gb_to hg3 (by rw [EB.out]; exact Nat.le_refl _) h2.size))
  clear hg3 hp hs hc hx hml hm
  go_wp2_with fail
  go_ret
  exact ⟨_,HE.out,rfl,HB3.out⟩
 ·have HQZ : Hid (quo (n : Int) = 0):=hJQ (by unfold quo isG; rw [if_neg (by simp; omega)])
  have HE : Hid (Hd l 0):=hJQ (hd_none (by rw [h.len]; exact hg))
  rw [HQZ.out] at HQ0
  clear h hg
  go_enter Tryz.func108,Tryz.ntmps108
  go_wp2_with fail
  refine (HQ0.out _).mono ?_
  rintro e w0 ⟨rfl,rfl⟩
  go_wp2_with fail
  go_ret
  exact ⟨0,HE.out,rfl,Below.refl _ _⟩
end Go.Proofs.YtlppinfjdnhlbaaGreatDoor
