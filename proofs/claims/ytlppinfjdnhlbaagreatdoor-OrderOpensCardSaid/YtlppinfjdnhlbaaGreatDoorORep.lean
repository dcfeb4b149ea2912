/-
 What slices.Repeat returns of three numbers,at most 255 times. Condition: memory holds them.
-/
import Derived.Test.YtlppinfjdnhlbaaGreatDoorHd
import Derived.Test.YtlppinfjdnhlbaaGreatDoorOMath
import Derived.Test.YtlppinfjdnhlbaaGreatDoorOToE
import Derived.Test.YtlppinfjdnhlbaaGreatDoorKHeld2
import Derived.Test.YtlppinfjdnhlbaaGreatDoorKShelf
import Derived.Test.YtlppinfjdnhlbaaGreatDoorQKinds
import Derived.Shelf.Bits.Mul64
namespace Go.Proofs.YtlppinfjdnhlbaaGreatDoor
set_option maxRecDepth 100000
open Go.ChangeShapes Go.WideShapes Go.ChangeAt Go.RowKit Go.Proofs.Rk
open Pq (Fld FReads Reads fcs errL bytL)

theorem bmul_any (x y : Nat) (hx : x < 18446744073709551616) (hy : y < 18446744073709551616) (w : World) :
  Calls Tryz.prog 120 #[.int .u64 x,.int .u64 y] w fun e w' => e = .returned (.tuple #[.int .u64 ((x * y / 18446744073709551616 : Nat) : Int),.int .u64 ((x * y % 18446744073709551616 : Nat) : Int)]) /\ w' = w:=Any.bits_Mul lays212 x y hx hy w
theorem rep_get {xs : List Int} (h6 : xs.length = 3) : ∀ (m i : Nat),i < m * 3 -> (repL m xs)[i]? = xs[i % 3]?
 | 0,i,h => absurd h (by omega)
 | m + 1,i,h => by
  rw [repL_succ]
  by_cases hi : i < 3
  ·rw [List.getElem?_append_left (by omega),Nat.mod_eq_of_lt hi]
  ·rw [List.getElem?_append_right (by omega),h6,rep_get h6 m (i - 3) (by omega)]
   congr 1
   omega
theorem rep_is {xs zs : List Int} {m : Nat} (h6 : xs.length = 3) (hl : zs.length = m * 3) (h : ∀ i,i < m * 3 -> zs[i]? = xs[i % 3]?) : zs = repL m xs:=by
 apply List.ext_getElem?
 intro i
 by_cases hi : i < m * 3
 ·rw [h i hi,rep_get h6 m i hi]
 ·rw [List.getElem?_eq_none (by omega),List.getElem?_eq_none (by rw [repL_length,h6]; omega)]
theorem reads_blk {w : World} {g c : Nat} {zs : List Int} (h : w.heap[g]? = some (.cells (zs.map (Value.int .i64)).toArray 3 (0,0))) (hl : zs.length = c) : Reads .i64 w (some ⟨g,0,none⟩) c zs:=by
 refine ⟨hl,fun _ => ⟨g,0,rfl,fun i hi => ?_⟩⟩
 rw [Nat.zero_add]
 refine cell_of h ?_
 have hi' : i < zs.length:=by omega
 rw [List.getElem?_toArray,List.getElem?_map,List.getElem?_eq_getElem hi',List.getD_eq_getElem?_getD,List.getElem?_eq_getElem hi']
 rfl
theorem isl_from (g n k : Nat) (hk : k < n) (W : World) : (Instr.slice 52 (.slice (some ⟨g,0,none⟩) n n) (some (.int .i64 (k : Int))) none none).run Tryz.prog W = .ok (.slice (some ⟨g,k,none⟩) (n - k) (n - k)) W:=by
 obtain ⟨i0,hi,hz0,hz1,hz2⟩:=info_parts Pq.info3
 have e : Tryz.prog.elem 52 = 3:=by kernel_rfl
 rw [run_slice_l (P:=Tryz.prog) (w:=W) 52 (some ⟨g,0,none⟩) n n Tryz.underlying52 .i64 (k : Int) (by omega) (by omega)]
 have hne : ¬ n = k:=by omega
 simp [e,sizeOf,typeInfo,hi,hz1,sliced,hne,Go.WideShapes.add_plain]
theorem isl_to (g n k : Nat) (hk : k <= n) (W : World) : (Instr.slice 52 (.slice (some ⟨g,0,none⟩) n n) none (some (.int .i64 (k : Int))) none).run Tryz.prog W = .ok (.slice (some ⟨g,0,none⟩) k n) W:=by
 obtain ⟨i0,hi,hz0,hz1,hz2⟩:=info_parts Pq.info3
 have e : Tryz.prog.elem 52 = 3:=by kernel_rfl
 rw [run_slice_h (P:=Tryz.prog) (w:=W) 52 (some ⟨g,0,none⟩) n n Tryz.underlying52 .i64 (k : Int) (by omega) (by omega)]
 simp [e,sizeOf,typeInfo,hi,hz1,sliced,Go.WideShapes.add_plain]
theorem icopy {W : World} {g p dl dc sl sc T : Nat} {a : Addr} {zs ys : List Int} (h : W.heap[g]? = some (.cells (zs.map (Value.int .i64)).toArray 3 (0,0))) (hz : zs.length = T) (hy : ys.length = Nat.min sl dl) (hf : p + ys.length <= T)
  (hs : ∀ j v,ys[j]? = some v -> W.cell? (a.add j) = some (.int .i64 v)) (ty : TypeId) :
  (Builtin.copy_ #[52,52] ty #[.slice (some ⟨g,p,none⟩) dl dc,.slice (some a) sl sc]).run Tryz.prog W = .ok (goInt (Nat.min sl dl)) (W.setCells g p (ys.map (Value.int .i64))):=by
 refine run_copy_size (P:=Tryz.prog) W 52 52 ty 3 g p dl dc a sl sc 1 (ys.map (Value.int .i64)) Tryz.underlying52 (by kernel_rfl) (by rw [List.length_map,hy]; omega) (fun j v hv => ?_) (fun j hj => ?_) (fun j _ => frozen_of_row W g _ _ _ h) (fun v hv => ?_)
 ·rw [List.getElem?_map] at hv
  cases e : ys[j]? with
  | none => rw [e] at hv; cases hv
  | some x => rw [e] at hv; injection hv with hv; rw [<- hv]; exact hs j x e
 ·rw [List.length_map] at hj
  rw [cell_of_row W g (p + j) _ _ _ h,Array.getElem?_eq_getElem (by simp; omega)]
  rfl
 ·obtain ⟨x,_,rfl⟩:=List.mem_map.1 hv
  rfl
theorem icopy_blk {W : World} {g p T : Nat} {zs ys : List Int} (h : W.heap[g]? = some (.cells (zs.map (Value.int .i64)).toArray 3 (0,0))) (hz : zs.length = T) (hf : p + ys.length <= T) :
  (W.setCells g p (ys.map (Value.int .i64))).heap[g]? = some (.cells ((zs.take p ++ ys ++ zs.drop (p + ys.length)).map (Value.int .i64)).toArray 3 (0,0)):=by
 rw [setCells_block _ p W _ h (by simp; omega)]
 simp [splice]
theorem cy_next {xs zs : List Int} {p k T : Nat} (hz : zs.length = T) (hp6 : p % 3 = 0) (hkp : k <= p) (hk : p + k <= T) (h : ∀ i,i < p -> zs[i]? = xs[i % 3]?) : ∀ i,i < p + k -> (zs.take p ++ zs.take k ++ zs.drop (p + (zs.take k).length))[i]? = xs[i % 3]?:=by
 intro i hi
 have l1 : (zs.take p).length = p:=by rw [List.length_take]; omega
 have l2 : (zs.take k).length = k:=by rw [List.length_take]; omega
 by_cases hip : i < p
 ·rw [List.append_assoc,List.getElem?_append_left (by omega),List.getElem?_take,if_pos hip]
  exact h i hip
 ·rw [List.append_assoc,List.getElem?_append_right (by omega),l1,List.getElem?_append_left (by omega),List.getElem?_take,if_pos (by omega),h (i - p) (by omega)]
  congr 1
  omega
theorem cy_len {zs : List Int} {p k T : Nat} (hz : zs.length = T) (hk : p + k <= T) : (zs.take p ++ zs.take k ++ zs.drop (p + (zs.take k).length)).length = T:=by
 simp [List.length_take]
 omega
set_option maxHeartbeats 4000000 in
theorem repeat_any {w : World} {b off c m : Nat} {xs : List Int} (hR : Reads .i64 w (some ⟨b,off,none⟩) 3 xs) (hm : m <= 255) : Calls Tryz.prog 74 #[.slice (some ⟨b,off,none⟩) 3 c,.int .i64 (m : Int)] w fun e w' => ∃ A c',e = .returned (.slice A (m * 3) c') /\ Reads .i64 w' A (m * 3) (repL m xs) /\ Below w.heap.size w w':=by
 obtain ⟨T,hT⟩ : ∃ T,T = m * 3:=⟨_,rfl⟩
 have hT36 : T <= 765:=by omega
 obtain ⟨i0,hi,hz0,hz1,hz2⟩:=info_parts Pq.info3
 have hmk:=fun (w : World) => run_make (w:=w) (P:=Tryz.prog) 52 3 i0 (.int .i64 0) Tryz.underlying52 hi hz0 .i64 .i64 (T : Int) (T : Int) (by omega) (Int.le_refl _) (by rw [hz2]; omega) (by omega)
 obtain ⟨w1,hw1⟩ : ∃ w1,w1 = w.alloc (.cells (madeCells #[.int .i64 0] T) 3):=⟨_,rfl⟩
 obtain ⟨g,eg⟩ : ∃ g,g = w.heap.size:=⟨_,rfl⟩
 have hb1 : Below w.heap.size w w1:=by rw [hw1]; exact box_below w _
 have hg1 : w1.heap[g]? = some (.cells ((List.replicate T (0 : Int)).map (Value.int .i64)).toArray 3 (0,0)):=by
  rw [hw1,eg]
  have:=new_block w (.cells (madeCells #[.int .i64 0] T) 3)
  rw [this]
  congr 2
  apply Array.ext'
  rw [toList_madeCells_one]
  simp
 have h6 : xs.length = 3:=hR.1
 have HR1:=hJQ (hR.kept hb1)
 have HB1:=hJQ hb1
 have HG1:=hJQ hg1
 have HW1:=hJQ hw1
 have EG:=hJQ eg
 have HMU:=hJQ (fun W => bmul_any 3 m (by omega) (by omega) W)
 have hhi : (3 * m / 18446744073709551616 : Nat) = 0:=by omega
 have hlo : (3 * m % 18446744073709551616 : Nat) = T:=by omega
 rw [hhi,hlo] at HMU
 have HT:=hJQ hT
 have H6:=hJQ h6
 have hTi : (0 : Int) <= (T : Int):=by omega
 have hTm : (T : Int) <= 765:=by omega
 have hmi : ¬ (m : Int) < 0:=by omega
 have hmj : decide ((m : Int) < 0) = false:=by simp
 have hm0 : (0 : Int) <= (m : Int):=by omega
 have hm6 : (m : Int) <= 255:=by omega
 -- the first copy
 obtain ⟨p,hp⟩ : ∃ p,p = min 3 T:=⟨_,rfl⟩
 have hpm : Nat.min 3 T = p:=hp.symm
 have hpT : p <= T:=by omega
 have hp6 : p % 3 = 0:=by
  by_cases e : m = 0
  ·rw [hp,hT,e]; decide
  ·have : p = 3:=by omega
   rw [this]
 have HP0 : Hid (p = 0 -> T = 0):=hJQ (fun e => by omega)
 have hcp : ∀ ty : TypeId,(Builtin.copy_ #[52,52] ty #[.slice (some ⟨g,0,none⟩) T T,.slice (some ⟨b,off,none⟩) 3 c]).run Tryz.prog w1 = .ok (goInt p) (w1.setCells g 0 ((xs.take p).map (Value.int .i64))):=fun ty => by
  have:=icopy (sl:=3) (dl:=T) (dc:=T) (sc:=c) (p:=0) (ys:=xs.take p) (a:=⟨b,off,none⟩) hg1 (List.length_replicate ..) (by rw [List.length_take,h6,hpm]; omega) (by rw [List.length_take]; omega) (fun j v hv => by
  obtain ⟨b9,off9,e9,hc9⟩:=HR1.out.2 (by omega)
  injection e9 with e9
  injection e9 with e9 e8
  subst e9; subst e8
  have hj : j < 3:=by
   have:=(List.getElem?_eq_some_iff.1 hv).1
   rw [List.length_take] at this
   omega
  have:=hc9 j hj
  rw [Go.WideShapes.add_plain,this]
  have hv2 : xs[j]? = some v:=by
   rw [List.getElem?_take] at hv
   split at hv
   ·exact hv
   ·cases hv
  rw [List.getD_eq_getElem?_getD,hv2]
  rfl) ty
  rw [hpm] at this
  exact this
 obtain ⟨w2,hw2⟩ : ∃ w2,w2 = w1.setCells g 0 ((xs.take p).map (Value.int .i64)):=⟨_,rfl⟩
 have hb2:=icopy_blk (p:=0) (ys:=xs.take p) hg1 (List.length_replicate ..) (by rw [List.length_take]; omega)
 rw [<- hw2] at hb2 hcp
 have HB2 : Hid (Below w.heap.size w w2):=hJQ (by rw [hw2]; exact hb1.trans (gb_to (setCells_grown _ _ _) (Nat.le_of_eq eg.symm) hb1.size))
 have HZ2 : Hid (∃ zs : List Int,zs.length = T /\ (∀ i,i < p -> zs[i]? = xs[i % 3]?) /\ w2.heap[g]? = some (.cells (zs.map (Value.int .i64)).toArray 3 (0,0))):=hJQ ⟨_,by simp; omega,fun i hi => by
  have hp66 : p <= 3:=by omega
  rw [List.take_zero,List.nil_append,List.getElem?_append_left (by rw [List.length_take]; omega),List.getElem?_take,if_pos hi,Nat.mod_eq_of_lt (by omega)],hb2⟩
 clear hR hw1 eg hb1 hg1 hT hw2 hb2 hhi hlo hp hpm h6
 go_enter Tryz.func74,Tryz.ntmps74
 go_wp2_with fail
 refine (HMU.out _).mono ?_
 rintro e w9 ⟨rfl,hw9⟩
 rw [hw9]
 clear hw9
 go_upto_region 7 with fail
 rw [<- HW1.out,<- EG.out]
 go_wp2_with fail
 clear hcp
 go_loopw [8] (fun i wr => ∃ (p : Nat),p <= T /\ p % 3 = 0 /\ (p = 0 -> T = 0) /\ i = .int .i64 p /\ Hid (∃ zs : List Int,zs.length = T /\ (∀ i,i < p -> zs[i]? = xs[i % 3]?) /\ wr.heap[g]? = some (.cells (zs.map (Value.int .i64)).toArray 3 (0,0))) /\ Hid (Below w.heap.size w wr)) (fun i _ => T - (intOf i).toNat)
 case atStart => exact ⟨p,hpT,hp6,HP0.out,rfl,HZ2,HB2⟩
 case round =>
  obtain ⟨p,hpT,hp6,hp0,rfl,HZ,HX⟩:=hrel
  by_cases hlt : p < T
  ·obtain ⟨zs,hz,hc,hb⟩:=HZ.out
   have hpos : 0 < p:=by omega
   obtain ⟨k,hk⟩ : ∃ k,k = min p (T - p):=⟨_,rfl⟩
   have hkm : Nat.min p (T - p) = k:=hk.symm
   have hkp : k <= p:=by omega
   have hkT : p + k <= T:=by omega
   have hk6 : (p + k) % 3 = 0:=by
    have hT6 : T % 3 = 0:=by rw [HT.out]; omega
    by_cases e : p <= T - p
    ·have : k = p:=by omega
     omega
    ·have : k = T - p:=by omega
     omega
   have hk1 : 0 < k:=by omega
   have HPK : Hid (p + k = 0 -> T = 0):=hJQ (fun e => by omega)
   have hpi : (p : Int) < (T : Int):=by omega
   have hp00 : (0 : Int) <= (p : Int):=by omega
   have hwp : IntKind.i64.wrap ((p : Int) + (k : Int)) = ((p + k : Nat) : Int):=by rw [IntKind.wrap_i64]; omega
   have hs1:=isl_from g T p hlt
   have hs2:=isl_to g T p hpT
   obtain ⟨w3,hw3⟩ : ∃ w3,w3 = wr.drew.setCells g p ((zs.take k).map (Value.int .i64)):=⟨_,rfl⟩
   have hbd : wr.drew.heap[g]? = some (.cells (zs.map (Value.int .i64)).toArray 3 (0,0)):=hb
   have hcp : ∀ ty : TypeId,(Builtin.copy_ #[52,52] ty #[.slice (some ⟨g,p,none⟩) (T - p) (T - p),.slice (some ⟨g,0,none⟩) p T]).run Tryz.prog wr.drew = .ok (goInt k) w3:=fun ty => by
    have:=icopy (W:=wr.drew) (sl:=p) (dl:=T - p) (dc:=T - p) (sc:=T) (p:=p) (ys:=zs.take k) (a:=⟨g,0,none⟩) hbd hz (by rw [List.length_take,hz,hkm]; omega) (by rw [List.length_take]; omega) (fun j v hv => by
     have hj : j < k:=by
      have:=(List.getElem?_eq_some_iff.1 hv).1
      rw [List.length_take] at this
      omega
     rw [Go.WideShapes.add_plain,Nat.zero_add]
     refine cell_of hbd ?_
     rw [List.getElem?_toArray,List.getElem?_map]
     have hv2 : zs[j]? = some v:=by rw [List.getElem?_take,if_pos hj] at hv; exact hv
     rw [hv2]
     rfl) ty
    rw [hkm] at this
    rw [hw3]
    exact this
   have hb3:=icopy_blk (p:=p) (ys:=zs.take k) hbd hz (by rw [List.length_take]; omega)
   rw [<- hw3] at hb3
   have HB3 : Hid (Below w.heap.size w w3):=hJQ (by rw [hw3]; exact HX.out.drew.trans ((gb_to (setCells_grown _ _ _) (by rw [EG.out]; exact Nat.le_refl _) HX.out.size)))
   have HZ3 : Hid (∃ zs : List Int,zs.length = T /\ (∀ i,i < p + k -> zs[i]? = xs[i % 3]?) /\ w3.heap[g]? = some (.cells (zs.map (Value.int .i64)).toArray 3 (0,0))):=hJQ ⟨_,cy_len hz hkT,cy_next hz hp6 hkp hkT hc,hb3⟩
   clear hz hc hb hbd hb3 hw3 hk hkm hp0
   go_upto_region 9 with fail
   go_region
   all_goals
    go_wp2_with fail
    go_roundw
    case rel => exact ⟨p + k,hkT,hk6,HPK.out,by first | rfl | go_num,HZ3,HB3⟩
    case measure => simp [intOf]; omega
  ·obtain rfl : p = T:=by omega
   have hpi : ¬ (p : Int) < (p : Int):=by omega
   have HE : Hid (∃ A,(∃ c',(Ending.returned (.slice (some ⟨g,0,none⟩) p p)) = .returned (.slice A (m * 3) c')) /\ Reads .i64 wr A (m * 3) (repL m xs) /\ Below w.heap.size w wr):=hJQ (by
    obtain ⟨zs,hz,hc,hb⟩:=HZ.out
    have hT:=HT.out
    refine ⟨some ⟨g,0,none⟩,⟨p,by rw [hT]⟩,?_,HX.out⟩
    have e:=rep_is H6.out (by rw [hz]; exact hT) (by rw [<- hT]; exact hc)
    rw [<- e]
    exact reads_blk hb (by rw [hz]; exact hT))
   go_wp2_with fail
   exact bodyPost_ret (v:=.slice (some ⟨g,0,none⟩) p p) (by simp [results,Tryz.results74,go_sem]) rfl HE.out
end Go.Proofs.YtlppinfjdnhlbaaGreatDoor
