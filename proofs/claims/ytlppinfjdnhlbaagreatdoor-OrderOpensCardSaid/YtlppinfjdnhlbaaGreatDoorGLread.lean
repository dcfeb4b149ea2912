/-
 A ledger in memory; what its small methods return: most,begin,Room. No condition.
 What ledger.read returns of a sector that there is,on a disk that lives: its bytes. No condition.
-/
import Derived.Test.YtlppinfjdnhlbaaGreatDoorHd
import Derived.Test.YtlppinfjdnhlbaaGreatDoorGSect
import Derived.BigQuiet
import Derived.Deep.QuietTactic
import Derived.IntWalk
namespace Go.Proofs.YtlppinfjdnhlbaaGreatDoor.Gq
set_option maxRecDepth 100000
open Go.ChangeShapes Go.WideShapes Go.ChangeAt Go.RowKit

def lcells (p : Nat) (G : Lg) (bv : Value) : List Value:=.pointer (some ⟨p,0,none⟩) :: .int .i64 (G.fr : Int) :: .int .i64 (G.sz : Int) :: (mcells G.m ++ [bv])
structure PL (w : World) (B : Bz) (q p : Nat) (G : Lg) (bv : Value) (D : Dk) : Prop where
 here : w.heap[q]? = some (.cells (lcells p G bv).toArray 219 (0,0))
 base : B <= q
 row : w.ownsRow B 5 1 bv G.bs.length (ints G.bs)
 disk : PDisk w B p D
 gok : Gok G D.firm.length
 zq : ¬ B.z q
 zb : Mine B bv
structure Kl (B : Bz) (w w' : World) : Prop where
 below : Below B w w'
 kept : ∀ (k : Nat) (o : Obj),w.heap[k]? = some o -> (B.z k ∨ ∀ cs t fr,o = Obj.cells cs t fr -> t ≠ 121 /\ t ≠ 152 /\ t ≠ 154 /\ t ≠ 5 /\ t ≠ 219) -> w'.heap[k]? = some o
theorem Kl.tag {B : Bz} {w w' : World} (h : Kl B w w') (k : Nat) (cs : Array Value) (t : TypeId) (fr : Nat × Nat) (hk : w.heap[k]? = some (Obj.cells cs t fr)) (ht : t ≠ 121 /\ t ≠ 152 /\ t ≠ 154 /\ t ≠ 5 /\ t ≠ 219) : w'.heap[k]? = some (Obj.cells cs t fr) :=
 h.kept k _ hk (.inr fun _ _ _ e => by injection e with _ e _; subst e; exact ht)
theorem Kl.refl (B : Bz) (w : World) : Kl B w w:=⟨Below.refl _ _,fun _ _ h _ => h⟩
theorem Kl.trans {B : Bz} {a b c : World} (h : Kl B a b) (k : Kl B b c) : Kl B a c:=⟨h.below.trans k.below,fun i o hi h1 => k.kept i o (h.kept i o hi h1) h1⟩
theorem Kl.of_below {B : Bz} {w w' : World} (h : Below w.heap.size w w') (hB : B <= w.heap.size) : Kl B w w' :=
 ⟨h.mono hB,fun k _ hk _ => (h.block k (Array.getElem?_eq_some_iff.1 hk).1).trans hk⟩
theorem Kl.of_kp {B : Bz} {w w' : World} (h : Kp B w w') : Kl B w w':=⟨h.below,fun k o hk ht => h.kept k o hk (ht.imp id fun ht cs t fr e => ⟨(ht cs t fr e).1,(ht cs t fr e).2.1,(ht cs t fr e).2.2.1⟩)⟩
theorem PL.lt {w : World} {B : Bz} {q p : Nat} {G : Lg} {bv : Value} {D : Dk} (h : PL w B q p G bv D) : q < w.heap.size:=(Array.getElem?_eq_some_iff.1 h.here).1
theorem PL.size {w : World} {B : Bz} {q p : Nat} {G : Lg} {bv : Value} {D : Dk} (h : PL w B q p G bv D) : B <= w.heap.size:=Nat.le_trans h.base (Nat.le_of_lt h.lt)
theorem PL.kept {w w' : World} {B : Bz} {q p : Nat} {G : Lg} {bv : Value} {D : Dk} (h : PL w B q p G bv D) (hb : Below w.heap.size w w') : PL w' B q p G bv D :=
 ⟨(hb.block q h.lt).trans h.here,h.base,own_below h.row hb,h.disk.kept hb,h.gok,h.zq,h.zb⟩
theorem lcells_len {p : Nat} {G : Lg} {bv : Value} (h : Nok G.m.num) : (lcells p G bv).length = 15:=by simp [lcells,mcells_len h]
theorem lcells_mark {p : Nat} {G : Lg} {bv : Value} (h : Nok G.m.num) (j : Nat) (hj : j < 11) : (lcells p G bv)[3 + j]? = (mcells G.m)[j]?:=by
 unfold lcells
 rw [Nat.add_comm,List.getElem?_cons_succ,List.getElem?_cons_succ,List.getElem?_cons_succ,List.getElem?_append_left (by rw [mcells_len h]; exact hj)]
theorem lcells_bytes {p : Nat} {G : Lg} {bv : Value} (h : Nok G.m.num) : (lcells p G bv)[14]? = some bv:=by
 unfold lcells
 rw [List.getElem?_cons_succ,List.getElem?_cons_succ,List.getElem?_cons_succ,List.getElem?_append_right (by rw [mcells_len h]; exact Nat.le_refl _),mcells_len h]; rfl
structure LCells (w : World) (q p : Nat) (G : Lg) (bv : Value) : Prop where
 c0 : w.cell? ⟨q,0,none⟩ = some (.pointer (some ⟨p,0,none⟩))
 c1 : w.cell? ⟨q,1,none⟩ = some (.int .i64 (G.fr : Int))
 c2 : w.cell? ⟨q,2,none⟩ = some (.int .i64 (G.sz : Int))
 c3 : w.cell? ⟨q,3,none⟩ = some (.int .i64 (G.m.slot : Int))
 c12 : w.cell? ⟨q,12,none⟩ = some (.int .i64 (G.m.half : Int))
 c13 : w.cell? ⟨q,13,none⟩ = some (.int .i64 (G.m.used : Int))
 c14 : w.cell? ⟨q,14,none⟩ = some bv
 num : w.rangeAt q 4 (ints G.m.num)
theorem LCells.of {w : World} {q p : Nat} {G : Lg} {bv : Value} {t : TypeId} {fr : Nat × Nat} (h : w.heap[q]? = some (.cells (lcells p G bv).toArray t fr)) (hN : Nok G.m.num) : LCells w q p G bv:=by
 have e : ∀ j v,(lcells p G bv)[j]? = some v -> w.cell? ⟨q,j,none⟩ = some v:=fun j v hv => by
  rw [cell_of_row w q j _ t fr h,List.getElem?_toArray]; exact hv
 refine ⟨e 0 _ rfl,e 1 _ rfl,e 2 _ rfl,e 3 _ ((lcells_mark hN 0 (by decide)).trans (mcells_slot _)),e 12 _ ((lcells_mark hN 9 (by decide)).trans (mcells_half hN)),e 13 _ ((lcells_mark hN 10 (by decide)).trans (mcells_used hN)),e 14 _ (lcells_bytes hN),fun j v hv => ?_⟩
 have hj : j < 8:=by have:=(List.getElem?_eq_some_iff.1 hv).1; rw [ints_length,hN.1] at this; exact this
 have:=(lcells_mark (p:=p) (bv:=bv) hN (1 + j) (by omega)).trans (mcells_num hN j hj)
 rw [show 3 + (1 + j) = 4 + j by omega] at this
 exact e (4 + j) _ (this.trans hv)
theorem LCells.kept {w w' : World} {q p : Nat} {G : Lg} {bv : Value} (h : LCells w q p G bv) (hb : Below w.heap.size w w') : LCells w' q p G bv:=by
 have e : ∀ j v,w.cell? ⟨q,j,none⟩ = some v -> w'.cell? ⟨q,j,none⟩ = some v:=fun j v hv => (hb.cell (p:=⟨q,j,none⟩) (cell_lt hv)).trans hv
 exact ⟨e _ _ h.c0,e _ _ h.c1,e _ _ h.c2,e _ _ h.c3,e _ _ h.c12,e _ _ h.c13,e _ _ h.c14,fun j v hv => e _ _ (h.num j v hv)⟩
theorem PL.zl {w : World} {B : Bz} {q p : Nat} {G : Lg} {bv : Value} {D : Dk} (h : PL w B q p G bv D) : ∀ k,B.z k -> k < w.heap.size:=by
 obtain ⟨_,_,_,h⟩:=h.disk
 exact h.zl
theorem PL.cells {w : World} {B : Bz} {q p : Nat} {G : Lg} {bv : Value} {D : Dk} (h : PL w B q p G bv D) : LCells w q p G bv:=LCells.of h.here h.gok.num
theorem Gok.small {G : Lg} {n : Nat} (h : Gok G n) : G.fr <= 65536 /\ G.sz <= 65536 /\ G.bs.length <= 4194304 /\ G.m.used <= 4194304:=by
 have:=h.fit; have:=h.n; have:=h.room; have:=h.used
 omega

theorem most_any (q p : Nat) (G : Lg) (bv : Value) (w : World) (h : LCells w q p G bv) (hs : G.sz <= 65536) :
  Calls Tryz.prog 174 #[.pointer (some ⟨q,0,none⟩)] w fun e w' => e = .returned (.int .i64 ((G.sz : Int) * 64)) /\ w = w':=by
 have c2:=h.c2
 have h0 : (0 : Int) <= (G.sz : Int):=by omega
 have h1 : (G.sz : Int) <= 65536:=by omega
 clear h
 go_enter Tryz.func174,Tryz.ntmps174
 go_wp2
 go_ret
 exact ⟨rfl,rfl⟩
theorem begin_any (q p : Nat) (G : Lg) (bv : Value) (half : Nat) (w : World) (h : LCells w q p G bv) (hf : G.fr <= 65536) (hs : G.sz <= 65536) (hh : half <= 1) :
  Calls Tryz.prog 175 #[.pointer (some ⟨q,0,none⟩),.int .i64 (half : Int)] w fun e w' => e = .returned (.int .i64 ((G.fr + 2 + half * G.sz : Nat) : Int)) /\ ∃ n,w' = w.drewN n:=by
 have c1:=h.c1
 have c2:=h.c2
 clear h
 have hc : half = 0 ∨ half = 1:=by omega
 rcases hc with rfl | rfl
 ·have e1 : IntKind.i64.wrap ((G.fr : Int) + 2) = (G.fr : Int) + 2:=by rw [IntKind.wrap_i64]; omega
  have e2 : IntKind.i64.wrap ((G.fr : Int) + 2 + 0) = (G.fr : Int) + 2 + 0:=by rw [IntKind.wrap_i64]; omega
  go_enter Tryz.func175,Tryz.ntmps175
  go_wp2
  go_quiet (fail)
  go_wp2
  go_ret
  exact ⟨ret_i (by omega),_,rfl⟩
 ·have e1 : IntKind.i64.wrap ((G.fr : Int) + 2) = (G.fr : Int) + 2:=by rw [IntKind.wrap_i64]; omega
  have e2 : IntKind.i64.wrap ((G.fr : Int) + 2 + (G.sz : Int)) = (G.fr : Int) + 2 + (G.sz : Int):=by rw [IntKind.wrap_i64]; omega
  have e3 : IntKind.i64.wrap (G.sz : Int) = (G.sz : Int):=by rw [IntKind.wrap_i64]; omega
  go_enter Tryz.func175,Tryz.ntmps175
  go_wp2
  go_quiet (fail)
  go_wp2
  go_ret
  exact ⟨ret_i (by omega),_,rfl⟩
open Go.ChangeShapes Go.WideShapes Go.ChangeAt Go.RowKit

theorem lread_start (w : World) : ((w.alloc (.cells Z64 151)).alloc (.cells Z64 151)).heap[w.heap.size]? = some (.cells Z64 151 (0,0)) /\ ((w.alloc (.cells Z64 151)).alloc (.cells Z64 151)).heap[w.heap.size + 1]? = some (.cells Z64 151 (0,0)) /\ Below w.heap.size w ((w.alloc (.cells Z64 151)).alloc (.cells Z64 151)):=by
 have h:=new_block (w.alloc (.cells Z64 151)) (.cells Z64 151)
 rw [show (w.alloc (.cells Z64 151)).heap.size = w.heap.size + 1 by simp] at h
 exact ⟨(Below.heap_alloc _ _ _ (by simp)).trans (new_block w _),h,(box_below w _).alloc (by simp) _⟩
theorem lread_mid {w w3 w4 : World} {s : List Int} (hb : Below w.heap.size w w3) (h0 : w3.heap[w.heap.size]? = some (.cells Z64 151 (0,0))) (h1 : w4.heap[w.heap.size + 1]? = some (.cells (ints s).toArray 151 (0,0))) (hg : w3.grownBy w4 (some (w.heap.size + 1))) :
  w4.heap[w.heap.size + 1]? = some (.cells (ints s).toArray 151 (0,0)) /\ w4.heap[w.heap.size]? = some (.cells Z64 151 (0,0)) /\ Below w.heap.size w w4 :=
 ⟨h1,(hg.block _ (Array.getElem?_eq_some_iff.1 h0).1 (fun e => by injection e with e; omega)).trans h0,hb.grown hg hb.size (fun k e => by injection e with e; omega)⟩
theorem lread_end {w w4 : World} {s : List Int} (hs : s.length = 64) (h : w4.heap[w.heap.size + 1]? = some (.cells (ints s).toArray 151 (0,0)) /\ w4.heap[w.heap.size]? = some (.cells Z64 151 (0,0)) /\ Below w.heap.size w w4) :
  (w4.setCells w.heap.size 0 (ints s)).heap[w.heap.size]? = some (.cells (ints s).toArray 151 (0,0)) /\ Below w.heap.size w (w4.setCells w.heap.size 0 (ints s)) :=
 ⟨set_whole h.2.1 (by rw [ints_length,hs,z64_size]),h.2.2.grown (setCells_grown _ _ _) h.2.2.size (fun k hk => by injection hk with hk; omega)⟩
set_option maxRecDepth 100000 in
theorem lread_any (B : Bz) (q p n : Nat) (G : Lg) (bv : Value) (D : Dk) (w : World) (hD : PDisk w B p D) (h : LCells w q p G bv) (hd : D.dead = false) (hn : n < D.firm.length) :
  Calls Tryz.prog 176 #[.pointer (some ⟨q,0,none⟩),.int .i64 (n : Int)] w fun e w' => e = .returned (.agg (ints ((cur D).getD n [])).toArray) /\ Below w.heap.size w w':=by
 obtain ⟨w2,hw2⟩ : ∃ w2,w2 = (w.alloc (.cells Z64 151)).alloc (.cells Z64 151):=⟨_,rfl⟩
 have hst:=lread_start w
 rw [<- hw2] at hst
 have HST:=hJQ hst
 have hok : Dok D:=by obtain ⟨_,_,_,h⟩:=hD; exact h.ok
 have HS : Hid (Sok ((cur D).getD n [])):=hJQ (lok_getD (cur_ok hok) (by rw [cur_len]; exact hn))
 obtain ⟨s,hs⟩ : ∃ s,s = (cur D).getD n []:=⟨_,rfl⟩
 have HR:=hJQ (read_any B p D (n : Int) w2 (hD.kept hst.2.2))
 have HDR:=hJQ (do_read hd hn)
 rw [<- hs] at HS HDR ⊢
 have c0 : w2.cell? ⟨q,0,none⟩ = some (.pointer (some ⟨p,0,none⟩)):=(hst.2.2.cell (p:=⟨q,0,none⟩) (cell_lt h.c0)).trans h.c0
 have HL : Hid ((ints s).length = 64):=hJQ (by rw [ints_length]; exact HS.out.1)
 have HSZ : Hid ((Tryz.prog.info? 151).map (·.size) = some (ints s).length):=hJQ (by rw [HL.out]; exact size86)
 have HS2 : Hid ((Tryz.prog.info? 151).map (·.size) = some (ints s).toArray.size):=hJQ (by rw [List.size_toArray,HL.out]; exact size86)
 have HON : Hid ((ints s).toArray.all (·.oneCell') = true):=hJQ (all_oneCell_toArray (ints_one _))
 clear hst hs hD h hok hd hn
 go_enter Tryz.func176,Tryz.ntmps176
 go_upto_region 2 with (first | (with_reducible refine wpList_alloc86 rfl rfl ?_) | fail)
 have hz1 : (w.alloc (.cells Z64 151)).heap.size = w.heap.size + 1:=by simp
 rw [hz1,<- hw2]
 clear hw2 hz1
 go_wp2_with fail
 refine HR.out.mono ?_
 rintro e w3 ⟨A,len,c,rfl,hrd,-,-,hb3,-⟩
 rw [HDR.out] at hrd ⊢
 have hlen : len = 64:=by rw [<- hrd.1]; exact HS.out.1
 subst hlen
 have HRD:=hJQ hrd
 have HB3:=hJQ (HST.out.2.2.trans (hb3.mono HST.out.2.2.size))
 have HG0 : Hid (w3.heap[w.heap.size]? = some (.cells Z64 151 (0,0))):=hJQ ((hb3.block _ (Array.getElem?_eq_some_iff.1 HST.out.1).1).trans HST.out.1)
 have HG1 : Hid (w3.heap[w.heap.size + 1]? = some (.cells (ints (List.replicate 64 0)).toArray 151 (0,0))):=hJQ (((hb3.block _ (Array.getElem?_eq_some_iff.1 HST.out.2.1).1).trans HST.out.2.1).trans (by rw [<- z64_list]))
 have HMN : Hid ((ints s).length = Nat.min 64 64):=hJQ HL.out
 have HFT : Hid (0 + (ints s).length <= (ints (List.replicate 64 0)).length):=hJQ (by rw [HL.out,ints_length,List.length_replicate]; decide)
 have HSP : Hid (splice (ints (List.replicate 64 0)) 0 (ints s) = ints s):=hJQ (by have e:=HS.out.1; rw [splice_ints]; simp [e])
 have HLE : Hid ((ints s).toArray.size <= Z64.size):=hJQ (by rw [List.size_toArray,HL.out,z64_size]; exact Nat.le_refl _)
 have c0' : w3.cell? ⟨q,0,none⟩ = some (.pointer (some ⟨p,0,none⟩)):=(hb3.cell (p:=⟨q,0,none⟩) (cell_lt c0)).trans c0
 clear hb3 hrd c0
 go_wp2_with (first
  | ((with_reducible refine wpList_copy_grown rfl (.tmp 17) (.tmp 18) rfl (some ⟨w.heap.size + 1,0,none⟩) A 64 64 64 c ?_ ?_ (w.heap.size + 1) 0 (ints (List.replicate 64 0)) 151 HG1.out (ints s) HMN.out (fun _ => ⟨rfl,reads_cells HRD.out (by decide)⟩) HFT.out (ints_one s) ?_); rfl; rfl; intro w4 hg4 hgr4; have HX:=hJQ (lread_mid HB3.out HG0.out (by rw [HSP.out] at hg4; exact hg4) hgr4); clear hg4 hgr4; have HRG:=hJQ (range_whole HX.out.1); have HTH:=hJQ (there_whole HX.out.2.1 HLE.out); have HEND:=hJQ (lread_end HS.out.1 HX.out))
  | ((with_reducible refine wpList_load_mid rfl 151 (.tmp 5) rfl (w.heap.size + 1) 0 ?_ (ints s) (.array 64 5) HRG.out Tryz.underlying151 ?_ HSZ.out ?_); rfl; rfl)
  | ((with_reducible refine wpList_store_mid rfl 151 (.tmp 4) (.tmp 20) rfl w.heap.size 0 (ints s).toArray ?_ ?_ HTH.out HS2.out HON.out ?_); rfl; rfl)
  | fail)
 exact bodyPost_ret (v:=.agg (ints s).toArray) (results_c rfl Tryz.underlying151 rfl _ _ w.heap.size (ints s) HSZ.out rfl (by exact HEND.out.1)) rfl ⟨rfl,HEND.out.2⟩
end Go.Proofs.YtlppinfjdnhlbaaGreatDoor.Gq
