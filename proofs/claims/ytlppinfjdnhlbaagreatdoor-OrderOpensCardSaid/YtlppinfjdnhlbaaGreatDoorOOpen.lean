/-
 What the loop of toLasting keeps; texts from the second one on. No condition.
 What toLasting returns of records: what they say of a node,where they are one's. Condition: no record is longer than memory bears,there are not too many.
 What openStore finds on a disk: a node's store,where its ledger says what a node is,and the disk bears the sign,or may yet get it. Condition: the disk is not dead,and has sectors enough.
-/
import Derived.Test.YtlppinfjdnhlbaaGreatDoorHd
import Derived.Test.YtlppinfjdnhlbaaGreatDoorOText
import Derived.Test.YtlppinfjdnhlbaaGreatDoorODec
namespace Go.Proofs.YtlppinfjdnhlbaaGreatDoor
set_option maxRecDepth 100000
open Go.ChangeShapes Go.WideShapes Go.ChangeAt Go.RowKit Go.Proofs.Rk
open Pq (Fld FReads errL bytL fcs dc Bys)
open Gq (SReads)

theorem strs_from {w : World} {A : Option Addr} {n c : Nat} {r : List (List Int)} (h : SReads w A n r) (hc : n <= c) (h1 : 1 <= n) :
  ∃ A' c',(∀ W : World,(Instr.slice 195 (.slice A n c) (some (.int .i64 1)) none none).run Tryz.prog W = .ok (.slice A' (n - 1) c') W) /\ SReads w A' (n - 1) (r.drop 1):=by
 obtain ⟨i0,hi,hz0,hz1,hz2⟩:=info_parts Gq.info9
 refine ⟨if c = 1 then A else A.map (·.add (1 * 1)),c - 1,fun W => ?_,?_⟩
 ·rw [run_slice_l (P:=Tryz.prog) (w:=W) 195 A n c Tryz.underlying195 .i64 (1 : Int) (by omega) (by omega)]
  have e : Tryz.prog.elem 195 = 9:=by kernel_rfl
  simp [e,sizeOf,typeInfo,hi,hz1,sliced]
 ·obtain ⟨e1,e2,e3⟩:=h
  refine ⟨by rw [List.length_drop]; omega,fun hp => ?_,fun s hs => e3 s (List.mem_of_mem_drop hs)⟩
  obtain ⟨b,off,rfl,hcell⟩:=e2 (by omega)
  rw [if_neg (by omega)]
  refine ⟨b,off + 1,by simp [Go.WideShapes.add_plain],fun i hi => ?_⟩
  have:=hcell (1 + i) (by omega)
  rw [show off + (1 + i) = off + 1 + i by omega] at this
  rw [this]
  congr 3
  rw [List.getD_eq_getElem?_getD,List.getD_eq_getElem?_getD,List.getElem?_drop]
theorem dcEs_snoc : ∀ {l : List (List Int)} {es : List En} {b : List Int} {e : En},dcEs l = some es -> dcE b = some e -> dcEs (l ++ [b]) = some (es ++ [e])
 | [],es,b,e,h,hb => by
  simp only [dcEs,Option.some.injEq] at h
  subst h
  simp [dcEs,hb]
 | x :: l,es,b,e,h,hb => by
  simp only [dcEs] at h
  cases hx : dcE x with
  | none => rw [hx] at h; cases h
  | some y =>
   rw [hx] at h
   simp only at h
   cases hl : dcEs l with
   | none => rw [hl] at h; cases h
   | some ys =>
    rw [hl] at h
    simp only [Option.some.injEq] at h
    subst h
    rw [List.cons_append]
    simp only [dcEs,hx,dcEs_snoc hl hb]
    rfl
theorem dcEs_bad : ∀ {l : List (List Int)} {b : List Int},b ∈ l -> dcE b = none -> dcEs l = none
 | x :: l,b,hm,hb => by
  rcases List.mem_cons.1 hm with rfl | hm
  ·simp only [dcEs,hb]
  ·simp only [dcEs,dcEs_bad hm hb]
   cases dcE x <;> rfl
theorem last_none1 {r0 : List Int} {rs : List (List Int)} (h : dcV r0 = none) : lastOf (r0 :: rs) = none:=by simp only [lastOf,h]
theorem last_none2 {r0 b : List Int} {rs : List (List Int)} (hm : b ∈ rs) (h : dcE b = none) : lastOf (r0 :: rs) = none:=by
 simp only [lastOf]
 cases dcV r0 with
 | none => rfl
 | some pn => simp only [dcEs_bad hm h]
theorem last_yes {r0 : List Int} {rs : List (List Int)} {p n : Int} {es : List En} (h1 : dcV r0 = some (p,n)) (h2 : dcEs rs = some es) (hc : n <= p /\ Rgt es /\ lastV es <= n) : lastOf (r0 :: rs) = some ⟨p,n,es⟩:=by
 simp only [lastOf,h1,h2]
 exact if_pos hc
theorem last_no {r0 : List Int} {rs : List (List Int)} {p n : Int} {es : List En} (h1 : dcV r0 = some (p,n)) (h2 : dcEs rs = some es) (hc : ¬ (n <= p /\ Rgt es /\ lastV es <= n)) : lastOf (r0 :: rs) = none:=by
 simp only [lastOf,h1,h2]
 exact if_neg hc
def TI (w6 : World) (q : Nat) (p n : Int) (es : List En) (wr : World) : Prop :=
 w6.grownBy wr (some q) /\ ∃ v,wr.heap[q]? = some (.cells #[.int .i64 p,.int .i64 n,v] 101 (0,0)) /\ wr.ownsRow w6.heap.size 45 3 v es.length (es.flatMap ecell)
theorem ti_old {w w6 wr : World} {q : Nat} {p n : Int} {es : List En} (h : TI w6 q p n es wr) (hb : Below w.heap.size w w6) (hq : w.heap.size <= q) : Below w.heap.size w wr :=
 ⟨h.1.os.trans hb.os,h.1.tape.trans hb.tape,h.1.output.trans hb.output,Nat.le_trans hb.size h.1.size,fun k hk => (h.1.block k (Nat.lt_of_lt_of_le hk hb.size) (fun e => by cases e; omega)).trans (hb.block k hk)⟩
theorem ti_below {w6 wr W : World} {q : Nat} {p n : Int} {es : List En} (h : TI w6 q p n es wr) (hb : Below wr.heap.size wr W) : TI w6 q p n es W:=by
 obtain ⟨hg,v,hv,ho⟩:=h
 exact ⟨hg.andThen (⟨hb.os,hb.tape,hb.output,hb.size,fun k hk _ => hb.block k hk⟩ : wr.grownBy W none) (fun j hj => by cases hj),v,blk_below hv hb,own_below ho hb⟩
theorem ti_q6 {w6 wr W5 W6 : World} {q : Nat} {p n : Int} {xs : List Value} {m : Nat} {e : En} {v : Value} (hq : q < w6.heap.size) (hv : wr.heap[q]? = some (.cells #[.int .i64 p,.int .i64 n,v] 101 (0,0))) (ho : wr.ownsRow w6.heap.size 45 3 v m xs) (h5 : Below wr.heap.size wr W5) (hg : (W5.alloc (.cells (ecell e).toArray 45)).grownBy W6 v.ownBlock) :
  W6.heap[q]? = some (.cells #[.int .i64 p,.int .i64 n,v] 101 (0,0)):=by
 have hA : Below wr.heap.size wr (W5.alloc (.cells (ecell e).toArray 45)):=h5.trans ((box_below W5 _).mono h5.size)
 have hqv : v.ownBlock ≠ some q:=fun e' => by have:=own_ge ho q e'; omega
 exact (hg.block q (Nat.lt_of_lt_of_le (blk_lt hv) hA.size) (fun e' => hqv e'.symm)).trans ((hA.block q (blk_lt hv)).trans hv)
theorem ti_next {w6 wr W5 W6 : World} {q : Nat} {p n : Int} {es : List En} {e : En} {v v' : Value} (hq : q < w6.heap.size) (hg0 : w6.grownBy wr (some q)) (hv : wr.heap[q]? = some (.cells #[.int .i64 p,.int .i64 n,v] 101 (0,0))) (ho : wr.ownsRow w6.heap.size 45 3 v es.length (es.flatMap ecell))
  (h5 : Below wr.heap.size wr W5) (h6 : W6.ownsRow w6.heap.size 45 3 v' (es.length + 1) (es.flatMap ecell ++ ecell e)) (hg : (W5.alloc (.cells (ecell e).toArray 45)).grownBy W6 v.ownBlock) :
  TI w6 q p n (es ++ [e]) (W6.setCell ⟨q,2,none⟩ v'):=by
 have hA : Below wr.heap.size wr (W5.alloc (.cells (ecell e).toArray 45)):=h5.trans ((box_below W5 _).mono h5.size)
 have hq6:=ti_q6 hq hv ho h5 hg
 have hX:=heap_setCell_same W6 q 2 _ _ v' hq6
 refine ⟨⟨hg.os.trans (hA.os.trans hg0.os),hg.tape.trans (hA.tape.trans hg0.tape),hg.output.trans (hA.output.trans hg0.output),?_,fun k hk hkq => ?_⟩,v',hX,?_⟩
 ·have:=hg.size; have:=hA.size; have:=hg0.size; simp; omega
 ·rw [Go.Deep.blk_setCell_other W6 _ _ k (fun e' => hkq (by rw [e']))]
  have h1:=hg0.block k hk hkq
  have hkW : k < wr.heap.size:=Nat.lt_of_lt_of_le hk hg0.size
  refine (hg.block k (Nat.lt_of_lt_of_le hkW hA.size) (fun e' => ?_)).trans ((hA.block k hkW).trans h1)
  have:=own_ge ho k e'.symm
  omega
 ·rw [List.length_append,List.length_singleton,List.flatMap_append]
  simp only [List.flatMap_cons,List.flatMap_nil,List.append_nil]
  refine h6.kept (row:=some q) ⟨rfl,rfl,rfl,by simp,fun k _ hk => Go.Deep.blk_setCell_other W6 _ _ k (fun e' => hk (by rw [e']))⟩ (.inr fun e' => ?_)
  have:=own_ge h6 q e'
  omega
def TlPost (w : World) (r : List (List Int)) (e : Ending) (w' : World) : Prop:=Below w.heap.size w w' /\ match lastOf r with
 | none => ∃ a b A n c,e = .returned (.tuple #[.agg #[.int .i64 a,.int .i64 b,.slice A n c],.bool false])
 | some L => ∃ A c,e = .returned (.tuple #[.agg #[.int .i64 L.pr,.int .i64 L.nm,.slice A L.log.length c],.bool true]) /\ w'.ownsRow w.heap.size 45 3 (.slice A L.log.length c) L.log.length (L.log.flatMap ecell)
theorem tl_none {w w' : World} {r : List (List Int)} {e : Ending} (h : lastOf r = none) (hb : Below w.heap.size w w') (he : ∃ a b A n c,e = .returned (.tuple #[.agg #[.int .i64 a,.int .i64 b,.slice A n c],.bool false])) : TlPost w r e w':=by
 unfold TlPost; rw [h]; exact ⟨hb,he⟩
theorem tl_some {w w' : World} {r : List (List Int)} {L : Ls} {A : Option Addr} {c : Nat} (h : lastOf r = some L) (hb : Below w.heap.size w w') (ho : w'.ownsRow w.heap.size 45 3 (.slice A L.log.length c) L.log.length (L.log.flatMap ecell)) :
  TlPost w r (.returned (.tuple #[.agg #[.int .i64 L.pr,.int .i64 L.nm,.slice A L.log.length c],.bool true])) w':=by
 unfold TlPost; rw [h]; exact ⟨hb,A,c,rfl,ho⟩
theorem res_last {fn : Func} {p q : Tmp} (h : fn.results = #[.cell p 101,.tmp q]) (tmps : Array Value) (w : World) (b : Nat) (x0 x1 x2 y : Value) (hp : tmps.getD p undef = .pointer (some ⟨b,0,none⟩)) (hq : tmps.getD q undef = y)
  (h4 : w.heap[b]? = some (.cells #[x0,x1,x2] 101 (0,0))) :
  (results fn tmps).run Tryz.prog w = .ok (.tuple #[.agg #[x0,x1,x2],y]) w:=by
 have hp' : tmps[p]?.getD undef = .pointer (some ⟨b,0,none⟩):=by simpa using hp
 have hq' : tmps[q]?.getD undef = y:=by simpa using hq
 have c0:=cell_of h4 (j:=0) rfl
 have c1:=cell_of h4 (j:=1) rfl
 have c2:=cell_of h4 (j:=2) rfl
 simp [results,h,hp',hq',asAddr,go_sem,c0,c1,c2]
theorem dc_bad_nz {ks b : List Int} {e : Int} (h : dc ks b = .bad e) : e ≠ 0:=by
 unfold dc at h
 cases hs : Pq.sm ks b with
 | bad e2 => rw [hs] at h; simp only at h; injection h with h; subst h; exact Pq.sm_bad_ne hs
 | good l n =>
  rw [hs] at h
  simp only at h
  split at h
  ·injection h with h; subst h; decide
  ·cases h
open Go.ChangeShapes Go.WideShapes Go.ChangeAt Go.RowKit Go.Proofs.Rk
open Pq (Fld FReads Reads errL bytL fcs sm dc Sm Bys byts)
open Gq (SReads)

set_option maxHeartbeats 16000000 in
theorem tolasting_any {w : World} {A : Option Addr} {n c : Nat} {rr : List (List Int)} (hR : SReads w A n rr) (hn : n <= 1000000) (hnc : n <= c) (hl : ∀ s ∈ rr,s.length <= maxLen) : Calls Tryz.prog 127 #[.slice A n c] w (TlPost w rr):=by
 obtain ⟨w1,hw1⟩ : ∃ xx,xx = w.alloc (.cells #[.int .i64 0,.int .i64 0,.slice none 0 0] 101):=⟨_,rfl⟩
 obtain ⟨r,er⟩ : ∃ xx,xx = w.heap.size:=⟨_,rfl⟩
 have hb1 : Below w.heap.size w w1:=by rw [hw1]; exact box_below w _
 have hr1 : w1.heap[r]? = some (.cells #[.int .i64 0,.int .i64 0,.slice none 0 0] 101 (0,0)):=by rw [hw1,er]; exact new_block w _
 have HR1:=hJQ hr1
 have HB1:=hJQ hb1
 have HW1:=hJQ hw1
 have ER:=hJQ er
 have HRR : Hid (w.heap.size <= r):=hJQ (Nat.le_of_eq er.symm)
 have HSR:=hJQ (hR.kept hb1)
 have HL:=hJQ hl
 clear hR hl hw1 er hb1 hr1
 cases rr with
 | nil =>
  have h0 : n = 0:=by have:=HSR.out.1; simpa using this.symm
  subst h0
  obtain ⟨W6,hW6⟩ : ∃ W6,W6 = (((w1.setCell ⟨r,0,none⟩ (.int .i64 0)).setCell ⟨r,1,none⟩ (.int .i64 0)).setCell ⟨r,2,none⟩ (.slice none 0 0)):=⟨_,rfl⟩
  obtain ⟨hwr6,hk6⟩:=setl3 HR1.out (.int .i64 0) (.int .i64 0) (.slice none 0 0)
  rw [<- hW6] at hwr6 hk6
  have HW6:=hJQ hW6
  have HK6:=hJQ hk6
  have HB6 : Hid (Below w.heap.size w W6):=hJQ (hwr6.new HB1.out HRR.out)
  have HWR6:=hJQ hwr6
  have hq6:=HR1.out
  have z0:=cell_of hq6 (j:=0) rfl
  have z1:=cell_of hq6 (j:=1) rfl
  have z2:=cell_of hq6 (j:=2) rfl
  have rf0:=frozen_of_row w1 r 0 _ _ hq6
  have rf1:=frozen_of_row w1 r 1 _ _ hq6
  have rf2:=frozen_of_row w1 r 2 _ _ hq6
  clear hW6 hk6 hwr6 hq6
  have HNO : Hid (lastOf [] = some Ls0):=hJQ rfl
  have HYE:=hJQ (tl_some (A:=none) (c:=0) HNO.out HB6.out (World.ownsRow_nil _ _ _ _))
  go_enter Tryz.func127,Tryz.ntmps127
  go_upto_region 1 with fail
  rw [<- HW1.out,<- ER.out]
  go_wp2_with fail
  rw [<- HW6.out]
  exact bodyPost_ret (v:=.tuple #[.agg #[.int .i64 0,.int .i64 0,.slice none 0 0],.bool true]) (res_last Tryz.results127 _ _ r _ _ _ _ (by simp) (by simp) HK6.out) rfl HYE.out
 | cons r0 rs =>
  have hlen : rs.length + 1 = n:=HSR.out.1
  have h0i : ((n : Int) == 0) = false:=by simp; omega
  have h0n : (n == 0) = false:=by simp; omega
  obtain ⟨b,off,rfl,hcc⟩:=HSR.out.2.1 (by omega)
  have c0 : w1.cell? ⟨b,off,none⟩ = some (.string (strOfNums r0)):=hcc 0 (by omega)
  have hb0 : Gq.Bys r0:=HSR.out.2.2 r0 (by simp)
  have HSB : Hid (Pq.sb (strOfNums r0) = r0):=hJQ (Gq.sb_str hb0)
  have hxs : (strOfNums r0).size <= maxLen:=by rw [Gq.str_size]; exact HL.out r0 (by simp)
  obtain ⟨X,hX⟩ : ∃ X,strOfNums r0 = X:=⟨_,rfl⟩
  rw [hX] at c0 hxs HSB
  have hlt0:=cell_lt c0
  have hni : (0 : Int) < (n : Int):=by omega
  have hnp : 0 < n:=by omega
  have HS : Hid (∀ W,Below w1.heap.size w1 W -> W.cell? ⟨b,off,none⟩ = some (.string X) /\ Below w1.heap.size w1 W):=hJQ (fun W hW => ⟨(hW.cell (p:=⟨b,_,none⟩) hlt0).trans c0,hW⟩)
  obtain ⟨sz,hsz⟩ : ∃ s,X.size = s:=⟨_,rfl⟩
  obtain ⟨fW,fg,fm,hcv,HFB0,HFR,HFM⟩ : ∃ (fW : World -> World) (fg fm : World -> Nat),(∀ W,(convert 9 82 (.string X)).run Tryz.prog W = .ok (.slice (some ⟨fg W,0,none⟩) sz (fm W)) (fW W)) /\ Hid (∀ W,Below W.heap.size W (fW W)) /\ Hid (∀ W,Reads .u8 (fW W) (some ⟨fg W,0,none⟩) sz (Pq.sb X)) /\ Hid (∀ W,sz <= fm W /\ fm W <= maxLen) :=
   ⟨fun W => Lib.bytesWorld W 5 X,fun W => W.heap.size,fun W => grownCap W X.size 0 5,fun W => by rw [<- hsz]; exact conv_str X W,hJQ (fun W => conv_below X W _),hJQ (fun W => by rw [<- hsz]; exact conv_reads8 X W _),hJQ (fun W => by rw [<- hsz]; exact ⟨grownCap_ge W X.size 0 _,grownCap_le_maxLen W X.size 0 _ hxs⟩)⟩
  have HKB : Hid (∀ W w',Below W.heap.size W w' -> ∀ V : World,Below V.heap.size V W -> Below V.heap.size V w'):=hJQ (fun W w' h V hV => hV.trans (h.mono hV.size))
  have HC1 : Hid (∀ W,Below w1.heap.size w1 W -> Calls Tryz.prog 155 #[.int .i64 0,.int .i64 0] W fun e w' => ∃ g,e = .returned (.slice (some ⟨g,0,none⟩) 2 2) /\ FReads w' (some ⟨g,0,none⟩) 2 (vwF 0 0) /\ Below w1.heap.size w1 w' /\ w'.cell? ⟨b,off,none⟩ = some (.string X) /\ ∀ V : World,Below V.heap.size V W -> Below V.heap.size V w'):=hJQ (fun W hS => by
   refine (ofviews_any 0 0 W).mono ?_
   rintro e w' ⟨g,rfl,h1,h2,h3⟩
   exact ⟨g,rfl,of_fields (l:=vwF 0 0) h1 (by simp [vwF]),hS.trans (h3.mono hS.size),(HS.out _ (hS.trans (h3.mono hS.size))).1,HKB.out _ _ h3⟩)
  have HC2 : Hid (∀ W g,Below w1.heap.size w1 W -> FReads W (some ⟨g,0,none⟩) 2 (vwF 0 0) -> Calls Tryz.prog 72 #[.slice (some ⟨g,0,none⟩) 2 2] W fun e w' => ∃ g,e = .returned (.slice (some ⟨g,0,none⟩) 2 2) /\ Reads .i64 w' (some ⟨g,0,none⟩) 2 [2,2] /\ Below w1.heap.size w1 w' /\ w'.cell? ⟨b,off,none⟩ = some (.string X) /\ ∀ V : World,Below V.heap.size V W -> Below V.heap.size V w'):=hJQ (fun W g hS hf => by
   refine (Pq.kinds_any (some ⟨g,0,none⟩) 2 2 _ W hf (by decide)).mono ?_
   rintro e w' ⟨rfl,h1,h2⟩
   exact ⟨_,rfl,h1,hS.trans (h2.mono hS.size),(HS.out _ (hS.trans (h2.mono hS.size))).1,HKB.out _ _ h2⟩)
  obtain ⟨D,hD⟩ : ∃ D,dc [2,2] (Pq.sb X) = D:=⟨_,rfl⟩
  obtain ⟨N,hN⟩ : ∃ N,N = D.l.length:=⟨_,rfl⟩
  obtain ⟨ER2,hER⟩ : ∃ ER,ER = D.e:=⟨_,rfl⟩
  have HC3 : Hid (∀ W0 W g,Below w1.heap.size w1 W -> Reads .i64 W (some ⟨g,0,none⟩) 2 [2,2] -> Below (fW W0).heap.size (fW W0) W -> Calls Tryz.prog 73 #[.slice (some ⟨g,0,none⟩) 2 2,.slice (some ⟨fg W0,0,none⟩) sz (fm W0)] W fun e w' => ∃ A2 c2,e = .returned (.tuple #[.slice A2 N c2,.int .i64 ER2]) /\ FReads w' A2 N D.l /\ Below w1.heap.size w1 w'):=hJQ (fun W0 W g hS hk hB => by
   have h:=Pq.decode_any (some ⟨g,0,none⟩) (some ⟨fg W0,0,none⟩) 2 2 sz (fm W0) [2,2] (Pq.sb X) W hk ((HFR.out W0).kept hB) (conv_bys X) (by decide) (HFM.out W0).1 (HFM.out W0).2
   rw [hD] at h
   refine h.mono ?_
   rintro e w' ⟨A2,c2,rfl,h1,h2⟩
   rw [hN,hER]
   exact ⟨A2,c2,rfl,h1.1,hS.trans (h2.mono hS.size)⟩)
  have HD : Hid (dc [2,2] r0 = D):=hJQ (by rw [<- HSB.out]; exact hD)
  have HN:=hJQ hN
  have HER:=hJQ hER
  have HBW : Hid (∀ W,Below w1.heap.size w1 W -> Below w1.heap.size w1 (fW W)):=hJQ (fun W h => h.trans ((HFB0.out W).mono h.size))
  have HFB : Hid (∀ W g,FReads W (some ⟨g,0,none⟩) 2 (vwF 0 0) -> FReads (fW W) (some ⟨g,0,none⟩) 2 (vwF 0 0)):=hJQ (fun W g h => h.kept (HFB0.out W))
  have HRB : Hid (∀ W g,Reads .i64 W (some ⟨g,0,none⟩) 2 [2,2] -> Reads .i64 (fW W) (some ⟨g,0,none⟩) 2 [2,2]):=hJQ (fun W g h => h.kept (HFB0.out W))
  have HRF : Hid (∀ W,Below (fW W).heap.size (fW W) (fW W)):=hJQ (fun W => Below.refl _ _)
  have HLEN:=hJQ hlen
  have hb0k : Bys r0:=hb0
  clear hcc hb0 hX hxs hD hN hER hsz hlen
  go_enter Tryz.func127,Tryz.ntmps127
  go_upto_region 1 with fail
  rw [<- HW1.out,<- ER.out]
  go_upto_region 3 with fail
  go_cut [4,5] from 15 to 24 (fun f e wx => ∃ A2 c2,f = .slice A2 N c2 /\ e = .int .i64 ER2 /\ Hid (FReads wx A2 N D.l) /\ Hid (Below w1.heap.size w1 wx))
  case first =>
   have hB0 : Below w1.heap.size w1 w1.drew:=(Below.refl _ _).drew
   have cB0 : w1.drew.cell? ⟨b,off,none⟩ = some (.string X):=c0
   go_region_with (first
    | (go_at_call 155; (with_reducible refine (HC1.out _ (by first | (with_reducible assumption) | (with_reducible exact HBW.out _ (by with_reducible assumption)))).mono ?_); rintro e w2 ⟨g1,rfl,hf1,hW1,hc1,hV1⟩)
    | (go_at_call 72; (with_reducible refine (HC2.out _ _ (by first | (with_reducible assumption) | (with_reducible exact HBW.out _ (by with_reducible assumption))) (by first | (with_reducible assumption) | (with_reducible exact HFB.out _ _ (by with_reducible assumption)))).mono ?_); rintro e w2 ⟨g2,rfl,hr2,hW2,hc2,hV2⟩)
    | (go_at_call 73; (with_reducible refine (HC3.out _ _ _ (by first | (with_reducible assumption) | (with_reducible exact HBW.out _ (by with_reducible assumption))) (by first | (with_reducible assumption) | (with_reducible exact HRB.out _ _ (by with_reducible assumption))) (by first | (with_reducible exact HRF.out _) | (with_reducible exact hV2 _ (HRF.out _)) | (with_reducible exact hV2 _ (hV1 _ (HRF.out _))))).mono ?_); rintro e w5 ⟨A5,c5,rfl,hf5,hW5⟩))
   all_goals
    have HF5:=hJQ hf5
    have HW5:=hJQ hW5
    clear hf5 hW5
    go_wp2_with fail
    go_meet
    case rel => exact ⟨_,_,rfl,rfl,HF5,HW5⟩
  case rest =>
   obtain ⟨A5,c5,rfl,rfl,HF5,HW5⟩:=hcut
   have HBC:=hJQ (HB1.out.trans (HW5.out.mono HB1.out.size))
   have HRC:=hJQ (blk_below HR1.out HW5.out)
   cases D with
   | bad er =>
    have hne : ER2 ≠ 0:=by rw [HER.out]; exact dc_bad_nz HD.out
    have hne1 : (ER2 == 0) = false:=by simpa using hne
    have hne2 : (ER2 != 0) = true:=by simpa using hne
    have HNO : Hid (lastOf (r0 :: rs) = none):=hJQ (last_none1 (by unfold dcV; rw [HD.out]))
    obtain ⟨W6,hW6⟩ : ∃ W6,W6 = (((wc.setCell ⟨r,0,none⟩ (.int .i64 0)).setCell ⟨r,1,none⟩ (.int .i64 0)).setCell ⟨r,2,none⟩ (.slice none 0 0)):=⟨_,rfl⟩
    obtain ⟨hwr6,hk6⟩:=setl3 HRC.out (.int .i64 0) (.int .i64 0) (.slice none 0 0)
    rw [<- hW6] at hwr6 hk6
    have HW6:=hJQ hW6
    have HK6:=hJQ hk6
    have HB6 : Hid (Below w.heap.size w W6):=hJQ (hwr6.new HBC.out HRR.out)
    have HWR6:=hJQ hwr6
    have hq6:=HRC.out
    have z0:=cell_of hq6 (j:=0) rfl
    have z1:=cell_of hq6 (j:=1) rfl
    have z2:=cell_of hq6 (j:=2) rfl
    have rf0:=frozen_of_row wc r 0 _ _ hq6
    have rf1:=frozen_of_row wc r 1 _ _ hq6
    have rf2:=frozen_of_row wc r 2 _ _ hq6
    clear hW6 hk6 hwr6 hq6
    go_wp2_with fail
    rw [<- HW6.out]
    exact bodyPost_ret (v:=.tuple #[.agg #[.int .i64 0,.int .i64 0,.slice none 0 0],.bool false]) (res_last Tryz.results127 _ _ r _ _ _ _ (by simp) (by simp) HK6.out) rfl (tl_none HNO.out HB6.out ⟨_,_,_,_,_,rfl⟩)
   | good f m =>
    have hfl:=(Pq.dc_good hb0k HD.out)
    have hf2 : f.length = 2:=by rw [hfl.2.2]; rfl
    have hN2 : N = 2:=by rw [HN.out]; exact hf2
    have hE0 : ER2 = 0:=by rw [HER.out]; rfl
    have HDV : Hid (dcV r0 = some ((f.getD 0 f0).n,(f.getD 1 f0).n)):=hJQ (by unfold dcV; rw [HD.out])
    subst hN2
    subst hE0
    obtain ⟨b1,o1,rfl,hcell⟩:=HF5.out.2 (by omega)
    have a0:=(hcell 0 (by omega)).2.1
    have a1:=(hcell 1 (by omega)).2.1
    simp only [Pq.Sm.l] at a0 a1
    rw [show o1 + 0 * 3 + 1 = o1 + 1 by omega] at a0
    rw [show o1 + 1 * 3 + 1 = o1 + 3 + 1 by omega] at a1
    have ef0 : f0 = Pq.z0:=rfl
    rw [ef0] at HDV
    obtain ⟨p0,hp0⟩ : ∃ k,(f.getD 0 Pq.z0).n = k:=⟨_,rfl⟩
    obtain ⟨n0,hn0⟩ : ∃ k,(f.getD 1 Pq.z0).n = k:=⟨_,rfl⟩
    rw [hp0] at a0 HDV
    rw [hn0] at a1 HDV
    have hlt1:=cell_lt a0
    obtain ⟨w6,hw6⟩ : ∃ xx,xx = (wc.alloc (.cells #[.int .i64 p0,.int .i64 n0,.slice none 0 0] 101)).drew:=⟨_,rfl⟩
    obtain ⟨q,eq⟩ : ∃ xx,xx = wc.heap.size:=⟨_,rfl⟩
    have hb6 : Below wc.heap.size wc w6:=by rw [hw6]; exact (box_below wc _).drew
    have hq6 : w6.heap[q]? = some (.cells #[.int .i64 p0,.int .i64 n0,.slice none 0 0] 101 (0,0)):=by rw [hw6,eq]; exact new_block wc _
    have HSF : Hid (∀ W,Below wc.heap.size wc W -> W.cell? ⟨b1,o1 + 1,none⟩ = some (.int .i64 p0) /\ W.cell? ⟨b1,o1 + 3 + 1,none⟩ = some (.int .i64 n0) /\ Below wc.heap.size wc W):=hJQ (fun W hW => ⟨(hW.cell (p:=⟨b1,_,none⟩) hlt1).trans a0,(hW.cell (p:=⟨b1,_,none⟩) hlt1).trans a1,hW⟩)
    have HSA : Hid (∀ W o,(W.cell? ⟨b1,o1 + 1,none⟩ = some (.int .i64 p0) /\ W.cell? ⟨b1,o1 + 3 + 1,none⟩ = some (.int .i64 n0) /\ Below wc.heap.size wc W) -> ((W.alloc o).cell? ⟨b1,o1 + 1,none⟩ = some (.int .i64 p0) /\ (W.alloc o).cell? ⟨b1,o1 + 3 + 1,none⟩ = some (.int .i64 n0) /\ Below wc.heap.size wc (W.alloc o))):=hJQ (fun W o hS => HSF.out _ (hS.2.2.trans ((box_below W o).mono hS.2.2.size)))
    have hlen:=HLEN.out
    obtain ⟨A',c',hsl,hsr⟩:=strs_from HSR.out hnc (by omega)
    rw [List.drop_one,List.tail_cons] at hsr
    obtain ⟨n1,hn1⟩ : ∃ n1,n - 1 = n1:=⟨_,rfl⟩
    rw [hn1] at hsl hsr
    have hn1b : n1 <= 1000000:=by omega
    have HRS : Hid (rs.length = n1):=hJQ (by omega)
    have HB16:=hJQ (HW5.out.trans (hb6.mono HW5.out.size))
    have HQ1 : Hid (w1.heap.size <= q):=hJQ (by rw [eq]; exact HW5.out.size)
    have HQ6 : Hid (q < w6.heap.size):=hJQ (blk_lt hq6)
    have HR6:=hJQ (blk_below HRC.out hb6)
    have HRQ : Hid (r ≠ q):=hJQ (by have:=HQ1.out; have:=blk_lt HR1.out; omega)
    have HBW6:=hJQ (HBC.out.trans (hb6.mono HBC.out.size))
    have HTI : Hid (TI w6 q p0 n0 [] w6):=hJQ ⟨World.grownBy.refl _ _,.slice none 0 0,hq6,by simpa using World.ownsRow_nil w6 w6.heap.size 45 3⟩
    have HSRS:=hJQ hsr
    have HW6':=hJQ hw6
    have EQ:=hJQ eq
    have h1n : (1 : Int) <= (n : Int):=by omega
    obtain ⟨i0,hi,hz0,hz1,hz2⟩:=info_parts infoE
    clear hfl hf2 hcell ef0 hp0 hn0 hlt1 hw6 eq hb6 hq6 hlen hsr hn1 HFB HRB HRF HBW HC1 HC2 HC3 HKB HFB0 HFR HFM hcv a0 a1 h0i h0n
    go_upto_region 6 with fail
    go_region_held3 (fun W => W.cell? ⟨b1,o1 + 1,none⟩ = some (.int .i64 p0) /\ W.cell? ⟨b1,o1 + 3 + 1,none⟩ = some (.int .i64 n0) /\ Below wc.heap.size wc W)
     (first
      | exact HSF.out _ (Below.refl _ _).drew
      | exact HSF.out _ (box_below _ _).drew
      | (with_reducible assumption)
      | (with_reducible exact HSA.out _ _ (by with_reducible assumption)))
     (fail)
    rename_i hHeld
    clear hHeld
    rw [<- HW6'.out,<- EQ.out]
    go_wp2_with fail
    go_loopw [40] (fun i wr => ∃ (k : Nat) (es : List En),k <= n1 /\ i = .int .i64 k /\ Hid (dcEs (rs.take k) = some es) /\ Hid (es.length = k) /\ Hid (TI w6 q p0 n0 es wr)) (fun i _ => n1 - (intOf i).toNat)
    case atStart => exact ⟨0,[],Nat.zero_le _,rfl,hJQ rfl,hJQ rfl,HTI⟩
    case round =>
     obtain ⟨k,es,hk,rfl,HDE,HEL,HTR⟩:=hrel
     by_cases hlt : k < n1
     ·have hki : (k : Int) < (n1 : Int):=by omega
      have hwk : IntKind.i64.wrap ((k : Int) + 1) = (k : Int) + 1:=by rw [IntKind.wrap_i64]; omega
      have hold:=ti_old HTR.out HB16.out HQ1.out
      obtain ⟨bS,oS,hAS,hcS⟩:=(HSRS.out.kept hold).2.1 (by omega)
      subst hAS
      have cS:=hcS k hlt
      obtain ⟨x,hx⟩ : ∃ x,rs[k]? = some x:=⟨_,List.getElem?_eq_getElem (by rw [HRS.out]; exact hlt)⟩
      have hgx : rs.getD k [] = x:=by rw [List.getD_eq_getElem?_getD,hx]; rfl
      rw [hgx] at cS
      have hmx : x ∈ rs:=List.mem_of_getElem? hx
      have hbx : Gq.Bys x:=HSRS.out.2.2 x hmx
      have HSX : Hid (Pq.sb (strOfNums x) = x):=hJQ (Gq.sb_str hbx)
      have hxs : (strOfNums x).size <= maxLen:=by rw [Gq.str_size]; exact HL.out x (by simp [hmx])
      have HTK : Hid (rs.take (k + 1) = rs.take k ++ [x]):=hJQ (by
       obtain ⟨h2,h3⟩:=List.getElem?_eq_some_iff.1 hx
       rw [List.take_succ_eq_append_getElem h2,h3])
      obtain ⟨X2,hX2⟩ : ∃ X,strOfNums x = X:=⟨_,rfl⟩
      rw [hX2] at cS hxs HSX
      obtain ⟨s2,hs2⟩ : ∃ s,X2.size = s:=⟨_,rfl⟩
      have HMX:=hJQ hmx
      have HBX:=hJQ hbx
      have HOE:=hJQ (ofentry_any ⟨0,0,⟨#[]⟩⟩ wr)
      clear hold hcS hgx hx hmx hbx hX2
      go_wp2_with fail
      refine HOE.out.mono ?_
      rintro e w7 ⟨b7,rfl,hk7,hg7,hb7⟩
      have HB7:=hJQ hb7
      have HK7:=hJQ (Pq.kinds_any (some ⟨b7,0,none⟩) 3 3 _ w7 (of_fields hk7 (by simp [enF])) (by decide))
      clear hk7 hg7 hb7 cS
      go_wp2_with fail
      refine HK7.out.mono ?_
      rintro e w8 ⟨rfl,hk8,hb8⟩
      have hkp : (enF ⟨0,0,⟨#[]⟩⟩).map (·.k) = [2,2,3]:=rfl
      rw [hkp] at hk8
      obtain ⟨w9,g9,m9,hcv,hb9,hr9,hm9,hm9'⟩:=conv_all X2 w8 hxs
      rw [hs2] at hcv hr9 hm9
      obtain ⟨D2,hD2⟩ : ∃ D,dc [2,2,3] x = D:=⟨_,rfl⟩
      obtain ⟨N2,hN2⟩ : ∃ N,N = D2.l.length:=⟨_,rfl⟩
      obtain ⟨E2,hE2⟩ : ∃ E,E = D2.e:=⟨_,rfl⟩
      have HDC : Hid (Calls Tryz.prog 73 #[.slice (some ⟨w7.heap.size,0,none⟩) 3 3,.slice (some ⟨g9,0,none⟩) s2 m9] w9 fun e w' => ∃ A2 c2,e = .returned (.tuple #[.slice A2 N2 c2,.int .i64 E2]) /\ FReads w' A2 N2 D2.l /\ (∀ b off,A2 = some ⟨b,off,none⟩ -> w9.heap.size <= b) /\ Below w9.heap.size w9 w'):=hJQ (by
       rw [HSX.out] at hr9
       have h:=Pq.decode_any (some ⟨w7.heap.size,0,none⟩) (some ⟨g9,0,none⟩) 3 3 s2 m9 [2,2,3] x w9 (hk8.kept hb9) hr9 HBX.out (by decide) hm9 hm9'
       rw [hD2] at h
       refine h.mono ?_
       rintro e w' ⟨A2,c2,rfl,h1,h2⟩
       rw [hN2,hE2]
       exact ⟨A2,c2,rfl,h1.1,h1.2.2,h2⟩)
      have HB79:=hJQ ((HB7.out.trans (hb8.mono HB7.out.size)).trans (hb9.mono (Nat.le_trans HB7.out.size hb8.size)))
      have HD2:=hJQ hD2
      have HN2:=hJQ hN2
      have HE2:=hJQ hE2
      clear hkp hk8 hb8 hb9 hr9 hm9 hm9' hD2 hN2 hE2 hs2 hxs
      go_wp2_with fail
      refine HDC.out.mono ?_
      rintro e w10 ⟨A10,c10,rfl,hf10,hn10,hb10⟩
      have HB10:=hJQ (HB79.out.trans (hb10.mono HB79.out.size))
      have HT10:=hJQ (ti_below HTR.out HB10.out)
      have HBT:=hJQ (ti_old HT10.out HBW6.out (Nat.le_trans HB1.out.size HQ1.out))
      have HR10 : Hid (w10.heap[r]? = some (.cells #[.int .i64 0,.int .i64 0,.slice none 0 0] 101 (0,0))):=hJQ ((HT10.out.1.block r (blk_lt HR6.out) (fun e => HRQ.out (by cases e; rfl))).trans HR6.out)
      have HF10:=hJQ hf10
      clear hcv hb10
      cases D2 with
      | bad er =>
       have hne : E2 ≠ 0:=by rw [HE2.out]; exact dc_bad_nz HD2.out
       have hne1 : (E2 == 0) = false:=by simpa using hne
       have hne2 : (E2 != 0) = true:=by simpa using hne
       have HNO : Hid (lastOf (r0 :: rs) = none):=hJQ (last_none2 HMX.out (by unfold dcE; rw [HD2.out]))
       clear hne
       obtain ⟨W6,hW6⟩ : ∃ W6,W6 = (((w10.setCell ⟨r,0,none⟩ (.int .i64 0)).setCell ⟨r,1,none⟩ (.int .i64 0)).setCell ⟨r,2,none⟩ (.slice none 0 0)):=⟨_,rfl⟩
       obtain ⟨hwr6,hk6⟩:=setl3 HR10.out (.int .i64 0) (.int .i64 0) (.slice none 0 0)
       rw [<- hW6] at hwr6 hk6
       have HW6:=hJQ hW6
       have HK6:=hJQ hk6
       have HB6 : Hid (Below w.heap.size w W6):=hJQ (hwr6.new HBT.out HRR.out)
       have HWR6:=hJQ hwr6
       have hq6:=HR10.out
       have z0:=cell_of hq6 (j:=0) rfl
       have z1:=cell_of hq6 (j:=1) rfl
       have z2:=cell_of hq6 (j:=2) rfl
       have rf0:=frozen_of_row w10 r 0 _ _ hq6
       have rf1:=frozen_of_row w10 r 1 _ _ hq6
       have rf2:=frozen_of_row w10 r 2 _ _ hq6
       clear hW6 hk6 hwr6 hq6
       go_wp2_with fail
       rw [<- HW6.out]
       exact bodyPost_ret (v:=.tuple #[.agg #[.int .i64 0,.int .i64 0,.slice none 0 0],.bool false]) (res_last Tryz.results127 _ _ r _ _ _ _ (by simp) (by simp) HK6.out) rfl (tl_none HNO.out HB6.out ⟨_,_,_,_,_,rfl⟩)
      | good f2 m2 =>
       have hfl2:=Pq.dc_good HBX.out HD2.out
       have hf3 : f2.length = 3:=by rw [hfl2.2.2]; rfl
       have hN3 : N2 = 3:=by rw [HN2.out]; exact hf3
       have hE3 : E2 = 0:=by rw [HE2.out]; rfl
       have HDX : Hid (dcE x = some ⟨(f2.getD 0 f0).n,(f2.getD 1 f0).n,(f2.getD 2 f0).s⟩):=hJQ (by unfold dcE; rw [HD2.out])
       subst hN3
       subst hE3
       obtain ⟨b9,P,rfl,hcell⟩:=HF10.out.2 (by omega)
       have a0:=(hcell 0 (by omega)).2.1
       have a1:=(hcell 1 (by omega)).2.1
       have a2:=(hcell 2 (by omega)).2.2
       simp only [Pq.Sm.l] at a0 a1 a2
       rw [show P + 0 * 3 + 1 = P + 1 by omega] at a0
       rw [show P + 1 * 3 + 1 = P + 3 + 1 by omega] at a1
       rw [show P + 2 * 3 + 2 = P + 6 + 2 by omega] at a2
       have ef0 : f0 = Pq.z0:=rfl
       rw [ef0] at HDX
       obtain ⟨x1,hx1⟩ : ∃ k,(f2.getD 0 Pq.z0).n = k:=⟨_,rfl⟩
       obtain ⟨x2,hx2⟩ : ∃ k,(f2.getD 1 Pq.z0).n = k:=⟨_,rfl⟩
       obtain ⟨x3,hx3⟩ : ∃ k,(f2.getD 2 Pq.z0).s = k:=⟨_,rfl⟩
       rw [hx1] at a0 HDX
       rw [hx2] at a1 HDX
       rw [hx3] at a2 HDX
       have HTE : Hid (Calls Tryz.prog 76 #[.slice (some ⟨b9,P,none⟩) 3 c10] w10.drew fun e w' => e = .returned (.agg #[.int .i64 x1,.int .i64 x2,.string x3]) /\ Below w10.heap.size w10 w'):=hJQ (by
        have:=toentry_any (c:=c10) (w:=w10.drew) (b:=b9) (off:=P) (x:=x1) (y:=x2) (s:=x3) a0 a1 a2
        exact this.mono fun e w' h => ⟨h.1,(Below.refl _ _).drew.trans (h.2.mono (Nat.le_refl _))⟩)
       have HDE2 : Hid (dcEs (rs.take (k + 1)) = some (es ++ [⟨x1,x2,x3⟩])):=hJQ (by rw [HTK.out]; exact dcEs_snoc HDE.out HDX.out)
       have HEL2 : Hid ((es ++ [(⟨x1,x2,x3⟩ : En)]).length = k + 1):=hJQ (by rw [List.length_append,HEL.out]; rfl)
       obtain ⟨hg0,v,hvq,hown⟩:=HT10.out
       obtain ⟨av,cv,rfl,-,-,-⟩:=own_form hown
       have HVQ:=hJQ hvq
       have HOW:=hJQ hown
       have HSZ : Hid (w6.heap.size <= w10.heap.size):=hJQ hg0.size
       have HDN:=hJQ (fun W5 W6 v' (h5 : Below w10.heap.size w10 W5) h6 hg => ti_next (e:=⟨x1,x2,x3⟩) (W6:=W6) (v':=v') HQ6.out hg0 hvq hown h5 h6 hg)
       have HQX:=hJQ (fun W5 W6 (h5 : Below w10.heap.size w10 W5) hg => ti_q6 (e:=⟨x1,x2,x3⟩) (W6:=W6) HQ6.out hvq hown h5 hg)
       have c4:=cell_of hvq (j:=2) rfl
       clear hg0 hvq hown hfl2 hf3 hcell a0 a1 a2 ef0 hx1 hx2 hx3
       go_upto_region 13 with fail
       refine wp_region_held_drew (S:=fun _ => True) (by kernel_rfl) trivial (fun _ => ?_)
       refine take_op 0 56 (.pointer (some ⟨q,2,none⟩)) rfl rfl (by kernel_rfl) (by kernel_rfl) (by kernel_rfl) (fun _ _ _ h => h) (.inl ⟨by rfl,fun w' hw' => by go_simp⟩) trivial ?_
       simp only [lz,ls]
       refine take_op 2 58 (.slice (some ⟨b9,P,none⟩) 3 c10) rfl rfl (by kernel_rfl) (by kernel_rfl) (by kernel_rfl) (fun _ _ _ h => h) (.inl ⟨by rfl,fun w' hw' => by go_simp⟩) trivial ?_
       simp only [lz,ls]
       refine wpAnyH_ready (rs:=[1,3]) (by kernel_rfl) (by simp) ?_
       refine AllReadyH.cons rfl (fun K hK => ?_) (AllReadyH.cons rfl (fun K hK => ?_) (AllReadyH.nil))
       ·go_simp
        refine hK.out _ _ trivial (fun _ => ?_)
        clear hK K
        try simp only [Act.put,lp,lz,ls]
        refine r1 3 (fun K hK => ?_) rfl
        go_simp
        refine HTE.out.mono ?_
        rintro e W5 ⟨rfl,h5⟩
        have HB5:=hJQ h5
        have c5:=cell_of (blk_below HVQ.out h5) (j:=2) rfl
        have cA:=cell_of (blk_alloc (blk_below HVQ.out h5) (.cells #[.int .i64 x1,.int .i64 x2,.string x3] 45)) (j:=2) rfl
        have hoA:=own_below HOW.out (h5.trans ((box_below W5 (.cells #[.int .i64 x1,.int .i64 x2,.string x3] 45)).mono h5.size))
        have hszA : w6.heap.size <= (W5.alloc (.cells #[.int .i64 x1,.int .i64 x2,.string x3] 45)).heap.size:=Nat.le_trans HSZ.out (Nat.le_trans h5.size (by simp))
        clear h5
        go_wp2_with fail
        refine hK.out _ _ trivial (fun _ => ?_)
        clear hK K
        try simp only [Act.put,lp,lz,ls]
        refine r1 4 (fun K hK => ?_) rfl
        go_simp
        refine hK.out _ _ trivial (fun _ => ?_)
        clear hK K
        try simp only [Act.put,lp,lz,ls]
        refine r1 5 (fun K hK => ?_) rfl
        refine step_append_lies (w:=W5.alloc (.cells #[.int .i64 x1,.int .i64 x2,.string x3] 45)) (by rfl) _ _ 32 (by rfl) w6.heap.size 45 i0 _ 3 32 Tryz.underlying32 hi hz0 hz1 hz2 rfl (by decide) (.slice av es.length cv) es.length (es.flatMap ecell) (by rfl) hoA ⟨W5.heap.size,0,none⟩ 1 1 (ecell ⟨x1,x2,x3⟩) (by rfl) rfl entry_run (ecell_one _) (by decide) (by unfold maxLen; have:=HEL.out; omega) (by have:=HEL.out; omega) hszA (W5.alloc (.cells #[.int .i64 x1,.int .i64 x2,.string x3] 45)).heap.size rfl ?_
        intro g6 cap W6 h6 hg6 _ _
        have HX6:=hJQ (HDN.out W5 W6 _ HB5.out h6 hg6)
        have hq6:=HQX.out W5 W6 HB5.out hg6
        have c6:=cell_of hq6 (j:=2) rfl
        have f6:=frozen_of_row _ _ 2 _ _ hq6
        clear h6 hg6 hq6
        refine hK.out _ _ trivial (fun _ => ?_)
        clear hK K
        try simp only [Act.put,List.setIfInBounds_toArray]
        refine take_op 6 62 (.pointer (some ⟨q,2,none⟩)) rfl rfl (by kernel_rfl) (by kernel_rfl) (by kernel_rfl) (fun _ _ _ h => h) (.inl ⟨by rfl,fun w' hw' => by go_simp⟩) trivial ?_
        simp only [lz,ls]
        refine r1 7 (fun K hK => ?_) rfl
        go_simp
        refine hK.out _ _ trivial (fun _ => ?_)
        clear hK K
        try simp only [Act.put,lp,lz,ls]
        refine wpAnyH_done (by kernel_rfl) ?_ _
        go_wp2_with fail
        go_roundw
        case rel => exact ⟨k + 1,es ++ [⟨x1,x2,x3⟩],by omega,by go_num,HDE2,HEL2,HX6⟩
        case measure => simp [intOf]; omega
       ·go_simp
        refine HTE.out.mono ?_
        rintro e W5 ⟨rfl,h5⟩
        have HB5:=hJQ h5
        have c5:=cell_of (blk_below HVQ.out h5) (j:=2) rfl
        have cA:=cell_of (blk_alloc (blk_below HVQ.out h5) (.cells #[.int .i64 x1,.int .i64 x2,.string x3] 45)) (j:=2) rfl
        have hoA:=own_below HOW.out (h5.trans ((box_below W5 (.cells #[.int .i64 x1,.int .i64 x2,.string x3] 45)).mono h5.size))
        have hszA : w6.heap.size <= (W5.alloc (.cells #[.int .i64 x1,.int .i64 x2,.string x3] 45)).heap.size:=Nat.le_trans HSZ.out (Nat.le_trans h5.size (by simp))
        clear h5
        go_wp2_with fail
        refine hK.out _ _ trivial (fun _ => ?_)
        clear hK K
        try simp only [Act.put,lp,lz,ls]
        refine wpAnyH_ready (rs:=[1,4]) (by kernel_rfl) (by simp) ?_
        refine AllReadyH.cons rfl (fun K hK => ?_) (AllReadyH.cons rfl (fun K hK => ?_) (AllReadyH.nil))
        ·go_simp
         refine hK.out _ _ trivial (fun _ => ?_)
         clear hK K
         try simp only [Act.put,lp,lz,ls]
         refine r1 4 (fun K hK => ?_) rfl
         go_simp
         refine hK.out _ _ trivial (fun _ => ?_)
         clear hK K
         try simp only [Act.put,lp,lz,ls]
         refine r1 5 (fun K hK => ?_) rfl
         refine step_append_lies (w:=W5.alloc (.cells #[.int .i64 x1,.int .i64 x2,.string x3] 45)) (by rfl) _ _ 32 (by rfl) w6.heap.size 45 i0 _ 3 32 Tryz.underlying32 hi hz0 hz1 hz2 rfl (by decide) (.slice av es.length cv) es.length (es.flatMap ecell) (by rfl) hoA ⟨W5.heap.size,0,none⟩ 1 1 (ecell ⟨x1,x2,x3⟩) (by rfl) rfl entry_run (ecell_one _) (by decide) (by unfold maxLen; have:=HEL.out; omega) (by have:=HEL.out; omega) hszA (W5.alloc (.cells #[.int .i64 x1,.int .i64 x2,.string x3] 45)).heap.size rfl ?_
         intro g6 cap W6 h6 hg6 _ _
         have HX6:=hJQ (HDN.out W5 W6 _ HB5.out h6 hg6)
         have hq6:=HQX.out W5 W6 HB5.out hg6
         have c6:=cell_of hq6 (j:=2) rfl
         have f6:=frozen_of_row _ _ 2 _ _ hq6
         clear h6 hg6 hq6
         refine hK.out _ _ trivial (fun _ => ?_)
         clear hK K
         try simp only [Act.put,List.setIfInBounds_toArray]
         refine take_op 6 62 (.pointer (some ⟨q,2,none⟩)) rfl rfl (by kernel_rfl) (by kernel_rfl) (by kernel_rfl) (fun _ _ _ h => h) (.inl ⟨by rfl,fun w' hw' => by go_simp⟩) trivial ?_
         simp only [lz,ls]
         refine r1 7 (fun K hK => ?_) rfl
         go_simp
         refine hK.out _ _ trivial (fun _ => ?_)
         clear hK K
         try simp only [Act.put,lp,lz,ls]
         refine wpAnyH_done (by kernel_rfl) ?_ _
         go_wp2_with fail
         go_roundw
         case rel => exact ⟨k + 1,es ++ [⟨x1,x2,x3⟩],by omega,by go_num,HDE2,HEL2,HX6⟩
         case measure => simp [intOf]; omega
        ·go_simp
         refine hK.out _ _ trivial (fun _ => ?_)
         clear hK K
         try simp only [Act.put,lp,lz,ls]
         refine r1 1 (fun K hK => ?_) rfl
         go_simp
         refine hK.out _ _ trivial (fun _ => ?_)
         clear hK K
         try simp only [Act.put,lp,lz,ls]
         refine r1 5 (fun K hK => ?_) rfl
         refine step_append_lies (w:=W5.alloc (.cells #[.int .i64 x1,.int .i64 x2,.string x3] 45)) (by rfl) _ _ 32 (by rfl) w6.heap.size 45 i0 _ 3 32 Tryz.underlying32 hi hz0 hz1 hz2 rfl (by decide) (.slice av es.length cv) es.length (es.flatMap ecell) (by rfl) hoA ⟨W5.heap.size,0,none⟩ 1 1 (ecell ⟨x1,x2,x3⟩) (by rfl) rfl entry_run (ecell_one _) (by decide) (by unfold maxLen; have:=HEL.out; omega) (by have:=HEL.out; omega) hszA (W5.alloc (.cells #[.int .i64 x1,.int .i64 x2,.string x3] 45)).heap.size rfl ?_
         intro g6 cap W6 h6 hg6 _ _
         have HX6:=hJQ (HDN.out W5 W6 _ HB5.out h6 hg6)
         have hq6:=HQX.out W5 W6 HB5.out hg6
         have c6:=cell_of hq6 (j:=2) rfl
         have f6:=frozen_of_row _ _ 2 _ _ hq6
         clear h6 hg6 hq6
         refine hK.out _ _ trivial (fun _ => ?_)
         clear hK K
         try simp only [Act.put,List.setIfInBounds_toArray]
         refine take_op 6 62 (.pointer (some ⟨q,2,none⟩)) rfl rfl (by kernel_rfl) (by kernel_rfl) (by kernel_rfl) (fun _ _ _ h => h) (.inl ⟨by rfl,fun w' hw' => by go_simp⟩) trivial ?_
         simp only [lz,ls]
         refine r1 7 (fun K hK => ?_) rfl
         go_simp
         refine hK.out _ _ trivial (fun _ => ?_)
         clear hK K
         try simp only [Act.put,lp,lz,ls]
         refine wpAnyH_done (by kernel_rfl) ?_ _
         go_wp2_with fail
         go_roundw
         case rel => exact ⟨k + 1,es ++ [⟨x1,x2,x3⟩],by omega,by go_num,HDE2,HEL2,HX6⟩
         case measure => simp [intOf]; omega
     ·obtain rfl : k = n1:=by omega
      have hdes:=HDE.out
      rw [List.take_of_length_le (Nat.le_of_eq HRS.out)] at hdes
      have HDF:=hJQ hdes
      have hbw:=ti_old HTR.out HBW6.out (Nat.le_trans HB1.out.size HQ1.out)
      have hrw : wr.heap[r]? = some (.cells #[.int .i64 0,.int .i64 0,.slice none 0 0] 101 (0,0)):=(HTR.out.1.block r (blk_lt HR6.out) (fun e => HRQ.out (by cases e; rfl))).trans HR6.out
      have HSZW : Hid (w.heap.size <= w6.heap.size):=hJQ HBW6.out.size
      obtain ⟨hg0,v,hvq,hown⟩:=HTR.out
      obtain ⟨A6,c6,rfl,-,-,-⟩:=own_form hown
      have HVQ:=hJQ hvq
      have HOW:=hJQ hown
      have HBWR:=hJQ hbw
      have HRWR:=hJQ hrw
      have HS0 : Hid (∀ W : World,W.heap[q]? = some (.cells #[.int .i64 p0,.int .i64 n0,.slice A6 es.length c6] 101 (0,0)) -> (W.cell? ⟨q,0,none⟩ = some (.int .i64 p0) /\ W.cell? ⟨q,1,none⟩ = some (.int .i64 n0) /\ W.cell? ⟨q,2,none⟩ = some (.slice A6 es.length c6))):=hJQ (fun W h => ⟨cell_of h (j:=0) rfl,cell_of h (j:=1) rfl,cell_of h (j:=2) rfl⟩)
      clear hdes hbw hrw hg0 hvq hown
      by_cases hle : n0 <= p0
      ·have HLT:=hJQ (islogto_any (w:=wr.drew) (A:=A6) (c:=c6) (l:=es) (Rd.of_own (HOW.out) (fun _ _ => rfl) (by omega)) (by have:=HEL.out; omega) n0)
       obtain ⟨t,ht⟩ : ∃ t,logTo n0 es = t:=⟨_,rfl⟩
       rw [ht] at HLT
       have HTT:=hJQ ht
       have hled : decide (n0 <= p0) = true:=by simpa using hle
       have HLE:=hJQ hle
       clear ht hle
       go_upto_region 15 with fail
       refine wp_region_held_drew (S:=fun W => W.cell? ⟨q,0,none⟩ = some (.int .i64 p0) /\ W.cell? ⟨q,1,none⟩ = some (.int .i64 n0) /\ W.cell? ⟨q,2,none⟩ = some (.slice A6 es.length c6)) (by kernel_rfl) (HS0.out _ HVQ.out) (fun hHeld => ?_)
       refine tm 0 64 (.agg #[.int .i64 p0,.int .i64 n0,.slice A6 es.length c6]) hHeld ?_
       refine tm 1 65 (.pointer (some ⟨q,1,none⟩)) hHeld ?_
       refine tm 2 66 (.int .i64 n0) hHeld ?_
       refine tm 3 67 (.pointer (some ⟨q,0,none⟩)) hHeld ?_
       refine tm 4 68 (.int .i64 p0) hHeld ?_
       refine tm 5 69 (.bool true) hHeld ?_
       refine tm 6 70 (.bool true) hHeld ?_
       refine tm 7 71 (.pointer (some ⟨q,1,none⟩)) hHeld ?_
       refine tm 8 72 (.int .i64 n0) hHeld ?_
       refine tm 9 73 (.pointer (some ⟨q,2,none⟩)) hHeld ?_
       refine tm 10 74 (.slice A6 es.length c6) hHeld ?_
       simp only [lz,ls]
       refine wpAnyH_ready (rs:=[11]) (by kernel_rfl) (by simp) (AllReadyH.cons rfl (fun K hK => ?_) AllReadyH.nil)
       go_simp
       refine HLT.out.mono ?_
       rintro e w9 ⟨rfl,hb9⟩
       have hB9 : Below wr.heap.size wr w9:=(Below.refl _ _).drew.trans hb9
       have HB9:=hJQ (HBWR.out.trans (hB9.mono HBWR.out.size))
       have HV9:=hJQ (blk_below HVQ.out hB9)
       have HR9:=hJQ (blk_below HRWR.out hB9)
       have HO9:=hJQ (own_below HOW.out hB9)
       clear hb9 hB9
       go_wp2_with fail
       refine hK.out _ _ (HS0.out _ HV9.out) (fun hHeld => ?_)
       clear hK K
       try simp only [Act.put,lp,lz,ls]
       obtain ⟨W6,hW6⟩ : ∃ W6,W6 = (((w9.setCell ⟨r,0,none⟩ (.int .i64 p0)).setCell ⟨r,1,none⟩ (.int .i64 n0)).setCell ⟨r,2,none⟩ (.slice A6 es.length c6)):=⟨_,rfl⟩
       obtain ⟨hwr6,hk6⟩:=setl3 HR9.out (.int .i64 p0) (.int .i64 n0) (.slice A6 es.length c6)
       rw [<- hW6] at hwr6 hk6
       have HW6:=hJQ hW6
       have HK6:=hJQ hk6
       have HB6 : Hid (Below w.heap.size w W6):=hJQ (hwr6.new HB9.out HRR.out)
       have HWR6:=hJQ hwr6
       have hq6:=HR9.out
       have z0:=cell_of hq6 (j:=0) rfl
       have z1:=cell_of hq6 (j:=1) rfl
       have z2:=cell_of hq6 (j:=2) rfl
       have rf0:=frozen_of_row w9 r 0 _ _ hq6
       have rf1:=frozen_of_row w9 r 1 _ _ hq6
       have rf2:=frozen_of_row w9 r 2 _ _ hq6
       clear hW6 hk6 hwr6 hq6
       have HS6:=hJQ (HS0.out _ (HWR6.out.blk (fun e => HRQ.out e.symm) HV9.out))
       have HO6:=hJQ (own_base (own_gb HO9.out HWR6.out.gb (fun e => by have:=own_ge HO9.out _ e; have:=blk_lt HR6.out; omega)) HSZW.out)
       have HPO : Hid (TlPost w (r0 :: rs) (.returned (.tuple #[.agg #[.int .i64 p0,.int .i64 n0,.slice A6 es.length c6],.bool t])) W6):=hJQ (by
        have h3:=HTT.out
        unfold logTo at h3
        cases t with
        | true =>
         rw [Bool.and_eq_true,rgtB_iff,decide_eq_true_eq] at h3
         exact tl_some (L:=⟨p0,n0,es⟩) (last_yes HDV.out HDF.out ⟨HLE.out,h3.1,h3.2⟩) HB6.out HO6.out
        | false =>
         refine tl_none (last_no HDV.out HDF.out (fun hc => ?_)) HB6.out ⟨_,_,_,_,_,rfl⟩
         rw [rgtB_iff.2 hc.2.1,decide_eq_true hc.2.2] at h3
         cases h3)
       refine tk 12 76 (.bool t) hHeld ?_
       simp only [lz,ls]
       refine wpAnyH_ready (rs:=[13]) (by kernel_rfl) (by simp) (AllReadyH.cons rfl (fun K hK => ?_) AllReadyH.nil)
       go_simp
       rw [<- HW6.out]
       refine hK.out _ _ HS6.out (fun _ => ?_)
       clear hK K
       try simp only [Act.put,lp,lz,ls]
       refine take_op 14 3 (.bool t) rfl rfl (by kernel_rfl) (by kernel_rfl) (by kernel_rfl) (fun _ _ _ h => h) (.inl ⟨by rfl,fun w' hw' => by go_simp⟩) HS6.out ?_
       simp only [lz,ls]
       refine wpAnyH_done (by kernel_rfl) ?_ _
       go_wp2_with fail
       exact bodyPost_ret (v:=.tuple #[.agg #[.int .i64 p0,.int .i64 n0,.slice A6 es.length c6],.bool t]) (res_last Tryz.results127 _ _ r _ _ _ _ (by simp) (by simp) HK6.out) rfl HPO.out
      ·have HNO:=hJQ (last_no (p:=p0) (n:=n0) HDV.out HDF.out (fun hc => hle hc.1))
       have hled : decide (n0 <= p0) = false:=by simpa using hle
       go_upto_region 15 with fail
       obtain ⟨wd,hwd⟩ : ∃ x,x = wr.drew:=⟨_,rfl⟩
       have HRWD : Hid (wd.heap[r]? = some (.cells #[.int .i64 0,.int .i64 0,.slice none 0 0] 101 (0,0))):=hJQ (by rw [hwd]; exact HRWR.out)
       have HVWD : Hid (wd.heap[q]? = some (.cells #[.int .i64 p0,.int .i64 n0,.slice A6 es.length c6] 101 (0,0))):=hJQ (by rw [hwd]; exact HVQ.out)
       have HOWD : Hid (wd.ownsRow w6.heap.size 45 3 (.slice A6 es.length c6) es.length (es.flatMap ecell)):=hJQ (by rw [hwd]; exact HOW.out)
       have HBWD : Hid (Below w.heap.size w wd):=hJQ (by rw [hwd]; exact HBWR.out.drew)
       have HWD:=hJQ hwd
       clear hwd
       obtain ⟨W6,hW6⟩ : ∃ W6,W6 = (((wd.setCell ⟨r,0,none⟩ (.int .i64 p0)).setCell ⟨r,1,none⟩ (.int .i64 n0)).setCell ⟨r,2,none⟩ (.slice A6 es.length c6)):=⟨_,rfl⟩
       obtain ⟨hwr6,hk6⟩:=setl3 HRWD.out (.int .i64 p0) (.int .i64 n0) (.slice A6 es.length c6)
       rw [<- hW6] at hwr6 hk6
       have HW6:=hJQ hW6
       have HK6:=hJQ hk6
       have HB6 : Hid (Below w.heap.size w W6):=hJQ (hwr6.new HBWD.out HRR.out)
       have HWR6:=hJQ hwr6
       have hq6:=HRWD.out
       have z0:=cell_of hq6 (j:=0) rfl
       have z1:=cell_of hq6 (j:=1) rfl
       have z2:=cell_of hq6 (j:=2) rfl
       have rf0:=frozen_of_row wd r 0 _ _ hq6
       have rf1:=frozen_of_row wd r 1 _ _ hq6
       have rf2:=frozen_of_row wd r 2 _ _ hq6
       clear hW6 hk6 hwr6 hq6
       have HS6:=hJQ (HS0.out _ (HWR6.out.blk (fun e => HRQ.out e.symm) HVWD.out))
       have HO6:=hJQ (own_base (own_gb HOWD.out HWR6.out.gb (fun e => by have:=own_ge HOWD.out _ e; have:=blk_lt HR6.out; omega)) HSZW.out)
       refine wp_region_held_drew (S:=fun W => W.cell? ⟨q,0,none⟩ = some (.int .i64 p0) /\ W.cell? ⟨q,1,none⟩ = some (.int .i64 n0) /\ W.cell? ⟨q,2,none⟩ = some (.slice A6 es.length c6)) (by kernel_rfl) (HS0.out _ HVQ.out) (fun hHeld => ?_)
       clear hHeld
       have hHeld:=HS0.out _ HVWD.out
       rw [<- HWD.out]
       refine tm 0 64 (.agg #[.int .i64 p0,.int .i64 n0,.slice A6 es.length c6]) hHeld ?_
       refine tm 1 65 (.pointer (some ⟨q,1,none⟩)) hHeld ?_
       refine tm 2 66 (.int .i64 n0) hHeld ?_
       refine tm 3 67 (.pointer (some ⟨q,0,none⟩)) hHeld ?_
       refine tm 4 68 (.int .i64 p0) hHeld ?_
       refine tm 5 69 (.bool false) hHeld ?_
       refine tm 6 70 (.bool false) hHeld ?_
       refine tu 7 71 hHeld ?_
       refine tu 8 72 hHeld ?_
       refine tu 9 73 hHeld ?_
       refine tu 10 74 hHeld ?_
       refine tu 11 75 hHeld ?_
       refine tm 12 76 (.bool false) hHeld ?_
       simp only [lz,ls]
       refine wpAnyH_ready (rs:=[13]) (by kernel_rfl) (by simp) (AllReadyH.cons rfl (fun K hK => ?_) AllReadyH.nil)
       go_simp
       rw [<- HW6.out]
       refine hK.out _ _ HS6.out (fun _ => ?_)
       clear hK K
       try simp only [Act.put,lp,lz,ls]
       refine take_op 14 3 (.bool false) rfl rfl (by kernel_rfl) (by kernel_rfl) (by kernel_rfl) (fun _ _ _ h => h) (.inl ⟨by rfl,fun w' hw' => by go_simp⟩) HS6.out ?_
       simp only [lz,ls]
       refine wpAnyH_done (by kernel_rfl) ?_ _
       go_wp2_with fail
       exact bodyPost_ret (v:=.tuple #[.agg #[.int .i64 p0,.int .i64 n0,.slice A6 es.length c6],.bool false]) (res_last Tryz.results127 _ _ r _ _ _ _ (by simp) (by simp) HK6.out) rfl (tl_none HNO.out HB6.out ⟨_,_,_,_,_,rfl⟩)
open Go.ChangeShapes Go.WideShapes Go.ChangeAt Go.RowKit Go.Proofs.Rk
open Pq (Fld FReads errL bytL fcs Bys)
open Gq (Bz Mine PL PDisk Kp Kl Lg Dk putL SReads enc le4 doD cur Rok)

theorem res_open {fn : Func} {s p q : Tmp} (h : fn.results = #[.tmp s,.cell p 101,.tmp q]) (tmps : Array Value) (w : World) (b : Nat) (x0 x1 x2 y u : Value) (hs : tmps.getD s undef = u) (hp : tmps.getD p undef = .pointer (some ⟨b,0,none⟩)) (hq : tmps.getD q undef = y)
  (h4 : w.heap[b]? = some (.cells #[x0,x1,x2] 101 (0,0))) :
  (results fn tmps).run Tryz.prog w = .ok (.tuple #[u,.agg #[x0,x1,x2],y]) w:=by
 have hs' : tmps[s]?.getD undef = u:=by simpa using hs
 have hp' : tmps[p]?.getD undef = .pointer (some ⟨b,0,none⟩):=by simpa using hp
 have hq' : tmps[q]?.getD undef = y:=by simpa using hq
 have c0:=cell_of h4 (j:=0) rfl
 have c1:=cell_of h4 (j:=1) rfl
 have c2:=cell_of h4 (j:=2) rfl
 simp [results,h,hs',hp',hq',asAddr,go_sem,c0,c1,c2]
theorem pl_wr {w w' : World} {z : Nat -> Prop} {q p r : Nat} {G : Lg} {bv : Value} {D : Dk} {cs : Array Value} {t : TypeId} (h : PL w ⟨0,z⟩ q p G bv D) (hs : w.heap[r]? = some (.cells cs t (0,0))) (ht : Far t) (hW : Wr r w w') : PL w' ⟨0,z⟩ q p G bv D :=
 pl_same h hW.below.size (fun k cs' t' fr' hk hn => hW.blk (fun e => by
  subst e
  rw [hs] at hk
  injection hk with hk
  injection hk with _ e2 _
  exact hn (e2 ▸ ht)) hk)
theorem far_lasting : Far 101:=by unfold Far; decide
def Lasts (D : Dk) (m : Gq.Mk) (l : List (List Int)) (L : Ls) : Prop:=Gq.Found (cur D) 1 ((D.firm.length - 3) / 2) m (enc l) /\ Rok l /\ lastOf l = some L /\ (txt D 0 = signB ∨ isNewB D = true)
open Classical in
noncomputable def signedB (D : Dk) : Bool:=decide (txt D 0 = signB)
def OsPost (w : World) (z : Nat -> Prop) (p : Nat) (D : Dk) (e : Ending) (w' : World) : Prop:=Below w.heap.size w w' /\
 ((∃ v a b A n c,e = .returned (.tuple #[v,.agg #[.int .i64 a,.int .i64 b,.slice A n c],.bool false]) /\ ∀ m l L,¬ Lasts D m l L) ∨
  (∃ m l L q st bv A c,e = .returned (.tuple #[.pointer (some ⟨st,0,none⟩),.agg #[.int .i64 L.pr,.int .i64 L.nm,.slice A L.log.length c],.bool true]) /\ Lasts D m l L /\ w.heap.size <= st /\ w.heap.size <= q /\
   w'.heap[st]? = some (.cells #[.pointer (some ⟨p,0,none⟩),.pointer (some ⟨q,0,none⟩),.bool (signedB D)] 124 (0,0)) /\ PL w' ⟨0,z⟩ q p ⟨1,(D.firm.length - 3) / 2,m,enc l⟩ bv D /\
   w'.ownsRow w.heap.size 45 3 (.slice A L.log.length c) L.log.length (L.log.flatMap ecell)))
theorem le4_back {x : List Int} (h : Bys x) (hl : x.length = 4) {n : Nat} (e : Gq.le x = (n : Int)) : x = le4 n:=by
 match x,hl with
 | [a,b,c,d],_ =>
  have ha:=h a (by simp)
  have hb:=h b (by simp)
  have hc:=h c (by simp)
  have hd:=h d (by simp)
  simp only [Gq.le] at e
  simp only [le4,List.cons.injEq,and_true]
  refine ⟨?_,?_,?_,?_⟩ <;> omega
theorem rc_back {zs : List Int} {l : List (List Int)} {r : List Int} (h : Gq.Rc zs l r) (hB : Bys zs) : zs = enc l ++ r:=by
 induction h with
 | nil zs => simp [enc]
 | @cons zs n l r h1 h2 ih =>
  obtain ⟨_,e2,e3,e4⟩:=Gq.gt_some hB h1
  have e5:=ih (Gq.bys_drop _ hB)
  have e6 : zs.take 4 = le4 n:=le4_back (Gq.bys_take 4 hB) (by rw [List.length_take]; omega) e2
  have e7 : (Gq.body zs n).length = n:=by unfold Gq.body; rw [List.length_take,List.length_drop]; omega
  have e8 : zs = zs.take 4 ++ (Gq.body zs n ++ zs.drop (4 + n)):=by
   unfold Gq.body
   rw [<- List.drop_drop,List.take_append_drop,List.take_append_drop]
  rw [Gq.enc_cons,e7]
  conv => lhs; rw [e8,e6,e5]
  simp
theorem found_enc {L : List (List Int)} {fr sz : Nat} {m : Gq.Mk} {bs : List Int} (h : Gq.Found L fr sz m bs) (hb : Bys bs) : ∃ l,bs = enc l /\ Rok l:=by
 obtain ⟨l,hl⟩:=h.whole
 exact ⟨l,by simpa using rc_back hl hb,(hl.bys hb).2⟩
theorem lasts_same {D : Dk} {m m' : Gq.Mk} {l l' : List (List Int)} {L' : Ls} (h : Gq.Found (cur D) 1 ((D.firm.length - 3) / 2) m (enc l)) (hl : Rok l) (h' : Lasts D m' l' L') : m' = m /\ l' = l:=by
 obtain ⟨e1,e2⟩:=h.same h'.1
 refine ⟨e1,?_⟩
 have h2:=Gq.rc_enc h'.2.1
 rw [e2] at h2
 exact (Gq.rc_of_enc hl h2 Gq.gt_nil).1
theorem tl_shape {w w' : World} {r : List (List Int)} {e : Ending} (h : TlPost w r e w') : Below w.heap.size w w' /\ ∃ a b A n c k,e = .returned (.tuple #[.agg #[.int .i64 a,.int .i64 b,.slice A n c],.bool k]) /\ (k = false -> lastOf r = none) /\ (k = true -> ∃ L,lastOf r = some L /\ a = L.pr /\ b = L.nm /\ n = L.log.length /\ w'.ownsRow w.heap.size 45 3 (.slice A L.log.length c) L.log.length (L.log.flatMap ecell)):=by
 obtain ⟨hb,h⟩:=h
 refine ⟨hb,?_⟩
 cases hl : lastOf r with
 | none =>
  rw [hl] at h
  obtain ⟨a,b,A,n,c,rfl⟩:=h
  exact ⟨a,b,A,n,c,false,rfl,fun _ => rfl,fun e => by cases e⟩
 | some L =>
  rw [hl] at h
  obtain ⟨A,c,rfl,ho⟩:=h
  exact ⟨L.pr,L.nm,A,_,c,true,rfl,fun e => (by cases e),fun _ => ⟨L,rfl,rfl,rfl,rfl,ho⟩⟩
set_option maxHeartbeats 16000000 in
theorem openstore_any {z : Nat -> Prop} {w : World} {p : Nat} {D : Dk} (h : PDisk w ⟨0,z⟩ p D) (hd : D.dead = false) (h0 : 1100 <= D.firm.length) (hl : D.firm.length <= 65536) : Calls Tryz.prog 81 #[.pointer (some ⟨p,0,none⟩)] w (OsPost w z p D):=by
 obtain ⟨w1,hw1⟩ : ∃ xx,xx = w.alloc (.cells #[.int .i64 0,.int .i64 0,.slice none 0 0] 101):=⟨_,rfl⟩
 obtain ⟨r,er⟩ : ∃ xx,xx = w.heap.size:=⟨_,rfl⟩
 have hb1 : Below w.heap.size w w1:=by rw [hw1]; exact box_below w _
 have hr1 : w1.heap[r]? = some (.cells #[.int .i64 0,.int .i64 0,.slice none 0 0] 101 (0,0)):=by rw [hw1,er]; exact new_block w _
 have hD1:=h.kept hb1
 obtain ⟨N,hN⟩ : ∃ N,D.firm.length = N:=⟨_,rfl⟩
 have HMN:=hJQ (Gq.many_any ⟨0,z⟩ p D w1 hD1)
 rw [hN] at HMN
 have HOP:=hJQ (Gq.open_any ⟨0,z⟩ p 1 (N - 1) ((N - 3) / 2) D w1 hD1 (Nat.zero_le _) hd (by omega) (by omega) (by omega) (by omega))
 have hwN : IntKind.i64.wrap ((N : Int) - 1) = ((N - 1 : Nat) : Int):=by rw [IntKind.wrap_i64]; omega
 obtain ⟨N1,hN1⟩ : ∃ x : Int,x = ((N - 1 : Nat) : Int):=⟨_,rfl⟩
 rw [<- hN1] at HOP hwN
 have HTX:=hJQ (fun W (hb : Below w1.heap.size w1 W) => text_any (n:=0) (hD1.kept hb) hd (by omega) hl)
 have HIS:=hJQ (fun W (hb : Below w1.heap.size w1 W) => isnew_any (hD1.kept hb) hd (by omega) hl)
 have HTB : Hid (Gq.Bys (txt D 0)):=hJQ (by obtain ⟨sv,wv,left,hP⟩:=h; exact txt_bys hP.ok (by omega))
 have HNL:=hJQ hN
 have HSN : Hid (N <= 65536):=hJQ (by omega)
 have HR1:=hJQ hr1
 have HB1:=hJQ hb1
 have HW1:=hJQ hw1
 have ER:=hJQ er
 have HRR : Hid (w.heap.size <= r):=hJQ (Nat.le_of_eq er.symm)
 obtain ⟨sg,hsg⟩ : ∃ sg,signedB D = sg:=⟨_,rfl⟩
 obtain ⟨X,hX⟩ : ∃ X,strOfNums (txt D 0) = X:=⟨_,rfl⟩
 have hSG : (X.toList == [104,97,114,112,115,105,99,104,111,114,100,32,111,114,100,101,114]) = sg:=by
  rw [<- hX,<- hsg,ByteArray.toList_eq]
  have e : ([104,97,114,112,115,105,99,104,111,114,100,32,111,114,100,101,114] : List UInt8) = (strOfNums signB).data.toList:=by decide
  rw [e,Bool.eq_iff_iff,beq_iff_eq]
  unfold signedB
  rw [decide_eq_true_iff]
  exact ⟨fun h => (str_eq HTB.out (by decide : ∀ z ∈ signB,0 <= z /\ z <= 255)).1 (ByteArray.ext (Array.toList_inj.1 h)),fun h => by rw [h]⟩
 have HSGD:=hJQ hsg
 rw [hX] at HTX
 obtain ⟨nw,hnw⟩ : ∃ nw,isNewB D = nw:=⟨_,rfl⟩
 rw [hnw] at HIS
 have HNW:=hJQ hnw
 clear h hd h0 hl hw1 er hb1 hr1 hD1 hN hN1 hsg hX hnw
 go_enter Tryz.func81,Tryz.ntmps81
 go_upto_region 1 with fail
 rw [<- HW1.out,<- ER.out]
 go_wp2_with fail
 refine HMN.out.mono ?_
 rintro e w' ⟨rfl,rfl⟩
 go_wp2_with fail
 refine HOP.out.mono ?_
 rintro e w2 ⟨hb2,hx⟩
 have HB2:=hJQ hb2
 rcases hx with ⟨q,m,bs,bv,rfl,hf,hpl,hq⟩ | ⟨rfl,hno⟩
 ·have hbys : Gq.Bys bs:=hpl.gok.bys
  obtain ⟨l,rfl,hrok⟩:=found_enc hf hbys
  have HF:=hJQ hf
  have HPL2:=hJQ hpl
  have HQ:=hJQ hq
  have HROK:=hJQ hrok
  have HTX2:=hJQ (HTX.out w2 hb2)
  clear hb2 hbys hf hpl hq hrok HTX
  go_wp2_with fail
  refine HTX2.out.mono ?_
  rintro e w3 ⟨rfl,hb3⟩
  obtain ⟨w4,hw4⟩ : ∃ xx,xx = w3.alloc (.cells #[.pointer (some ⟨p,0,none⟩),.pointer (some ⟨q,0,none⟩),.bool sg] 124):=⟨_,rfl⟩
  obtain ⟨st,est⟩ : ∃ xx,xx = w3.heap.size:=⟨_,rfl⟩
  have hb4 : Below w2.heap.size w2 w4:=hb3.trans ((by rw [hw4]; exact box_below w3 _ : Below w3.heap.size w3 w4).mono hb3.size)
  have hst4 : w4.heap[st]? = some (.cells #[.pointer (some ⟨p,0,none⟩),.pointer (some ⟨q,0,none⟩),.bool sg] 124 (0,0)):=by rw [hw4,est]; exact new_block w3 _
  have HST4:=hJQ hst4
  have HB4:=hJQ hb4
  have HSTL : Hid (w2.heap.size <= st):=hJQ (by rw [est]; exact hb3.size)
  have HW4:=hJQ hw4
  have EST:=hJQ est
  have HIS4:=hJQ (HIS.out w4 (HB2.out.trans (hb4.mono HB2.out.size)))
  have s2:=cell_of hst4 (j:=2) rfl
  clear hb3 hw4 est hb4 hst4 HIS
  go_upto_region 5 with fail
  rw [<- HW4.out,<- EST.out]
  cases sg with
  | true =>
   have HOK : Hid (txt D 0 = signB ∨ isNewB D = true):=hJQ (.inl (by have h1:=HSGD.out; unfold signedB at h1; exact of_decide_eq_true h1))
   have HPLX:=hJQ (HPL2.out.kept (HB4.out))
   have HSTX:=hJQ HST4.out
   have HRX:=hJQ (blk_below (blk_below HR1.out HB2.out) (HB4.out))
   have HBX:=hJQ ((HB1.out.trans (HB2.out.mono HB1.out.size)).trans ((HB4.out).mono (HB1.out.trans (HB2.out.mono HB1.out.size)).size))
   have HAL:=hJQ (Gq.all_any ⟨0,z⟩ q p _ bv D l w4 HPLX.out rfl HROK.out)
   go_wp2_with fail
   refine HAL.out.mono ?_
   rintro e w7 ⟨v,rfl,hown,hb7⟩
   obtain ⟨A7,c7,rfl,hsr,hnc,-⟩:=Gq.own_sreads hown (fun s hs => (HROK.out s hs).2)
   have hlen : l.length <= 1000000:=by
    have h1:=Gq.need_len l
    have h2:=Gq.enc_length l
    have h3:=HF.out.used
    have h4:=HPLX.out.gok.room
    have h5:=HSN.out
    simp only at h4
    omega
   have HTL:=hJQ (tolasting_any (c:=c7) hsr hlen hnc (fun s hs => by have:=(HROK.out s hs).1; unfold maxLen; omega))
   have HB7:=hJQ hb7
   clear hown hb7 hsr hlen hnc
   go_wp2_with fail
   refine HTL.out.mono ?_
   intro e w8 hpost
   obtain ⟨hb8,a,b,A,n,c,k,rfl,hk0,hk1⟩:=tl_shape hpost
   have HKO:=hJQ hk0
   have HKI:=hJQ hk1
   obtain ⟨w9,hw9⟩ : ∃ xx,xx = w8.alloc (.cells #[.int .i64 a,.int .i64 b,.slice A n c] 101):=⟨_,rfl⟩
   obtain ⟨t,et⟩ : ∃ xx,xx = w8.heap.size:=⟨_,rfl⟩
   have hb9 : Below w8.heap.size w8 w9:=by rw [hw9]; exact box_below w8 _
   have ht9 : w9.heap[t]? = some (.cells #[.int .i64 a,.int .i64 b,.slice A n c] 101 (0,0)):=by rw [hw9,et]; exact new_block w8 _
   have HB89 : Hid (Below w7.heap.size w7 w9):=hJQ (hb8.trans (hb9.mono hb8.size))
   have HX9 : Hid (Below w4.heap.size w4 w9):=hJQ (HB7.out.trans (HB89.out.mono HB7.out.size))
   have HRW:=hJQ (blk_below HRX.out HX9.out)
   have HBW:=hJQ (HBX.out.trans (HX9.out.mono HBX.out.size))
   have HSTW:=hJQ (blk_below HSTX.out HX9.out)
   have HPLW:=hJQ (HPLX.out.kept HX9.out)
   have HT9:=hJQ ht9
   have HW9:=hJQ hw9
   have HL8:=hJQ hb9
   have ET:=hJQ et
   have HS0 : Hid (∀ W : World,W.heap[t]? = some (.cells #[.int .i64 a,.int .i64 b,.slice A n c] 101 (0,0)) -> W.cell? ⟨t,0,none⟩ = some (.int .i64 a) /\ W.cell? ⟨t,1,none⟩ = some (.int .i64 b) /\ W.cell? ⟨t,2,none⟩ = some (.slice A n c)):=hJQ (fun W h => ⟨cell_of h (j:=0) rfl,cell_of h (j:=1) rfl,cell_of h (j:=2) rfl⟩)
   have HRT : Hid (t ≠ r):=hJQ (by
    have h1:=blk_lt HRX.out
    have h2:=HB7.out.size
    have h3:=hb8.size
    omega)
   have HRST : Hid (r ≠ st):=hJQ (fun e => by
    have h1:=blk_lt HR1.out
    have h2:=HB2.out.size
    have h3:=HSTL.out
    omega)
   clear hpost hb8 hk0 hk1 hw9 et hb9 ht9
   go_upto_region 8 with fail
   rw [<- HW9.out,<- ET.out]
   obtain ⟨wd,hwd⟩ : ∃ x,x = w9.drew:=⟨_,rfl⟩
   have HRD : Hid (wd.heap[r]? = some (.cells #[.int .i64 0,.int .i64 0,.slice none 0 0] 101 (0,0))):=hJQ (by rw [hwd]; exact HRW.out)
   have HTD : Hid (wd.heap[t]? = some (.cells #[.int .i64 a,.int .i64 b,.slice A n c] 101 (0,0))):=hJQ (by rw [hwd]; exact HT9.out)
   have HSTD : Hid (wd.heap[st]? = some (.cells #[.pointer (some ⟨p,0,none⟩),.pointer (some ⟨q,0,none⟩),.bool (signedB D)] 124 (0,0))):=hJQ (by rw [hwd,HSGD.out]; exact HSTW.out)
   have HPLD : Hid (PL wd ⟨0,z⟩ q p ⟨1,(N - 3) / 2,m,enc l⟩ bv D):=hJQ (by rw [hwd]; exact HPLW.out.kept (Below.refl _ _).drew)
   have HBD : Hid (Below w.heap.size w wd):=hJQ (by rw [hwd]; exact HBW.out.drew)
   have H8D : Hid (Below w8.heap.size w8 wd):=hJQ (by rw [hwd]; exact HL8.out.drew)
   have HWD:=hJQ hwd
   clear hwd
   obtain ⟨W6,hW6⟩ : ∃ W6,W6 = (((wd.setCell ⟨r,0,none⟩ (.int .i64 a)).setCell ⟨r,1,none⟩ (.int .i64 b)).setCell ⟨r,2,none⟩ (.slice A n c)):=⟨_,rfl⟩
   obtain ⟨hwr6,hk6⟩:=setl3 HRD.out (.int .i64 a) (.int .i64 b) (.slice A n c)
   rw [<- hW6] at hwr6 hk6
   have HW6:=hJQ hW6
   have HK6:=hJQ hk6
   have HB6 : Hid (Below w.heap.size w W6):=hJQ (hwr6.new HBD.out HRR.out)
   have HWR6:=hJQ hwr6
   have hq6:=HRD.out
   have z0:=cell_of hq6 (j:=0) rfl
   have z1:=cell_of hq6 (j:=1) rfl
   have z2:=cell_of hq6 (j:=2) rfl
   have rf0:=frozen_of_row wd r 0 _ _ hq6
   have rf1:=frozen_of_row wd r 1 _ _ hq6
   have rf2:=frozen_of_row wd r 2 _ _ hq6
   clear hW6 hk6 hwr6 hq6
   have HSS6:=hJQ (HS0.out _ (HWR6.out.blk HRT.out HTD.out))
   have HPO : Hid (OsPost w z p D (.returned (.tuple #[.pointer (some ⟨st,0,none⟩),.agg #[.int .i64 a,.int .i64 b,.slice A n c],.bool k])) W6):=hJQ (by
    have hF : Gq.Found (cur D) 1 ((D.firm.length - 3) / 2) m (enc l):=by rw [HNL.out]; exact HF.out
    refine ⟨HB6.out,?_⟩
    cases k with
    | false =>
     refine .inl ⟨_,_,_,_,_,_,rfl,fun m' l' L' hL => ?_⟩
     obtain ⟨-,rfl⟩:=lasts_same hF HROK.out hL
     have h1:=HKO.out rfl
     rw [hL.2.2.1] at h1
     cases h1
    | true =>
     obtain ⟨L,h1,rfl,rfl,rfl,ho⟩:=HKI.out rfl
     refine .inr ⟨m,l,L,q,st,bv,A,c,rfl,⟨hF,HROK.out,h1,HOK.out⟩,?_,?_,HWR6.out.blk (fun e => HRST.out e.symm) HSTD.out,?_,?_⟩
     ·have:=HSTL.out; have:=HB2.out.size; have:=HB1.out.size; omega
     ·have:=HQ.out; have:=HB1.out.size; omega
     ·rw [HNL.out]
      exact pl_wr HPLD.out HRD.out far_lasting HWR6.out
     ·have h2:=HB7.out.size
      have h3:=blk_lt HRX.out
      exact own_base (own_gb (own_below ho H8D.out) HWR6.out.gb (fun e => by have:=own_ge ho _ e; omega)) (by have:=HBX.out.size; omega))
   refine wp_region_held_drew (S:=fun W => W.cell? ⟨t,0,none⟩ = some (.int .i64 a) /\ W.cell? ⟨t,1,none⟩ = some (.int .i64 b) /\ W.cell? ⟨t,2,none⟩ = some (.slice A n c)) (by kernel_rfl) (HS0.out _ HT9.out) (fun hHeld => ?_)
   clear hHeld
   have hHeld:=HS0.out _ HTD.out
   rw [<- HWD.out]
   refine tk 0 45 (.pointer (some ⟨st,0,none⟩)) hHeld ?_
   refine tm 1 46 (.agg #[.int .i64 a,.int .i64 b,.slice A n c]) hHeld ?_
   refine tk 2 47 (.bool k) hHeld ?_
   refine tk 3 2 (.pointer (some ⟨st,0,none⟩)) hHeld ?_
   simp only [lz,ls]
   refine wpAnyH_ready (rs:=[4]) (by kernel_rfl) (by simp) (AllReadyH.cons rfl (fun K hK => ?_) AllReadyH.nil)
   go_simp
   rw [<- HW6.out]
   refine hK.out _ _ HSS6.out (fun hHeld2 => ?_)
   clear hK K hHeld
   have hHeld:=hHeld2
   try simp only [Act.put,lp,lz,ls]
   refine tk 5 4 (.bool k) hHeld ?_
   simp only [lz,ls]
   refine wpAnyH_done (by kernel_rfl) ?_ _
   go_wp2_with fail
   exact bodyPost_ret (v:=.tuple #[.pointer (some ⟨st,0,none⟩),.agg #[.int .i64 a,.int .i64 b,.slice A n c],.bool k]) (res_open Tryz.results81 _ _ r _ _ _ _ _ (by simp) (by simp) (by simp) HK6.out) rfl HPO.out
  | false =>
   go_wp2_with fail
   refine HIS4.out.mono ?_
   rintro e w5 ⟨rfl,hb5⟩
   have HB45:=hJQ (HB4.out.trans (hb5.mono HB4.out.size))
   have HST5:=hJQ (blk_below HST4.out hb5)
   have HPLX:=hJQ (HPL2.out.kept (HB45.out))
   have HSTX:=hJQ HST5.out
   have HRX:=hJQ (blk_below (blk_below HR1.out HB2.out) (HB45.out))
   have HBX:=hJQ ((HB1.out.trans (HB2.out.mono HB1.out.size)).trans ((HB45.out).mono (HB1.out.trans (HB2.out.mono HB1.out.size)).size))
   clear hb5 s2
   cases nw with
   | false =>
    have HNO : Hid (∀ m l L,¬ Lasts D m l L):=hJQ (fun m l L hL => by
     have h1:=HSGD.out
     unfold signedB at h1
     rcases hL.2.2.2 with h2 | h2
     ·exact of_decide_eq_false h1 h2
     ·rw [HNW.out] at h2; cases h2)
    obtain ⟨W6,hW6⟩ : ∃ W6,W6 = (((w5.setCell ⟨r,0,none⟩ (.int .i64 0)).setCell ⟨r,1,none⟩ (.int .i64 0)).setCell ⟨r,2,none⟩ (.slice none 0 0)):=⟨_,rfl⟩
    obtain ⟨hwr6,hk6⟩:=setl3 HRX.out (.int .i64 0) (.int .i64 0) (.slice none 0 0)
    rw [<- hW6] at hwr6 hk6
    have HW6:=hJQ hW6
    have HK6:=hJQ hk6
    have HB6 : Hid (Below w.heap.size w W6):=hJQ (hwr6.new HBX.out HRR.out)
    have HWR6:=hJQ hwr6
    have hq6:=HRX.out
    have z0:=cell_of hq6 (j:=0) rfl
    have z1:=cell_of hq6 (j:=1) rfl
    have z2:=cell_of hq6 (j:=2) rfl
    have rf0:=frozen_of_row w5 r 0 _ _ hq6
    have rf1:=frozen_of_row w5 r 1 _ _ hq6
    have rf2:=frozen_of_row w5 r 2 _ _ hq6
    clear hW6 hk6 hwr6 hq6
    go_wp2_with fail
    rw [<- HW6.out]
    exact bodyPost_ret (v:=.tuple #[.pointer none,.agg #[.int .i64 0,.int .i64 0,.slice none 0 0],.bool false]) (res_open Tryz.results81 _ _ r _ _ _ _ _ (by simp) (by simp) (by simp) HK6.out) rfl ⟨HB6.out,.inl ⟨_,_,_,_,_,_,rfl,HNO.out⟩⟩
   | true =>
    have HOK : Hid (txt D 0 = signB ∨ isNewB D = true):=hJQ (.inr HNW.out)
    have HAL:=hJQ (Gq.all_any ⟨0,z⟩ q p _ bv D l w5 HPLX.out rfl HROK.out)
    go_wp2_with fail
    refine HAL.out.mono ?_
    rintro e w7 ⟨v,rfl,hown,hb7⟩
    obtain ⟨A7,c7,rfl,hsr,hnc,-⟩:=Gq.own_sreads hown (fun s hs => (HROK.out s hs).2)
    have hlen : l.length <= 1000000:=by
     have h1:=Gq.need_len l
     have h2:=Gq.enc_length l
     have h3:=HF.out.used
     have h4:=HPLX.out.gok.room
     have h5:=HSN.out
     simp only at h4
     omega
    have HTL:=hJQ (tolasting_any (c:=c7) hsr hlen hnc (fun s hs => by have:=(HROK.out s hs).1; unfold maxLen; omega))
    have HB7:=hJQ hb7
    clear hown hb7 hsr hlen hnc
    go_wp2_with fail
    refine HTL.out.mono ?_
    intro e w8 hpost
    obtain ⟨hb8,a,b,A,n,c,k,rfl,hk0,hk1⟩:=tl_shape hpost
    have HKO:=hJQ hk0
    have HKI:=hJQ hk1
    obtain ⟨w9,hw9⟩ : ∃ xx,xx = w8.alloc (.cells #[.int .i64 a,.int .i64 b,.slice A n c] 101):=⟨_,rfl⟩
    obtain ⟨t,et⟩ : ∃ xx,xx = w8.heap.size:=⟨_,rfl⟩
    have hb9 : Below w8.heap.size w8 w9:=by rw [hw9]; exact box_below w8 _
    have ht9 : w9.heap[t]? = some (.cells #[.int .i64 a,.int .i64 b,.slice A n c] 101 (0,0)):=by rw [hw9,et]; exact new_block w8 _
    have HB89 : Hid (Below w7.heap.size w7 w9):=hJQ (hb8.trans (hb9.mono hb8.size))
    have HX9 : Hid (Below w5.heap.size w5 w9):=hJQ (HB7.out.trans (HB89.out.mono HB7.out.size))
    have HRW:=hJQ (blk_below HRX.out HX9.out)
    have HBW:=hJQ (HBX.out.trans (HX9.out.mono HBX.out.size))
    have HSTW:=hJQ (blk_below HSTX.out HX9.out)
    have HPLW:=hJQ (HPLX.out.kept HX9.out)
    have HT9:=hJQ ht9
    have HW9:=hJQ hw9
    have HL8:=hJQ hb9
    have ET:=hJQ et
    have HS0 : Hid (∀ W : World,W.heap[t]? = some (.cells #[.int .i64 a,.int .i64 b,.slice A n c] 101 (0,0)) -> W.cell? ⟨t,0,none⟩ = some (.int .i64 a) /\ W.cell? ⟨t,1,none⟩ = some (.int .i64 b) /\ W.cell? ⟨t,2,none⟩ = some (.slice A n c)):=hJQ (fun W h => ⟨cell_of h (j:=0) rfl,cell_of h (j:=1) rfl,cell_of h (j:=2) rfl⟩)
    have HRT : Hid (t ≠ r):=hJQ (by
     have h1:=blk_lt HRX.out
     have h2:=HB7.out.size
     have h3:=hb8.size
     omega)
    have HRST : Hid (r ≠ st):=hJQ (fun e => by
     have h1:=blk_lt HR1.out
     have h2:=HB2.out.size
     have h3:=HSTL.out
     omega)
    clear hpost hb8 hk0 hk1 hw9 et hb9 ht9
    go_upto_region 8 with fail
    rw [<- HW9.out,<- ET.out]
    obtain ⟨wd,hwd⟩ : ∃ x,x = w9.drew:=⟨_,rfl⟩
    have HRD : Hid (wd.heap[r]? = some (.cells #[.int .i64 0,.int .i64 0,.slice none 0 0] 101 (0,0))):=hJQ (by rw [hwd]; exact HRW.out)
    have HTD : Hid (wd.heap[t]? = some (.cells #[.int .i64 a,.int .i64 b,.slice A n c] 101 (0,0))):=hJQ (by rw [hwd]; exact HT9.out)
    have HSTD : Hid (wd.heap[st]? = some (.cells #[.pointer (some ⟨p,0,none⟩),.pointer (some ⟨q,0,none⟩),.bool (signedB D)] 124 (0,0))):=hJQ (by rw [hwd,HSGD.out]; exact HSTW.out)
    have HPLD : Hid (PL wd ⟨0,z⟩ q p ⟨1,(N - 3) / 2,m,enc l⟩ bv D):=hJQ (by rw [hwd]; exact HPLW.out.kept (Below.refl _ _).drew)
    have HBD : Hid (Below w.heap.size w wd):=hJQ (by rw [hwd]; exact HBW.out.drew)
    have H8D : Hid (Below w8.heap.size w8 wd):=hJQ (by rw [hwd]; exact HL8.out.drew)
    have HWD:=hJQ hwd
    clear hwd
    obtain ⟨W6,hW6⟩ : ∃ W6,W6 = (((wd.setCell ⟨r,0,none⟩ (.int .i64 a)).setCell ⟨r,1,none⟩ (.int .i64 b)).setCell ⟨r,2,none⟩ (.slice A n c)):=⟨_,rfl⟩
    obtain ⟨hwr6,hk6⟩:=setl3 HRD.out (.int .i64 a) (.int .i64 b) (.slice A n c)
    rw [<- hW6] at hwr6 hk6
    have HW6:=hJQ hW6
    have HK6:=hJQ hk6
    have HB6 : Hid (Below w.heap.size w W6):=hJQ (hwr6.new HBD.out HRR.out)
    have HWR6:=hJQ hwr6
    have hq6:=HRD.out
    have z0:=cell_of hq6 (j:=0) rfl
    have z1:=cell_of hq6 (j:=1) rfl
    have z2:=cell_of hq6 (j:=2) rfl
    have rf0:=frozen_of_row wd r 0 _ _ hq6
    have rf1:=frozen_of_row wd r 1 _ _ hq6
    have rf2:=frozen_of_row wd r 2 _ _ hq6
    clear hW6 hk6 hwr6 hq6
    have HSS6:=hJQ (HS0.out _ (HWR6.out.blk HRT.out HTD.out))
    have HPO : Hid (OsPost w z p D (.returned (.tuple #[.pointer (some ⟨st,0,none⟩),.agg #[.int .i64 a,.int .i64 b,.slice A n c],.bool k])) W6):=hJQ (by
     have hF : Gq.Found (cur D) 1 ((D.firm.length - 3) / 2) m (enc l):=by rw [HNL.out]; exact HF.out
     refine ⟨HB6.out,?_⟩
     cases k with
     | false =>
      refine .inl ⟨_,_,_,_,_,_,rfl,fun m' l' L' hL => ?_⟩
      obtain ⟨-,rfl⟩:=lasts_same hF HROK.out hL
      have h1:=HKO.out rfl
      rw [hL.2.2.1] at h1
      cases h1
     | true =>
      obtain ⟨L,h1,rfl,rfl,rfl,ho⟩:=HKI.out rfl
      refine .inr ⟨m,l,L,q,st,bv,A,c,rfl,⟨hF,HROK.out,h1,HOK.out⟩,?_,?_,HWR6.out.blk (fun e => HRST.out e.symm) HSTD.out,?_,?_⟩
      ·have:=HSTL.out; have:=HB2.out.size; have:=HB1.out.size; omega
      ·have:=HQ.out; have:=HB1.out.size; omega
      ·rw [HNL.out]
       exact pl_wr HPLD.out HRD.out far_lasting HWR6.out
      ·have h2:=HB7.out.size
       have h3:=blk_lt HRX.out
       exact own_base (own_gb (own_below ho H8D.out) HWR6.out.gb (fun e => by have:=own_ge ho _ e; omega)) (by have:=HBX.out.size; omega))
    refine wp_region_held_drew (S:=fun W => W.cell? ⟨t,0,none⟩ = some (.int .i64 a) /\ W.cell? ⟨t,1,none⟩ = some (.int .i64 b) /\ W.cell? ⟨t,2,none⟩ = some (.slice A n c)) (by kernel_rfl) (HS0.out _ HT9.out) (fun hHeld => ?_)
    clear hHeld
    have hHeld:=HS0.out _ HTD.out
    rw [<- HWD.out]
    refine tk 0 45 (.pointer (some ⟨st,0,none⟩)) hHeld ?_
    refine tm 1 46 (.agg #[.int .i64 a,.int .i64 b,.slice A n c]) hHeld ?_
    refine tk 2 47 (.bool k) hHeld ?_
    refine tk 3 2 (.pointer (some ⟨st,0,none⟩)) hHeld ?_
    simp only [lz,ls]
    refine wpAnyH_ready (rs:=[4]) (by kernel_rfl) (by simp) (AllReadyH.cons rfl (fun K hK => ?_) AllReadyH.nil)
    go_simp
    rw [<- HW6.out]
    refine hK.out _ _ HSS6.out (fun hHeld2 => ?_)
    clear hK K hHeld
    have hHeld:=hHeld2
    try simp only [Act.put,lp,lz,ls]
    refine tk 5 4 (.bool k) hHeld ?_
    simp only [lz,ls]
    refine wpAnyH_done (by kernel_rfl) ?_ _
    go_wp2_with fail
    exact bodyPost_ret (v:=.tuple #[.pointer (some ⟨st,0,none⟩),.agg #[.int .i64 a,.int .i64 b,.slice A n c],.bool k]) (res_open Tryz.results81 _ _ r _ _ _ _ _ (by simp) (by simp) (by simp) HK6.out) rfl HPO.out
 ·have HR2:=hJQ (blk_below HR1.out hb2)
  have HBW2:=hJQ (HB1.out.trans (hb2.mono HB1.out.size))
  have HNO : Hid (∀ m l L,¬ Lasts D m l L):=hJQ (fun m l L hL => hno m _ (by have:=hL.1; rw [HNL.out] at this; exact this))
  clear hb2 hno
  obtain ⟨W6,hW6⟩ : ∃ W6,W6 = (((w2.setCell ⟨r,0,none⟩ (.int .i64 0)).setCell ⟨r,1,none⟩ (.int .i64 0)).setCell ⟨r,2,none⟩ (.slice none 0 0)):=⟨_,rfl⟩
  obtain ⟨hwr6,hk6⟩:=setl3 HR2.out (.int .i64 0) (.int .i64 0) (.slice none 0 0)
  rw [<- hW6] at hwr6 hk6
  have HW6:=hJQ hW6
  have HK6:=hJQ hk6
  have HB6 : Hid (Below w.heap.size w W6):=hJQ (hwr6.new HBW2.out HRR.out)
  have HWR6:=hJQ hwr6
  have hq6:=HR2.out
  have z0:=cell_of hq6 (j:=0) rfl
  have z1:=cell_of hq6 (j:=1) rfl
  have z2:=cell_of hq6 (j:=2) rfl
  have rf0:=frozen_of_row w2 r 0 _ _ hq6
  have rf1:=frozen_of_row w2 r 1 _ _ hq6
  have rf2:=frozen_of_row w2 r 2 _ _ hq6
  clear hW6 hk6 hwr6 hq6
  go_wp2_with fail
  rw [<- HW6.out]
  exact bodyPost_ret (v:=.tuple #[.pointer none,.agg #[.int .i64 0,.int .i64 0,.slice none 0 0],.bool false]) (res_open Tryz.results81 _ _ r _ _ _ _ _ (by simp) (by simp) (by simp) HK6.out) rfl ⟨HB6.out,.inl ⟨_,_,_,_,_,_,rfl,HNO.out⟩⟩
end Go.Proofs.YtlppinfjdnhlbaaGreatDoor
