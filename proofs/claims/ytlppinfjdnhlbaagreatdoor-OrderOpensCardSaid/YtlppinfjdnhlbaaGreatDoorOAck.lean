/-
 What a node sends. Condition: the node lies there,and what it is to send is a message.
 A message that is to be sent,as a letter; the messages that a node makes of itself. Condition: it is right.
 What is done for each other member,by rising members. Condition: it keeps who the node is,and in a group of how many.
 A node joins a view,or takes a log: what it is then,and what lasts of it. Condition: that is right,and there is room.
 A node's log grows,and what lasts with it. Condition: nobody's join is kept,and there is room.
 Plain mathematics: a node's disk and ledger that are alive have just what the node has; a keep,and a Sync of more entries,leave it so. Condition: the disk is not armed.
 A node answers the primary of the view that it promised. Condition: what it is to send is a message,and there is such a primary.
 A node says how far its log goes; it hears how far it is committed. Condition: there is a primary to be told.
-/
import Derived.Test.YtlppinfjdnhlbaaGreatDoorHd
import Derived.Test.YtlppinfjdnhlbaaGreatDoorONode
import Derived.BigRegion
import Derived.Test.YtlppinfjdnhlbaaGreatDoorOEnc
import Derived.Test.YtlppinfjdnhlbaaGreatDoorOKeep
import Derived.Test.YtlppinfjdnhlbaaGreatDoorOOk
import Derived.Test.YtlppinfjdnhlbaaGreatDoorOOpen
import Derived.Test.YtlppinfjdnhlbaaGreatDoorKRight2
namespace Go.Proofs.YtlppinfjdnhlbaaGreatDoor
set_option maxRecDepth 100000
open Go.ChangeShapes Go.WideShapes Go.ChangeAt Go.RowKit Go.Proofs.Rk
open Pq (Fld FReads errL bytL fcs)
open Gq (Bz Mine PL PDisk Kp Kl Lg Dk)

def Near (t : TypeId) : Prop:=t = 105 ∨ t = 28 ∨ t = 124 ∨ t = 111 ∨ t = 45 ∨ ¬ Far t
structure KN (z : Nat -> Prop) (w w' : World) : Prop where
 os : w'.os = w.os
 tape : w'.tape = w.tape
 output : w'.output = w.output
 size : w.heap.size <= w'.heap.size
 kept : ∀ (k : Nat) (o : Obj),w.heap[k]? = some o -> (z k ∨ ∀ cs t fr,o = Obj.cells cs t fr -> ¬ Near t) -> w'.heap[k]? = some o
theorem KN.refl (z : Nat -> Prop) (w : World) : KN z w w:=⟨rfl,rfl,rfl,Nat.le_refl _,fun _ _ h _ => h⟩
theorem KN.trans {z : Nat -> Prop} {a b c : World} (h : KN z a b) (k : KN z b c) : KN z a c:=⟨k.os.trans h.os,k.tape.trans h.tape,k.output.trans h.output,Nat.le_trans h.size k.size,fun j o hj ht => k.kept j o (h.kept j o hj ht) ht⟩
theorem KN.of_below {z : Nat -> Prop} {w w' : World} (h : Below w.heap.size w w') : KN z w w':=⟨h.os,h.tape,h.output,h.size,fun k _ hk _ => (h.block k (Array.getElem?_eq_some_iff.1 hk).1).trans hk⟩
theorem KN.of_kt {z : Nat -> Prop} {w w' : World} (h : KT z w w') : KN z w w':=⟨h.os,h.tape,h.output,h.size,fun k o hk ht => h.kept k o hk (ht.imp id fun ht cs t fr e => by
 have hn:=ht cs t fr e
 unfold Near at hn
 exact ⟨Classical.byContradiction fun hf => hn (.inr (.inr (.inr (.inr (.inr hf))))),fun e2 => hn (.inr (.inr (.inl e2)))⟩)⟩
theorem KN.of_grown {z : Nat -> Prop} {w w' : World} {row : Option Nat} (h : w.grownBy w' row) (hr : ∀ r,row = some r -> ¬ z r /\ ∀ o,w.heap[r]? = some o -> ∃ cs t fr,o = Obj.cells cs t fr /\ Near t) : KN z w w' :=
 ⟨h.os,h.tape,h.output,h.size,fun k o hk ht => (h.block k (Array.getElem?_eq_some_iff.1 hk).1 (fun e => by
  obtain ⟨h1,h2⟩:=hr k e.symm
  obtain ⟨cs,t,fr,e2,h3⟩:=h2 o hk
  rcases ht with ht | ht
  ·exact h1 ht
  ·exact ht cs t fr e2 h3)).trans hk⟩
theorem KN.of_wr {z : Nat -> Prop} {w w' : World} {r : Nat} {cs : Array Value} {t : TypeId} (h : Wr r w w') (hr : w.heap[r]? = some (.cells cs t (0,0))) (hz : ¬ z r) (ht : Near t) : KN z w w' :=
 KN.of_grown h.gb (fun k e => by
  injection e with e
  subst e
  exact ⟨hz,fun o ho => ⟨cs,t,(0,0),by rw [hr] at ho; injection ho with ho; exact ho.symm,ht⟩⟩)
theorem KN.cells {z : Nat -> Prop} {w w' : World} {k : Nat} {cs : Array Value} {t : TypeId} {fr : Nat × Nat} (h : KN z w w') (hk : w.heap[k]? = some (.cells cs t fr)) (ht : ¬ Near t) : w'.heap[k]? = some (.cells cs t fr) :=
 h.kept k _ hk (.inr fun cs' t' fr' e => by injection e with _ e _; subst e; exact ht)
theorem near_node : Near 105:=.inl rfl
theorem near_packet : Near 28:=.inr (.inl rfl)
theorem near_reign : Near 111:=.inr (.inr (.inr (.inl rfl)))
theorem near_entry : Near 45:=.inr (.inr (.inr (.inr (.inl rfl))))
theorem infoP : (Tryz.prog.info? 28).map (fun i => (i.zero,i.size,i.bytes)) = some (some (.agg #[.int .i64 0,.int .i64 0,.string ⟨#[]⟩]),3,32):=by kernel_rfl
theorem NdW.put {w w1 W6 : World} {z : Nat -> Prop} {x st q p : Nat} {lv rp ov : Value} {s : Bool} {G : Lg} {D : Dk} {n : Nd} {dst : Nat} {m : Ms} {g cap : Nat} (h : NdW w z x st q p lv rp ov s G D n) (hb : Below w.heap.size w w1)
  (hown : W6.ownsRow 0 28 3 (.slice (some ⟨g,0,none⟩) (n.out.length + 1) cap) (n.out.length + 1) (n.out.flatMap (pkt n.self) ++ [.int .i64 (n.self : Int),.int .i64 (dst : Int),.string (strOfNums (enM m))])) (hgrow : w1.grownBy W6 ov.ownBlock) (hat : ov.ownBlock = some g ∨ g = w1.heap.size) :
  NdW (W6.setCell ⟨x,8,none⟩ (.slice (some ⟨g,0,none⟩) (n.out.length + 1) cap)) z x st q p lv rp (.slice (some ⟨g,0,none⟩) (n.out.length + 1) cap) s G D (n.send dst m) /\ KN z w (W6.setCell ⟨x,8,none⟩ (.slice (some ⟨g,0,none⟩) (n.out.length + 1) cap)):=by
 have h1:=h.below hb
 have hK : ∀ (k : Nat) (cs : Array Value) (t : TypeId) (fr : Nat × Nat),w1.heap[k]? = some (.cells cs t fr) -> t ≠ 28 -> W6.heap[k]? = some (.cells cs t fr):=fun k cs t fr hk ht =>
  (hgrow.block k (Array.getElem?_eq_some_iff.1 hk).1 (fun e => own_ne h1.out hk ht e.symm)).trans hk
 have hx6:=hK _ _ _ _ h1.here (by decide)
 obtain ⟨hwr,hk6⟩:=seti hx6 8 (.slice (some ⟨g,0,none⟩) (n.out.length + 1) cap)
 have hK2 : ∀ (k : Nat) (cs : Array Value) (t : TypeId) (fr : Nat × Nat),w1.heap[k]? = some (.cells cs t fr) -> t ≠ 28 -> t ≠ 105 -> (W6.setCell ⟨x,8,none⟩ (.slice (some ⟨g,0,none⟩) (n.out.length + 1) cap)).heap[k]? = some (.cells cs t fr):=fun k cs t fr hk ht h2 => by
  refine hwr.blk (fun e => ?_) (hK k cs t fr hk ht)
  subst e
  rw [h1.here] at hk
  injection hk with hk
  injection hk with _ e2 _
  exact h2 e2.symm
 have hrow : ∀ (lv : Value) (k : Nat) (xs : List Value),w1.ownsRow 0 45 3 lv k xs -> (W6.setCell ⟨x,8,none⟩ (.slice (some ⟨g,0,none⟩) (n.out.length + 1) cap)).ownsRow 0 45 3 lv k xs:=fun lv k xs ho => Gq.own_tag ho (fun k cs hx => hK2 _ _ _ _ hx (by decide) (by decide))
 have hsz : w1.heap.size <= (W6.setCell ⟨x,8,none⟩ (.slice (some ⟨g,0,none⟩) (n.out.length + 1) cap)).heap.size:=by have:=hgrow.size; simpa using this
 have hgz : ¬ z g:=by
  rcases hat with e | e
  ·exact h.zout g e
  ·intro hz
   have h2:=h.zl g hz
   have h3:=hb.size
   omega
 obtain ⟨bv,hpl⟩:=h1.pl
 refine ⟨⟨hk6,hrow _ _ _ h1.log,hK2 _ _ _ _ h1.store (by decide) (by decide),?_,⟨bv,pl_same hpl hsz (fun k cs t fr hx ht => hK2 _ _ _ _ hx (fun e => ht (by subst e; exact far_packet)) (fun e => ht (by subst e; exact far_node)))⟩,h1.rg.mono (fun k cs hx => hK2 _ _ _ _ hx (by decide) (by decide)) (fun k cs hx => hK2 _ _ _ _ hx (by decide) (by decide)) (fun lv l ho => hrow _ _ _ ho),h.zx,h.zst,h.zlog,?_⟩,?_⟩
 ·have e1 : (n.send dst m).out.length = n.out.length + 1:=by simp [Nd.send]
  have e2 : (n.send dst m).out.flatMap (pkt (n.send dst m).self) = n.out.flatMap (pkt n.self) ++ [.int .i64 (n.self : Int),.int .i64 (dst : Int),.string (strOfNums (enM m))]:=by simp [Nd.send,pkt]
  rw [e1,e2]
  exact own_gb hown hwr.gb (own_ne hown hx6 (by decide))
 ·intro k hk2
  simp only [Value.ownBlock,Option.some.injEq] at hk2
  subst hk2
  exact hgz
 ·refine (KN.of_below hb).trans ((KN.of_grown hgrow (fun r e => ⟨h.zout r e,fun o ho => ?_⟩)).trans (KN.of_wr hwr hx6 h.zx near_node))
  rcases h1.out.2 with ⟨e2,_⟩ | ⟨g2,cap2,cur,e2,_,hg2,_⟩
  ·rw [e2] at e; simp [Value.ownBlock] at e
  ·rw [e2] at e
   simp only [Value.ownBlock,Option.some.injEq] at e
   subst e
   rw [hg2] at ho
   injection ho with ho
   exact ⟨_,_,_,ho.symm,near_packet⟩
set_option maxHeartbeats 4000000 in
theorem send_any {w : World} {z : Nat -> Prop} {x st q p : Nat} {lv rp ov : Value} {s : Bool} {G : Lg} {D : Dk} {n : Nd} (h : NdW w z x st q p lv rp ov s G D n) (hl : n.out.length <= 1000000) (m : Ms) (dst : Nat) :
  Calls Tryz.prog 58 #[.agg #[.pointer (some ⟨x,0,none⟩),.string (strOfNums (enM m))],.int .i64 (dst : Int)] w fun e w' => e = .returned (.tuple #[]) /\ KN z w w' /\ ∃ ov',NdW w' z x st q p lv rp ov' s G D (n.send dst m):=by
 obtain ⟨X,hX⟩ : ∃ X,strOfNums (enM m) = X:=⟨_,rfl⟩
 rw [hX]
 obtain ⟨w1,hw1⟩ : ∃ xx,xx = w.alloc (.cells #[.pointer (some ⟨x,0,none⟩),.string X] 114):=⟨_,rfl⟩
 obtain ⟨b,eb⟩ : ∃ xx,xx = w.heap.size:=⟨_,rfl⟩
 have hb1 : Below w.heap.size w w1:=by rw [hw1]; exact box_below w _
 have hk1 : w1.heap[b]? = some (.cells #[.pointer (some ⟨x,0,none⟩),.string X] 114 (0,0)):=by rw [hw1,eb]; exact new_block w _
 obtain ⟨N,hN⟩ : ∃ N,n.out.length = N:=⟨_,rfl⟩
 have h1:=h.below hb1
 have hown:=h1.out
 obtain ⟨A,c,eov,-,-,-⟩:=own_form hown
 rw [hN] at eov hown
 have b0:=cell_of hk1 (j:=0) rfl
 have b1:=cell_of hk1 (j:=1) rfl
 have x0:=cell_of h1.here (j:=0) rfl
 have x8:=cell_of h1.here (j:=8) rfl
 obtain ⟨sf,hsf⟩ : ∃ k : Int,k = (n.self : Int):=⟨_,rfl⟩
 obtain ⟨ti,hti⟩ : ∃ k : Int,k = (dst : Int):=⟨_,rfl⟩
 rw [<- hsf] at x0
 obtain ⟨wd,hwd⟩ : ∃ W,W = w1.drew:=⟨_,rfl⟩
 have hbd : Below w1.heap.size w1 wd:=by rw [hwd]; exact (Below.refl _ _).drew
 have h2:=h1.below hbd
 obtain ⟨W,hW⟩ : ∃ W,W = wd.alloc (.cells #[.int .i64 sf,.int .i64 ti,.string X] 28):=⟨_,rfl⟩
 obtain ⟨nb,hnb⟩ : ∃ xx,xx = wd.heap.size:=⟨_,rfl⟩
 have hbW : Below wd.heap.size wd W:=by rw [hW]; exact box_below wd _
 have HNB : Hid (W.heap[nb]? = some (.cells #[.int .i64 sf,.int .i64 ti,.string X] 28 (0,0))):=hJQ (by rw [hW,hnb]; exact new_block wd _)
 have HNBE:=hJQ hnb
 have HOW : Hid (W.ownsRow 0 28 3 (.slice A N c) N (n.out.flatMap (pkt n.self))):=hJQ (by rw [<- eov]; exact own_below (own_below hown hbd) hbW)
 have HBW : Hid (Below w.heap.size w W):=hJQ ((hb1.trans (hbd.mono hb1.size)).trans (hbW.mono (hb1.trans (hbd.mono hb1.size)).size))
 have hxw:=blk_below h2.here hbW
 rw [eov] at hxw
 have HXW:=hJQ hxw
 have HBB:=hJQ (blk_below (blk_below hk1 hbd) hbW)
 have hx2:=h2.here
 rw [eov,<- hsf] at hx2
 have d8:=cell_of hx2 (j:=8) rfl
 have w8:=cell_of HXW.out (j:=8) rfl
 have HS0 : Hid (∀ V : World,∀ csx : Array Value,csx[0]? = some (.int .i64 sf) -> V.heap[b]? = some (.cells #[.pointer (some ⟨x,0,none⟩),.string X] 114 (0,0)) -> V.heap[x]? = some (.cells csx 105 (0,0)) -> V.cell? ⟨b,0,none⟩ = some (.pointer (some ⟨x,0,none⟩)) /\ V.cell? ⟨b,1,none⟩ = some (.string X) /\ V.cell? ⟨x,0,none⟩ = some (.int .i64 sf)):=hJQ (fun V csx h0 h1 h2 => ⟨cell_of h1 (j:=0) rfl,cell_of h1 (j:=1) rfl,cell_of h2 (j:=0) (by simpa using h0)⟩)
 have HS7 : Hid (∀ (V : World) (v : Value) (csx : Array Value),csx[0]? = some (.int .i64 sf) -> V.heap[b]? = some (.cells #[.pointer (some ⟨x,0,none⟩),.string X] 114 (0,0)) -> V.heap[x]? = some (.cells csx 105 (0,0)) -> (V.setCell ⟨x,8,none⟩ v).cell? ⟨b,0,none⟩ = some (.pointer (some ⟨x,0,none⟩)) /\ (V.setCell ⟨x,8,none⟩ v).cell? ⟨b,1,none⟩ = some (.string X) /\ (V.setCell ⟨x,8,none⟩ v).cell? ⟨x,0,none⟩ = some (.int .i64 sf)):=hJQ (fun V v csx h0 h1 h2 => by
  obtain ⟨k1,k2⟩:=seti h2 8 v
  have k3:=k1.blk (fun e => by subst e; rw [h1] at h2; injection h2 with h2; injection h2 with _ e2 _; exact absurd e2 (by decide)) h1
  refine ⟨cell_of k3 (j:=0) rfl,cell_of k3 (j:=1) rfl,cell_of k2 (j:=0) ?_⟩
  rw [Array.getElem?_setIfInBounds_ne (by decide)]
  exact h0)
 have HSW:=hJQ (HS0.out W _ (by rw [hsf]; rfl) HBB.out HXW.out)
 have HEND : Hid (∀ g cap W6,W6.ownsRow 0 28 3 (.slice (some ⟨g,0,none⟩) (N + 1) cap) (N + 1) (n.out.flatMap (pkt n.self) ++ [.int .i64 sf,.int .i64 ti,.string X]) -> W.grownBy W6 (Value.slice A N c).ownBlock -> ((Value.slice A N c).ownBlock = some g ∨ g = W.heap.size) -> (KN z w (W6.setCell ⟨x,8,none⟩ (.slice (some ⟨g,0,none⟩) (N + 1) cap)) /\ ∃ ov',NdW (W6.setCell ⟨x,8,none⟩ (.slice (some ⟨g,0,none⟩) (N + 1) cap)) z x st q p lv rp ov' s G D (n.send dst m))):=hJQ (fun g cap W6 k1 k2 k3 => by
  rw [<- eov] at k2 k3
  rw [<- hN,hsf,hti,<- hX] at k1
  obtain ⟨j1,j2⟩:=h.put (dst:=dst) (m:=m) HBW.out k1 k2 k3
  rw [<- hN]
  exact ⟨j2,_,j1⟩)
 have hHeld0:=HS0.out w1 _ (by rw [hsf]; rfl) hk1 h1.here
 have HSD:=hJQ (HS0.out wd _ (by rw [hsf]; rfl) (blk_below hk1 hbd) h2.here)
 obtain ⟨i0,hi,hz0,hz1,hz2⟩:=info_parts infoP
 have HW1:=hJQ hw1
 have EB:=hJQ eb
 have HW:=hJQ hW
 have HSF:=hJQ hsf
 have HWD:=hJQ hwd
 have hN6 : N <= 1000000:=by omega
 rw [<- hti]
 have HSX : Hid (∀ (V : World) (v : Value),V.heap[b]? = some (.cells #[.pointer (some ⟨x,0,none⟩),.string X] 114 (0,0)) -> V.heap[x]? = some (.cells #[.int .i64 (n.self : Int),.int .i64 (n.many : Int),.int .i64 n.pr,.int .i64 n.nm,lv,.pointer (some ⟨st,0,none⟩),.int .i64 n.com,rp,.slice A N c] 105 (0,0)) -> (V.setCell ⟨x,8,none⟩ v).cell? ⟨b,0,none⟩ = some (.pointer (some ⟨x,0,none⟩)) /\ (V.setCell ⟨x,8,none⟩ v).cell? ⟨b,1,none⟩ = some (.string X) /\ (V.setCell ⟨x,8,none⟩ v).cell? ⟨x,0,none⟩ = some (.int .i64 sf)):=hJQ (fun V v a1 a2 => HS7.out V v _ (by rw [hsf]; rfl) a1 a2)
 clear h h1 h2 hx2 hxw hsf hN eov hown hw1 eb hb1 hk1 hX hti hbW hl hwd hbd hW hnb b0 b1 x0 x8
 go_enter Tryz.func58,Tryz.ntmps58
 go_upto_region 1 with fail
 rw [<- HW1.out,<- EB.out]
 refine wp_region_held_drew (S:=fun V => V.cell? ⟨b,0,none⟩ = some (.pointer (some ⟨x,0,none⟩)) /\ V.cell? ⟨b,1,none⟩ = some (.string X) /\ V.cell? ⟨x,0,none⟩ = some (.int .i64 sf)) (by kernel_rfl) hHeld0 (fun hHeld => ?_)
 clear hHeld hHeld0
 have hHeld:=HSD.out
 rw [<- HWD.out]
 refine tk 0 4 (.pointer (some ⟨b,0,none⟩)) hHeld ?_
 refine tm 1 5 (.pointer (some ⟨x,0,none⟩)) hHeld ?_
 refine tk 2 6 (.pointer (some ⟨b,0,none⟩)) hHeld ?_
 refine tm 3 7 (.pointer (some ⟨x,0,none⟩)) hHeld ?_
 refine tk 4 8 (.pointer (some ⟨x,0,none⟩)) hHeld ?_
 refine tk 5 9 (.pointer (some ⟨x,8,none⟩)) hHeld ?_
 refine tk 7 11 (.pointer (some ⟨b,0,none⟩)) hHeld ?_
 refine tm 8 12 (.pointer (some ⟨x,0,none⟩)) hHeld ?_
 refine tk 9 13 (.pointer (some ⟨x,0,none⟩)) hHeld ?_
 refine tk 10 14 (.pointer (some ⟨x,0,none⟩)) hHeld ?_
 refine tm 11 15 (.int .i64 sf) hHeld ?_
 refine tk 12 16 (.int .i64 ti) hHeld ?_
 refine tk 13 17 (.pointer (some ⟨b,1,none⟩)) hHeld ?_
 refine tm 14 18 (.string X) hHeld ?_
 refine tk 15 19 (.agg #[.int .i64 sf,.int .i64 ti,.string X]) hHeld ?_
 simp only [lz,ls]
 refine wpAnyH_ready (rs:=[6,16]) (by kernel_rfl) (by simp) ?_
 refine AllReadyH.cons rfl (fun K hK => ?_) (AllReadyH.cons rfl (fun K hK => ?_) (AllReadyH.nil))
 ·go_simp
  refine hK.out _ _ hHeld (fun _ => ?_)
  clear hK K
  try simp only [Act.put,lp,lz,ls]
  refine r1 16 (fun K hK => ?_) rfl
  go_simp
  rw [<- HW.out]
  refine hK.out _ _ HSW.out (fun hHeld2 => ?_)
  clear hHeld
  have hHeld:=hHeld2
  clear hHeld2
  rw [<- HNBE.out]
  clear hK K
  try simp only [Act.put,lp,lz,ls]
  refine r1 17 (fun K hK => ?_) rfl
  refine step_append_lies (w:=W) (by rfl) _ _ 38 (by rfl) 0 28 i0 _ 3 32 Tryz.underlying38 hi hz0 hz1 hz2 rfl (by decide) (.slice A N c) N (n.out.flatMap (pkt n.self)) (by rfl) HOW.out ⟨nb,0,none⟩ 1 1 [.int .i64 sf,.int .i64 ti,.string X] (by rfl) rfl (World.news_of_block HNB.out) (by intro u hu; simp at hu; rcases hu with rfl | rfl | rfl <;> rfl) (by decide) (by unfold maxLen; omega) (by omega) (Nat.zero_le _) W.heap.size rfl ?_
  intro g cap W6 hown hgrow hat _
  have hx6:=(hgrow.block x (blk_lt HXW.out) (fun e => own_ne HOW.out HXW.out (by decide) e.symm)).trans HXW.out
  have hb6:=(hgrow.block b (blk_lt HBB.out) (fun e => own_ne HOW.out HBB.out (by decide) e.symm)).trans HBB.out
  have HO6:=hJQ hown
  have HG6:=hJQ hgrow
  have HA6:=hJQ hat
  have HX6:=hJQ hx6
  have HB6:=hJQ hb6
  have y8:=cell_of hx6 (j:=8) rfl
  have f8:=frozen_of_row _ _ 8 _ _ hx6
  clear hown hgrow hat hx6 hb6
  refine hK.out _ _ (HS0.out _ _ (by rw [HSF.out]; rfl) HB6.out HX6.out) (fun hHeld2 => ?_)
  clear hHeld
  have hHeld:=hHeld2
  clear hHeld2
  clear hK K
  try simp only [Act.put,List.setIfInBounds_toArray]
  refine tk 18 22 (.pointer (some ⟨x,0,none⟩)) hHeld ?_
  refine tk 19 23 (.pointer (some ⟨x,8,none⟩)) hHeld ?_
  simp only [lz,ls]
  refine r1 20 (fun K hK => ?_) rfl
  go_simp
  refine hK.out _ _ (HSX.out W6 _ HB6.out HX6.out) (fun _ => ?_)
  clear hK K
  try simp only [Act.put,lp,lz,ls]
  refine wpAnyH_done (by kernel_rfl) ?_ _
  go_wp2_with fail
  go_end0
  exact ⟨rfl,HEND.out _ _ _ HO6.out HG6.out HA6.out⟩
 ·go_simp
  rw [<- HW.out]
  refine hK.out _ _ HSW.out (fun hHeld2 => ?_)
  clear hHeld
  have hHeld:=hHeld2
  clear hHeld2
  rw [<- HNBE.out]
  clear hK K
  try simp only [Act.put,lp,lz,ls]
  refine r1 6 (fun K hK => ?_) rfl
  go_simp
  refine hK.out _ _ hHeld (fun _ => ?_)
  clear hK K
  try simp only [Act.put,lp,lz,ls]
  refine r1 17 (fun K hK => ?_) rfl
  refine step_append_lies (w:=W) (by rfl) _ _ 38 (by rfl) 0 28 i0 _ 3 32 Tryz.underlying38 hi hz0 hz1 hz2 rfl (by decide) (.slice A N c) N (n.out.flatMap (pkt n.self)) (by rfl) HOW.out ⟨nb,0,none⟩ 1 1 [.int .i64 sf,.int .i64 ti,.string X] (by rfl) rfl (World.news_of_block HNB.out) (by intro u hu; simp at hu; rcases hu with rfl | rfl | rfl <;> rfl) (by decide) (by unfold maxLen; omega) (by omega) (Nat.zero_le _) W.heap.size rfl ?_
  intro g cap W6 hown hgrow hat _
  have hx6:=(hgrow.block x (blk_lt HXW.out) (fun e => own_ne HOW.out HXW.out (by decide) e.symm)).trans HXW.out
  have hb6:=(hgrow.block b (blk_lt HBB.out) (fun e => own_ne HOW.out HBB.out (by decide) e.symm)).trans HBB.out
  have HO6:=hJQ hown
  have HG6:=hJQ hgrow
  have HA6:=hJQ hat
  have HX6:=hJQ hx6
  have HB6:=hJQ hb6
  have y8:=cell_of hx6 (j:=8) rfl
  have f8:=frozen_of_row _ _ 8 _ _ hx6
  clear hown hgrow hat hx6 hb6
  refine hK.out _ _ (HS0.out _ _ (by rw [HSF.out]; rfl) HB6.out HX6.out) (fun hHeld2 => ?_)
  clear hHeld
  have hHeld:=hHeld2
  clear hHeld2
  clear hK K
  try simp only [Act.put,List.setIfInBounds_toArray]
  refine tk 18 22 (.pointer (some ⟨x,0,none⟩)) hHeld ?_
  refine tk 19 23 (.pointer (some ⟨x,8,none⟩)) hHeld ?_
  simp only [lz,ls]
  refine r1 20 (fun K hK => ?_) rfl
  go_simp
  refine hK.out _ _ (HSX.out W6 _ HB6.out HX6.out) (fun _ => ?_)
  clear hK K
  try simp only [Act.put,lp,lz,ls]
  refine wpAnyH_done (by kernel_rfl) ?_ _
  go_wp2_with fail
  go_end0
  exact ⟨rfl,HEND.out _ _ _ HO6.out HG6.out HA6.out⟩
open Go.ChangeShapes Go.WideShapes Go.ChangeAt Go.RowKit Go.Proofs.Rk
open Pq (Fld FReads errL bytL fcs)
open Gq (Bz Mine PL PDisk Kp Kl Lg Dk)

theorem ents_from {w : World} {A : Option Addr} {n c : Nat} {l : List En} (h : w.ownsRow 0 45 3 (.slice A n c) n (l.flatMap ecell)) (hl : l.length = n) (hn : n <= 4000000000) {f : Nat} (hf : f <= n) :
  ∃ A' c',(∀ W : World,(Instr.slice 32 (.slice A n c) (some (.int .i64 (f : Int))) none none).run Tryz.prog W = .ok (.slice A' (n - f) c') W) /\ Rd ecell 3 w A' (n - f) (l.drop f) /\ (A' = none -> c' = 0):=by
 obtain ⟨i0,hi,hz0,hz1,hz2⟩:=info_parts infoE
 obtain ⟨A2,c2,e2,h1,-,h3⟩:=own_form h
 injection e2 with e2 _ e3
 subst e2
 subst e3
 have hA : A = none -> c = 0:=fun e => by
  subst e
  rcases h.2 with ⟨e2,_⟩ | ⟨g,cap,cur,e2,_⟩
  ·injection e2
  ·injection e2 with e2; cases e2
 have hr : Rd ecell 3 w A n l:=Rd.of_own h (fun _ _ => rfl) (by omega)
 refine ⟨if c = f then A else A.map (·.add (f * 3)),c - f,fun W => ?_,⟨by rw [List.length_drop,hl],fun hp => ?_⟩,?_⟩
 ·rw [run_slice_l (P:=Tryz.prog) (w:=W) 32 A n c Tryz.underlying32 .i64 (f : Int) (by omega) (by omega)]
  have e : Tryz.prog.elem 32 = 45:=by kernel_rfl
  simp [e,sizeOf,typeInfo,hi,hz1,sliced]
 ·obtain ⟨b,off,rfl,hcell⟩:=hr.cells (by omega)
  rw [if_neg (by omega)]
  refine ⟨b,off + f * 3,by simp [Go.WideShapes.add_plain],fun i hi j v hv => ?_⟩
  rw [List.length_drop] at hi
  rw [List.getElem_drop] at hv
  have:=hcell (f + i) (by omega) j v hv
  rw [show off + (f + i) * 3 + j = off + f * 3 + i * 3 + j by omega] at this
  exact this
 ·intro e
  by_cases hc : c = f
  ·rw [if_pos hc] at e
   have:=hA e
   omega
  ·rw [if_neg hc] at e
   have:=hA (by cases A with | none => rfl | some a => cases e)
   omega
theorem res_letter {fn : Func} {p : Tmp} (h : fn.results = #[.cell p 114]) (tmps : Array Value) (w : World) (b : Nat) (x0 x1 : Value) (hp : tmps.getD p undef = .pointer (some ⟨b,0,none⟩)) (h4 : w.heap[b]? = some (.cells #[x0,x1] 114 (0,0))) :
  (results fn tmps).run Tryz.prog w = .ok (.agg #[x0,x1]) w:=by
 have hp' : tmps[p]?.getD undef = .pointer (some ⟨b,0,none⟩):=by simpa using hp
 have c0:=cell_of h4 (j:=0) rfl
 have c1:=cell_of h4 (j:=1) rfl
 simp [results,h,hp',asAddr,go_sem,c0,c1]
theorem res_msg {fn : Func} {p : Tmp} (h : fn.results = #[.cell p 69]) (tmps : Array Value) (w : World) (b : Nat) (x0 x1 x2 x3 x4 : Value) (hp : tmps.getD p undef = .pointer (some ⟨b,0,none⟩)) (h4 : w.heap[b]? = some (.cells #[x0,x1,x2,x3,x4] 69 (0,0))) :
  (results fn tmps).run Tryz.prog w = .ok (.agg #[x0,x1,x2,x3,x4]) w:=by
 have hp' : tmps[p]?.getD undef = .pointer (some ⟨b,0,none⟩):=by simpa using hp
 have c0:=cell_of h4 (j:=0) rfl
 have c1:=cell_of h4 (j:=1) rfl
 have c2:=cell_of h4 (j:=2) rfl
 have c3:=cell_of h4 (j:=3) rfl
 have c4:=cell_of h4 (j:=4) rfl
 simp [results,h,hp',asAddr,go_sem,c0,c1,c2,c3,c4]
theorem in64_of {l : List En} (h : ∀ e ∈ l,0 <= e.n /\ e.n <= 150) : In64 l:=fun e he => by have:=h e he; omega
set_option maxHeartbeats 4000000 in
theorem letter_any {w : World} {x : Nat} {A : Option Addr} {N c : Nat} {l : List En} {k v m y : Int} (h : Rd ecell 3 w A N l) (hA : A = none -> c = 0) (hi : In64 l) (hm : MsOk ⟨k,v,m,y,l⟩) (hN : N <= 4000000000) :
  Calls Tryz.prog 56 #[.pointer (some ⟨x,0,none⟩),.agg #[.int .i64 k,.int .i64 v,.int .i64 m,.int .i64 y,.slice A N c]] w fun e w' => e = .returned (.agg #[.pointer (some ⟨x,0,none⟩),.string (strOfNums (enM ⟨k,v,m,y,l⟩))]) /\ Below w.heap.size w w':=by
 obtain ⟨w1,hw1⟩ : ∃ xx,xx = w.alloc (.cells #[.int .i64 k,.int .i64 v,.int .i64 m,.int .i64 y,.slice A N c] 69):=⟨_,rfl⟩
 obtain ⟨b,eb⟩ : ∃ xx,xx = w.heap.size:=⟨_,rfl⟩
 have hb1 : Below w.heap.size w w1:=by rw [hw1]; exact box_below w _
 have hk1 : w1.heap[b]? = some (.cells #[.int .i64 k,.int .i64 v,.int .i64 m,.int .i64 y,.slice A N c] 69 (0,0)):=by rw [hw1,eb]; exact new_block w _
 obtain ⟨w2,hw2⟩ : ∃ xx,xx = w1.alloc (.cells #[.pointer none,.string ⟨#[]⟩] 114):=⟨_,rfl⟩
 obtain ⟨d,ed⟩ : ∃ xx,xx = w1.heap.size:=⟨_,rfl⟩
 have hb2 : Below w1.heap.size w1 w2:=by rw [hw2]; exact box_below w1 _
 have hd2 : w2.heap[d]? = some (.cells #[.pointer none,.string ⟨#[]⟩] 114 (0,0)):=by rw [hw2,ed]; exact new_block w1 _
 have hk2:=blk_below hk1 hb2
 have m0:=cell_of hk2 (j:=0) rfl
 have m1:=cell_of hk2 (j:=1) rfl
 have m2:=cell_of hk2 (j:=2) rfl
 have m3:=cell_of hk2 (j:=3) rfl
 have m4:=cell_of hk2 (j:=4) rfl
 have HB2 : Hid (Below w.heap.size w w2):=hJQ (hb1.trans (hb2.mono hb1.size))
 have HE:=hJQ (encode_any (h.below HB2.out) hA hN hi k v m y (by have h9 : y <= 150:=hm.2.2.2.2.2.1; omega))
 unfold EcPost at HE
 rw [msB_yes hm,if_pos rfl] at HE
 have HD2:=hJQ hd2
 have HDW : Hid (w.heap.size <= d):=hJQ (by rw [ed]; exact hb1.size)
 have hbd : b + 1 = d:=by rw [eb,ed,hw1]; simp
 obtain ⟨X,hX⟩ : ∃ X,strOfNums (enM ⟨k,v,m,y,l⟩) = X:=⟨_,rfl⟩
 rw [hX] at HE ⊢
 have HW1:=hJQ hw1
 have HW2:=hJQ hw2
 have EB:=hJQ eb
 have HBD:=hJQ hbd
 clear h hA hi hm hN hw1 eb hb1 hk1 hw2 ed hb2 hd2 hk2 hX hbd
 go_enter Tryz.func56,Tryz.ntmps56
 go_upto_region 1 with fail
 rw [<- HW1.out,<- EB.out]
 rw [<- HW2.out]
 rw [HBD.out]
 go_wp2_with fail
 refine HE.out.mono ?_
 rintro e w3 ⟨rfl,hb3⟩
 have hd3:=blk_below HD2.out hb3
 have z0:=cell_of hd3 (j:=0) rfl
 have z1:=cell_of hd3 (j:=1) rfl
 have f0:=frozen_of_row w3 d 0 _ _ hd3
 have f1:=frozen_of_row w3 d 1 _ _ hd3
 obtain ⟨w4,hw4⟩ : ∃ xx,xx = (w3.setCell ⟨d,0,none⟩ (.pointer (some ⟨x,0,none⟩))).setCell ⟨d,1,none⟩ (.string X):=⟨_,rfl⟩
 obtain ⟨hwr,hk4⟩:=setl2 hd3 (.pointer (some ⟨x,0,none⟩)) (.string X)
 rw [<- hw4] at hwr hk4
 have HB4 : Hid (Below w.heap.size w w4):=hJQ (hwr.new (HB2.out.trans (hb3.mono HB2.out.size)) HDW.out)
 have HK4:=hJQ hk4
 have HW4:=hJQ hw4
 clear m0 m1 m2 m3 m4 hb3 hd3 hw4 hwr hk4
 go_wp2_with fail
 rw [<- HW4.out]
 exact bodyPost_ret (res_letter Tryz.results56 _ _ d _ _ (by simp) HK4.out) rfl ⟨rfl,HB4.out⟩
set_option maxHeartbeats 4000000 in
theorem ntell_any {w : World} {z : Nat -> Prop} {x st q p : Nat} {lv rp ov : Value} {s : Bool} {G : Lg} {D : Dk} {n : Nd} (h : NdW w z x st q p lv rp ov s G D n) :
  Calls Tryz.prog 109 #[.pointer (some ⟨x,0,none⟩)] w fun e w' => e = .returned (.agg #[.int .i64 6,.int .i64 n.pr,.int .i64 0,.int .i64 n.com,.slice none 0 0]) /\ Below w.heap.size w w':=by
 obtain ⟨pr,hpr⟩ : ∃ k,n.pr = k:=⟨_,rfl⟩
 obtain ⟨com,hcom⟩ : ∃ k,n.com = k:=⟨_,rfl⟩
 rw [hpr,hcom]
 obtain ⟨w1,hw1⟩ : ∃ xx,xx = w.alloc (.cells #[.int .i64 0,.int .i64 0,.int .i64 0,.int .i64 0,.slice none 0 0] 69):=⟨_,rfl⟩
 obtain ⟨r,er⟩ : ∃ xx,xx = w.heap.size:=⟨_,rfl⟩
 have hb1 : Below w.heap.size w w1:=by rw [hw1]; exact box_below w _
 have hr1 : w1.heap[r]? = some (.cells #[.int .i64 0,.int .i64 0,.int .i64 0,.int .i64 0,.slice none 0 0] 69 (0,0)):=by rw [hw1,er]; exact new_block w _
 obtain ⟨w2,hw2⟩ : ∃ xx,xx = w1.drew:=⟨_,rfl⟩
 have hb2 : Below w1.heap.size w1 w2:=by rw [hw2]; exact (Below.refl _ _).drew
 have hr2:=blk_below hr1 hb2
 have r0:=cell_of hr2 (j:=0) rfl
 have r1:=cell_of hr2 (j:=1) rfl
 have r2:=cell_of hr2 (j:=2) rfl
 have r3:=cell_of hr2 (j:=3) rfl
 have r4:=cell_of hr2 (j:=4) rfl
 have f0:=frozen_of_row w2 r 0 _ _ hr2
 have f1:=frozen_of_row w2 r 1 _ _ hr2
 have f2:=frozen_of_row w2 r 2 _ _ hr2
 have f3:=frozen_of_row w2 r 3 _ _ hr2
 have f4:=frozen_of_row w2 r 4 _ _ hr2
 obtain ⟨W6,hW6⟩ : ∃ xx,xx = (((((w2.setCell ⟨r,0,none⟩ (.int .i64 6)).setCell ⟨r,1,none⟩ (.int .i64 pr)).setCell ⟨r,2,none⟩ (.int .i64 0)).setCell ⟨r,3,none⟩ (.int .i64 com)).setCell ⟨r,4,none⟩ (.slice none 0 0)):=⟨_,rfl⟩
 obtain ⟨hwr,hk6⟩:=setl5 hr2 (.int .i64 6) (.int .i64 pr) (.int .i64 0) (.int .i64 com) (.slice none 0 0)
 rw [<- hW6] at hwr hk6
 have HB6 : Hid (Below w.heap.size w W6):=hJQ (hwr.new (hb1.trans (hb2.mono hb1.size)) (Nat.le_of_eq er.symm))
 have HK6:=hJQ hk6
 have hhere:=h.here
 have HS0 : Hid (∀ V : World,V.heap[x]? = w.heap[x]? -> V.cell? ⟨x,2,none⟩ = some (.int .i64 pr) /\ V.cell? ⟨x,6,none⟩ = some (.int .i64 com)):=hJQ (fun V e => by rw [hhere] at e; exact ⟨by rw [<- hpr]; exact cell_of e (j:=2) rfl,by rw [<- hcom]; exact cell_of e (j:=6) rfl⟩)
 have HSW:=hJQ (HS0.out w1 ((blk_below hhere hb1).trans hhere.symm))
 have HS2:=hJQ (HS0.out w2 ((blk_below (blk_below hhere hb1) hb2).trans hhere.symm))
 have HS6:=hJQ (HS0.out W6 ((hwr.blk (fun e => by have:=blk_lt hhere; omega) (blk_below (blk_below hhere hb1) hb2)).trans hhere.symm))
 have HW1:=hJQ hw1
 have HW2:=hJQ hw2
 have HW6:=hJQ hW6
 have ER:=hJQ er
 clear h hw1 er hb1 hr1 hw2 hb2 hr2 hW6 hwr hk6 hhere HS0 hpr hcom
 go_enter Tryz.func109,Tryz.ntmps109
 go_upto_region 1 with fail
 rw [<- HW1.out,<- ER.out]
 refine wp_region_held_drew (S:=fun V => V.cell? ⟨x,2,none⟩ = some (.int .i64 pr) /\ V.cell? ⟨x,6,none⟩ = some (.int .i64 com)) (by kernel_rfl) HSW.out (fun hHeld => ?_)
 clear hHeld
 have hHeld:=HS2.out
 rw [<- HW2.out]
 refine tk 0 3 (.pointer (some ⟨x,0,none⟩)) hHeld ?_
 refine tk 1 4 (.pointer (some ⟨x,0,none⟩)) hHeld ?_
 refine tk 2 5 (.pointer (some ⟨x,2,none⟩)) hHeld ?_
 refine tk 3 6 (.pointer (some ⟨x,2,none⟩)) hHeld ?_
 refine tm 4 7 (.int .i64 pr) hHeld ?_
 refine tk 5 8 (.pointer (some ⟨x,0,none⟩)) hHeld ?_
 refine tk 6 9 (.pointer (some ⟨x,0,none⟩)) hHeld ?_
 refine tk 7 10 (.pointer (some ⟨x,6,none⟩)) hHeld ?_
 refine tm 8 11 (.int .i64 com) hHeld ?_
 refine tk 9 12 (.agg #[.int .i64 6,.int .i64 pr,.int .i64 0,.int .i64 com,.slice none 0 0]) hHeld ?_
 simp only [lz,ls]
 refine wpAnyH_ready (rs:=[10]) (by kernel_rfl) (by simp) (AllReadyH.cons rfl (fun K hK => ?_) AllReadyH.nil)
 go_simp
 rw [<- HW6.out]
 refine hK.out _ _ HS6.out (fun _ => ?_)
 clear hK K
 try simp only [Act.put,lp,lz,ls]
 refine wpAnyH_done (by kernel_rfl) ?_ _
 go_wp2_with fail
 exact bodyPost_ret (res_msg Tryz.results109 _ _ r _ _ _ _ _ (by simp) HK6.out) rfl ⟨rfl,HB6.out⟩
set_option maxHeartbeats 4000000 in
theorem nputbehind_any {w : World} {z : Nat -> Prop} {x st q p : Nat} {lv rp ov : Value} {s : Bool} {G : Lg} {D : Dk} {n : Nd} (h : NdW w z x st q p lv rp ov s G D n) {f : Nat} (hf : f <= n.log.length) (hl : n.log.length <= 1000000) :
  Calls Tryz.prog 57 #[.pointer (some ⟨x,0,none⟩),.int .i64 (f : Int)] w fun e w' => ∃ A' c',e = .returned (.agg #[.int .i64 4,.int .i64 n.pr,.int .i64 0,.int .i64 (f : Int),.slice A' (n.log.length - f) c']) /\ Rd ecell 3 w' A' (n.log.length - f) (n.log.drop f) /\ (A' = none -> c' = 0) /\ Below w.heap.size w w':=by
 obtain ⟨pr,hpr⟩ : ∃ k,n.pr = k:=⟨_,rfl⟩
 have hlog:=h.log
 obtain ⟨A,c,elv,-,-,-⟩:=own_form hlog
 obtain ⟨N,hN⟩ : ∃ N,n.log.length = N:=⟨_,rfl⟩
 rw [elv] at hlog
 rw [hN] at hlog elv
 obtain ⟨A2,c2,hsl,hrd,hA2⟩:=ents_from hlog hN (by omega) (f:=f) (by omega)
 obtain ⟨N2,hN2⟩ : ∃ N2,N - f = N2:=⟨_,rfl⟩
 rw [hpr,hN]
 rw [hN2] at hsl hrd ⊢
 obtain ⟨w1,hw1⟩ : ∃ xx,xx = w.alloc (.cells #[.int .i64 0,.int .i64 0,.int .i64 0,.int .i64 0,.slice none 0 0] 69):=⟨_,rfl⟩
 obtain ⟨r,er⟩ : ∃ xx,xx = w.heap.size:=⟨_,rfl⟩
 have hb1 : Below w.heap.size w w1:=by rw [hw1]; exact box_below w _
 have hr1 : w1.heap[r]? = some (.cells #[.int .i64 0,.int .i64 0,.int .i64 0,.int .i64 0,.slice none 0 0] 69 (0,0)):=by rw [hw1,er]; exact new_block w _
 obtain ⟨w2,hw2⟩ : ∃ xx,xx = w1.drew:=⟨_,rfl⟩
 have hb2 : Below w1.heap.size w1 w2:=by rw [hw2]; exact (Below.refl _ _).drew
 have hr2:=blk_below hr1 hb2
 have r0:=cell_of hr2 (j:=0) rfl
 have r1:=cell_of hr2 (j:=1) rfl
 have r2:=cell_of hr2 (j:=2) rfl
 have r3:=cell_of hr2 (j:=3) rfl
 have r4:=cell_of hr2 (j:=4) rfl
 have f0:=frozen_of_row w2 r 0 _ _ hr2
 have f1:=frozen_of_row w2 r 1 _ _ hr2
 have f2:=frozen_of_row w2 r 2 _ _ hr2
 have f3:=frozen_of_row w2 r 3 _ _ hr2
 have f4:=frozen_of_row w2 r 4 _ _ hr2
 obtain ⟨W6,hW6⟩ : ∃ xx,xx = (((((w2.setCell ⟨r,0,none⟩ (.int .i64 4)).setCell ⟨r,1,none⟩ (.int .i64 pr)).setCell ⟨r,2,none⟩ (.int .i64 0)).setCell ⟨r,3,none⟩ (.int .i64 f)).setCell ⟨r,4,none⟩ (.slice A2 N2 c2)):=⟨_,rfl⟩
 obtain ⟨hwr,hk6⟩:=setl5 hr2 (.int .i64 4) (.int .i64 pr) (.int .i64 0) (.int .i64 f) (.slice A2 N2 c2)
 rw [<- hW6] at hwr hk6
 have HB6 : Hid (Below w.heap.size w W6):=hJQ (hwr.new (hb1.trans (hb2.mono hb1.size)) (Nat.le_of_eq er.symm))
 have HK6:=hJQ hk6
 have hhere:=h.here
 have HS0 : Hid (∀ V : World,V.heap[x]? = w.heap[x]? -> V.cell? ⟨x,2,none⟩ = some (.int .i64 pr) /\ V.cell? ⟨x,4,none⟩ = some (.slice A N c)):=hJQ (fun V e => by rw [hhere] at e; exact ⟨by rw [<- hpr]; exact cell_of e (j:=2) rfl,by rw [<- elv]; exact cell_of e (j:=4) rfl⟩)
 have HSW:=hJQ (HS0.out w1 ((blk_below hhere hb1).trans hhere.symm))
 have HS2:=hJQ (HS0.out w2 ((blk_below (blk_below hhere hb1) hb2).trans hhere.symm))
 have HS6:=hJQ (HS0.out W6 ((hwr.blk (fun e => by have:=blk_lt hhere; omega) (blk_below (blk_below hhere hb1) hb2)).trans hhere.symm))
 have HW1:=hJQ hw1
 have HW2:=hJQ hw2
 have HW6:=hJQ hW6
 have ER:=hJQ er
 have HRD:=hJQ (hrd.below HB6.out)
 have HA2:=hJQ hA2
 clear h hw1 er hb1 hr1 hw2 hb2 hr2 hW6 hwr hk6 hhere HS0 hpr hlog elv hN hrd hA2 hN2 hf hl
 go_enter Tryz.func57,Tryz.ntmps57
 go_upto_region 1 with fail
 rw [<- HW1.out,<- ER.out]
 refine wp_region_held_drew (S:=fun V => V.cell? ⟨x,2,none⟩ = some (.int .i64 pr) /\ V.cell? ⟨x,4,none⟩ = some (.slice A N c)) (by kernel_rfl) HSW.out (fun hHeld => ?_)
 clear hHeld
 have hHeld:=HS2.out
 rw [<- HW2.out]
 refine tk 0 5 (.pointer (some ⟨x,0,none⟩)) hHeld ?_
 refine tk 1 6 (.pointer (some ⟨x,0,none⟩)) hHeld ?_
 refine tk 2 7 (.pointer (some ⟨x,2,none⟩)) hHeld ?_
 refine tk 3 8 (.pointer (some ⟨x,2,none⟩)) hHeld ?_
 refine tm 4 9 (.int .i64 pr) hHeld ?_
 refine tk 5 10 (.int .i64 f) hHeld ?_
 refine tk 6 11 (.pointer (some ⟨x,0,none⟩)) hHeld ?_
 refine tk 7 12 (.pointer (some ⟨x,0,none⟩)) hHeld ?_
 refine tk 8 13 (.pointer (some ⟨x,2,none⟩)) hHeld ?_
 refine tk 9 14 (.pointer (some ⟨x,4,none⟩)) hHeld ?_
 refine tm 10 15 (.slice A N c) hHeld ?_
 refine tk 11 16 (.int .i64 f) hHeld ?_
 refine tk 12 17 (.slice A2 N2 c2) hHeld ?_
 refine tk 13 18 (.agg #[.int .i64 4,.int .i64 pr,.int .i64 0,.int .i64 f,.slice A2 N2 c2]) hHeld ?_
 simp only [lz,ls]
 refine wpAnyH_ready (rs:=[14]) (by kernel_rfl) (by simp) (AllReadyH.cons rfl (fun K hK => ?_) AllReadyH.nil)
 go_simp
 rw [<- HW6.out]
 refine hK.out _ _ HS6.out (fun _ => ?_)
 clear hK K
 try simp only [Act.put,lp,lz,ls]
 refine wpAnyH_done (by kernel_rfl) ?_ _
 go_wp2_with fail
 exact bodyPost_ret (res_msg Tryz.results57 _ _ r _ _ _ _ _ (by simp) HK6.out) rfl ⟨_,_,rfl,HRD.out,HA2.out,HB6.out⟩
open Go.ChangeShapes Go.WideShapes Go.ChangeAt Go.RowKit Go.Proofs.Rk
open Pq (Fld FReads errL bytL fcs)
open Gq (Bz Mine PL PDisk Kp Kl Lg Dk)

set_option maxHeartbeats 4000000 in
theorem toothers_any {w : World} {x self many F : Nat} {v : Value} {I : Nat -> World -> Prop} (hm : many <= 7) (hE : ∀ (W : World) (i : Int),(callFunc F #[v,.int .i64 i]).run Tryz.prog W = .ok (.enter F #[v,.int .i64 i]) W) (h0 : I 0 w) (hx : ∀ i W,I i W -> W.cell? ⟨x,0,none⟩ = some (.int .i64 (self : Int)) /\ W.cell? ⟨x,1,none⟩ = some (.int .i64 (many : Int)))
  (hs : ∀ W,I self W -> I (self + 1) W) (hF : ∀ i W,i < many -> i ≠ self -> I i W -> Calls Tryz.prog F #[v,.int .i64 (i : Int)] W fun e W' => e = .returned (.tuple #[]) /\ I (i + 1) W') :
  Calls Tryz.prog 55 #[.pointer (some ⟨x,0,none⟩),.func (.func F) #[v] #[]] w fun e w' => e = .returned (.tuple #[]) /\ I many w':=by
 have HX:=hJQ hx
 have HS:=hJQ hs
 have HF:=hJQ hF
 have HI:=hJQ h0
 obtain ⟨x0,x1⟩:=hx 0 w h0
 obtain ⟨mi,hmi⟩ : ∃ k : Int,k = (many : Int):=⟨_,rfl⟩
 rw [<- hmi] at x1
 have HMI:=hJQ hmi
 clear hx hs hF h0 hmi
 go_enter Tryz.func55,Tryz.ntmps55
 go_wp2_with fail
 clear x0 x1
 go_loopw [9] (fun i wr => ∃ k : Nat,k <= many /\ i = .int .i64 k /\ Hid (I k wr)) (fun i _ => many - (intOf i).toNat)
 case atStart => exact ⟨0,Nat.zero_le _,rfl,HI⟩
 case round =>
  obtain ⟨k,hk,rfl,HK⟩:=hrel
  obtain ⟨x0,x1⟩:=HX.out k _ HK.out
  by_cases hlt : k < many
  ·have hki : (k : Int) < mi:=by rw [HMI.out]; omega
   have hwk : IntKind.i64.wrap ((k : Int) + 1) = (k : Int) + 1:=by rw [IntKind.wrap_i64]; omega
   by_cases he : k = self
   ·have HK2:=hJQ (by rw [he] at HK; exact HS.out _ HK.out : I (self + 1) wr)
    subst he
    clear x1
    go_wp2_with fail
    go_roundw
    case rel => exact ⟨k + 1,hlt,by go_num,HK2⟩
    case measure => simp [intOf]; omega
   ·have hne : ((k : Int) != (self : Int)) = true:=by simp; omega
    have hne2 : ((k : Int) == (self : Int)) = false:=by simp; omega
    have HC:=hJQ (HF.out k wr hlt he HK.out)
    clear x1
    go_wp2_with fail
    refine HC.out.mono ?_
    rintro e w2 ⟨rfl,h2⟩
    have HK2:=hJQ h2
    clear h2 x0
    go_wp2_with fail
    go_roundw
    case rel => exact ⟨k + 1,hlt,by go_num,HK2⟩
    case measure => simp [intOf]; omega
  ·obtain rfl : k = many:=by omega
   have hki : ¬ (k : Int) < mi:=by rw [HMI.out]; omega
   clear x0 x1
   go_wp2_with fail
   go_end0
   exact ⟨rfl,HK.out⟩
open Go.ChangeShapes Go.WideShapes Go.ChangeAt Go.RowKit Go.Proofs.Rk
open Pq (Fld FReads errL bytL fcs)
open Gq (Bz Mine PL PDisk Kp Kl Lg Dk)

theorem run_min_two {P : Program} (w : World) (ts : Array TypeId) (t : TypeId) (x y : Int) : (Builtin.min_ ts t #[.int .i64 x,.int .i64 y]).run P w = .ok (.int .i64 (min x y)) w:=by
 have e1 : (if y < x then y else x) = min x y:=by rw [Int.min_def]; split <;> split <;> omega
 simp [Builtin.min_,Builtin.min2,e1]
section
variable {w w' : World} {z : Nat -> Prop} {x st q p : Nat} {lv rp ov : Value} {s : Bool} {G : Lg} {D : Dk} {n : Nd}
theorem NdW.wr (h : NdW w z x st q p lv rp ov s G D n) (hW : Wr x w w') {n' : Nd} {lv' rp' ov' : Value} (hx : w'.heap[x]? = some (.cells #[.int .i64 (n'.self : Int),.int .i64 (n'.many : Int),.int .i64 n'.pr,.int .i64 n'.nm,lv',.pointer (some ⟨st,0,none⟩),.int .i64 n'.com,rp',ov'] 105 (0,0)))
  (hlog : w.ownsRow 0 45 3 lv' n'.log.length (n'.log.flatMap ecell)) (hrg : RgW w z rp' n'.rg) (hout : w.ownsRow 0 28 3 ov' n'.out.length (n'.out.flatMap (pkt n'.self))) (hl : Mine ⟨0,z⟩ lv') (ho : Mine ⟨0,z⟩ ov') :
  NdW w' z x st q p lv' rp' ov' s G D n' /\ KN z w w':=by
 have hne : ∀ (k : Nat) (cs : Array Value) (t : TypeId),w.heap[k]? = some (.cells cs t (0,0)) -> t ≠ 105 -> w'.heap[k]? = some (.cells cs t (0,0)):=fun k cs t hk ht => hW.blk (fun e => by
  subst e
  rw [h.here] at hk
  injection hk with hk
  injection hk with _ e2 _
  exact ht e2.symm) hk
 have hrow : ∀ (e sz m : Nat) (v : Value) (xs : List Value),e ≠ 105 -> w.ownsRow 0 e sz v m xs -> w'.ownsRow 0 e sz v m xs:=fun e sz m v xs he ho => Gq.own_tag ho (fun k cs hk => hne k cs e hk he)
 obtain ⟨bv,hp⟩:=h.pl
 exact ⟨⟨hx,hrow _ _ _ _ _ (by decide) hlog,hne _ _ _ h.store (by decide),hrow _ _ _ _ _ (by decide) hout,⟨bv,pl_wr hp h.here far_node hW⟩,
  hrg.mono (fun k cs hk => hne k cs _ hk (by decide)) (fun k cs hk => hne k cs _ hk (by decide)) (fun lv l ho => hrow _ _ _ _ _ (by decide) ho),h.zx,h.zst,hl,ho⟩,KN.of_wr hW h.here h.zx near_node⟩
theorem NdW.kept (h : NdW w z x st q p lv rp ov s G D n) (hk : KT z w w') {s' : Bool} {G' : Lg} {D' : Dk} (hs : w'.heap[st]? = some (.cells #[.pointer (some ⟨p,0,none⟩),.pointer (some ⟨q,0,none⟩),.bool s'] 124 (0,0))) (hp : ∃ bv,PL w' ⟨0,z⟩ q p G' bv D') :
  NdW w' z x st q p lv rp ov s' G' D' n :=
 ⟨hk.cells h.here far_node (by decide),hk.own h.log far_entry (by decide),hs,hk.own h.out far_packet (by decide),hp,
  h.rg.mono (fun k cs hx => hk.cells hx far_reign (by decide)) (fun k cs hx => hk.cells hx far_message (by decide)) (fun lv l ho => hk.own ho far_entry (by decide)),h.zx,h.zst,h.zlog,h.zout⟩
set_option maxHeartbeats 4000000 in
theorem promise_any (h : NdW w z x st q p lv rp ov s G D n) {v : Int} {rp' : Value} {rg' : Option Rg} (hr : RgW w z rp' rg') (hL : LsOk ⟨v,n.nm,n.log⟩) (hsz : G.sz = 548) (hwt : D.wait.length <= 20000) :
  Calls Tryz.prog 88 #[.pointer (some ⟨x,0,none⟩),.int .i64 v,rp'] w fun e w' => e = .returned (.bool (!(keepD G (signD s D) (Ls.recs ⟨v,n.nm,n.log⟩)).2.dead)) /\ KN z w w' /\ NdW w' z x st q p lv rp' ov true (keepD G (signD s D) (Ls.recs ⟨v,n.nm,n.log⟩)).1 (keepD G (signD s D) (Ls.recs ⟨v,n.nm,n.log⟩)).2 ({ n with pr:=v,rg:=rg' }):=by
 obtain ⟨ra,erp⟩ : ∃ a,rp' = .pointer a:=by
  cases rg' with
  | none => exact ⟨none,hr⟩
  | some r => obtain ⟨b,jp,e,_⟩:=hr; exact ⟨_,e⟩
 subst erp
 obtain ⟨A,c,elv,-,-,-⟩:=own_form h.log
 subst elv
 have hx:=h.here
 have x2:=cell_of hx (j:=2) rfl
 have f2:=frozen_of_row w x 2 _ _ hx
 obtain ⟨k1,k2⟩:=seti hx 2 (.int .i64 v)
 have x7:=cell_of k2 (j:=7) rfl
 have f7:=frozen_of_row _ x 7 _ _ k2
 obtain ⟨W2,hW2⟩ : ∃ xx,xx = (w.setCell ⟨x,2,none⟩ (.int .i64 v)).setCell ⟨x,7,none⟩ (.pointer ra):=⟨_,rfl⟩
 have hk1:=k1.set 7 (.pointer ra)
 have hk2:=(seti k2 7 (.pointer ra)).2
 rw [<- hW2] at hk1 hk2
 obtain ⟨hn2,hkn2⟩:=h.wr (n':={ n with pr:=v,rg:=rg' }) (lv':=.slice A n.log.length c) (rp':=.pointer ra) (ov':=ov) hk1 hk2 h.log hr h.out h.zlog h.zout
 obtain ⟨wd,hwd⟩ : ∃ xx,xx = W2.drew:=⟨_,rfl⟩
 have hbd : Below W2.heap.size W2 wd:=by rw [hwd]; exact (Below.refl _ _).drew
 have hnd:=hn2.below hbd
 obtain ⟨bv,hpl⟩:=hnd.pl
 have HKP:=hJQ (keep_any (L:=⟨v,n.nm,n.log⟩) hnd.store hnd.zst hpl hwt hnd.log hL hsz)
 have HS0 : Hid (∀ V : World,V.heap[x]? = some (.cells #[.int .i64 (n.self : Int),.int .i64 (n.many : Int),.int .i64 v,.int .i64 n.nm,.slice A n.log.length c,.pointer (some ⟨st,0,none⟩),.int .i64 n.com,.pointer ra,ov] 105 (0,0)) -> V.cell? ⟨x,5,none⟩ = some (.pointer (some ⟨st,0,none⟩)) /\ V.cell? ⟨x,2,none⟩ = some (.int .i64 v) /\ V.cell? ⟨x,3,none⟩ = some (.int .i64 n.nm) /\ V.cell? ⟨x,4,none⟩ = some (.slice A n.log.length c)):=hJQ (fun V e => ⟨cell_of e (j:=5) rfl,cell_of e (j:=2) rfl,cell_of e (j:=3) rfl,cell_of e (j:=4) rfl⟩)
 obtain ⟨KD,hKD⟩ : ∃ K,keepD G (signD s D) (Ls.recs ⟨v,n.nm,n.log⟩) = K:=⟨_,rfl⟩
 rw [hKD]
 have HKD:=hJQ hKD
 have HN2:=hJQ hn2
 have HND:=hJQ hnd
 have HK2:=hJQ hkn2
 have HBD:=hJQ hbd
 have HWD:=hJQ hwd
 have HW2:=hJQ hW2
 clear h hr hL hsz hwt k1 k2 hk1 hk2 hn2 hnd hkn2 hbd hwd hW2 hpl hKD hx
 go_enter Tryz.func88,Tryz.ntmps88
 go_upto_region 2 with fail
 rw [<- HW2.out]
 refine wp_region_held_drew (S:=fun V => V.cell? ⟨x,5,none⟩ = some (.pointer (some ⟨st,0,none⟩)) /\ V.cell? ⟨x,2,none⟩ = some (.int .i64 v) /\ V.cell? ⟨x,3,none⟩ = some (.int .i64 n.nm) /\ V.cell? ⟨x,4,none⟩ = some (.slice A n.log.length c)) (by kernel_rfl) (HS0.out _ HN2.out.here) (fun hHeld => ?_)
 clear hHeld
 have hHeld:=HS0.out _ HND.out.here
 rw [<- HWD.out]
 refine tk 0 16 (.pointer (some ⟨x,0,none⟩)) hHeld ?_
 refine tk 1 17 (.pointer (some ⟨x,0,none⟩)) hHeld ?_
 refine tk 2 18 (.pointer (some ⟨x,5,none⟩)) hHeld ?_
 refine tm 3 19 (.pointer (some ⟨st,0,none⟩)) hHeld ?_
 refine tk 4 20 (.pointer (some ⟨x,0,none⟩)) hHeld ?_
 refine tk 5 21 (.pointer (some ⟨x,0,none⟩)) hHeld ?_
 refine tk 6 22 (.pointer (some ⟨x,2,none⟩)) hHeld ?_
 refine tm 7 23 (.agg #[.int .i64 v,.int .i64 n.nm,.slice A n.log.length c]) hHeld ?_
 simp only [lz,ls]
 refine wpAnyH_ready (rs:=[8]) (by kernel_rfl) (by simp) (AllReadyH.cons rfl (fun K hK => ?_) AllReadyH.nil)
 go_simp
 refine HKP.out.mono ?_
 intro e w4 h4
 obtain rfl:=h4.ret
 have HN4:=hJQ (HND.out.kept h4.kt h4.here (by have h5:=h4.pl; rw [HKD.out] at h5; exact h5))
 have HKN:=hJQ (HK2.out.trans ((KN.of_below HBD.out).trans (KN.of_kt h4.kt)))
 clear h4
 go_wp2_with fail
 refine hK.out _ _ (HS0.out _ HN4.out.here) (fun _ => ?_)
 clear hK K hHeld
 try simp only [Act.put,lp,lz,ls]
 refine wpAnyH_done (by kernel_rfl) ?_ _
 have HDA:=hJQ (ndead_any HN4.out)
 go_wp2_with fail
 refine HDA.out.mono ?_
 rintro e w5 ⟨rfl,rfl⟩
 go_wp2_with fail
 go_ret
 exact ⟨rfl,HKN.out,HN4.out⟩
set_option maxHeartbeats 4000000 in
theorem adopt_any (h : NdW w z x st q p lv rp ov s G D n) {v : Int} {lv' : Value} {l : List En} (hl : w.ownsRow 0 45 3 lv' l.length (l.flatMap ecell)) (hz : Mine ⟨0,z⟩ lv') (hL : LsOk ⟨v,v,l⟩) (hsz : G.sz = 548) (hwt : D.wait.length <= 20000) :
  Calls Tryz.prog 158 #[.pointer (some ⟨x,0,none⟩),.int .i64 v,lv'] w fun e w' => e = .returned (.bool (!(keepD G (signD s D) (Ls.recs ⟨v,v,l⟩)).2.dead)) /\ KN z w w' /\ NdW w' z x st q p lv' rp ov true (keepD G (signD s D) (Ls.recs ⟨v,v,l⟩)).1 (keepD G (signD s D) (Ls.recs ⟨v,v,l⟩)).2 ({ n with pr:=v,nm:=v,log:=l,com:=min n.com l.length }):=by
 obtain ⟨A,c,elv,-,-,-⟩:=own_form hl
 subst elv
 obtain ⟨mm,hmm⟩ : ∃ k : Int,min n.com l.length = k:=⟨_,rfl⟩
 rw [hmm]
 have hx:=h.here
 have x2:=cell_of hx (j:=2) rfl
 have x3:=cell_of hx (j:=3) rfl
 have x4:=cell_of hx (j:=4) rfl
 have f2:=frozen_of_row w x 2 _ _ hx
 have f3:=frozen_of_row w x 3 _ _ hx
 have f4:=frozen_of_row w x 4 _ _ hx
 obtain ⟨k1,k2⟩:=seti hx 2 (.int .i64 v)
 have j1:=k1.set 3 (.int .i64 v)
 have j2:=(seti k2 3 (.int .i64 v)).2
 have i1:=j1.set 4 (.slice A l.length c)
 have i2:=(seti j2 4 (.slice A l.length c)).2
 obtain ⟨W1,hW1⟩ : ∃ xx,xx = ((w.setCell ⟨x,2,none⟩ (.int .i64 v)).setCell ⟨x,3,none⟩ (.int .i64 v)).setCell ⟨x,4,none⟩ (.slice A l.length c):=⟨_,rfl⟩
 rw [<- hW1] at i1 i2
 have y6:=cell_of i2 (j:=6) rfl
 have g6:=frozen_of_row _ x 6 _ _ i2
 have hk1:=i1.set 6 (.int .i64 mm)
 have hk2:=(seti i2 6 (.int .i64 mm)).2
 obtain ⟨W2,hW2⟩ : ∃ xx,xx = W1.setCell ⟨x,6,none⟩ (.int .i64 mm):=⟨_,rfl⟩
 rw [<- hW2] at hk1 hk2
 obtain ⟨hn2,hkn2⟩:=h.wr (n':={ n with pr:=v,nm:=v,log:=l,com:=mm }) (lv':=.slice A l.length c) (rp':=rp) (ov':=ov) hk1 hk2 hl h.rg h.out hz h.zout
 obtain ⟨wd,hwd⟩ : ∃ xx,xx = W2.drew:=⟨_,rfl⟩
 have hbd : Below W2.heap.size W2 wd:=by rw [hwd]; exact (Below.refl _ _).drew
 have hnd:=hn2.below hbd
 obtain ⟨bv,hpl⟩:=hnd.pl
 have HKP:=hJQ (keep_any (L:=⟨v,v,l⟩) hnd.store hnd.zst hpl hwt hnd.log hL hsz)
 have HS0 : Hid (∀ V : World,V.heap[x]? = some (.cells #[.int .i64 (n.self : Int),.int .i64 (n.many : Int),.int .i64 v,.int .i64 v,.slice A l.length c,.pointer (some ⟨st,0,none⟩),.int .i64 mm,rp,ov] 105 (0,0)) -> V.cell? ⟨x,5,none⟩ = some (.pointer (some ⟨st,0,none⟩)) /\ V.cell? ⟨x,2,none⟩ = some (.int .i64 v) /\ V.cell? ⟨x,3,none⟩ = some (.int .i64 v) /\ V.cell? ⟨x,4,none⟩ = some (.slice A l.length c)):=hJQ (fun V e => ⟨cell_of e (j:=5) rfl,cell_of e (j:=2) rfl,cell_of e (j:=3) rfl,cell_of e (j:=4) rfl⟩)
 obtain ⟨KD,hKD⟩ : ∃ K,keepD G (signD s D) (Ls.recs ⟨v,v,l⟩) = K:=⟨_,rfl⟩
 rw [hKD]
 have HKD:=hJQ hKD
 have HN2:=hJQ hn2
 have HND:=hJQ hnd
 have HK2:=hJQ hkn2
 have HBD:=hJQ hbd
 have HWD:=hJQ hwd
 have HW2:=hJQ hW2
 have HW1:=hJQ hW1
 have hmin : ∀ W,(Builtin.min_ #[3,3] 3 #[.int .i64 n.com,.int .i64 (l.length : Int)]).run Tryz.prog W = .ok (.int .i64 mm) W:=fun W => by rw [run_min_two,hmm]
 clear hmm h hl hz hL hsz hwt k1 k2 j1 j2 i1 i2 hk1 hk2 hn2 hnd hkn2 hbd hwd hW1 hW2 hpl hKD hx
 go_enter Tryz.func158,Tryz.ntmps158
 go_upto_region 2 with fail
 rw [<- HW1.out]
 go_upto_region 3 with fail
 rw [<- HW2.out]
 refine wp_region_held_drew (S:=fun V => V.cell? ⟨x,5,none⟩ = some (.pointer (some ⟨st,0,none⟩)) /\ V.cell? ⟨x,2,none⟩ = some (.int .i64 v) /\ V.cell? ⟨x,3,none⟩ = some (.int .i64 v) /\ V.cell? ⟨x,4,none⟩ = some (.slice A l.length c)) (by kernel_rfl) (HS0.out _ HN2.out.here) (fun hHeld => ?_)
 clear hHeld
 have hHeld:=HS0.out _ HND.out.here
 rw [<- HWD.out]
 refine tk 0 24 (.pointer (some ⟨x,0,none⟩)) hHeld ?_
 refine tk 1 25 (.pointer (some ⟨x,0,none⟩)) hHeld ?_
 refine tk 2 26 (.pointer (some ⟨x,5,none⟩)) hHeld ?_
 refine tm 3 27 (.pointer (some ⟨st,0,none⟩)) hHeld ?_
 refine tk 4 28 (.pointer (some ⟨x,0,none⟩)) hHeld ?_
 refine tk 5 29 (.pointer (some ⟨x,0,none⟩)) hHeld ?_
 refine tk 6 30 (.pointer (some ⟨x,2,none⟩)) hHeld ?_
 refine tm 7 31 (.agg #[.int .i64 v,.int .i64 v,.slice A l.length c]) hHeld ?_
 simp only [lz,ls]
 refine wpAnyH_ready (rs:=[8]) (by kernel_rfl) (by simp) (AllReadyH.cons rfl (fun K hK => ?_) AllReadyH.nil)
 go_simp
 refine HKP.out.mono ?_
 intro e w4 h4
 obtain rfl:=h4.ret
 have HN4:=hJQ (HND.out.kept h4.kt h4.here (by have h5:=h4.pl; rw [HKD.out] at h5; exact h5))
 have HKN:=hJQ (HK2.out.trans ((KN.of_below HBD.out).trans (KN.of_kt h4.kt)))
 clear h4
 go_wp2_with fail
 refine hK.out _ _ (HS0.out _ HN4.out.here) (fun _ => ?_)
 clear hK K hHeld
 try simp only [Act.put,lp,lz,ls]
 refine wpAnyH_done (by kernel_rfl) ?_ _
 have HDA:=hJQ (ndead_any HN4.out)
 go_wp2_with fail
 refine HDA.out.mono ?_
 rintro e w5 ⟨rfl,rfl⟩
 go_wp2_with fail
 go_ret
 exact ⟨rfl,HKN.out,HN4.out⟩
end
open Go.ChangeShapes Go.WideShapes Go.ChangeAt Go.RowKit Go.Proofs.Rk
open Pq (Fld FReads errL bytL fcs)
open Gq (Bz Mine PL PDisk Kp Kl Lg Dk putL enc)

section
variable {w w' : World} {z : Nat -> Prop} {x st q p : Nat} {lv rp ov : Value} {s : Bool} {G : Lg} {D : Dk} {n : Nd}
theorem NdW.longer {W6 : World} {g M cap : Nat} {l : List En} (h : NdW w z x st q p lv rp ov s G D n) (hj : ∀ r,n.rg = some r -> ∀ i,r.js i = none) (hM : M = (n.log ++ l).length)
  (hown : W6.ownsRow 0 45 3 (.slice (some ⟨g,0,none⟩) M cap) M ((n.log ++ l).flatMap ecell)) (hgrow : w.grownBy W6 lv.ownBlock) (hat : lv.ownBlock = some g ∨ g = w.heap.size) :
  NdW (W6.setCell ⟨x,4,none⟩ (.slice (some ⟨g,0,none⟩) M cap)) z x st q p (.slice (some ⟨g,0,none⟩) M cap) rp ov s G D { n with log:=n.log ++ l } /\ KN z w (W6.setCell ⟨x,4,none⟩ (.slice (some ⟨g,0,none⟩) M cap)):=by
 have hK : ∀ (k : Nat) (cs : Array Value) (t : TypeId) (fr : Nat × Nat),w.heap[k]? = some (.cells cs t fr) -> t ≠ 45 -> W6.heap[k]? = some (.cells cs t fr):=fun k cs t fr hk ht =>
  (hgrow.block k (Array.getElem?_eq_some_iff.1 hk).1 (fun e => own_ne h.log hk ht e.symm)).trans hk
 have hx6:=hK _ _ _ _ h.here (by decide)
 obtain ⟨hwr,hk6⟩:=seti hx6 4 (.slice (some ⟨g,0,none⟩) M cap)
 have hK2 : ∀ (k : Nat) (cs : Array Value) (t : TypeId) (fr : Nat × Nat),w.heap[k]? = some (.cells cs t fr) -> t ≠ 45 -> t ≠ 105 -> (W6.setCell ⟨x,4,none⟩ (.slice (some ⟨g,0,none⟩) M cap)).heap[k]? = some (.cells cs t fr):=fun k cs t fr hk ht h2 => by
  refine hwr.blk (fun e => ?_) (hK k cs t fr hk ht)
  subst e
  rw [h.here] at hk
  injection hk with hk
  injection hk with _ e2 _
  exact h2 e2.symm
 have hsz : w.heap.size <= (W6.setCell ⟨x,4,none⟩ (.slice (some ⟨g,0,none⟩) M cap)).heap.size:=by have:=hgrow.size; simpa using this
 have hgz : ¬ z g:=by
  rcases hat with e | e
  ·exact h.zlog g e
  ·intro hz
   have h2:=h.zl g hz
   omega
 have hrg : RgW (W6.setCell ⟨x,4,none⟩ (.slice (some ⟨g,0,none⟩) M cap)) z rp n.rg:=by
  have h1:=h.rg
  cases hr : n.rg with
  | none => rw [hr] at h1; exact h1
  | some r =>
   rw [hr] at h1
   obtain ⟨b,jp,e,hb,hz,hjj⟩:=h1
   refine ⟨b,jp,e,hK2 _ _ _ _ hb (by decide) (by decide),hz,fun i hi => ?_⟩
   have h3:=hjj i hi
   rw [hj r hr i] at h3 ⊢
   exact h3
 obtain ⟨bv,hpl⟩:=h.pl
 refine ⟨⟨hk6,?_,hK2 _ _ _ _ h.store (by decide) (by decide),Gq.own_tag h.out (fun k cs hk => hK2 _ _ _ _ hk (by decide) (by decide)),⟨bv,pl_same hpl hsz (fun k cs t fr hx ht => hK2 _ _ _ _ hx (fun e => ht (by subst e; exact far_entry)) (fun e => ht (by subst e; exact far_node)))⟩,hrg,h.zx,h.zst,?_,h.zout⟩,?_⟩
 ·have h2:=own_gb hown hwr.gb (own_ne hown hx6 (by decide))
  rw [<- hM]
  exact h2
 ·intro k hk2
  simp only [Value.ownBlock,Option.some.injEq] at hk2
  subst hk2
  exact hgz
 ·refine (KN.of_grown hgrow (fun r e => ⟨h.zlog r e,fun o ho => ?_⟩)).trans (KN.of_wr hwr hx6 h.zx near_node)
  rcases h.log.2 with ⟨e2,_⟩ | ⟨g2,cap2,cur,e2,_,hg2,_⟩
  ·rw [e2] at e; simp [Value.ownBlock] at e
  ·rw [e2] at e
   simp only [Value.ownBlock,Option.some.injEq] at e
   subst e
   rw [hg2] at ho
   injection ho with ho
   exact ⟨_,_,_,ho.symm,near_entry⟩
def syncD (G : Lg) (D : Dk) (l : List En) : Lg × Dk:=if l = [] then (G,D) else ((putL (addG G l) D G.m.half G.m.used (addG G l).bs).1,(putL (addG G l) D G.m.half G.m.used (addG G l).bs).2.1)
set_option maxHeartbeats 4000000 in
theorem extend_any (h : NdW w z x st q p lv rp ov s G D n) (hj : ∀ r,n.rg = some r -> ∀ i,r.js i = none) {A2 : Option Addr} {c2 : Nat} {l : List En} (hl : w.ownsRow 0 45 3 (.slice A2 l.length c2) l.length (l.flatMap ecell)) (hap : ∀ b,lv.ownBlock = some b -> (Value.slice A2 l.length c2).ownBlock ≠ some b)
  (hd : D.dead = false) (hwt : D.wait.length <= 30000) (hk : l.length <= 150) (hn : n.log.length <= 150) (hb : ∀ e ∈ l,errL (enF e) = 0 /\ e.b.size <= 200) (hroom : G.bs.length + (enc (l.map recE)).length <= G.sz * 64) :
  Calls Tryz.prog 54 #[.pointer (some ⟨x,0,none⟩),.slice A2 l.length c2] w fun e w' => e = .returned (.bool (!(syncD G D l).2.dead)) /\ KN z w w' /\ ∃ lv',NdW w' z x st q p lv' rp ov s (syncD G D l).1 (syncD G D l).2 { n with log:=n.log ++ l }:=by
 by_cases hl0 : l = []
 ·subst hl0
  have HDA:=hJQ (ndead_any h)
  have HH:=hJQ h
  have e0 : syncD G D [] = (G,D):=rfl
  have HNL : Hid (n.log ++ [] = n.log):=hJQ (List.append_nil _)
  rw [e0]
  clear h hj hl hap hd hwt hk hn hb hroom e0
  simp only [List.length_nil]
  go_enter Tryz.func54,Tryz.ntmps54
  go_wp2_with fail
  refine HDA.out.mono ?_
  rintro e w5 ⟨rfl,rfl⟩
  go_wp2_with fail
  go_ret
  exact ⟨rfl,KN.refl _ _,_,by rw [HNL.out]; exact HH.out⟩
 ·have hlne : l ≠ []:=hl0
  have hlp : 0 < l.length:=List.length_pos_iff.2 hl0
  clear hl0
  have HS : Hid (syncD G D l = ((putL (addG G l) D G.m.half G.m.used (addG G l).bs).1,(putL (addG G l) D G.m.half G.m.used (addG G l).bs).2.1)):=hJQ (if_neg hlne)
  obtain ⟨A,c,elv,-,-,-⟩:=own_form h.log
  subst elv
  obtain ⟨N,hN⟩ : ∃ N,n.log.length = N:=⟨_,rfl⟩
  obtain ⟨k,hkk⟩ : ∃ k,l.length = k:=⟨_,rfl⟩
  have hx4:=cell_of h.here (j:=4) rfl
  have HLOG:=hJQ h.log
  rw [hN] at HLOG hx4 hn hap
  rw [hkk] at hl hk hlp hap ⊢
  obtain ⟨cs,hcs⟩ : ∃ cs,cs = l.flatMap ecell:=⟨_,rfl⟩
  obtain ⟨g2,eA2⟩ : ∃ g2,A2 = some ⟨g2,0,none⟩:=by
   obtain ⟨A3,c3,e3,_,_,h3⟩:=own_form hl
   injection e3 with e3 _ _
   rw [e3]
   exact h3 hlp
  subst eA2
  have HL:=hJQ hl
  have HNEW : Hid (∀ j u,(l.flatMap ecell)[j]? = some u -> w.cell? ((⟨g2,0,none⟩ : Addr).add j) = some u):=hJQ (fun j u hu => by
   have:=own_cell hl j u hu
   rw [Go.WideShapes.add_plain,Nat.zero_add]
   exact this)
  have HONE : Hid (∀ u ∈ l.flatMap ecell,u.oneCell' = true):=hJQ (fun u hu => by
   obtain ⟨a,_,hu⟩:=List.mem_flatMap.1 hu
   exact ecell_one a u hu)
  have hfl : (l.flatMap ecell).length = k * 3:=hl.1
  have hki : (0 : Int) < (k : Int):=by omega
  have HH:=hJQ h
  have HJ:=hJQ hj
  have HAP:=hJQ hap
  have HD:=hJQ hd
  have HWT:=hJQ hwt
  have HB:=hJQ hb
  have HRM:=hJQ hroom
  have HN:=hJQ hN
  have HKK:=hJQ hkk
  obtain ⟨i0,hi,hz0,hz1,hz2⟩:=info_parts infoE
  rw [HS.out]
  clear h hj hl hap hd hwt hb hroom hN hkk hcs
  go_enter Tryz.func54,Tryz.ntmps54
  go_upto_region 2 with fail
  go_upto_region 3 with (at_builtin; refine wpList_append_lies w rfl _ _ 32 rfl 0 45 i0 _ 3 32 Tryz.underlying32 hi hz0 hz1 hz2 rfl (by decide) (.slice A N c) N (n.log.flatMap ecell) rfl HLOG.out ⟨g2,0,none⟩ k c2 (l.flatMap ecell) rfl hfl HNEW.out HONE.out hlp (by unfold maxLen; omega) (by omega) (Nat.zero_le _) _ rfl ?_; intro g cap W6 hown hgrow hat hlt; have hx6:=(hgrow.block x (blk_lt HH.out.here) (fun e => own_ne HLOG.out HH.out.here (by decide) e.symm)).trans HH.out.here; have y4:=cell_of hx6 (j:=4) rfl; have f4:=frozen_of_row _ _ 4 _ _ hx6; have HO6:=hJQ hown; have HG6:=hJQ hgrow; have HA6:=hJQ hat; clear hown hgrow hat hlt hx6)
  have hl6:=own_gb' HL.out HG6.out (fun b e => HAP.out b e)
  have hx6:=(HG6.out.block x (blk_lt HH.out.here) (fun e => own_ne HLOG.out HH.out.here (by decide) e.symm)).trans HH.out.here
  have hl7:=own_gb hl6 (seti hx6 4 (.slice (some ⟨g,0,none⟩) (N + k) cap)).1.gb (own_ne hl6 hx6 (by decide))
  obtain ⟨hn7,hkn7⟩:=HH.out.longer (l:=l) (M:=N + k) HJ.out (by rw [List.length_append,HN.out,HKK.out]) (by rw [List.flatMap_append]; exact HO6.out) (by rw [HN.out]; exact HG6.out) (by rw [HN.out]; exact HA6.out)
  obtain ⟨W7,hW7⟩ : ∃ xx,xx = W6.setCell ⟨x,4,none⟩ (.slice (some ⟨g,0,none⟩) (N + k) cap):=⟨_,rfl⟩
  rw [<- hW7] at hn7 hkn7 hl7
  rw [<- hW7]
  have x5:=cell_of hn7.here (j:=5) rfl
  obtain ⟨bv,hpl⟩:=hn7.pl
  have hl8:=hl7
  rw [<- HKK.out] at hl8
  have hadd:=add_any hn7.store hpl HD.out HWT.out hl8 (by rw [HKK.out]; exact hk) HB.out HRM.out
  rw [HKK.out] at hadd
  have HADD:=hJQ hadd
  have HN7:=hJQ hn7
  have HK7:=hJQ hkn7
  clear hl6 hx6 hl7 hn7 hkn7 hW7 hpl hl8 hadd y4 f4
  go_wp2_with fail
  refine HADD.out.mono ?_
  intro e w8 h8
  obtain rfl:=h8.ret
  have HN8:=hJQ (HN7.out.kept (KT.of_kl h8.kl) (Kl.cells h8.kl HN7.out.store far_store) h8.pl)
  have HK8:=hJQ (HK7.out.trans (KN.of_kt (KT.of_kl h8.kl)))
  have HDA:=hJQ (ndead_any HN8.out)
  clear h8 x5
  go_wp2_with fail
  refine HDA.out.mono ?_
  rintro e w9 ⟨rfl,rfl⟩
  go_wp2_with fail
  go_ret
  exact ⟨rfl,HK8.out,_,HN8.out⟩
end
open Go.Proofs.Rk
open Gq (Lg Dk putL enc cur put1 ups pw setW pad Holds Rok need)

theorem ups_zero : ∀ (ws : List (Nat × List Int)) (L : List (List Int)),(∀ x ∈ ws,x.1 ≠ 0) -> (ups L ws).getD 0 [] = L.getD 0 []
 | [],_,_ => rfl
 | x :: ws,L,h => by
  have e : ups L (x :: ws) = ups (put1 L x) ws:=rfl
  rw [e,ups_zero ws _ (fun y hy => h y (by simp [hy]))]
  unfold put1
  rw [List.getD_eq_getElem?_getD,List.getD_eq_getElem?_getD,List.getElem?_set_ne (h x (by simp))]
theorem pw_ne {fr sz half there : Nat} {m : Gq.Mk} {b : List Int} (h : 1 <= fr) : ∀ x ∈ pw (setW fr sz m half there b),x.1 ≠ 0:=fun x hx => by
 obtain ⟨y,hy,rfl⟩:=List.mem_map.1 hx
 unfold setW Gq.chunkW at hy
 rcases List.mem_append.1 hy with hy | hy
 ·obtain ⟨i,_,rfl⟩:=List.mem_map.1 hy
  show fr + 2 + half * sz + there / 64 + i ≠ 0; omega
 ·rw [List.mem_singleton] at hy
  subst hy
  show fr + (1 - m.slot) ≠ 0; omega
theorem holds_zero {L : List (List Int)} {fr sz : Nat} {m : Gq.Mk} {bs s : List Int} (h : Holds L fr sz m bs) (h1 : 1 <= fr) (hs : Gq.Sok s) : Holds (put1 L (0,s)) fr sz m bs:=by
 have hg : ∀ k,k ≠ 0 -> (put1 L (0,s)).getD k [] = L.getD k []:=fun k hk => by
  unfold put1
  rw [List.getD_eq_getElem?_getD,List.getD_eq_getElem?_getD,List.getElem?_set_ne (by omega)]
 refine ⟨Gq.lok_put1 h.lok hs,by rw [Gq.put1_length]; exact h.fit,h.slot,h.num,h.half,h.used,h.room,?_,?_,?_⟩
 ·rw [hg _ (by omega)]; exact h.mine
 ·rw [hg _ (by omega)]; exact h.other
 ·refine (Gq.rd_ext fun p hp => ?_).trans h.data
  rw [hg _ (by omega)]
theorem sign_sok : Gq.Sok (pad signB):=Gq.pad_ok (fun z hz => by revert z; decide) (by decide)
theorem sign_strip : strip (pad signB) = signB:=by decide
structure SS (G : Lg) (D : Dk) (s : Bool) (L : Ls) : Prop where
 fr : G.fr = 1
 sz : G.sz = 548
 len : D.firm.length = 1100
 dead : D.dead = false
 wait : D.wait = []
 ls : LsOk L
 inv : ∃ r,Gq.Inv G D r r /\ (r = L.recs ∨ (r = [] /\ L = Ls0))
 yes : s = true -> txt D 0 = signB
 no : s = false -> L = Ls0 /\ isNewB D = true /\ txt D 0 ≠ signB
theorem dies_no {D : Dk} (h : D.armed = 0) : Gq.dies D = D:=by unfold Gq.dies; rw [if_neg (by omega)]
theorem sign_do {D : Dk} (hd : D.dead = false) (hl : D.firm.length = 1100) : (Gq.doD D 0 0 0 signB).1 = Gq.dies (Gq.putD D 0 signB):=by
 unfold Gq.doD
 rw [if_neg (by decide),if_neg (by decide),if_neg (by decide),if_neg (by rw [hd]; decide),if_neg (by decide),if_neg (by rw [hl]; decide),if_neg (by decide)]
 rfl
theorem put_cur (D : Dk) (s : List Int) : cur (Gq.putD D 0 s) = put1 (cur D) (0,pad s):=by
 unfold cur Gq.putD
 exact Gq.ups_snoc _ _ _
theorem put_txt {D : Dk} (hl : D.firm.length = 1100) : txt (Gq.putD D 0 signB) 0 = signB:=by
 unfold txt
 rw [put_cur]
 have : (put1 (cur D) (0,pad signB)).getD 0 [] = pad signB:=by
  unfold put1
  rw [List.getD_eq_getElem?_getD,List.getElem?_set_self (by rw [Gq.cur_len,hl]; decide)]; rfl
 rw [this]; exact sign_strip
theorem inv_sign {G : Lg} {D : Dk} {r : List (List Int)} (h : Gq.Inv G D r r) (hf : G.fr = 1) : Gq.Inv G (Gq.putD D 0 signB) r r :=
 ⟨h.rn,h.rf,h.bs,by rw [put_cur]; exact holds_zero h.hold (by omega) sign_sok,h.pre,h.room,h.small,h.arm⟩
theorem keep_alive {G : Lg} {D : Dk} {s : Bool} {L L' : Ls} (h : SS G D s L) (ha : D.armed = 0) (hL : LsOk L') :
  SS (keepD G (signD s D) L'.recs).1 (keepD G (signD s D) L'.recs).2 true L' /\ (keepD G (signD s D) L'.recs).2.armed = 0:=by
 obtain ⟨r,hi,hr⟩:=h.inv
 obtain ⟨D1,hD1⟩ : ∃ D1,signD s D = D1:=⟨_,rfl⟩
 have h1 : D1.dead = false /\ D1.armed = 0 /\ D1.firm.length = 1100 /\ Gq.Inv G D1 r r /\ txt D1 0 = signB:=by
  cases s with
  | true =>
   have e : D = D1:=hD1
   subst e
   exact ⟨h.dead,ha,h.len,hi,h.yes rfl⟩
  | false =>
   have e : (Gq.doD D 0 0 0 signB).1 = D1:=hD1
   rw [sign_do h.dead h.len,dies_no (show (Gq.putD D 0 signB).armed = 0 from ha)] at e
   subst e
   exact ⟨h.dead,ha,h.len,inv_sign hi h.fr,put_txt h.len⟩
 obtain ⟨d1,d2,d3,d4,d5⟩:=h1
 rw [hD1]
 clear hD1
 have hF:=Gq.inv_fits_replace d4 (recs_rok hL) (by rw [h.sz]; have:=recs_need hL; omega)
 obtain ⟨p1,p2,p3,p4,p5,p6,p7,p8⟩:=Gq.put_alive d4 d1 d2 hF (recs_rok hL)
 unfold keepD
 rw [d1,if_neg (by decide)]
 refine ⟨⟨p6.trans h.fr,p7.trans h.sz,?_,p3,p5,hL,⟨_,p2,.inl rfl⟩,fun _ => ?_,fun e => by cases e⟩,p4⟩
 ·rw [p8,Gq.ups_length,Gq.cur_len,d3]
 ·unfold txt at d5 ⊢
  rw [Gq.cur_idle p5,p8,ups_zero _ _ (pw_ne (by rw [h.fr]; exact Nat.le_refl _))]
  exact d5
theorem more_recs (L : Ls) (l : List En) : Ls.recs { L with log:=L.log ++ l } = L.recs ++ l.map recE:=by simp [Ls.recs]
theorem ss_recs {G : Lg} {D : Dk} {s : Bool} {L : Ls} (h : SS G D s L) (hp : 1 <= L.pr) : Gq.Inv G D L.recs L.recs:=by
 obtain ⟨r,hi,hr⟩:=h.inv
 rcases hr with rfl | ⟨_,e⟩
 ·exact hi
 ·rw [e] at hp; exact absurd hp (by decide)
theorem ss_room {G : Lg} {D : Dk} {s : Bool} {L : Ls} {l : List En} (h : SS G D s L) (hp : 1 <= L.pr) (hL : LsOk { L with log:=L.log ++ l }) : G.bs.length + (enc (l.map recE)).length <= G.sz * 64:=by
 have hi:=ss_recs h hp
 have h1:=recs_need hL
 rw [more_recs,need_append] at h1
 rw [hi.bs,Gq.enc_length,Gq.enc_length,h.sz]
 omega
theorem sync_alive {G : Lg} {D : Dk} {L : Ls} {l : List En} (h : SS G D true L) (ha : D.armed = 0) (hp : 1 <= L.pr) (hL : LsOk { L with log:=L.log ++ l }) :
  SS (syncD G D l).1 (syncD G D l).2 true { L with log:=L.log ++ l } /\ (syncD G D l).2.armed = 0:=by
 unfold syncD
 by_cases hl : l = []
 ·rw [if_pos hl]
  subst hl
  have e : ({ L with log:=L.log ++ [] } : Ls) = L:=by rw [List.append_nil]
  rw [e]
  exact ⟨h,ha⟩
 ·rw [if_neg hl]
  have hi:=ss_recs h hp
  have hroom:=ss_room h hp hL
  have hbs : (addG G l).bs = enc (L.recs ++ l.map recE):=by
   show G.bs ++ enc (l.map recE) = _
   rw [hi.bs,enc_append]
  have hrok : Rok (L.recs ++ l.map recE):=by rw [<- more_recs]; exact recs_rok hL
  have hi2 : Gq.Inv (addG G l) D (L.recs ++ l.map recE) L.recs:=⟨hrok,hi.rf,hbs,hi.hold,by
   rw [enc_append]
   exact ⟨by rw [List.take_append_of_le_length (Nat.le_refl _),List.take_length],by rw [List.length_append]; omega⟩,by
   rw [enc_append,List.length_append,<- hi.bs]; exact hroom,hi.small,hi.arm⟩
  have hF:=Gq.inv_fits_sync hi2
  have e1 : (addG G l).m = G.m:=rfl
  have e2 : (addG G l).fr = G.fr:=rfl
  have e3 : (addG G l).sz = G.sz:=rfl
  rw [hbs] at hF ⊢
  obtain ⟨p1,p2,p3,p4,p5,p6,p7,p8⟩:=Gq.put_alive hi2 h.dead ha hF hrok
  rw [e1] at p1 p2 p3 p4 p5 p6 p7 p8
  refine ⟨⟨p6.trans h.fr,p7.trans h.sz,?_,p3,p5,hL,⟨_,p2,.inl (more_recs L l).symm⟩,fun _ => ?_,fun e => by cases e⟩,p4⟩
  ·rw [p8,Gq.ups_length,Gq.cur_len,h.len]
  ·have h5:=h.yes rfl
   unfold txt at h5 ⊢
   rw [Gq.cur_idle p5,p8,ups_zero _ _ (pw_ne (by rw [e2,h.fr]; exact Nat.le_refl _))]
   exact h5
open Go.ChangeShapes Go.WideShapes Go.ChangeAt Go.RowKit Go.Proofs.Rk
open Pq (Fld FReads errL bytL fcs)
open Gq (Bz Mine PL PDisk Kp Kl Lg Dk putL enc)

theorem near_msg : ¬ Near 69:=by unfold Near Far; decide
set_option maxHeartbeats 8000000 in
theorem answer_any {w : World} {z : Nat -> Prop} {x st q p : Nat} {lv rp ov : Value} {s : Bool} {G : Lg} {D : Dk} {n : Nd} (h : NdW w z x st q p lv rp ov s G D n) (ho : n.out.length <= 1000000) {A : Option Addr} {N c : Nat} {l : List En} {k v m y : Int} (hr : Rd ecell 3 w A N l) (hA : A = none -> c = 0) (hi : In64 l) (hm : MsOk ⟨k,v,m,y,l⟩) (hN : N <= 4000000000) {dst : Nat} (hp : pri n.pr n.many = (dst : Int)) :
  Calls Tryz.prog 157 #[.pointer (some ⟨x,0,none⟩),.agg #[.int .i64 k,.int .i64 v,.int .i64 m,.int .i64 y,.slice A N c]] w fun e w' => e = .returned (.tuple #[]) /\ KN z w w' /\ ∃ ov',NdW w' z x st q p lv rp ov' s G D (n.send dst ⟨k,v,m,y,l⟩):=by
 obtain ⟨w1,hw1⟩ : ∃ xx,xx = w.alloc (.cells #[.int .i64 k,.int .i64 v,.int .i64 m,.int .i64 y,.slice A N c] 69):=⟨_,rfl⟩
 obtain ⟨b,eb⟩ : ∃ xx,xx = w.heap.size:=⟨_,rfl⟩
 have hb1 : Below w.heap.size w w1:=by rw [hw1]; exact box_below w _
 have hk1 : w1.heap[b]? = some (.cells #[.int .i64 k,.int .i64 v,.int .i64 m,.int .i64 y,.slice A N c] 69 (0,0)):=by rw [hw1,eb]; exact new_block w _
 obtain ⟨wd,hwd⟩ : ∃ xx,xx = w1.drew:=⟨_,rfl⟩
 have hbd : Below w1.heap.size w1 wd:=by rw [hwd]; exact (Below.refl _ _).drew
 have hb2:=hb1.trans (hbd.mono hb1.size)
 have hnd:=h.below hb2
 have hrd:=hr.below hb2
 have hkd:=blk_below hk1 hbd
 obtain ⟨pv,hpv⟩ : ∃ k,n.pr = k:=⟨_,rfl⟩
 obtain ⟨mi,hmi⟩ : ∃ k : Int,(n.many : Int) = k:=⟨_,rfl⟩
 obtain ⟨X,hX⟩ : ∃ X,strOfNums (enM ⟨k,v,m,y,l⟩) = X:=⟨_,rfl⟩
 have HS0 : Hid (∀ (V : World) (csx : Array Value),csx[1]? = some (.int .i64 mi) -> csx[2]? = some (.int .i64 pv) -> V.heap[x]? = some (.cells csx 105 (0,0)) -> V.heap[b]? = some (.cells #[.int .i64 k,.int .i64 v,.int .i64 m,.int .i64 y,.slice A N c] 69 (0,0)) -> V.cell? ⟨b,0,none⟩ = some (.int .i64 k) /\ V.cell? ⟨b,1,none⟩ = some (.int .i64 v) /\ V.cell? ⟨b,2,none⟩ = some (.int .i64 m) /\ V.cell? ⟨b,3,none⟩ = some (.int .i64 y) /\ V.cell? ⟨b,4,none⟩ = some (.slice A N c) /\ V.cell? ⟨x,2,none⟩ = some (.int .i64 pv) /\ V.cell? ⟨x,1,none⟩ = some (.int .i64 mi)):=hJQ (fun V csx e1 e2 hx hb => ⟨cell_of hb (j:=0) rfl,cell_of hb (j:=1) rfl,cell_of hb (j:=2) rfl,cell_of hb (j:=3) rfl,cell_of hb (j:=4) rfl,cell_of hx (j:=2) (by simpa using e2),cell_of hx (j:=1) (by simpa using e1)⟩)
 have HSB : Hid (∀ V : World,Below wd.heap.size wd V -> V.cell? ⟨b,0,none⟩ = some (.int .i64 k) /\ V.cell? ⟨b,1,none⟩ = some (.int .i64 v) /\ V.cell? ⟨b,2,none⟩ = some (.int .i64 m) /\ V.cell? ⟨b,3,none⟩ = some (.int .i64 y) /\ V.cell? ⟨b,4,none⟩ = some (.slice A N c) /\ V.cell? ⟨x,2,none⟩ = some (.int .i64 pv) /\ V.cell? ⟨x,1,none⟩ = some (.int .i64 mi)):=hJQ (fun V hV => HS0.out V _ (by rw [<- hmi]; rfl) (by rw [<- hpv]; rfl) (blk_below hnd.here hV) (blk_below hkd hV))
 have HSN : Hid (∀ (V : World) (ov' : Value),NdW V z x st q p lv rp ov' s G D (n.send dst ⟨k,v,m,y,l⟩) -> V.heap[b]? = some (.cells #[.int .i64 k,.int .i64 v,.int .i64 m,.int .i64 y,.slice A N c] 69 (0,0)) -> V.cell? ⟨b,0,none⟩ = some (.int .i64 k) /\ V.cell? ⟨b,1,none⟩ = some (.int .i64 v) /\ V.cell? ⟨b,2,none⟩ = some (.int .i64 m) /\ V.cell? ⟨b,3,none⟩ = some (.int .i64 y) /\ V.cell? ⟨b,4,none⟩ = some (.slice A N c) /\ V.cell? ⟨x,2,none⟩ = some (.int .i64 pv) /\ V.cell? ⟨x,1,none⟩ = some (.int .i64 mi)):=hJQ (fun V ov' hV hb => HS0.out V _ (by rw [<- hmi]; rfl) (by rw [<- hpv]; rfl) hV.here hb)
 have HLT:=hJQ (fun (V : World) (hV : Below wd.heap.size wd V) => letter_any (x:=x) (c:=c) (hrd.below hV) hA hi hm hN)
 rw [hX] at HLT
 have HPR:=hJQ (fun V : World => primary_any pv mi V)
 rw [<- hpv,<- hmi] at HPR
 rw [hp] at HPR
 rw [hpv,hmi] at HPR
 have HSE:=hJQ (fun (V : World) (hV : Below wd.heap.size wd V) => send_any (hnd.below hV) ho ⟨k,v,m,y,l⟩ dst)
 rw [hX] at HSE
 have hHeld0:=HS0.out w1 _ (by rw [<- hmi]; rfl) (by rw [<- hpv]; rfl) (h.below hb1).here hk1
 have HW1:=hJQ hw1
 have EB:=hJQ eb
 have HWD:=hJQ hwd
 have HBX:=hJQ hkd
 have HK0 : Hid (KN z w wd):=hJQ (KN.of_below hb2)
 clear h hr hA hi hm hN hp ho hw1 eb hb1 hk1 hwd hbd hb2 hnd hrd hkd hpv hmi hX
 go_enter Tryz.func157,Tryz.ntmps157
 go_upto_region 1 with fail
 rw [<- HW1.out,<- EB.out]
 refine wp_region_held_drew (S:=fun V => V.cell? ⟨b,0,none⟩ = some (.int .i64 k) /\ V.cell? ⟨b,1,none⟩ = some (.int .i64 v) /\ V.cell? ⟨b,2,none⟩ = some (.int .i64 m) /\ V.cell? ⟨b,3,none⟩ = some (.int .i64 y) /\ V.cell? ⟨b,4,none⟩ = some (.slice A N c) /\ V.cell? ⟨x,2,none⟩ = some (.int .i64 pv) /\ V.cell? ⟨x,1,none⟩ = some (.int .i64 mi)) (by kernel_rfl) hHeld0 (fun hHeld => ?_)
 clear hHeld hHeld0
 have HW:=Below.refl wd.heap.size wd
 have hHeld:=HSB.out _ HW
 rw [<- HWD.out]
 refine tk 0 4 (.pointer (some ⟨x,0,none⟩)) hHeld ?_
 refine tm 1 5 (.agg #[.int .i64 k,.int .i64 v,.int .i64 m,.int .i64 y,.slice A N c]) hHeld ?_
 refine tk 3 7 (.pointer (some ⟨x,0,none⟩)) hHeld ?_
 refine tk 4 8 (.pointer (some ⟨x,0,none⟩)) hHeld ?_
 refine tk 5 9 (.pointer (some ⟨x,2,none⟩)) hHeld ?_
 refine tk 6 10 (.pointer (some ⟨x,2,none⟩)) hHeld ?_
 refine tm 7 11 (.int .i64 pv) hHeld ?_
 refine tk 8 12 (.pointer (some ⟨x,0,none⟩)) hHeld ?_
 refine tk 9 13 (.pointer (some ⟨x,0,none⟩)) hHeld ?_
 refine tk 10 14 (.pointer (some ⟨x,1,none⟩)) hHeld ?_
 refine tm 11 15 (.int .i64 mi) hHeld ?_
 simp only [lz,ls]
 refine r1 2 (fun K hK => ?_) rfl
 go_simp
 refine (HLT.out _ HW).mono ?_
 rintro e w3 ⟨rfl,hb3⟩
 have HW3:=HW.trans (hb3.mono HW.size)
 clear HW
 have HW:=HW3
 clear HW3 hb3
 go_wp2_with fail
 refine hK.out _ _ (HSB.out _ HW) (fun hHeld => ?_)
 clear hK K
 try simp only [Act.put,lp,lz,ls]
 refine r1 12 (fun K hK => ?_) rfl
 go_simp
 refine (HPR.out _).mono ?_
 rintro e w3 ⟨rfl,rfl⟩
 go_wp2_with fail
 refine hK.out _ _ (HSB.out _ HW) (fun hHeld => ?_)
 clear hK K
 try simp only [Act.put,lp,lz,ls]
 refine r1 13 (fun K hK => ?_) rfl
 go_simp
 refine (HSE.out _ HW).mono ?_
 rintro e w5 ⟨rfl,hkn,ov',hn5⟩
 have HN5:=hJQ hn5
 have HKN:=hJQ ((HK0.out.trans (KN.of_below HW)).trans hkn)
 have hs5:=HSN.out _ _ hn5 (hkn.cells (blk_below HBX.out HW) near_msg)
 clear hkn hn5 HW
 go_wp2_with fail
 refine hK.out _ _ (hs5) (fun hHeld => ?_)
 clear hK K
 try simp only [Act.put,lp,lz,ls]
 refine wpAnyH_done (by kernel_rfl) ?_ _
 go_wp2_with fail
 go_end0
 exact ⟨rfl,HKN.out,_,HN5.out⟩
open Go.ChangeShapes Go.WideShapes Go.ChangeAt Go.RowKit Go.Proofs.Rk
open Pq (Fld FReads errL bytL fcs)
open Gq (Bz Mine PL PDisk Kp Kl Lg Dk putL enc)

section
variable {w : World} {z : Nat -> Prop} {x st q p : Nat} {lv rp ov : Value} {s : Bool} {G : Lg} {D : Dk} {n : Nd}
set_option maxHeartbeats 8000000 in
theorem ack_any (h : NdW w z x st q p lv rp ov s G D n) (ho : n.out.length <= 1000000) (hm : MsOk ⟨5,n.pr,0,n.log.length,[]⟩) {dst : Nat} (hp : pri n.pr n.many = (dst : Int)) :
  Calls Tryz.prog 160 #[.pointer (some ⟨x,0,none⟩)] w fun e w' => e = .returned (.tuple #[]) /\ KN z w w' /\ ∃ ov',NdW w' z x st q p lv rp ov' s G D (n.send dst (mAck n.pr n.log.length)):=by
 obtain ⟨A,c,elv,-,-,-⟩:=own_form h.log
 subst elv
 obtain ⟨wd,hwd⟩ : ∃ xx,xx = w.drew:=⟨_,rfl⟩
 have hbd : Below w.heap.size w wd:=by rw [hwd]; exact (Below.refl _ _).drew
 have hnd:=h.below hbd
 obtain ⟨pv,hpv⟩ : ∃ k,n.pr = k:=⟨_,rfl⟩
 obtain ⟨N,hN⟩ : ∃ k,n.log.length = k:=⟨_,rfl⟩
 have HAN:=answer_any hnd ho (A:=none) (c:=0) (Rd.nil ecell 3 wd none) (fun _ => rfl) (fun _ he => by cases he) hm (by omega) hp
 unfold mAck
 rw [hpv,hN] at HAN
 rw [hpv,hN]
 have HAN:=hJQ HAN
 have HS0 : Hid (∀ (V : World) (csx : Array Value),csx[2]? = some (.int .i64 pv) -> csx[4]? = some (.slice A N c) -> V.heap[x]? = some (.cells csx 105 (0,0)) -> V.cell? ⟨x,2,none⟩ = some (.int .i64 pv) /\ V.cell? ⟨x,4,none⟩ = some (.slice A N c)):=hJQ (fun V csx e2 e4 hx => ⟨cell_of hx (j:=2) (by simpa using e2),cell_of hx (j:=4) (by simpa using e4)⟩)
 have HSN : Hid (∀ (V : World) (ov' : Value),NdW V z x st q p (.slice A N c) rp ov' s G D (n.send dst ⟨5,pv,0,N,[]⟩) -> V.cell? ⟨x,2,none⟩ = some (.int .i64 pv) /\ V.cell? ⟨x,4,none⟩ = some (.slice A N c)):=hJQ (fun V ov' hV => HS0.out V _ (by rw [<- hpv]; rfl) rfl hV.here)
 have hHeld0:=HS0.out w _ (by rw [<- hpv]; rfl) (by rw [<- hN]; rfl) h.here
 have HSD:=hJQ (HS0.out wd _ (by rw [<- hpv]; rfl) (by rw [<- hN]; rfl) hnd.here)
 have HWD:=hJQ hwd
 have HK0 : Hid (KN z w wd):=hJQ (KN.of_below hbd)
 clear h hm hp ho hwd hbd hnd hpv hN
 go_enter Tryz.func160,Tryz.ntmps160
 go_upto_region 0 with fail
 refine wp_region_held_drew (S:=fun V => V.cell? ⟨x,2,none⟩ = some (.int .i64 pv) /\ V.cell? ⟨x,4,none⟩ = some (.slice A N c)) (by kernel_rfl) hHeld0 (fun hHeld => ?_)
 clear hHeld hHeld0
 have hHeld:=HSD.out
 rw [<- HWD.out]
 refine tk 0 2 (.pointer (some ⟨x,0,none⟩)) hHeld ?_
 refine tk 1 3 (.pointer (some ⟨x,0,none⟩)) hHeld ?_
 refine tk 2 4 (.pointer (some ⟨x,0,none⟩)) hHeld ?_
 refine tk 3 5 (.pointer (some ⟨x,2,none⟩)) hHeld ?_
 refine tk 4 6 (.pointer (some ⟨x,2,none⟩)) hHeld ?_
 refine tm 5 7 (.int .i64 pv) hHeld ?_
 refine tk 6 8 (.pointer (some ⟨x,0,none⟩)) hHeld ?_
 refine tk 7 9 (.pointer (some ⟨x,0,none⟩)) hHeld ?_
 refine tk 8 10 (.pointer (some ⟨x,2,none⟩)) hHeld ?_
 refine tk 9 11 (.pointer (some ⟨x,4,none⟩)) hHeld ?_
 refine tm 10 12 (.slice A N c) hHeld ?_
 refine tk 11 13 (.int .i64 (N : Int)) hHeld ?_
 refine tk 12 14 (.agg #[.int .i64 5,.int .i64 pv,.int .i64 0,.int .i64 (N : Int),.slice none 0 0]) hHeld ?_
 simp only [lz,ls]
 refine r1 13 (fun K hK => ?_) rfl
 go_simp
 refine HAN.out.mono ?_
 rintro e w5 ⟨rfl,hkn,ov',hn5⟩
 have HN5:=hJQ hn5
 have HKN:=hJQ (HK0.out.trans hkn)
 have hs5:=HSN.out _ _ hn5
 clear hkn hn5
 go_wp2_with fail
 refine hK.out _ _ (hs5) (fun hHeld => ?_)
 clear hK K
 try simp only [Act.put,lp,lz,ls]
 refine wpAnyH_done (by kernel_rfl) ?_ _
 go_wp2_with fail
 go_end0
 exact ⟨rfl,HKN.out,_,HN5.out⟩
theorem run_max_two {P : Program} (w : World) (ts : Array TypeId) (t : TypeId) (x y : Int) : (Builtin.max_ ts t #[.int .i64 x,.int .i64 y]).run P w = .ok (.int .i64 (max x y)) w:=by
 have e1 : (if x < y then y else x) = max x y:=by rw [Int.max_def]; split <;> split <;> omega
 simp [Builtin.max_,Builtin.max2,e1]
set_option maxHeartbeats 8000000 in
theorem taketell_any (h : NdW w z x st q p lv rp ov s G D n) {k v m y : Int} {B : Option Addr} {M d : Nat} {l : List En} {_f : Nat} :
  Calls Tryz.prog 133 #[.pointer (some ⟨x,0,none⟩),.agg #[.int .i64 k,.int .i64 v,.int .i64 m,.int .i64 y,.slice B M d]] w fun e w' => e = .returned (.tuple #[]) /\ KN z w w' /\ NdW w' z x st q p lv rp ov s G D (n.takeTell ⟨k,v,m,y,l⟩):=by
 obtain ⟨A,c,elv,-,-,-⟩:=own_form h.log
 subst elv
 obtain ⟨w1,hw1⟩ : ∃ xx,xx = w.alloc (.cells #[.int .i64 k,.int .i64 v,.int .i64 m,.int .i64 y,.slice B M d] 69):=⟨_,rfl⟩
 obtain ⟨b,eb⟩ : ∃ xx,xx = w.heap.size:=⟨_,rfl⟩
 have hb1 : Below w.heap.size w w1:=by rw [hw1]; exact box_below w _
 have hk1 : w1.heap[b]? = some (.cells #[.int .i64 k,.int .i64 v,.int .i64 m,.int .i64 y,.slice B M d] 69 (0,0)):=by rw [hw1,eb]; exact new_block w _
 have h1:=h.below hb1
 have b1:=cell_of hk1 (j:=1) rfl
 have HII:=hJQ (nisin_any h1 v)
 have HW1:=hJQ hw1
 have EB:=hJQ eb
 have HK1 : Hid (KN z w w1):=hJQ (KN.of_below hb1)
 have HH1:=hJQ h1
 have HB1:=hJQ hk1
 obtain ⟨t,ht⟩ : ∃ t,n.inB v = t:=⟨_,rfl⟩
 rw [ht] at HII
 have HT:=hJQ ht
 clear h hw1 eb hb1 hk1 h1 ht
 cases t with
 | false =>
  have HE : Hid (n.takeTell ⟨k,v,m,y,l⟩ = n):=hJQ (by
   have h2:=HT.out
   unfold Nd.inB at h2
   unfold Nd.takeTell
   rw [if_neg (fun hh => by rw [decide_eq_true hh.1,decide_eq_true hh.2] at h2; cases h2)])
  rw [HE.out]
  go_enter Tryz.func133,Tryz.ntmps133
  go_upto_region 1 with fail
  rw [<- HW1.out,<- EB.out]
  go_wp2_with fail
  refine HII.out.mono ?_
  rintro e w2 ⟨rfl,rfl⟩
  go_wp2_with fail
  go_end0
  exact ⟨rfl,HK1.out,HH1.out⟩
 | true =>
  have HE : Hid (n.takeTell ⟨k,v,m,y,l⟩ = { n with com:=max n.com (min y n.log.length) }):=hJQ (by
   have h2:=HT.out
   unfold Nd.inB at h2
   rw [Bool.and_eq_true,decide_eq_true_eq,decide_eq_true_eq] at h2
   unfold Nd.takeTell
   rw [if_pos h2])
  rw [HE.out]
  obtain ⟨com,hcom⟩ : ∃ k,n.com = k:=⟨_,rfl⟩
  obtain ⟨N,hN⟩ : ∃ k,n.log.length = k:=⟨_,rfl⟩
  obtain ⟨m1,hm1⟩ : ∃ k : Int,min y (N : Int) = k:=⟨_,rfl⟩
  obtain ⟨m2,hm2⟩ : ∃ k : Int,max com m1 = k:=⟨_,rfl⟩
  have hmin : ∀ W,(Builtin.min_ #[3,3] 3 #[.int .i64 y,.int .i64 (N : Int)]).run Tryz.prog W = .ok (.int .i64 m1) W:=fun W => by rw [run_min_two,hm1]
  have hmax : ∀ W,(Builtin.max_ #[3,3] 3 #[.int .i64 com,.int .i64 m1]).run Tryz.prog W = .ok (.int .i64 m2) W:=fun W => by rw [run_max_two,hm2]
  obtain ⟨wd,hwd⟩ : ∃ xx,xx = w1.drew:=⟨_,rfl⟩
  have hbd : Below w1.heap.size w1 wd:=by rw [hwd]; exact (Below.refl _ _).drew
  have hnd:=HH1.out.below hbd
  have hkd:=blk_below HB1.out hbd
  have hx:=hnd.here
  have x6:=cell_of hx (j:=6) rfl
  have f6:=frozen_of_row wd x 6 _ _ hx
  have hk:=(seti hx 6 (.int .i64 m2))
  obtain ⟨W6,hW6⟩ : ∃ xx,xx = wd.setCell ⟨x,6,none⟩ (.int .i64 m2):=⟨_,rfl⟩
  rw [<- hW6] at hk
  obtain ⟨hn6,hkn6⟩:=hnd.wr (n':={ n with com:=m2 }) (lv':=.slice A n.log.length c) (rp':=rp) (ov':=ov) hk.1 hk.2 hnd.log hnd.rg hnd.out hnd.zlog hnd.zout
  have HS0 : Hid (∀ (V : World) (cc : Int),V.heap[x]? = some (.cells #[.int .i64 (n.self : Int),.int .i64 (n.many : Int),.int .i64 n.pr,.int .i64 n.nm,.slice A n.log.length c,.pointer (some ⟨st,0,none⟩),.int .i64 cc,rp,ov] 105 (0,0)) -> V.heap[b]? = some (.cells #[.int .i64 k,.int .i64 v,.int .i64 m,.int .i64 y,.slice B M d] 69 (0,0)) -> V.cell? ⟨x,4,none⟩ = some (.slice A N c) /\ V.cell? ⟨b,3,none⟩ = some (.int .i64 y)):=hJQ (fun V cc hx hb => ⟨by rw [<- hN]; exact cell_of hx (j:=4) rfl,cell_of hb (j:=3) rfl⟩)
  have hHeld0:=HS0.out w1 _ HH1.out.here HB1.out
  have HSD:=hJQ (HS0.out wd _ hx hkd)
  have HS6:=hJQ (HS0.out W6 _ hn6.here (hk.1.blk (fun e => by subst e; rw [hkd] at hx; injection hx with hx; injection hx with _ e2 _; exact absurd e2 (by decide)) hkd))
  rw [hcom] at x6
  have HN6 : Hid (NdW W6 z x st q p (.slice A n.log.length c) rp ov s G D { n with com:=max n.com (min y n.log.length) }):=hJQ (by rw [hcom,hN,hm1,hm2]; rw [hN] at hn6; exact hn6)
  have HKN : Hid (KN z w W6):=hJQ ((HK1.out.trans (KN.of_below hbd)).trans hkn6)
  have HWD:=hJQ hwd
  have HW6:=hJQ hW6
  clear hwd hbd hnd hkd hx hk hW6 hn6 hkn6 hcom hN hm1 hm2 HS0
  go_enter Tryz.func133,Tryz.ntmps133
  go_upto_region 1 with fail
  rw [<- HW1.out,<- EB.out]
  go_wp2_with fail
  refine HII.out.mono ?_
  rintro e w2 ⟨rfl,rfl⟩
  go_upto_region 2 with fail
  refine wp_region_held_drew (S:=fun V => V.cell? ⟨x,4,none⟩ = some (.slice A N c) /\ V.cell? ⟨b,3,none⟩ = some (.int .i64 y)) (by kernel_rfl) hHeld0 (fun hHeld => ?_)
  clear hHeld hHeld0
  have hHeld:=HSD.out
  rw [<- HWD.out]
  refine tk 0 8 (.pointer (some ⟨x,0,none⟩)) hHeld ?_
  refine tk 1 9 (.pointer (some ⟨x,0,none⟩)) hHeld ?_
  refine tk 2 10 (.pointer (some ⟨x,0,none⟩)) hHeld ?_
  refine tk 3 11 (.pointer (some ⟨x,6,none⟩)) hHeld ?_
  refine tk 5 13 (.pointer (some ⟨b,3,none⟩)) hHeld ?_
  refine tm 6 14 (.int .i64 y) hHeld ?_
  refine tk 7 15 (.pointer (some ⟨x,0,none⟩)) hHeld ?_
  refine tk 8 16 (.pointer (some ⟨x,0,none⟩)) hHeld ?_
  refine tk 9 17 (.pointer (some ⟨x,2,none⟩)) hHeld ?_
  refine tk 10 18 (.pointer (some ⟨x,4,none⟩)) hHeld ?_
  refine tm 11 19 (.slice A N c) hHeld ?_
  refine tk 12 20 (.int .i64 (N : Int)) hHeld ?_
  refine tk 13 21 (.int .i64 m1) hHeld ?_
  simp only [lz,ls]
  refine r1 4 (fun K hK => ?_) rfl
  go_simp
  refine hK.out _ _ (hHeld) (fun hHeld => ?_)
  clear hK K
  try simp only [Act.put,lp,lz,ls]
  refine tk 14 22 (.int .i64 m2) hHeld ?_
  refine tk 15 23 (.pointer (some ⟨x,0,none⟩)) hHeld ?_
  refine tk 16 24 (.pointer (some ⟨x,6,none⟩)) hHeld ?_
  simp only [lz,ls]
  refine r1 17 (fun K hK => ?_) rfl
  go_simp
  rw [<- HW6.out]
  refine hK.out _ _ (HS6.out) (fun hHeld => ?_)
  clear hK K
  try simp only [Act.put,lp,lz,ls]
  refine wpAnyH_done (by kernel_rfl) ?_ _
  go_wp2_with fail
  go_end0
  exact ⟨rfl,HKN.out,HN6.out⟩
end
end Go.Proofs.YtlppinfjdnhlbaaGreatDoor
