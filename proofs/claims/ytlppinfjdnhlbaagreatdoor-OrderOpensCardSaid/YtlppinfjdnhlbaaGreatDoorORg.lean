/-
 A node hears that a view starts. Condition: the message is one,of the view's primary.
 A node is asked to join a view. Condition: the message is one,of the view's primary.
 Those of the entries that go on with a node's log. Condition: the entries stand there.
 A node hears of more entries. Condition: the message is one,of the view's primary,and there is room.
 What a node sends is told once. Condition: the node lies there.
 Who leads tells the others what a quorum has,where that is more than was committed. Condition: the node leads,and what it is to send is a message.
 What a node has that leads is written,cell by cell. Condition: the member is one of seven.
-/
import Derived.Test.YtlppinfjdnhlbaaGreatDoorHd
import Derived.Test.YtlppinfjdnhlbaaGreatDoorOAck
import Derived.Test.YtlppinfjdnhlbaaGreatDoorKHeld2
namespace Go.Proofs.YtlppinfjdnhlbaaGreatDoor
set_option maxRecDepth 100000
open Go.ChangeShapes Go.WideShapes Go.ChangeAt Go.RowKit Go.Proofs.Rk
open Pq (Fld FReads errL bytL fcs)
open Gq (Bz Mine PL PDisk Kp Kl Lg Dk putL enc)

section
variable {w : World} {z : Nat -> Prop} {x st q p : Nat} {lv rp ov : Value} {s : Bool} {G : Lg} {D : Dk} {n : Nd}
def Nd.later (n : Nd) (v : Int) : Prop:=n.pr <= v /\ n.nm < v
set_option maxHeartbeats 8000000 in
theorem takestart_no (h : NdW w z x st q p lv rp ov s G D n) (ho : n.out.length <= 1000000) {v : Int} {B : Option Addr} {M d : Nat} {l : List En} {f : Nat} (hno : ¬ n.later v) (hm : MsOk ⟨5,n.pr,0,n.log.length,[]⟩) (hp : n.pr = v -> pri n.pr n.many = (f : Int)) :
  Calls Tryz.prog 131 #[.pointer (some ⟨x,0,none⟩),.agg #[.int .i64 3,.int .i64 v,.int .i64 0,.int .i64 0,.slice B M d]] w fun e w' => e = .returned (.tuple #[]) /\ KN z w w' /\ ∃ ov',NdW w' z x st q p lv rp ov' s G D (n.takeStart f ⟨3,v,0,0,l⟩):=by
 obtain ⟨w1,hw1⟩ : ∃ xx,xx = w.alloc (.cells #[.int .i64 3,.int .i64 v,.int .i64 0,.int .i64 0,.slice B M d] 69):=⟨_,rfl⟩
 obtain ⟨b,eb⟩ : ∃ xx,xx = w.heap.size:=⟨_,rfl⟩
 have hb1 : Below w.heap.size w w1:=by rw [hw1]; exact box_below w _
 have hk1 : w1.heap[b]? = some (.cells #[.int .i64 3,.int .i64 v,.int .i64 0,.int .i64 0,.slice B M d] 69 (0,0)):=by rw [hw1,eb]; exact new_block w _
 obtain ⟨wd,hwd⟩ : ∃ xx,xx = w1.drew:=⟨_,rfl⟩
 have hbd : Below w1.heap.size w1 wd:=by rw [hwd]; exact (Below.refl _ _).drew
 have hb2:=hb1.trans (hbd.mono hb1.size)
 have hnd:=h.below hb2
 have hkd:=blk_below hk1 hbd
 obtain ⟨t,ht⟩ : ∃ t,n.inB v = t:=⟨_,rfl⟩
 have HE : Hid ((t = false -> n.takeStart f ⟨3,v,0,0,l⟩ = n) /\ (t = true -> n.takeStart f ⟨3,v,0,0,l⟩ = n.send f (mAck n.pr n.log.length) /\ n.pr = v /\ n.nm = v)):=hJQ (by
  have h2:=ht
  unfold Nd.inB at h2
  unfold Nd.takeStart
  rw [if_neg (show ¬ (n.pr <= v /\ n.nm < v) from hno)]
  constructor
  ·intro e
   subst e
   rw [if_neg (fun hh => by rw [decide_eq_true hh.1.symm,decide_eq_true hh.2.symm] at h2; cases h2)]
  ·intro e
   subst e
   rw [Bool.and_eq_true,decide_eq_true_eq,decide_eq_true_eq] at h2
   rw [if_pos ⟨h2.1.symm,h2.2.symm⟩]
   exact ⟨by rw [h2.1],h2.1,h2.2⟩)
 have HII:=hJQ (nisin_any hnd v)
 rw [ht] at HII
 have HACK:=hJQ (fun (e1 : n.pr = v) (_ : n.nm = v) => ack_any hnd ho hm (hp e1))
 obtain ⟨pv,hpv⟩ : ∃ k,n.pr = k:=⟨_,rfl⟩
 obtain ⟨nv,hnv⟩ : ∃ k,n.nm = k:=⟨_,rfl⟩
 have HS0 : Hid (∀ (V : World),V.heap[x]? = w.heap[x]? -> V.heap[b]? = some (.cells #[.int .i64 3,.int .i64 v,.int .i64 0,.int .i64 0,.slice B M d] 69 (0,0)) -> V.cell? ⟨b,1,none⟩ = some (.int .i64 v) /\ V.cell? ⟨x,2,none⟩ = some (.int .i64 pv) /\ V.cell? ⟨x,3,none⟩ = some (.int .i64 nv)):=hJQ (fun V hx hb => by
  rw [h.here] at hx
  exact ⟨cell_of hb (j:=1) rfl,by rw [<- hpv]; exact cell_of hx (j:=2) rfl,by rw [<- hnv]; exact cell_of hx (j:=3) rfl⟩)
 have hHeld0:=HS0.out w1 ((h.below hb1).here.trans h.here.symm) hk1
 have HSD:=hJQ (HS0.out wd (hnd.here.trans h.here.symm) hkd)
 have d1:=cell_of hkd (j:=1) rfl
 have hcase : ¬ (pv <= v /\ nv < v):=by rw [<- hpv,<- hnv]; exact hno
 have HW1:=hJQ hw1
 have EB:=hJQ eb
 have HWD:=hJQ hwd
 have HKD : Hid (KN z w wd):=hJQ (KN.of_below hb2)
 have HND:=hJQ hnd
 clear h ho hno hm hp hw1 eb hb1 hk1 hwd hbd hb2 hnd hkd ht hpv hnv HS0
 by_cases ha : pv <= v
 ·have hb : ¬ nv < v:=fun hb => hcase ⟨ha,hb⟩
  have ha2 : decide (pv <= v) = true:=by simpa using ha
  have hb2 : decide (nv < v) = false:=by simpa using hb
  clear hcase
  go_enter Tryz.func131,Tryz.ntmps131
  go_upto_region 1 with fail
  rw [<- HW1.out,<- EB.out]
  refine wp_region_held_drew (S:=fun V => V.cell? ⟨b,1,none⟩ = some (.int .i64 v) /\ V.cell? ⟨x,2,none⟩ = some (.int .i64 pv) /\ V.cell? ⟨x,3,none⟩ = some (.int .i64 nv)) (by kernel_rfl) hHeld0 (fun hHeld => ?_)
  clear hHeld hHeld0
  have hHeld:=HSD.out
  rw [<- HWD.out]
  refine tk 0 4 (.pointer (some ⟨b,1,none⟩)) hHeld ?_
  refine tm 1 5 (.int .i64 v) hHeld ?_
  refine tk 2 6 (.pointer (some ⟨x,0,none⟩)) hHeld ?_
  refine tk 3 7 (.pointer (some ⟨x,0,none⟩)) hHeld ?_
  refine tk 4 8 (.pointer (some ⟨x,2,none⟩)) hHeld ?_
  simp only [lz,ls]
  refine tk 5 9 (.pointer (some ⟨x,2,none⟩)) hHeld ?_
  refine tm 6 10 (.int .i64 pv) hHeld ?_
  refine tk 7 11 (.bool true) hHeld ?_
  refine tk 8 12 (.bool true) hHeld ?_
  refine tk 9 13 (.pointer (some ⟨b,1,none⟩)) hHeld ?_
  simp only [lz,ls]
  refine tm 10 14 (.int .i64 v) hHeld ?_
  refine tk 11 15 (.pointer (some ⟨x,0,none⟩)) hHeld ?_
  refine tk 12 16 (.pointer (some ⟨x,0,none⟩)) hHeld ?_
  refine tk 13 17 (.pointer (some ⟨x,2,none⟩)) hHeld ?_
  refine tk 14 18 (.pointer (some ⟨x,3,none⟩)) hHeld ?_
  simp only [lz,ls]
  refine tm 15 19 (.int .i64 nv) hHeld ?_
  refine tk 16 20 (.bool false) hHeld ?_
  refine tk 17 21 (.bool false) hHeld ?_
  simp only [lz,ls]
  refine wpAnyH_done (by kernel_rfl) ?_ _
  clear hHeld
  go_wp2_with fail
  refine HII.out.mono ?_
  rintro e w2 ⟨rfl,rfl⟩
  cases t with
  | false =>
   have HF:=hJQ (HE.out.1 rfl)
   clear HE
   go_wp2_with fail
   go_end0
   exact ⟨rfl,HKD.out,_,by rw [HF.out]; exact HND.out⟩
  | true =>
   have HF:=hJQ (HE.out.2 rfl)
   clear HE
   have HAC:=hJQ (HACK.out HF.out.2.1 HF.out.2.2)
   go_wp2_with fail
   refine HAC.out.mono ?_
   rintro e w3 ⟨rfl,hkn,ov',hn⟩
   have HFI:=hJQ (And.intro (HKD.out.trans hkn) hn)
   clear hkn hn
   go_wp2_with fail
   go_end0
   exact ⟨rfl,HFI.out.1,_,by rw [HF.out.1]; exact HFI.out.2⟩
 ·have ha2 : decide (pv <= v) = false:=by simpa using ha
  clear hcase
  go_enter Tryz.func131,Tryz.ntmps131
  go_upto_region 1 with fail
  rw [<- HW1.out,<- EB.out]
  refine wp_region_held_drew (S:=fun V => V.cell? ⟨b,1,none⟩ = some (.int .i64 v) /\ V.cell? ⟨x,2,none⟩ = some (.int .i64 pv) /\ V.cell? ⟨x,3,none⟩ = some (.int .i64 nv)) (by kernel_rfl) hHeld0 (fun hHeld => ?_)
  clear hHeld hHeld0
  have hHeld:=HSD.out
  rw [<- HWD.out]
  refine tk 0 4 (.pointer (some ⟨b,1,none⟩)) hHeld ?_
  refine tm 1 5 (.int .i64 v) hHeld ?_
  refine tk 2 6 (.pointer (some ⟨x,0,none⟩)) hHeld ?_
  refine tk 3 7 (.pointer (some ⟨x,0,none⟩)) hHeld ?_
  refine tk 4 8 (.pointer (some ⟨x,2,none⟩)) hHeld ?_
  simp only [lz,ls]
  refine tk 5 9 (.pointer (some ⟨x,2,none⟩)) hHeld ?_
  refine tm 6 10 (.int .i64 pv) hHeld ?_
  refine tk 7 11 (.bool false) hHeld ?_
  refine tk 8 12 (.bool false) hHeld ?_
  refine tu 9 13 hHeld ?_
  simp only [lz,ls]
  refine tu 10 14 hHeld ?_
  refine tu 11 15 hHeld ?_
  refine tu 12 16 hHeld ?_
  refine tu 13 17 hHeld ?_
  refine tu 14 18 hHeld ?_
  simp only [lz,ls]
  refine tu 15 19 hHeld ?_
  refine tu 16 20 hHeld ?_
  refine tk 17 21 (.bool false) hHeld ?_
  simp only [lz,ls]
  refine wpAnyH_done (by kernel_rfl) ?_ _
  clear hHeld
  go_wp2_with fail
  refine HII.out.mono ?_
  rintro e w2 ⟨rfl,rfl⟩
  cases t with
  | false =>
   have HF:=hJQ (HE.out.1 rfl)
   clear HE
   go_wp2_with fail
   go_end0
   exact ⟨rfl,HKD.out,_,by rw [HF.out]; exact HND.out⟩
  | true =>
   have HF:=hJQ (HE.out.2 rfl)
   clear HE
   have HAC:=hJQ (HACK.out HF.out.2.1 HF.out.2.2)
   go_wp2_with fail
   refine HAC.out.mono ?_
   rintro e w3 ⟨rfl,hkn,ov',hn⟩
   have HFI:=hJQ (And.intro (HKD.out.trans hkn) hn)
   clear hkn hn
   go_wp2_with fail
   go_end0
   exact ⟨rfl,HFI.out.1,_,by rw [HF.out.1]; exact HFI.out.2⟩
set_option maxHeartbeats 8000000 in
theorem takestart_yes (h : NdW w z x st q p lv rp ov s G D n) (ho : n.out.length <= 1000000) {v : Int} {B : Option Addr} {M d : Nat} {l : List En} {f : Nat} (hla : n.later v) (hl : w.ownsRow 0 45 3 (.slice B M d) l.length (l.flatMap ecell)) (hz : Mine ⟨0,z⟩ (.slice B M d)) (hL : LsOk ⟨v,v,l⟩) (hsz : G.sz = 548) (hwt : D.wait.length <= 20000)
  (hm : MsOk ⟨5,v,0,l.length,[]⟩) (hp : pri v n.many = (f : Int)) :
  Calls Tryz.prog 131 #[.pointer (some ⟨x,0,none⟩),.agg #[.int .i64 3,.int .i64 v,.int .i64 0,.int .i64 0,.slice B M d]] w fun e w' => e = .returned (.tuple #[]) /\ KN z w w' /\ ∃ ov',NdW w' z x st q p (.slice B M d) (.pointer none) ov' true (keepD G (signD s D) (Ls.recs ⟨v,v,l⟩)).1 (keepD G (signD s D) (Ls.recs ⟨v,v,l⟩)).2 (if (keepD G (signD s D) (Ls.recs ⟨v,v,l⟩)).2.dead then { n with pr:=v,nm:=v,log:=l,com:=min n.com l.length,rg:=none } else n.takeStart f ⟨3,v,0,0,l⟩):=by
 have HTS : Hid (n.takeStart f ⟨3,v,0,0,l⟩ = ({ n with pr:=v,nm:=v,log:=l,com:=min n.com l.length,rg:=none } : Nd).send f (mAck v l.length)):=hJQ (by
  unfold Nd.takeStart
  rw [if_pos (show n.pr <= v /\ n.nm < v from hla)]
  rw [if_pos ⟨rfl,rfl⟩])
 rw [HTS.out]
 obtain ⟨KD,hKD⟩ : ∃ K,keepD G (signD s D) (Ls.recs ⟨v,v,l⟩) = K:=⟨_,rfl⟩
 rw [hKD]
 obtain ⟨nF,hnF⟩ : ∃ k,(if KD.2.dead then { n with pr:=v,nm:=v,log:=l,com:=min n.com l.length,rg:=none } else ({ n with pr:=v,nm:=v,log:=l,com:=min n.com l.length,rg:=none } : Nd).send f (mAck v l.length)) = k:=⟨_,rfl⟩
 rw [hnF]
 have HNF:=hJQ hnF
 clear hnF
 obtain ⟨w1,hw1⟩ : ∃ xx,xx = w.alloc (.cells #[.int .i64 3,.int .i64 v,.int .i64 0,.int .i64 0,.slice B M d] 69):=⟨_,rfl⟩
 obtain ⟨b,eb⟩ : ∃ xx,xx = w.heap.size:=⟨_,rfl⟩
 have hb1 : Below w.heap.size w w1:=by rw [hw1]; exact box_below w _
 have hk1 : w1.heap[b]? = some (.cells #[.int .i64 3,.int .i64 v,.int .i64 0,.int .i64 0,.slice B M d] 69 (0,0)):=by rw [hw1,eb]; exact new_block w _
 obtain ⟨wd,hwd⟩ : ∃ xx,xx = w1.drew:=⟨_,rfl⟩
 have hbd : Below w1.heap.size w1 wd:=by rw [hwd]; exact (Below.refl _ _).drew
 have hb2:=hb1.trans (hbd.mono hb1.size)
 have hnd:=h.below hb2
 have hkd:=blk_below hk1 hbd
 obtain ⟨pv,hpv⟩ : ∃ k,n.pr = k:=⟨_,rfl⟩
 obtain ⟨nv,hnv⟩ : ∃ k,n.nm = k:=⟨_,rfl⟩
 have HS0 : Hid (∀ (V : World),V.heap[x]? = w.heap[x]? -> V.heap[b]? = some (.cells #[.int .i64 3,.int .i64 v,.int .i64 0,.int .i64 0,.slice B M d] 69 (0,0)) -> V.cell? ⟨b,1,none⟩ = some (.int .i64 v) /\ V.cell? ⟨x,2,none⟩ = some (.int .i64 pv) /\ V.cell? ⟨x,3,none⟩ = some (.int .i64 nv)):=hJQ (fun V hx hb => by
  rw [h.here] at hx
  exact ⟨cell_of hb (j:=1) rfl,by rw [<- hpv]; exact cell_of hx (j:=2) rfl,by rw [<- hnv]; exact cell_of hx (j:=3) rfl⟩)
 have hHeld0:=HS0.out w1 ((h.below hb1).here.trans h.here.symm) hk1
 have HSD:=hJQ (HS0.out wd (hnd.here.trans h.here.symm) hkd)
 have hx:=hnd.here
 have x7:=cell_of hx (j:=7) rfl
 have f7:=frozen_of_row wd x 7 _ _ hx
 have hk:=seti hx 7 (.pointer none)
 obtain ⟨W2,hW2⟩ : ∃ xx,xx = wd.setCell ⟨x,7,none⟩ (.pointer none):=⟨_,rfl⟩
 rw [<- hW2] at hk
 obtain ⟨hn2,hkn2⟩:=hnd.wr (n':={ n with rg:=none }) (lv':=lv) (rp':=.pointer none) (ov':=ov) hk.1 hk.2 hnd.log rfl hnd.out hnd.zlog hnd.zout
 have hb2k:=hk.1.blk (fun e => by subst e; rw [hkd] at hx; injection hx with hx; injection hx with _ e2 _; exact absurd e2 (by decide)) hkd
 have hl2:=own_gb (own_below hl hb2) hk.1.gb (own_ne (own_below hl hb2) hx (by decide))
 have hadt:=adopt_any hn2 hl2 hz hL hsz hwt
 rw [hKD] at hadt
 have HADT:=hJQ hadt
 have y1:=cell_of hb2k (j:=1) rfl
 have y4:=cell_of hb2k (j:=4) rfl
 have ha2 : decide (pv <= v) = true:=by rw [<- hpv]; simpa using hla.1
 have hb3 : decide (nv < v) = true:=by rw [<- hnv]; simpa using hla.2
 have HB2:=hJQ hb2k
 have HK2 : Hid (KN z w W2):=hJQ ((KN.of_below hb2).trans hkn2)
 have HO:=hJQ ho
 have HM:=hJQ hm
 have HP:=hJQ hp
 have HW1:=hJQ hw1
 have EB:=hJQ eb
 have HWD:=hJQ hwd
 have HW2:=hJQ hW2
 clear h ho hla hl hz hL hsz hwt hm hp hKD hw1 eb hb1 hk1 hwd hbd hb2 hnd hkd hpv hnv HS0 hx hk hW2 hn2 hkn2 hb2k hl2 hadt HTS
 go_enter Tryz.func131,Tryz.ntmps131
 go_upto_region 1 with fail
 rw [<- HW1.out,<- EB.out]
 refine wp_region_held_drew (S:=fun V => V.cell? ⟨b,1,none⟩ = some (.int .i64 v) /\ V.cell? ⟨x,2,none⟩ = some (.int .i64 pv) /\ V.cell? ⟨x,3,none⟩ = some (.int .i64 nv)) (by kernel_rfl) hHeld0 (fun hHeld => ?_)
 clear hHeld hHeld0
 have hHeld:=HSD.out
 rw [<- HWD.out]
 refine tk 0 4 (.pointer (some ⟨b,1,none⟩)) hHeld ?_
 refine tm 1 5 (.int .i64 v) hHeld ?_
 refine tk 2 6 (.pointer (some ⟨x,0,none⟩)) hHeld ?_
 refine tk 3 7 (.pointer (some ⟨x,0,none⟩)) hHeld ?_
 refine tk 4 8 (.pointer (some ⟨x,2,none⟩)) hHeld ?_
 simp only [lz,ls]
 refine tk 5 9 (.pointer (some ⟨x,2,none⟩)) hHeld ?_
 refine tm 6 10 (.int .i64 pv) hHeld ?_
 refine tk 7 11 (.bool true) hHeld ?_
 refine tk 8 12 (.bool true) hHeld ?_
 refine tk 9 13 (.pointer (some ⟨b,1,none⟩)) hHeld ?_
 simp only [lz,ls]
 refine tm 10 14 (.int .i64 v) hHeld ?_
 refine tk 11 15 (.pointer (some ⟨x,0,none⟩)) hHeld ?_
 refine tk 12 16 (.pointer (some ⟨x,0,none⟩)) hHeld ?_
 refine tk 13 17 (.pointer (some ⟨x,2,none⟩)) hHeld ?_
 refine tk 14 18 (.pointer (some ⟨x,3,none⟩)) hHeld ?_
 simp only [lz,ls]
 refine tm 15 19 (.int .i64 nv) hHeld ?_
 refine tk 16 20 (.bool true) hHeld ?_
 refine tk 17 21 (.bool true) hHeld ?_
 simp only [lz,ls]
 refine wpAnyH_done (by kernel_rfl) ?_ _
 clear hHeld
 go_upto_region 3 with fail
 rw [<- HW2.out]
 clear x7 f7
 go_wp2_with fail
 refine HADT.out.mono ?_
 rintro e w5 ⟨rfl,hkn5,hn5⟩
 have HN5:=hJQ hn5
 have HK5:=hJQ (HK2.out.trans hkn5)
 have hb5:=hkn5.cells HB2.out near_msg
 have z1:=cell_of hb5 (j:=1) rfl
 obtain ⟨dd,hdd⟩ : ∃ t,KD.2.dead = t:=⟨_,rfl⟩
 rw [hdd]
 have HDD:=hJQ hdd
 have HII:=hJQ (nisin_any hn5 v)
 have HAC:=hJQ (ack_any hn5 HO.out HM.out HP.out)
 clear hkn5 hn5 hb5 y1 y4 hdd
 cases dd with
 | true =>
  go_wp2_with fail
  first | go_end0 | (refine bodyPost_ret (results_none rfl _ _ _) rfl ?_)
  refine ⟨rfl,HK5.out,ov,?_⟩
  rw [<- HNF.out,if_pos HDD.out]
  exact HN5.out
 | false =>
  have hin : ({ n with pr:=v,nm:=v,log:=l,com:=min n.com l.length,rg:=none } : Nd).inB v = true:=by simp [Nd.inB]
  go_wp2_with fail
  refine HII.out.mono ?_
  rintro e w6 ⟨rfl,rfl⟩
  rw [hin]
  clear hin
  go_wp2_with fail
  refine HAC.out.mono ?_
  rintro e w7 ⟨rfl,hkn,ov',hn⟩
  have HFI:=hJQ (And.intro (HK5.out.trans hkn) hn)
  clear hkn hn
  go_wp2_with fail
  go_end0
  refine ⟨rfl,HFI.out.1,ov',?_⟩
  rw [<- HNF.out,if_neg (by rw [HDD.out]; decide)]
  exact HFI.out.2
end
open Go.ChangeShapes Go.WideShapes Go.ChangeAt Go.RowKit Go.Proofs.Rk
open Pq (Fld FReads errL bytL fcs)
open Gq (Bz Mine PL PDisk Kp Kl Lg Dk putL enc)

section
variable {w : World} {z : Nat -> Prop} {x st q p : Nat} {lv rp ov : Value} {s : Bool} {G : Lg} {D : Dk} {n : Nd}
set_option maxHeartbeats 16000000 in
theorem takeask_old (h : NdW w z x st q p lv rp ov s G D n) (ho : n.out.length <= 1000000) (hlo : ∀ e ∈ n.log,0 <= e.n /\ e.n <= 150) (hln : n.log.length <= 150) {v : Int} {B : Option Addr} {M d : Nat} {f : Nat} (hno : ¬ n.pr < v) (hm : n.nm < v -> MsOk ⟨2,v,n.nm,0,n.log⟩) (hp : pri v n.many = (f : Int)) :
  Calls Tryz.prog 130 #[.pointer (some ⟨x,0,none⟩),.agg #[.int .i64 1,.int .i64 v,.int .i64 0,.int .i64 0,.slice B M d]] w fun e w' => e = .returned (.tuple #[]) /\ KN z w w' /\ ∃ ov',NdW w' z x st q p lv rp ov' s G D (n.takeAsk f ⟨1,v,0,0,[]⟩):=by
 obtain ⟨A,c,elv,-,-,-⟩:=own_form h.log
 subst elv
 obtain ⟨nF,hnF⟩ : ∃ k,n.takeAsk f ⟨1,v,0,0,[]⟩ = k:=⟨_,rfl⟩
 rw [hnF]
 obtain ⟨N,hN⟩ : ∃ k,n.log.length = k:=⟨_,rfl⟩
 rw [hN]
 have HNF : Hid ((¬ (v = n.pr /\ n.nm < v) -> n = nF) /\ (v = n.pr /\ n.nm < v -> n.send f ⟨2,v,n.nm,0,n.log⟩ = nF)):=hJQ (by
  rw [<- hnF]
  unfold Nd.takeAsk
  rw [if_neg hno]
  exact ⟨fun hc => by rw [if_neg hc],fun hc => by rw [if_pos hc]; rfl⟩)
 obtain ⟨w1,hw1⟩ : ∃ xx,xx = w.alloc (.cells #[.int .i64 1,.int .i64 v,.int .i64 0,.int .i64 0,.slice B M d] 69):=⟨_,rfl⟩
 obtain ⟨b,eb⟩ : ∃ xx,xx = w.heap.size:=⟨_,rfl⟩
 have hb1 : Below w.heap.size w w1:=by rw [hw1]; exact box_below w _
 have hk1 : w1.heap[b]? = some (.cells #[.int .i64 1,.int .i64 v,.int .i64 0,.int .i64 0,.slice B M d] 69 (0,0)):=by rw [hw1,eb]; exact new_block w _
 obtain ⟨wd,hwd⟩ : ∃ xx,xx = w1.drew:=⟨_,rfl⟩
 have hbd : Below w1.heap.size w1 wd:=by rw [hwd]; exact (Below.refl _ _).drew
 have hb2:=hb1.trans (hbd.mono hb1.size)
 have hnd:=h.below hb2
 have hkd:=blk_below hk1 hbd
 have HNX : Hid (NdW wd z x st q p (.slice A N c) rp ov s G D n):=hJQ (by rw [<- hN]; exact hnd)
 have HBX:=hJQ hkd
 have HKX : Hid (KN z w wd):=hJQ (KN.of_below hb2)
 have HAW : Hid (n.nm < v -> v = n.pr -> ∀ (V : World) (rp2 ov2 : Value),NdW V z x st q p (.slice A N c) rp2 ov2 s G D n -> Calls Tryz.prog 157 #[.pointer (some ⟨x,0,none⟩),.agg #[.int .i64 2,.int .i64 v,.int .i64 n.nm,.int .i64 0,.slice A N c]] V fun e w' => e = .returned (.tuple #[]) /\ KN z V w' /\ ∃ ov',NdW w' z x st q p (.slice A N c) rp2 ov' s G D (n.send f ⟨2,v,n.nm,0,n.log⟩)):=hJQ (fun c1 c2 V rp2 ov2 hV => by
  have hlg:=hV.log
  have hA : A = none -> c = 0:=fun e => by
   subst e
   rcases hlg.2 with ⟨e2,_⟩ | ⟨g,cap,cur,e2,_⟩
   ·injection e2
   ·injection e2 with e2; cases e2
  rw [hN] at hlg
  have hm2:=hm c1
  exact answer_any hV ho (Rd.of_own hlg (fun _ _ => rfl) (by omega)) hA (in64_of hlo) hm2 (by omega) (by rw [<- c2]; exact hp))
 have x2:=cell_of hnd.here (j:=2) rfl
 have hle : decide (n.pr < v) = false:=by simpa using hno
 have d1 : w1.cell? ⟨b,1,none⟩ = some (.int .i64 v):=cell_of hk1 (j:=1) rfl
 have HD1 : Hid (wd.cell? ⟨b,1,none⟩ = some (.int .i64 v)):=hJQ (cell_of hkd (j:=1) rfl)
 have HW1:=hJQ hw1
 have EB:=hJQ eb
 have HWD:=hJQ hwd
 clear h ho hlo hln hno hm hp hnF hw1 eb hb1 hk1 hwd hbd hb2 hnd hkd
 go_enter Tryz.func130,Tryz.ntmps130
 go_upto_region 1 with fail
 rw [<- HW1.out,<- EB.out]
 refine wp_region_held_drew (S:=fun V => V.cell? ⟨b,1,none⟩ = some (.int .i64 v)) (by kernel_rfl) d1 (fun hHeld => ?_)
 clear hHeld d1
 have hHeld:=HD1.out
 rw [<- HWD.out]
 refine tk 0 4 (.pointer (some ⟨b,1,none⟩)) hHeld ?_
 refine tm 1 5 (.int .i64 v) hHeld ?_
 refine tk 2 6 (.pointer (some ⟨x,0,none⟩)) hHeld ?_
 refine tk 3 7 (.pointer (some ⟨x,0,none⟩)) hHeld ?_
 refine tk 4 8 (.pointer (some ⟨x,2,none⟩)) hHeld ?_
 simp only [lz,ls]
 refine tk 5 9 (.pointer (some ⟨x,2,none⟩)) hHeld ?_
 simp only [lz,ls]
 refine r1 6 (fun K hK => ?_) rfl
 go_simp
 refine hK.out _ _ (hHeld) (fun hHeld => ?_)
 clear hK K
 try simp only [Act.put,lp,lz,ls]
 refine tk 7 11 (.bool false) hHeld ?_
 refine tk 8 12 (.bool false) hHeld ?_
 refine tu 9 13 hHeld ?_
 refine tu 10 14 hHeld ?_
 refine tu 11 15 hHeld ?_
 simp only [lz,ls]
 refine tu 12 16 hHeld ?_
 refine tu 13 17 hHeld ?_
 refine tk 14 18 (.bool false) hHeld ?_
 simp only [lz,ls]
 refine wpAnyH_done (by kernel_rfl) ?_ _
 clear hHeld x2 hle
 obtain ⟨wy,hwy⟩ : ∃ xx,xx = wd.drew:=⟨_,rfl⟩
 have hby : Below wd.heap.size wd wy:=by rw [hwy]; exact (Below.refl _ _).drew
 have HNY:=hJQ (HNX.out.below hby)
 have HBY:=hJQ (blk_below HBX.out hby)
 have HKY:=hJQ (HKX.out.trans (KN.of_below hby))
 have HWY:=hJQ hwy
 have HS2 : Hid (∀ (V : World) (ov2 : Value) ,V.heap[x]? = some (.cells #[.int .i64 (n.self : Int),.int .i64 (n.many : Int),.int .i64 n.pr,.int .i64 n.nm,.slice A N c,.pointer (some ⟨st,0,none⟩),.int .i64 n.com,rp,ov2] 105 (0,0)) -> V.heap[b]? = some (.cells #[.int .i64 1,.int .i64 v,.int .i64 0,.int .i64 0,.slice B M d] 69 (0,0)) -> V.cell? ⟨b,1,none⟩ = some (.int .i64 v) /\ V.cell? ⟨x,2,none⟩ = some (.int .i64 n.pr) /\ V.cell? ⟨x,3,none⟩ = some (.int .i64 n.nm)):=hJQ (fun V ov2 hx hb => ⟨cell_of hb (j:=1) rfl,cell_of hx (j:=2) rfl,cell_of hx (j:=3) rfl⟩)
 have HS3 : Hid (∀ (V : World) (ov2 : Value) ,V.heap[x]? = some (.cells #[.int .i64 (n.self : Int),.int .i64 (n.many : Int),.int .i64 n.pr,.int .i64 n.nm,.slice A N c,.pointer (some ⟨st,0,none⟩),.int .i64 n.com,rp,ov2] 105 (0,0)) -> V.heap[b]? = some (.cells #[.int .i64 1,.int .i64 v,.int .i64 0,.int .i64 0,.slice B M d] 69 (0,0)) -> V.cell? ⟨b,1,none⟩ = some (.int .i64 v) /\ V.cell? ⟨x,3,none⟩ = some (.int .i64 n.nm) /\ V.cell? ⟨x,4,none⟩ = some (.slice A N c)):=hJQ (fun V ov2 hx hb => ⟨cell_of hb (j:=1) rfl,cell_of hx (j:=3) rfl,cell_of hx (j:=4) rfl⟩)
 have hH2:=HS2.out wd _ HNX.out.here HBX.out
 have HD2:=hJQ (HS2.out wy _ HNY.out.here HBY.out)
 clear hwy hby
 by_cases hc1 : v = n.pr
 ·by_cases hc2 : n.nm < v
  ·have e1 : (v == n.pr) = true:=by simpa using hc1
   have e2 : decide (n.nm < v) = true:=by simpa using hc2
   have HCS : Hid (v = n.pr /\ n.nm < v):=hJQ ⟨hc1,hc2⟩
   clear hc1 hc2
   go_upto_region 2 with fail
   refine wp_region_held_drew (S:=fun V => V.cell? ⟨b,1,none⟩ = some (.int .i64 v) /\ V.cell? ⟨x,2,none⟩ = some (.int .i64 n.pr) /\ V.cell? ⟨x,3,none⟩ = some (.int .i64 n.nm)) (by kernel_rfl) hH2 (fun hHeld => ?_)
   clear hHeld hH2
   have hHeld:=HD2.out
   rw [<- HWY.out]
   refine tk 0 19 (.pointer (some ⟨b,1,none⟩)) hHeld ?_
   refine tm 1 20 (.int .i64 v) hHeld ?_
   refine tk 2 21 (.pointer (some ⟨x,0,none⟩)) hHeld ?_
   refine tk 3 22 (.pointer (some ⟨x,0,none⟩)) hHeld ?_
   refine tk 4 23 (.pointer (some ⟨x,2,none⟩)) hHeld ?_
   simp only [lz,ls]
   refine tk 5 24 (.pointer (some ⟨x,2,none⟩)) hHeld ?_
   refine tm 6 25 (.int .i64 n.pr) hHeld ?_
   refine tk 7 26 (.bool true) hHeld ?_
   refine tk 8 27 (.bool true) hHeld ?_
   refine tk 9 28 (.pointer (some ⟨b,1,none⟩)) hHeld ?_
   simp only [lz,ls]
   refine tm 10 29 (.int .i64 v) hHeld ?_
   refine tk 11 30 (.pointer (some ⟨x,0,none⟩)) hHeld ?_
   refine tk 12 31 (.pointer (some ⟨x,0,none⟩)) hHeld ?_
   refine tk 13 32 (.pointer (some ⟨x,2,none⟩)) hHeld ?_
   refine tk 14 33 (.pointer (some ⟨x,3,none⟩)) hHeld ?_
   simp only [lz,ls]
   refine tm 15 34 (.int .i64 n.nm) hHeld ?_
   refine tk 16 35 (.bool true) hHeld ?_
   refine tk 17 36 (.bool true) hHeld ?_
   simp only [lz,ls]
   refine wpAnyH_done (by kernel_rfl) ?_ _
   clear hHeld
   obtain ⟨wz,hwz⟩ : ∃ xx,xx = wy.drew:=⟨_,rfl⟩
   have hbz : Below wy.heap.size wy wz:=by rw [hwz]; exact (Below.refl _ _).drew
   have hnz:=HNY.out.below hbz
   have HBZ:=hJQ (blk_below HBY.out hbz)
   have HKZ:=hJQ (HKY.out.trans (KN.of_below hbz))
   have HWZ:=hJQ hwz
   have HAN:=hJQ (HAW.out HCS.out.2 HCS.out.1 wz _ _ hnz)
   have hH3:=HS3.out wy _ HNY.out.here HBY.out
   have HD3:=hJQ (HS3.out wz _ hnz.here HBZ.out)
   clear hwz hbz hnz
   go_upto_region 3 with fail
   refine wp_region_held_drew (S:=fun V => V.cell? ⟨b,1,none⟩ = some (.int .i64 v) /\ V.cell? ⟨x,3,none⟩ = some (.int .i64 n.nm) /\ V.cell? ⟨x,4,none⟩ = some (.slice A N c)) (by kernel_rfl) hH3 (fun hHeld => ?_)
   clear hHeld hH3
   have hHeld:=HD3.out
   rw [<- HWZ.out]
   refine tk 0 37 (.pointer (some ⟨x,0,none⟩)) hHeld ?_
   refine tk 1 38 (.pointer (some ⟨b,1,none⟩)) hHeld ?_
   refine tm 2 39 (.int .i64 v) hHeld ?_
   refine tk 3 40 (.pointer (some ⟨x,0,none⟩)) hHeld ?_
   refine tk 4 41 (.pointer (some ⟨x,0,none⟩)) hHeld ?_
   simp only [lz,ls]
   refine tk 5 42 (.pointer (some ⟨x,2,none⟩)) hHeld ?_
   refine tk 6 43 (.pointer (some ⟨x,3,none⟩)) hHeld ?_
   refine tm 7 44 (.int .i64 n.nm) hHeld ?_
   refine tk 8 45 (.pointer (some ⟨x,0,none⟩)) hHeld ?_
   refine tk 9 46 (.pointer (some ⟨x,0,none⟩)) hHeld ?_
   simp only [lz,ls]
   refine tk 10 47 (.pointer (some ⟨x,2,none⟩)) hHeld ?_
   refine tk 11 48 (.pointer (some ⟨x,4,none⟩)) hHeld ?_
   refine tm 12 49 (.slice A N c) hHeld ?_
   refine tk 13 50 (.agg #[.int .i64 2,.int .i64 v,.int .i64 n.nm,.int .i64 0,.slice A N c]) hHeld ?_
   simp only [lz,ls]
   refine r1 14 (fun K hK => ?_) rfl
   go_simp
   refine HAN.out.mono ?_
   rintro e w6 ⟨rfl,hkn,ov',hn6⟩
   have HF6:=hJQ (And.intro (HKZ.out.trans hkn) hn6)
   have hs6:=HS3.out w6 _ hn6.here (hkn.cells HBZ.out near_msg)
   clear hkn hn6
   go_wp2_with fail
   refine hK.out _ _ (hs6) (fun hHeld => ?_)
   clear hK K
   try simp only [Act.put,lp,lz,ls]
   refine wpAnyH_done (by kernel_rfl) ?_ _
   clear hHeld
   go_wp2_with fail
   go_end0
   exact ⟨rfl,HF6.out.1,_,by rw [<- HNF.out.2 HCS.out]; exact HF6.out.2⟩
  ·have e1 : (v == n.pr) = true:=by simpa using hc1
   have e2 : decide (n.nm < v) = false:=by simpa using hc2
   have HCS : Hid (¬ (v = n.pr /\ n.nm < v)):=hJQ (fun hh => hc2 hh.2)
   clear hc1 hc2
   go_upto_region 2 with fail
   refine wp_region_held_drew (S:=fun V => V.cell? ⟨b,1,none⟩ = some (.int .i64 v) /\ V.cell? ⟨x,2,none⟩ = some (.int .i64 n.pr) /\ V.cell? ⟨x,3,none⟩ = some (.int .i64 n.nm)) (by kernel_rfl) hH2 (fun hHeld => ?_)
   clear hHeld hH2
   have hHeld:=HD2.out
   rw [<- HWY.out]
   refine tk 0 19 (.pointer (some ⟨b,1,none⟩)) hHeld ?_
   refine tm 1 20 (.int .i64 v) hHeld ?_
   refine tk 2 21 (.pointer (some ⟨x,0,none⟩)) hHeld ?_
   refine tk 3 22 (.pointer (some ⟨x,0,none⟩)) hHeld ?_
   refine tk 4 23 (.pointer (some ⟨x,2,none⟩)) hHeld ?_
   simp only [lz,ls]
   refine tk 5 24 (.pointer (some ⟨x,2,none⟩)) hHeld ?_
   refine tm 6 25 (.int .i64 n.pr) hHeld ?_
   refine tk 7 26 (.bool true) hHeld ?_
   refine tk 8 27 (.bool true) hHeld ?_
   refine tk 9 28 (.pointer (some ⟨b,1,none⟩)) hHeld ?_
   simp only [lz,ls]
   refine tm 10 29 (.int .i64 v) hHeld ?_
   refine tk 11 30 (.pointer (some ⟨x,0,none⟩)) hHeld ?_
   refine tk 12 31 (.pointer (some ⟨x,0,none⟩)) hHeld ?_
   refine tk 13 32 (.pointer (some ⟨x,2,none⟩)) hHeld ?_
   refine tk 14 33 (.pointer (some ⟨x,3,none⟩)) hHeld ?_
   simp only [lz,ls]
   refine tm 15 34 (.int .i64 n.nm) hHeld ?_
   refine tk 16 35 (.bool false) hHeld ?_
   refine tk 17 36 (.bool false) hHeld ?_
   simp only [lz,ls]
   refine wpAnyH_done (by kernel_rfl) ?_ _
   clear hHeld
   go_wp2_with fail
   go_end0
   exact ⟨rfl,HKY.out,_,by rw [<- HNF.out.1 HCS.out]; exact HNY.out⟩
 ·have e1 : (v == n.pr) = false:=by simpa using hc1
  have HCS : Hid (¬ (v = n.pr /\ n.nm < v)):=hJQ (fun hh => hc1 hh.1)
  clear hc1
  go_upto_region 2 with fail
  refine wp_region_held_drew (S:=fun V => V.cell? ⟨b,1,none⟩ = some (.int .i64 v) /\ V.cell? ⟨x,2,none⟩ = some (.int .i64 n.pr) /\ V.cell? ⟨x,3,none⟩ = some (.int .i64 n.nm)) (by kernel_rfl) hH2 (fun hHeld => ?_)
  clear hHeld hH2
  have hHeld:=HD2.out
  rw [<- HWY.out]
  refine tk 0 19 (.pointer (some ⟨b,1,none⟩)) hHeld ?_
  refine tm 1 20 (.int .i64 v) hHeld ?_
  refine tk 2 21 (.pointer (some ⟨x,0,none⟩)) hHeld ?_
  refine tk 3 22 (.pointer (some ⟨x,0,none⟩)) hHeld ?_
  refine tk 4 23 (.pointer (some ⟨x,2,none⟩)) hHeld ?_
  simp only [lz,ls]
  refine tk 5 24 (.pointer (some ⟨x,2,none⟩)) hHeld ?_
  refine tm 6 25 (.int .i64 n.pr) hHeld ?_
  refine tk 7 26 (.bool false) hHeld ?_
  refine tk 8 27 (.bool false) hHeld ?_
  refine tu 9 28 hHeld ?_
  simp only [lz,ls]
  refine tu 10 29 hHeld ?_
  refine tu 11 30 hHeld ?_
  refine tu 12 31 hHeld ?_
  refine tu 13 32 hHeld ?_
  refine tu 14 33 hHeld ?_
  simp only [lz,ls]
  refine tu 15 34 hHeld ?_
  refine tu 16 35 hHeld ?_
  refine tk 17 36 (.bool false) hHeld ?_
  simp only [lz,ls]
  refine wpAnyH_done (by kernel_rfl) ?_ _
  clear hHeld
  go_wp2_with fail
  go_end0
  exact ⟨rfl,HKY.out,_,by rw [<- HNF.out.1 HCS.out]; exact HNY.out⟩
set_option maxHeartbeats 16000000 in
theorem takeask_new (h : NdW w z x st q p lv rp ov s G D n) (ho : n.out.length <= 1000000) (hlo : ∀ e ∈ n.log,0 <= e.n /\ e.n <= 150) (hln : n.log.length <= 150) {v : Int} {B : Option Addr} {M d : Nat} {f : Nat} (hnew : n.pr < v) (hm : n.nm < v -> MsOk ⟨2,v,n.nm,0,n.log⟩) (hp : pri v n.many = (f : Int)) (hL : LsOk ⟨v,n.nm,n.log⟩) (hsz : G.sz = 548) (hwt : D.wait.length <= 20000) :
  Calls Tryz.prog 130 #[.pointer (some ⟨x,0,none⟩),.agg #[.int .i64 1,.int .i64 v,.int .i64 0,.int .i64 0,.slice B M d]] w fun e w' => e = .returned (.tuple #[]) /\ KN z w w' /\ ∃ ov',NdW w' z x st q p lv (.pointer none) ov' true (keepD G (signD s D) (Ls.recs ⟨v,n.nm,n.log⟩)).1 (keepD G (signD s D) (Ls.recs ⟨v,n.nm,n.log⟩)).2 (if (keepD G (signD s D) (Ls.recs ⟨v,n.nm,n.log⟩)).2.dead then ({ n with pr:=v,rg:=none } : Nd) else n.takeAsk f ⟨1,v,0,0,[]⟩):=by
 obtain ⟨A,c,elv,-,-,-⟩:=own_form h.log
 subst elv
 obtain ⟨w1,hw1⟩ : ∃ xx,xx = w.alloc (.cells #[.int .i64 1,.int .i64 v,.int .i64 0,.int .i64 0,.slice B M d] 69):=⟨_,rfl⟩
 obtain ⟨b,eb⟩ : ∃ xx,xx = w.heap.size:=⟨_,rfl⟩
 have hb1 : Below w.heap.size w w1:=by rw [hw1]; exact box_below w _
 have hk1 : w1.heap[b]? = some (.cells #[.int .i64 1,.int .i64 v,.int .i64 0,.int .i64 0,.slice B M d] 69 (0,0)):=by rw [hw1,eb]; exact new_block w _
 obtain ⟨wd,hwd⟩ : ∃ xx,xx = w1.drew:=⟨_,rfl⟩
 have hbd : Below w1.heap.size w1 wd:=by rw [hwd]; exact (Below.refl _ _).drew
 have hb2:=hb1.trans (hbd.mono hb1.size)
 have hnd:=h.below hb2
 have hkd:=blk_below hk1 hbd
 have hpr:=promise_any hnd (rp':=.pointer none) (rg':=none) rfl hL hsz hwt
 obtain ⟨KD,hKD⟩ : ∃ K,keepD G (signD s D) (Ls.recs ⟨v,n.nm,n.log⟩) = K:=⟨_,rfl⟩
 rw [hKD] at hpr ⊢
 obtain ⟨N,hN⟩ : ∃ k,n.log.length = k:=⟨_,rfl⟩
 rw [hN] at hpr ⊢
 obtain ⟨dd,hdd⟩ : ∃ t,KD.2.dead = t:=⟨_,rfl⟩
 obtain ⟨nF,hnF⟩ : ∃ k,(if KD.2.dead then ({ n with pr:=v,rg:=none } : Nd) else n.takeAsk f ⟨1,v,0,0,[]⟩) = k:=⟨_,rfl⟩
 rw [hnF]
 rw [hdd] at hpr
 have HND : Hid (dd = true -> ({ n with pr:=v,rg:=none } : Nd) = nF):=hJQ (fun e => by rw [<- hnF,hdd,if_pos e])
 have HNF : Hid (dd = false -> (¬ (v = v /\ n.nm < v) -> ({ n with pr:=v,rg:=none } : Nd) = nF) /\ (v = v /\ n.nm < v -> ({ n with pr:=v,rg:=none } : Nd).send f ⟨2,v,n.nm,0,n.log⟩ = nF)):=hJQ (fun e => by
  rw [<- hnF,hdd,e,if_neg (by decide)]
  unfold Nd.takeAsk
  rw [if_pos (show n.pr < v from hnew)]
  exact ⟨fun hc => by rw [if_neg hc],fun hc => by rw [if_pos hc]; rfl⟩)
 have HPR:=hJQ hpr
 have HBD:=hJQ hkd
 have HKD : Hid (KN z w wd):=hJQ (KN.of_below hb2)
 have HAW : Hid (n.nm < v -> v = v -> ∀ (V : World) (rp2 ov2 : Value),NdW V z x st q p (.slice A N c) rp2 ov2 true KD.1 KD.2 ({ n with pr:=v,rg:=none } : Nd) -> Calls Tryz.prog 157 #[.pointer (some ⟨x,0,none⟩),.agg #[.int .i64 2,.int .i64 v,.int .i64 n.nm,.int .i64 0,.slice A N c]] V fun e w' => e = .returned (.tuple #[]) /\ KN z V w' /\ ∃ ov',NdW w' z x st q p (.slice A N c) rp2 ov' true KD.1 KD.2 (({ n with pr:=v,rg:=none } : Nd).send f ⟨2,v,n.nm,0,n.log⟩)):=hJQ (fun c1 _ V rp2 ov2 hV => by
  have hlg : V.ownsRow 0 45 3 (.slice A N c) n.log.length (n.log.flatMap ecell):=hV.log
  have hA : A = none -> c = 0:=fun e => by
   subst e
   rcases hlg.2 with ⟨e2,_⟩ | ⟨g,cap,cur,e2,_⟩
   ·injection e2
   ·injection e2 with e2; cases e2
  rw [hN] at hlg
  exact answer_any hV ho (Rd.of_own hlg (fun _ _ => rfl) (by omega)) hA (in64_of hlo) (hm c1) (by omega) hp)
 have x2:=cell_of hnd.here (j:=2) rfl
 have hle : decide (n.pr < v) = true:=by simpa using hnew
 have d1 : w1.cell? ⟨b,1,none⟩ = some (.int .i64 v):=cell_of hk1 (j:=1) rfl
 have HD1 : Hid (wd.cell? ⟨b,1,none⟩ = some (.int .i64 v)):=hJQ (cell_of hkd (j:=1) rfl)
 have HW1:=hJQ hw1
 have EB:=hJQ eb
 have HWD:=hJQ hwd
 clear h ho hlo hln hnew hm hp hL hsz hwt hnF hdd hKD hw1 eb hb1 hk1 hwd hbd hb2 hnd hkd hpr
 cases dd with
 | true =>
  have HF:=hJQ (HND.out rfl)
  clear HND HNF
  go_enter Tryz.func130,Tryz.ntmps130
  go_upto_region 1 with fail
  rw [<- HW1.out,<- EB.out]
  refine wp_region_held_drew (S:=fun V => V.cell? ⟨b,1,none⟩ = some (.int .i64 v)) (by kernel_rfl) d1 (fun hHeld => ?_)
  clear hHeld d1
  have hHeld:=HD1.out
  rw [<- HWD.out]
  refine tk 0 4 (.pointer (some ⟨b,1,none⟩)) hHeld ?_
  refine tm 1 5 (.int .i64 v) hHeld ?_
  refine tk 2 6 (.pointer (some ⟨x,0,none⟩)) hHeld ?_
  refine tk 3 7 (.pointer (some ⟨x,0,none⟩)) hHeld ?_
  refine tk 4 8 (.pointer (some ⟨x,2,none⟩)) hHeld ?_
  simp only [lz,ls]
  refine tk 5 9 (.pointer (some ⟨x,2,none⟩)) hHeld ?_
  simp only [lz,ls]
  refine r1 6 (fun K hK => ?_) rfl
  go_simp
  refine hK.out _ _ (hHeld) (fun hHeld => ?_)
  clear hK K
  try simp only [Act.put,lp,lz,ls]
  refine tk 7 11 (.bool true) hHeld ?_
  refine tk 8 12 (.bool true) hHeld ?_
  refine tk 9 13 (.pointer (some ⟨x,0,none⟩)) hHeld ?_
  refine tk 10 14 (.pointer (some ⟨b,1,none⟩)) hHeld ?_
  refine tm 11 15 (.int .i64 v) hHeld ?_
  simp only [lz,ls]
  refine r1 12 (fun K hK => ?_) rfl
  go_simp
  refine HPR.out.mono ?_
  rintro e w3 ⟨rfl,hkn3,hn3⟩
  have HNX:=hJQ hn3
  have HKX:=hJQ (HKD.out.trans hkn3)
  have HBX:=hJQ (hkn3.cells HBD.out near_msg)
  have hs3 : w3.cell? ⟨b,1,none⟩ = some (.int .i64 v):=cell_of HBX.out (j:=1) rfl
  clear hkn3 hn3
  go_wp2_with fail
  refine hK.out _ _ (hs3) (fun hHeld => ?_)
  clear hK K
  try simp only [Act.put,lp,lz,ls]
  refine tk 13 17 (.bool true) hHeld ?_
  refine tk 14 18 (.bool true) hHeld ?_
  simp only [lz,ls]
  refine wpAnyH_done (by kernel_rfl) ?_ _
  clear hHeld x2 hle
  go_wp2_with fail
  first | go_end0 | (refine bodyPost_ret (results_none rfl _ _ _) rfl ?_)
  exact ⟨rfl,HKX.out,ov,by rw [<- HF.out]; exact HNX.out⟩
 | false =>
  have HF:=hJQ (HNF.out rfl)
  clear HND HNF
  have HNF:=hJQ HF.out
  clear HF
  go_enter Tryz.func130,Tryz.ntmps130
  go_upto_region 1 with fail
  rw [<- HW1.out,<- EB.out]
  refine wp_region_held_drew (S:=fun V => V.cell? ⟨b,1,none⟩ = some (.int .i64 v)) (by kernel_rfl) d1 (fun hHeld => ?_)
  clear hHeld d1
  have hHeld:=HD1.out
  rw [<- HWD.out]
  refine tk 0 4 (.pointer (some ⟨b,1,none⟩)) hHeld ?_
  refine tm 1 5 (.int .i64 v) hHeld ?_
  refine tk 2 6 (.pointer (some ⟨x,0,none⟩)) hHeld ?_
  refine tk 3 7 (.pointer (some ⟨x,0,none⟩)) hHeld ?_
  refine tk 4 8 (.pointer (some ⟨x,2,none⟩)) hHeld ?_
  simp only [lz,ls]
  refine tk 5 9 (.pointer (some ⟨x,2,none⟩)) hHeld ?_
  simp only [lz,ls]
  refine r1 6 (fun K hK => ?_) rfl
  go_simp
  refine hK.out _ _ (hHeld) (fun hHeld => ?_)
  clear hK K
  try simp only [Act.put,lp,lz,ls]
  refine tk 7 11 (.bool true) hHeld ?_
  refine tk 8 12 (.bool true) hHeld ?_
  refine tk 9 13 (.pointer (some ⟨x,0,none⟩)) hHeld ?_
  refine tk 10 14 (.pointer (some ⟨b,1,none⟩)) hHeld ?_
  refine tm 11 15 (.int .i64 v) hHeld ?_
  simp only [lz,ls]
  refine r1 12 (fun K hK => ?_) rfl
  go_simp
  refine HPR.out.mono ?_
  rintro e w3 ⟨rfl,hkn3,hn3⟩
  have HNX:=hJQ hn3
  have HKX:=hJQ (HKD.out.trans hkn3)
  have HBX:=hJQ (hkn3.cells HBD.out near_msg)
  have hs3 : w3.cell? ⟨b,1,none⟩ = some (.int .i64 v):=cell_of HBX.out (j:=1) rfl
  clear hkn3 hn3
  go_wp2_with fail
  refine hK.out _ _ (hs3) (fun hHeld => ?_)
  clear hK K
  try simp only [Act.put,lp,lz,ls]
  refine tk 13 17 (.bool false) hHeld ?_
  refine tk 14 18 (.bool false) hHeld ?_
  simp only [lz,ls]
  refine wpAnyH_done (by kernel_rfl) ?_ _
  clear hHeld x2 hle
  obtain ⟨wy,hwy⟩ : ∃ xx,xx = w3.drew:=⟨_,rfl⟩
  have hby : Below w3.heap.size w3 wy:=by rw [hwy]; exact (Below.refl _ _).drew
  have HNY:=hJQ (HNX.out.below hby)
  have HBY:=hJQ (blk_below HBX.out hby)
  have HKY:=hJQ (HKX.out.trans (KN.of_below hby))
  have HWY:=hJQ hwy
  have HS2 : Hid (∀ (V : World) (ov2 : Value) ,V.heap[x]? = some (.cells #[.int .i64 (n.self : Int),.int .i64 (n.many : Int),.int .i64 v,.int .i64 n.nm,.slice A N c,.pointer (some ⟨st,0,none⟩),.int .i64 n.com,(Value.pointer none),ov2] 105 (0,0)) -> V.heap[b]? = some (.cells #[.int .i64 1,.int .i64 v,.int .i64 0,.int .i64 0,.slice B M d] 69 (0,0)) -> V.cell? ⟨b,1,none⟩ = some (.int .i64 v) /\ V.cell? ⟨x,2,none⟩ = some (.int .i64 v) /\ V.cell? ⟨x,3,none⟩ = some (.int .i64 n.nm)):=hJQ (fun V ov2 hx hb => ⟨cell_of hb (j:=1) rfl,cell_of hx (j:=2) rfl,cell_of hx (j:=3) rfl⟩)
  have HS3 : Hid (∀ (V : World) (ov2 : Value) ,V.heap[x]? = some (.cells #[.int .i64 (n.self : Int),.int .i64 (n.many : Int),.int .i64 v,.int .i64 n.nm,.slice A N c,.pointer (some ⟨st,0,none⟩),.int .i64 n.com,(Value.pointer none),ov2] 105 (0,0)) -> V.heap[b]? = some (.cells #[.int .i64 1,.int .i64 v,.int .i64 0,.int .i64 0,.slice B M d] 69 (0,0)) -> V.cell? ⟨b,1,none⟩ = some (.int .i64 v) /\ V.cell? ⟨x,3,none⟩ = some (.int .i64 n.nm) /\ V.cell? ⟨x,4,none⟩ = some (.slice A N c)):=hJQ (fun V ov2 hx hb => ⟨cell_of hb (j:=1) rfl,cell_of hx (j:=3) rfl,cell_of hx (j:=4) rfl⟩)
  have hH2:=HS2.out w3 _ HNX.out.here HBX.out
  have HD2:=hJQ (HS2.out wy _ HNY.out.here HBY.out)
  clear hwy hby
  have hc1 : v = v:=rfl
  by_cases hc2 : n.nm < v
  ·skip
   have e2 : decide (n.nm < v) = true:=by simpa using hc2
   have HCS : Hid (v = v /\ n.nm < v):=hJQ ⟨hc1,hc2⟩
   clear hc1 hc2
   go_upto_region 2 with fail
   refine wp_region_held_drew (S:=fun V => V.cell? ⟨b,1,none⟩ = some (.int .i64 v) /\ V.cell? ⟨x,2,none⟩ = some (.int .i64 v) /\ V.cell? ⟨x,3,none⟩ = some (.int .i64 n.nm)) (by kernel_rfl) hH2 (fun hHeld => ?_)
   clear hHeld hH2
   have hHeld:=HD2.out
   rw [<- HWY.out]
   refine tk 0 19 (.pointer (some ⟨b,1,none⟩)) hHeld ?_
   refine tm 1 20 (.int .i64 v) hHeld ?_
   refine tk 2 21 (.pointer (some ⟨x,0,none⟩)) hHeld ?_
   refine tk 3 22 (.pointer (some ⟨x,0,none⟩)) hHeld ?_
   refine tk 4 23 (.pointer (some ⟨x,2,none⟩)) hHeld ?_
   simp only [lz,ls]
   refine tk 5 24 (.pointer (some ⟨x,2,none⟩)) hHeld ?_
   refine tm 6 25 (.int .i64 v) hHeld ?_
   refine tk 7 26 (.bool true) hHeld ?_
   refine tk 8 27 (.bool true) hHeld ?_
   refine tk 9 28 (.pointer (some ⟨b,1,none⟩)) hHeld ?_
   simp only [lz,ls]
   refine tm 10 29 (.int .i64 v) hHeld ?_
   refine tk 11 30 (.pointer (some ⟨x,0,none⟩)) hHeld ?_
   refine tk 12 31 (.pointer (some ⟨x,0,none⟩)) hHeld ?_
   refine tk 13 32 (.pointer (some ⟨x,2,none⟩)) hHeld ?_
   refine tk 14 33 (.pointer (some ⟨x,3,none⟩)) hHeld ?_
   simp only [lz,ls]
   refine tm 15 34 (.int .i64 n.nm) hHeld ?_
   refine tk 16 35 (.bool true) hHeld ?_
   refine tk 17 36 (.bool true) hHeld ?_
   simp only [lz,ls]
   refine wpAnyH_done (by kernel_rfl) ?_ _
   clear hHeld
   obtain ⟨wz,hwz⟩ : ∃ xx,xx = wy.drew:=⟨_,rfl⟩
   have hbz : Below wy.heap.size wy wz:=by rw [hwz]; exact (Below.refl _ _).drew
   have hnz:=HNY.out.below hbz
   have HBZ:=hJQ (blk_below HBY.out hbz)
   have HKZ:=hJQ (HKY.out.trans (KN.of_below hbz))
   have HWZ:=hJQ hwz
   have HAN:=hJQ (HAW.out HCS.out.2 (by trivial) wz _ _ hnz)
   have hH3:=HS3.out wy _ HNY.out.here HBY.out
   have HD3:=hJQ (HS3.out wz _ hnz.here HBZ.out)
   clear hwz hbz hnz
   go_upto_region 3 with fail
   refine wp_region_held_drew (S:=fun V => V.cell? ⟨b,1,none⟩ = some (.int .i64 v) /\ V.cell? ⟨x,3,none⟩ = some (.int .i64 n.nm) /\ V.cell? ⟨x,4,none⟩ = some (.slice A N c)) (by kernel_rfl) hH3 (fun hHeld => ?_)
   clear hHeld hH3
   have hHeld:=HD3.out
   rw [<- HWZ.out]
   refine tk 0 37 (.pointer (some ⟨x,0,none⟩)) hHeld ?_
   refine tk 1 38 (.pointer (some ⟨b,1,none⟩)) hHeld ?_
   refine tm 2 39 (.int .i64 v) hHeld ?_
   refine tk 3 40 (.pointer (some ⟨x,0,none⟩)) hHeld ?_
   refine tk 4 41 (.pointer (some ⟨x,0,none⟩)) hHeld ?_
   simp only [lz,ls]
   refine tk 5 42 (.pointer (some ⟨x,2,none⟩)) hHeld ?_
   refine tk 6 43 (.pointer (some ⟨x,3,none⟩)) hHeld ?_
   refine tm 7 44 (.int .i64 n.nm) hHeld ?_
   refine tk 8 45 (.pointer (some ⟨x,0,none⟩)) hHeld ?_
   refine tk 9 46 (.pointer (some ⟨x,0,none⟩)) hHeld ?_
   simp only [lz,ls]
   refine tk 10 47 (.pointer (some ⟨x,2,none⟩)) hHeld ?_
   refine tk 11 48 (.pointer (some ⟨x,4,none⟩)) hHeld ?_
   refine tm 12 49 (.slice A N c) hHeld ?_
   refine tk 13 50 (.agg #[.int .i64 2,.int .i64 v,.int .i64 n.nm,.int .i64 0,.slice A N c]) hHeld ?_
   simp only [lz,ls]
   refine r1 14 (fun K hK => ?_) rfl
   go_simp
   refine HAN.out.mono ?_
   rintro e w6 ⟨rfl,hkn,ov',hn6⟩
   have HF6:=hJQ (And.intro (HKZ.out.trans hkn) hn6)
   have hs6:=HS3.out w6 _ hn6.here (hkn.cells HBZ.out near_msg)
   clear hkn hn6
   go_wp2_with fail
   refine hK.out _ _ (hs6) (fun hHeld => ?_)
   clear hK K
   try simp only [Act.put,lp,lz,ls]
   refine wpAnyH_done (by kernel_rfl) ?_ _
   clear hHeld
   go_wp2_with fail
   go_end0
   exact ⟨rfl,HF6.out.1,_,by rw [<- HNF.out.2 HCS.out]; exact HF6.out.2⟩
  ·skip
   have e2 : decide (n.nm < v) = false:=by simpa using hc2
   have HCS : Hid (¬ (v = v /\ n.nm < v)):=hJQ (fun hh => hc2 hh.2)
   clear hc1 hc2
   go_upto_region 2 with fail
   refine wp_region_held_drew (S:=fun V => V.cell? ⟨b,1,none⟩ = some (.int .i64 v) /\ V.cell? ⟨x,2,none⟩ = some (.int .i64 v) /\ V.cell? ⟨x,3,none⟩ = some (.int .i64 n.nm)) (by kernel_rfl) hH2 (fun hHeld => ?_)
   clear hHeld hH2
   have hHeld:=HD2.out
   rw [<- HWY.out]
   refine tk 0 19 (.pointer (some ⟨b,1,none⟩)) hHeld ?_
   refine tm 1 20 (.int .i64 v) hHeld ?_
   refine tk 2 21 (.pointer (some ⟨x,0,none⟩)) hHeld ?_
   refine tk 3 22 (.pointer (some ⟨x,0,none⟩)) hHeld ?_
   refine tk 4 23 (.pointer (some ⟨x,2,none⟩)) hHeld ?_
   simp only [lz,ls]
   refine tk 5 24 (.pointer (some ⟨x,2,none⟩)) hHeld ?_
   refine tm 6 25 (.int .i64 v) hHeld ?_
   refine tk 7 26 (.bool true) hHeld ?_
   refine tk 8 27 (.bool true) hHeld ?_
   refine tk 9 28 (.pointer (some ⟨b,1,none⟩)) hHeld ?_
   simp only [lz,ls]
   refine tm 10 29 (.int .i64 v) hHeld ?_
   refine tk 11 30 (.pointer (some ⟨x,0,none⟩)) hHeld ?_
   refine tk 12 31 (.pointer (some ⟨x,0,none⟩)) hHeld ?_
   refine tk 13 32 (.pointer (some ⟨x,2,none⟩)) hHeld ?_
   refine tk 14 33 (.pointer (some ⟨x,3,none⟩)) hHeld ?_
   simp only [lz,ls]
   refine tm 15 34 (.int .i64 n.nm) hHeld ?_
   refine tk 16 35 (.bool false) hHeld ?_
   refine tk 17 36 (.bool false) hHeld ?_
   simp only [lz,ls]
   refine wpAnyH_done (by kernel_rfl) ?_ _
   clear hHeld
   go_wp2_with fail
   go_end0
   exact ⟨rfl,HKY.out,_,by rw [<- HNF.out.1 HCS.out]; exact HNY.out⟩
end
open Go.ChangeShapes Go.WideShapes Go.ChangeAt Go.RowKit Go.Proofs.Rk
open Pq (Fld FReads errL bytL fcs)
open Gq (Bz Mine PL PDisk Kp Kl Lg Dk putL enc)

section
variable {w : World} {z : Nat -> Prop} {x st q p : Nat} {lv rp ov : Value} {s : Bool} {G : Lg} {D : Dk} {n : Nd}
set_option maxHeartbeats 16000000 in
theorem following_any (h : NdW w z x st q p lv rp ov s G D n) (hln : n.log.length <= 150) {B : Option Addr} {M d : Nat} {l : List En} (hr : Rd ecell 3 w B M l) (hM : M <= 150) :
  Calls Tryz.prog 161 #[.pointer (some ⟨x,0,none⟩),.slice B M d] w fun e w' => ∃ v,e = .returned v /\ w'.ownsRow w.heap.size 45 3 v (follow ((n.log.length : Int) + 1) (lastV n.log) l).length ((follow ((n.log.length : Int) + 1) (lastV n.log) l).flatMap ecell) /\ Below w.heap.size w w':=by
 obtain ⟨A,c,elv,-,-,-⟩:=own_form h.log
 subst elv
 obtain ⟨N,hN⟩ : ∃ k,n.log.length = k:=⟨_,rfl⟩
 have hlg:=h.log
 have hx4:=cell_of h.here (j:=4) rfl
 rw [hN] at hlg hx4 hln ⊢
 obtain ⟨wd,hwd⟩ : ∃ xx,xx = w.drew:=⟨_,rfl⟩
 have hbd : Below w.heap.size w wd:=by rw [hwd]; exact (Below.refl _ _).drew
 have hlv:=lastview_any (c:=c) ((Rd.of_own hlg (fun _ _ => rfl) (by omega)).below hbd) (by omega)
 obtain ⟨lv0,hlv0⟩ : ∃ k,lastV n.log = k:=⟨_,rfl⟩
 rw [hlv0] at hlv ⊢
 obtain ⟨k0,hk0⟩ : ∃ k : Int,(N : Int) + 1 = k:=⟨_,rfl⟩
 have hw0 : IntKind.i64.wrap ((N : Int) + 1) = k0:=by rw [IntKind.wrap_i64]; omega
 rw [hk0]
 have HLV:=hJQ hlv
 have HS : Hid (∀ V : World,V.heap[x]? = w.heap[x]? -> V.cell? ⟨x,4,none⟩ = some (.slice A N c)):=hJQ (fun V e => by rw [h.here,hN] at e; exact cell_of e (j:=4) rfl)
 have hHeld0:=HS.out w rfl
 have HSD:=hJQ (HS.out wd ((blk_below h.here hbd).trans h.here.symm))
 have HWD:=hJQ hwd
 have HBD:=hJQ hbd
 have HRD:=hJQ hr
 have hk1 : k0 <= 151:=by omega
 have hk2 : 1 <= k0:=by omega
 obtain ⟨i0,hi,hz0,hz1,hz2⟩:=info_parts infoE
 clear h hr hN hlg hwd hbd hlv hlv0 hk0 HS hx4
 go_enter Tryz.func161,Tryz.ntmps161
 go_upto_region 2 with fail
 go_step3
 go_upto_region 2 with fail
 refine wp_region_held_drew (S:=fun V => V.cell? ⟨x,4,none⟩ = some (.slice A N c)) (by kernel_rfl) hHeld0 (fun hHeld => ?_)
 clear hHeld hHeld0
 have hHeld:=HSD.out
 rw [<- HWD.out]
 refine tk 0 10 (.pointer (some ⟨x,0,none⟩)) hHeld ?_
 refine tk 1 11 (.pointer (some ⟨x,0,none⟩)) hHeld ?_
 refine tk 2 12 (.pointer (some ⟨x,2,none⟩)) hHeld ?_
 refine tk 3 13 (.pointer (some ⟨x,4,none⟩)) hHeld ?_
 refine tm 4 14 (.slice A N c) hHeld ?_
 simp only [lz,ls]
 refine tk 5 15 (.int .i64 (N : Int)) hHeld ?_
 refine tk 6 16 (.int .i64 k0) hHeld ?_
 refine tk 7 17 (.pointer (some ⟨x,0,none⟩)) hHeld ?_
 refine tk 8 18 (.pointer (some ⟨x,0,none⟩)) hHeld ?_
 refine tk 9 19 (.pointer (some ⟨x,2,none⟩)) hHeld ?_
 simp only [lz,ls]
 refine tk 10 20 (.pointer (some ⟨x,4,none⟩)) hHeld ?_
 refine tm 11 21 (.slice A N c) hHeld ?_
 simp only [lz,ls]
 refine r1 12 (fun K hK => ?_) rfl
 go_simp
 refine HLV.out.mono ?_
 rintro e w3 ⟨rfl,rfl⟩
 go_wp2_with fail
 refine hK.out _ _ (hHeld) (fun hHeld => ?_)
 clear hK K
 try simp only [Act.put,lp,lz,ls]
 refine tk 13 6 (.int .i64 k0) hHeld ?_
 refine tk 14 7 (.int .i64 lv0) hHeld ?_
 simp only [lz,ls]
 refine wpAnyH_done (by kernel_rfl) ?_ _
 clear hHeld
 go_wp2_with fail
 go_step3
 go_wp2_with fail
 go_loopw [5,6,7,25] (fun u a e i wr => ∃ (j : Nat) (es : List En) (num vw : Int),j <= M /\ es.length <= j /\ i = .int .i64 j /\ a = .int .i64 num /\ e = .int .i64 vw /\ num <= 1000 + j /\ -1000 <= num /\ Hid (follow k0 lv0 l = es ++ follow num vw (l.drop j)) /\ Hid (wr.ownsRow w.heap.size 45 3 u es.length (es.flatMap ecell)) /\ Hid (Below w.heap.size w wr)) (fun _ _ _ i _ => M - (intOf i).toNat)
 case atStart => exact ⟨0,[],k0,lv0,Nat.zero_le _,Nat.le_refl _,rfl,rfl,rfl,by omega,by omega,hJQ rfl,hJQ (World.ownsRow_nil _ _ _ _),HBD⟩
 case round =>
  obtain ⟨j,es,num,vw,hj,hes,rfl,rfl,rfl,hn1,hn2,HF,HO,HX⟩:=hrel
  obtain ⟨A3,c3,rfl,-,-,-⟩:=own_form HO.out
  by_cases hlt : j < M
  ·have hji : (j : Int) < (M : Int):=by omega
   have hwj : IntKind.i64.wrap ((j : Int) + 1) = (j : Int) + 1:=by rw [IntKind.wrap_i64]; omega
   have hwn : IntKind.i64.wrap (num + 1) = num + 1:=by rw [IntKind.wrap_i64]; omega
   obtain ⟨b0,off,y,hAy,hy,hcc⟩:=(HRD.out.below HX.out).at hlt
   subst hAy
   have c0 : wr.cell? ⟨b0,off + j * 3,none⟩ = some (.int .i64 y.v):=hcc 0 _ rfl
   have c1 : wr.cell? ⟨b0,off + j * 3 + 1,none⟩ = some (.int .i64 y.n):=hcc 1 _ rfl
   have c2 : wr.cell? ⟨b0,off + j * 3 + 2,none⟩ = some (.string y.b):=hcc 2 _ rfl
   have HDR : Hid (l.drop j = y :: l.drop (j + 1)):=hJQ (by
    obtain ⟨h2,h3⟩:=List.getElem?_eq_some_iff.1 hy
    rw [List.drop_eq_getElem_cons h2,h3])
   obtain ⟨w8,hw8⟩ : ∃ xx,xx = wr.alloc (.cells #[.int .i64 y.v,.int .i64 y.n,.string y.b] 45):=⟨_,rfl⟩
   obtain ⟨r,er⟩ : ∃ xx,xx = wr.heap.size:=⟨_,rfl⟩
   have hb8 : Below wr.heap.size wr w8:=by rw [hw8]; exact box_below wr _
   have hkr : w8.heap[r]? = some (.cells #[.int .i64 y.v,.int .i64 y.n,.string y.b] 45 (0,0)):=by rw [hw8,er]; exact new_block wr _
   have HX8:=hJQ (HX.out.trans (hb8.mono HX.out.size))
   have HO8:=hJQ (own_below HO.out hb8)
   have HKR:=hJQ hkr
   have r0:=cell_of hkr (j:=0) rfl
   have r1:=cell_of hkr (j:=1) rfl
   have r2:=cell_of hkr (j:=2) rfl
   have HW8:=hJQ hw8
   have ER:=hJQ er
   clear hy hcc hw8 er hb8 hkr
   go_upto_region 6 with fail
   rw [<- HW8.out,<- ER.out]
   clear c0 c1 c2
   by_cases hg : num < y.n
   ·have hgd : decide (num < y.n) = true:=by simpa using hg
    have HFE : Hid (follow k0 lv0 l = es):=hJQ (by rw [HF.out,HDR.out]; unfold follow; rw [if_pos hg,List.append_nil])
    go_wp2_with fail
    simp only [Exit.noGoto]
    go_ret
    exact ⟨_,rfl,by rw [HFE.out]; exact HO8.out,HX8.out⟩
   ·have hgd : decide (num < y.n) = false:=by simpa using hg
    by_cases he : y.n = num
    ·subst he
     by_cases hv : vw <= y.v
     ·have e2 : decide (vw <= y.v) = true:=by simpa using hv
      have HF2 : Hid (follow k0 lv0 l = (es ++ [y]) ++ follow (y.n + 1) y.v (l.drop (j + 1))):=hJQ (by
       rw [HF.out,HDR.out]
       conv => lhs; unfold follow; rw [if_neg hg,if_pos ⟨rfl,hv⟩]
       rw [List.append_assoc]; rfl)
      obtain ⟨w9,hw9⟩ : ∃ xx,xx = w8.alloc (.cells #[.int .i64 y.v,.int .i64 y.n,.string y.b] 45):=⟨_,rfl⟩
      obtain ⟨nb,enb⟩ : ∃ xx,xx = w8.heap.size:=⟨_,rfl⟩
      have hb9 : Below w8.heap.size w8 w9:=by rw [hw9]; exact box_below w8 _
      have HNB : Hid (w9.heap[nb]? = some (.cells #[.int .i64 y.v,.int .i64 y.n,.string y.b] 45 (0,0))):=hJQ (by rw [hw9,enb]; exact new_block w8 _)
      have HO9:=hJQ (own_below HO8.out hb9)
      have HX9:=hJQ (HX8.out.trans (hb9.mono HX8.out.size))
      have HR9:=hJQ (blk_below HKR.out hb9)
      have HNE : Hid (∀ k,(Value.slice A3 es.length c3).ownBlock = some k -> k ≠ r):=hJQ (fun k e => by
       have h1:=(HO.out.lt k e).2
       have h2:=ER.out
       omega)
      have hsz9:=HX9.out.size
      have hel : es.length <= 150:=by omega
      have HW9:=hJQ hw9
      have ENB:=hJQ enb
      clear hw9 enb hb9
      go_upto_region 9 with (at_builtin; go_loud (rw [<- HW9.out,<- ENB.out]; refine wpList_append_lies w9 rfl _ _ 32 rfl w.heap.size 45 i0 _ 3 32 Tryz.underlying32 hi hz0 hz1 hz2 rfl (by decide) (.slice A3 es.length c3) es.length (es.flatMap ecell) rfl HO9.out ⟨nb,0,none⟩ 1 1 (ecell y) rfl rfl (World.news_of_block HNB.out) (ecell_one _) (by decide) (by unfold maxLen; omega) (by omega) hsz9 _ rfl ?_; intro g6 cap6 w12 hown6 hgrow6 hat6 hlt6; have HO12:=hJQ hown6; have HX12 : Hid (Below w.heap.size w w12):=hJQ (HX9.out.trans (gb_own HO9.out hgrow6 (Nat.le_refl _) hsz9)); have hr12:=(hgrow6.block r (blk_lt HR9.out) (fun e => HNE.out r e.symm rfl)).trans HR9.out; have q0:=cell_of hr12 (j:=0) rfl; clear hown6 hgrow6 hat6 hlt6 hr12))
      clear r0 r1 r2
      have HXN:=hJQ (fun k => HX12.out.trans ((below_drewN (Below.refl w12.heap.size w12) k).mono HX12.out.size))
      go_quiet (fail)
      go_wp2_with fail
      go_roundw
      case rel => exact ⟨j + 1,es ++ [y],y.n + 1,y.v,hlt,by simp; omega,by go_num,rfl,rfl,by omega,by omega,HF2,(by rw [List.length_append,List.length_singleton,List.flatMap_append,List.flatMap_singleton]; exact HO12),HXN.out _⟩
      case measure => simp [intOf]; omega
     ·have e2 : decide (vw <= y.v) = false:=by simpa using hv
      have HF2 : Hid (follow k0 lv0 l = es ++ follow y.n vw (l.drop (j + 1))):=hJQ (by rw [HF.out,HDR.out]; conv => lhs; unfold follow; rw [if_neg hg,if_neg (fun hh => hv hh.2)])
      go_wp2_with fail
      go_roundw
      case rel => exact ⟨j + 1,es,y.n,vw,hlt,by omega,by go_num,rfl,rfl,by omega,by omega,HF2,HO8,HX8⟩
      case measure => simp [intOf]; omega
    ·have e1 : (y.n == num) = false:=by simpa using he
     have HF2 : Hid (follow k0 lv0 l = es ++ follow num vw (l.drop (j + 1))):=hJQ (by rw [HF.out,HDR.out]; conv => lhs; unfold follow; rw [if_neg hg,if_neg (fun hh => he hh.1)])
     go_wp2_with fail
     go_roundw
     case rel => exact ⟨j + 1,es,num,vw,hlt,by omega,by go_num,rfl,rfl,by omega,by omega,HF2,HO8,HX8⟩
     case measure => simp [intOf]; omega
  ·obtain rfl : j = M:=by omega
   have hji : ¬ (j : Int) < (j : Int):=by omega
   have HFE : Hid (follow k0 lv0 l = es):=hJQ (by rw [HF.out,List.drop_of_length_le (Nat.le_of_eq HRD.out.len)]; unfold follow; rw [List.append_nil])
   go_wp2_with fail
   go_ret
   exact ⟨_,rfl,by rw [HFE.out]; exact HO.out,HX.out⟩
end
open Go.ChangeShapes Go.WideShapes Go.ChangeAt Go.RowKit Go.Proofs.Rk
open Pq (Fld FReads errL bytL fcs)
open Gq (Bz Mine PL PDisk Kp Kl Lg Dk putL enc)

section
variable {w : World} {z : Nat -> Prop} {x st q p : Nat} {lv rp ov : Value} {s : Bool} {G : Lg} {D : Dk} {n : Nd}
theorem inB_iff {n : Nd} {v : Int} : n.inB v = true ↔ n.pr = v /\ n.nm = v:=by
 unfold Nd.inB
 rw [Bool.and_eq_true,decide_eq_true_eq,decide_eq_true_eq]
theorem takeput_no (h : NdW w z x st q p lv rp ov s G D n) {v y : Int} {B : Option Addr} {M d : Nat} {l : List En} {f : Nat} (hin : n.inB v = false) :
  Calls Tryz.prog 132 #[.pointer (some ⟨x,0,none⟩),.agg #[.int .i64 4,.int .i64 v,.int .i64 0,.int .i64 y,.slice B M d]] w fun e w' => e = .returned (.tuple #[]) /\ KN z w w' /\ NdW w' z x st q p lv rp ov s G D (n.takePut f ⟨4,v,0,y,l⟩):=by
 have HE : Hid (n = n.takePut f ⟨4,v,0,y,l⟩):=hJQ (by
  unfold Nd.takePut
  rw [if_neg (fun hh => by rw [inB_iff.2 hh] at hin; cases hin)])
 obtain ⟨w1,hw1⟩ : ∃ xx,xx = w.alloc (.cells #[.int .i64 4,.int .i64 v,.int .i64 0,.int .i64 y,.slice B M d] 69):=⟨_,rfl⟩
 obtain ⟨b,eb⟩ : ∃ xx,xx = w.heap.size:=⟨_,rfl⟩
 have hb1 : Below w.heap.size w w1:=by rw [hw1]; exact box_below w _
 have hk1 : w1.heap[b]? = some (.cells #[.int .i64 4,.int .i64 v,.int .i64 0,.int .i64 y,.slice B M d] 69 (0,0)):=by rw [hw1,eb]; exact new_block w _
 have h1:=h.below hb1
 have b1:=cell_of hk1 (j:=1) rfl
 have b4:=cell_of hk1 (j:=4) rfl
 have HII:=hJQ (nisin_any h1 v)
 rw [hin] at HII
 have HN1:=hJQ h1
 have HK1 : Hid (KN z w w1):=hJQ (KN.of_below hb1)
 have HW1:=hJQ hw1
 have EB:=hJQ eb
 clear h hin hw1 eb hb1 hk1 h1
 go_enter Tryz.func132,Tryz.ntmps132
 go_upto_region 1 with fail
 rw [<- HW1.out,<- EB.out]
 go_wp2_with fail
 refine HII.out.mono ?_
 rintro e w2 ⟨rfl,rfl⟩
 go_wp2_with fail
 go_end0
 exact ⟨rfl,HK1.out,by rw [<- HE.out]; exact HN1.out⟩
set_option maxHeartbeats 4000000 in
theorem takeput_yes (h : NdW w z x st q p lv rp ov s G D n) (ho : n.out.length <= 1000000) (hln : n.log.length <= 150) {v y : Int} {B : Option Addr} {M d : Nat} {l fl : List En} {f : Nat} (hin : n.inB v = true) (hr : Rd ecell 3 w B M l) (hM : M <= 150) (hfl : (follow ((n.log.length : Int) + 1) (lastV n.log) l) = fl)
  (hj : ∀ r,n.rg = some r -> ∀ i,r.js i = none) (hd : D.dead = false) (hwt : D.wait.length <= 30000) (hk : fl.length <= 150) (hb : ∀ e ∈ fl,errL (enF e) = 0 /\ e.b.size <= 200) (hroom : G.bs.length + (enc (fl.map recE)).length <= G.sz * 64)
  (hm : MsOk ⟨5,v,0,(n.log ++ fl).length,[]⟩) (hp : pri v n.many = (f : Int)) :
  Calls Tryz.prog 132 #[.pointer (some ⟨x,0,none⟩),.agg #[.int .i64 4,.int .i64 v,.int .i64 0,.int .i64 y,.slice B M d]] w fun e w' => e = .returned (.tuple #[]) /\ KN z w w' /\ ∃ lv' ov',NdW w' z x st q p lv' rp ov' s (syncD G D fl).1 (syncD G D fl).2 (if (syncD G D fl).2.dead then { n with log:=n.log ++ fl } else n.takePut f ⟨4,v,0,y,l⟩):=by
 obtain ⟨hpv,hnv⟩:=inB_iff.1 hin
 have HTP : Hid (n.takePut f ⟨4,v,0,y,l⟩ = ({ n with log:=n.log ++ fl } : Nd).send f (mAck v (n.log ++ fl).length)):=hJQ (by
  unfold Nd.takePut
  rw [if_pos (show n.pr = v /\ n.nm = v from ⟨hpv,hnv⟩)]
  simp only [hfl])
 obtain ⟨KD,hKD⟩ : ∃ K,syncD G D fl = K:=⟨_,rfl⟩
 obtain ⟨dd,hdd⟩ : ∃ t,KD.2.dead = t:=⟨_,rfl⟩
 obtain ⟨nF,hnF⟩ : ∃ k,(if KD.2.dead then ({ n with log:=n.log ++ fl } : Nd) else n.takePut f ⟨4,v,0,y,l⟩) = k:=⟨_,rfl⟩
 rw [hKD,hnF]
 obtain ⟨w1,hw1⟩ : ∃ xx,xx = w.alloc (.cells #[.int .i64 4,.int .i64 v,.int .i64 0,.int .i64 y,.slice B M d] 69):=⟨_,rfl⟩
 obtain ⟨b,eb⟩ : ∃ xx,xx = w.heap.size:=⟨_,rfl⟩
 have hb1 : Below w.heap.size w w1:=by rw [hw1]; exact box_below w _
 have hk1 : w1.heap[b]? = some (.cells #[.int .i64 4,.int .i64 v,.int .i64 0,.int .i64 y,.slice B M d] 69 (0,0)):=by rw [hw1,eb]; exact new_block w _
 have h1:=h.below hb1
 have b1:=cell_of hk1 (j:=1) rfl
 have b4:=cell_of hk1 (j:=4) rfl
 have HII:=hJQ (nisin_any h1 v)
 rw [hin] at HII
 have HFO:=hJQ (following_any (d:=d) h1 hln (hr.below hb1) hM)
 rw [hfl] at HFO
 have HN1:=hJQ h1
 have HEX : Hid (∀ (W : World) (A2 : Option Addr) (c2 : Nat),Below w1.heap.size w1 W -> W.ownsRow w1.heap.size 45 3 (.slice A2 fl.length c2) fl.length (fl.flatMap ecell) -> Calls Tryz.prog 54 #[.pointer (some ⟨x,0,none⟩),.slice A2 fl.length c2] W fun e w' => e = .returned (.bool (!dd)) /\ KN z W w' /\ ∃ lv',NdW w' z x st q p lv' rp ov s KD.1 KD.2 { n with log:=n.log ++ fl }):=hJQ (fun W A2 c2 hW hrow => by
  have hh:=extend_any (HN1.out.below hW) hj (own_base hrow (Nat.zero_le _)) (fun b e e2 => by
   have h2:=own_ge hrow b e2
   have h3:=(HN1.out.log.lt b e).2
   omega) hd hwt hk hln hb hroom
  rw [hKD,hdd] at hh
  exact hh)
 have HAC : Hid (∀ (W : World) (lv' : Value),NdW W z x st q p lv' rp ov s KD.1 KD.2 { n with log:=n.log ++ fl } -> Calls Tryz.prog 160 #[.pointer (some ⟨x,0,none⟩)] W fun e w' => e = .returned (.tuple #[]) /\ KN z W w' /\ ∃ ov',NdW w' z x st q p lv' rp ov' s KD.1 KD.2 (({ n with log:=n.log ++ fl } : Nd).send f (mAck v (n.log ++ fl).length))):=hJQ (fun W lv' hW => by
  have hh:=ack_any hW ho (by rw [<- hpv] at hm; exact hm) (dst:=f) (by rw [<- hpv] at hp; exact hp)
  have e9 : mAck v (n.log ++ fl).length = mAck n.pr (n.log ++ fl).length:=by rw [hpv]
  rw [e9]
  exact hh)
 have HFD : Hid (dd = true -> ({ n with log:=n.log ++ fl } : Nd) = nF):=hJQ (fun e => by rw [<- hnF,hdd,if_pos e])
 have HFA : Hid (dd = false -> ({ n with log:=n.log ++ fl } : Nd).send f (mAck v (n.log ++ fl).length) = nF):=hJQ (fun e => by rw [<- hnF,hdd,e,if_neg (by decide)]; exact HTP.out.symm)
 have HK1 : Hid (KN z w w1):=hJQ (KN.of_below hb1)
 have HW1:=hJQ hw1
 have EB:=hJQ eb
 have HB1:=hJQ hk1
 clear h ho hln hin hr hM hfl hj hd hwt hk hb hroom hm hp hw1 eb hb1 hk1 h1 hKD hdd hnF hpv hnv HTP
 cases dd with
 | true =>
  have HF:=hJQ (HFD.out rfl)
  clear HFD HFA
  go_enter Tryz.func132,Tryz.ntmps132
  go_upto_region 1 with fail
  rw [<- HW1.out,<- EB.out]
  go_wp2_with fail
  refine HII.out.mono ?_
  rintro e w2 ⟨rfl,rfl⟩
  go_wp2_with fail
  refine HFO.out.mono ?_
  rintro e w2 ⟨u,rfl,hrow,hb2⟩
  obtain ⟨A2,c2,rfl,-,-,-⟩:=own_form hrow
  have HE2:=hJQ (HEX.out w2 A2 c2 hb2 hrow)
  have HK2:=hJQ (HK1.out.trans (KN.of_below hb2))
  clear hrow hb2
  go_wp2_with fail
  refine HE2.out.mono ?_
  rintro e w3 ⟨rfl,hkn3,lv',hn3⟩
  have HN3:=hJQ hn3
  have HK3:=hJQ (HK2.out.trans hkn3)
  clear hkn3 hn3
  go_wp2_with fail
  go_end0
  exact ⟨rfl,HK3.out,_,_,by rw [<- HF.out]; exact HN3.out⟩
 | false =>
  have HF:=hJQ (HFA.out rfl)
  clear HFD HFA
  go_enter Tryz.func132,Tryz.ntmps132
  go_upto_region 1 with fail
  rw [<- HW1.out,<- EB.out]
  go_wp2_with fail
  refine HII.out.mono ?_
  rintro e w2 ⟨rfl,rfl⟩
  go_wp2_with fail
  refine HFO.out.mono ?_
  rintro e w2 ⟨u,rfl,hrow,hb2⟩
  obtain ⟨A2,c2,rfl,-,-,-⟩:=own_form hrow
  have HE2:=hJQ (HEX.out w2 A2 c2 hb2 hrow)
  have HK2:=hJQ (HK1.out.trans (KN.of_below hb2))
  clear hrow hb2
  go_wp2_with fail
  refine HE2.out.mono ?_
  rintro e w3 ⟨rfl,hkn3,lv',hn3⟩
  have HN3:=hJQ hn3
  have HK3:=hJQ (HK2.out.trans hkn3)
  clear hkn3 hn3
  go_wp2_with fail
  refine (HAC.out _ _ HN3.out).mono ?_
  rintro e w4 ⟨rfl,hkn4,ov',hn4⟩
  have HFI:=hJQ (And.intro (HK3.out.trans hkn4) hn4)
  clear hkn4 hn4
  go_wp2_with fail
  go_end0
  exact ⟨rfl,HFI.out.1,_,_,by rw [<- HF.out]; exact HFI.out.2⟩
end
open Go.ChangeShapes Go.WideShapes Go.ChangeAt Go.RowKit Go.Proofs.Rk
open Pq (Fld FReads errL bytL fcs)
open Gq (Bz Mine PL PDisk Kp Kl Lg Dk putL enc)

section
variable {w : World} {z : Nat -> Prop} {x st q p : Nat} {lv rp ov : Value} {s : Bool} {G : Lg} {D : Dk} {n : Nd}
theorem nout_any (h : NdW w z x st q p lv rp ov s G D n) : Calls Tryz.prog 39 #[.pointer (some ⟨x,0,none⟩)] w fun e w' => (e = .returned (if D.dead then .slice none 0 0 else ov)) /\ KN z w w' /\ NdW w' z x st q p lv rp (.slice none 0 0) s G D { n with out:=[] } /\ w'.ownsRow 0 28 3 ov n.out.length (n.out.flatMap (pkt n.self)):=by
 obtain ⟨R,hR⟩ : ∃ R,(if D.dead then Value.slice none 0 0 else ov) = R:=⟨_,rfl⟩
 rw [hR]
 obtain ⟨dd,hdd⟩ : ∃ t,D.dead = t:=⟨_,rfl⟩
 have HF : Hid ((dd = true -> R = .slice none 0 0) /\ (dd = false -> R = ov)):=hJQ ⟨fun e => by rw [<- hR,hdd,e]; rfl,fun e => by rw [<- hR,hdd,e]; rfl⟩
 obtain ⟨A,c,eov,-,-,-⟩:=own_form h.out
 have hx:=h.here
 have x8:=cell_of hx (j:=8) rfl
 have f8:=frozen_of_row w x 8 _ _ hx
 have hk:=seti hx 8 (.slice none 0 0)
 obtain ⟨W2,hW2⟩ : ∃ xx,xx = w.setCell ⟨x,8,none⟩ (.slice none 0 0):=⟨_,rfl⟩
 rw [<- hW2] at hk
 obtain ⟨hn2,hkn2⟩:=h.wr (n':={ n with out:=[] }) (lv':=lv) (rp':=rp) (ov':=.slice none 0 0) hk.1 hk.2 h.log h.rg (World.ownsRow_nil _ _ _ _) h.zlog (Mine.nil _)
 have HO2:=hJQ (own_gb h.out hk.1.gb (own_ne h.out hx (by decide)))
 have HDA:=hJQ (ndead_any hn2)
 rw [hdd] at HDA
 have HN2:=hJQ hn2
 have HK2:=hJQ hkn2
 have HW2:=hJQ hW2
 subst eov
 clear h hx hk hW2 hn2 hkn2 hR hdd
 cases dd with
 | true =>
  have HG:=hJQ (HF.out.1 rfl)
  clear HF
  go_enter Tryz.func39,Tryz.ntmps39
  go_upto_region 3 with fail
  rw [<- HW2.out]
  clear x8 f8
  go_wp2_with fail
  refine HDA.out.mono ?_
  rintro e w5 ⟨rfl,rfl⟩
  go_wp2_with fail
  go_ret
  exact ⟨by rw [HG.out]; rfl,HK2.out,HN2.out,HO2.out⟩
 | false =>
  have HG:=hJQ (HF.out.2 rfl)
  clear HF
  go_enter Tryz.func39,Tryz.ntmps39
  go_upto_region 3 with fail
  rw [<- HW2.out]
  clear x8 f8
  go_wp2_with fail
  refine HDA.out.mono ?_
  rintro e w5 ⟨rfl,rfl⟩
  go_wp2_with fail
  go_ret
  exact ⟨by rw [HG.out]; rfl,HK2.out,HN2.out,HO2.out⟩
end
open Go.ChangeShapes Go.WideShapes Go.ChangeAt Go.RowKit Go.Proofs.Rk
open Pq (Fld FReads errL bytL fcs)
open Gq (Bz Mine PL PDisk Kp Kl Lg Dk putL enc)

theorem foldl_max_ge : ∀ (l : List Int) (a : Int),a <= l.foldl max a /\ ∀ x ∈ l,x <= l.foldl max a
 | [],a => ⟨Int.le_refl a,fun x hx => by cases hx⟩
 | y :: l,a => by
  obtain ⟨h1,h2⟩:=foldl_max_ge l (max a y)
  rw [List.foldl_cons]
  have h3 : a <= max a y:=Int.le_max_left a y
  have h4 : y <= max a y:=Int.le_max_right a y
  refine ⟨by omega,fun x hx => ?_⟩
  rcases List.mem_cons.1 hx with rfl | hx
  ·omega
  ·exact h2 x hx
theorem foldl_max_mem : ∀ (l : List Int) (a : Int),l.foldl max a = a ∨ l.foldl max a ∈ l
 | [],a => .inl rfl
 | y :: l,a => by
  rw [List.foldl_cons]
  rcases foldl_max_mem l (max a y) with h | h
  ·rw [h]
   rcases Int.le_total a y with h2 | h2
   ·rw [Int.max_eq_right h2]; exact .inr (by simp)
   ·rw [Int.max_eq_left h2]; exact .inl rfl
  ·exact .inr (List.mem_cons_of_mem _ h)
theorem hd_held {l : List Int} (h1 : 1 <= l.length) (h7 : l.length <= 7) : Hd l (heldN l):=by
 refine hd_some ⟨h1,h7⟩ ?_
 unfold heldN
 rw [if_pos h7]
 obtain ⟨g1,g2⟩:=foldl_max_ge (l.filter fun a => decide (qn l.length <= cnt l a)) 0
 refine ⟨g1,fun hp => ?_,fun a ha _ hq => ?_⟩
 ·rcases foldl_max_mem (l.filter fun a => decide (qn l.length <= cnt l a)) 0 with h | h
  ·omega
  ·rw [List.mem_filter,decide_eq_true_eq] at h
   exact h
 ·exact g2 a (List.mem_filter.2 ⟨ha,by simpa using hq⟩)
section
variable {w : World} {z : Nat -> Prop} {x st q p : Nat} {lv rp ov : Value} {s : Bool} {G : Lg} {D : Dk} {n : Nd}
def Nd.upto (n : Nd) (m : Ms) (i : Nat) : Nd:={ n with out:=n.out ++ ((List.range i).filter (· ≠ n.self)).map fun k => (k,m) }
theorem upto_self {n : Nd} {m : Ms} : n.upto m (n.self + 1) = n.upto m n.self:=by
 unfold Nd.upto
 rw [List.range_succ,List.filter_append]
 simp
theorem upto_next {n : Nd} {m : Ms} {i : Nat} (h : i ≠ n.self) : n.upto m (i + 1) = (n.upto m i).send i m:=by
 unfold Nd.upto Nd.send
 rw [List.range_succ,List.filter_append]
 simp [h]
theorem upto_len {n : Nd} {m : Ms} {i : Nat} : (n.upto m i).out.length <= n.out.length + i:=by
 unfold Nd.upto
 simp only [List.length_append,List.length_map]
 have:=List.length_filter_le (fun k => decide (k ≠ n.self)) (List.range i)
 rw [List.length_range] at this
 omega
theorem spread_any (h : NdW w z x st q p lv rp ov s G D n) (ho : n.out.length <= 900000) (hm : n.many <= 7) (m : Ms) :
  Calls Tryz.prog 55 #[.pointer (some ⟨x,0,none⟩),.func (.func 58) #[.agg #[.pointer (some ⟨x,0,none⟩),.string (strOfNums (enM m))]] #[]] w fun e w' => e = .returned (.tuple #[]) /\ KN z w w' /\ ∃ ov',NdW w' z x st q p lv rp ov' s G D (n.spread m):=by
 have h0:=toothers_any (w:=w) (x:=x) (self:=n.self) (many:=n.many) (F:=58) (v:=.agg #[.pointer (some ⟨x,0,none⟩),.string (strOfNums (enM m))]) (I:=fun i W => KN z w W /\ ∃ ov',NdW W z x st q p lv rp ov' s G D (n.upto m i)) hm (fun _ _ => rfl)
  ⟨KN.refl _ _,ov,by
             have e : n.upto m 0 = n:=by (unfold Nd.upto; simp)
             rw [e]; exact h⟩
  (fun i W hI => by obtain ⟨_,ov',hI⟩:=hI; exact ⟨cell_of hI.here (j:=0) rfl,cell_of hI.here (j:=1) rfl⟩)
  (fun W hI => by rw [upto_self]; exact hI)
  (fun i W hi hne hI => by
   obtain ⟨hk,ov',hI⟩:=hI
   refine (send_any hI (by have:=upto_len (n:=n) (m:=m) (i:=i); omega) m i).mono ?_
   rintro e W' ⟨rfl,hk2,ov2,hn2⟩
   exact ⟨rfl,hk.trans hk2,ov2,by rw [upto_next hne]; exact hn2⟩)
 exact h0
theorem run_acks (W : World) (rb many : Nat) (hm : many <= 7) : (Instr.sliceAt 109 (.pointer (some ⟨rb,16,none⟩)) none (some (.int .i64 (many : Int))) none).run Tryz.prog W = .ok (.slice (some ⟨rb,16,none⟩) many 7) W:=by
 have ht : Tryz.prog.underlying 109 = some (.array (Tryz.prog.arrayLen 109) (Tryz.prog.elem 109)):=by kernel_rfl
 have hl : Tryz.prog.arrayLen 109 = 7:=by kernel_rfl
 have he : Tryz.prog.elem 109 = 3:=by kernel_rfl
 rw [run_sliceAt_array_h W 109 ⟨rb,16,none⟩ ht .i64 (many : Int) (by omega) (by rw [hl]; omega)]
 simp [slicedAt,go_sem,Go.WideShapes.add_plain]
set_option maxHeartbeats 4000000 in
theorem look_any {r : Rg} (h : NdW w z x st q p lv rp ov s G D n) (hr : n.rg = some r) (ho : n.out.length <= 900000) (h1 : 1 <= n.many) (h7 : n.many <= 7) (hm : n.com < heldN (acksL r n.many) -> MsOk ⟨6,n.pr,0,heldN (acksL r n.many),[]⟩) :
  Calls Tryz.prog 59 #[.pointer (some ⟨x,0,none⟩)] w fun e w' => e = .returned (.tuple #[]) /\ KN z w w' /\ ∃ ov',NdW w' z x st q p lv rp ov' s G D (n.look r):=by
 have hrg:=h.rg
 rw [hr] at hrg
 obtain ⟨rb,jp,rfl,hrb,-,-⟩:=hrg
 obtain ⟨wd,hwd⟩ : ∃ xx,xx = w.drew:=⟨_,rfl⟩
 have hbd : Below w.heap.size w wd:=by rw [hwd]; exact (Below.refl _ _).drew
 have hlen : (acksL r n.many).length = n.many:=by simp [acksL]
 have HHD : Hid (Hd (acksL r n.many) (heldN (acksL r n.many))):=hJQ (hd_held (by omega) (by omega))
 have hrd : Rd icell 1 wd (some ⟨rb,16,none⟩) n.many (acksL r n.many):=⟨hlen,fun _ => ⟨rb,16,rfl,fun i hi j v hv => by
  rw [hlen] at hi
  have hgi : (acksL r n.many)[i] = r.ak i:=by simp [acksL]
  rw [hgi] at hv
  match j,hv with
  | 0,hv =>
   simp only [icell,List.getElem?_cons_zero,Option.some.injEq] at hv
   subst hv
   have:=cell_of (blk_below hrb hbd) (j:=16 + i) (by rw [List.getElem?_toArray]; exact rgc_ak jp r i (by omega))
   simpa using this⟩⟩
 have HHE:=hJQ (held_any (c:=7) hrd (by omega))
 have hsl:=fun W => run_acks W rb n.many h7
 have HS : Hid (∀ V : World,Below w.heap.size w V -> V.cell? ⟨x,7,none⟩ = some (.pointer (some ⟨rb,0,none⟩)) /\ V.cell? ⟨x,1,none⟩ = some (.int .i64 (n.many : Int))):=hJQ (fun V hV => ⟨cell_of (blk_below h.here hV) (j:=7) rfl,cell_of (blk_below h.here hV) (j:=1) rfl⟩)
 have hHeld0:=HS.out w (Below.refl _ _)
 have HSD:=hJQ (HS.out wd hbd)
 have HWD:=hJQ hwd
 have HBD:=hJQ hbd
 have HH:=hJQ h
 have HO:=hJQ ho
 have HMA:=hJQ h7
 have HMM:=hJQ hm
 clear h hr ho h1 h7 hm hrb hwd hbd hlen hrd
 go_enter Tryz.func59,Tryz.ntmps59
 go_upto_region 0 with fail
 refine wp_region_held_drew (S:=fun V => V.cell? ⟨x,7,none⟩ = some (.pointer (some ⟨rb,0,none⟩)) /\ V.cell? ⟨x,1,none⟩ = some (.int .i64 (n.many : Int))) (by kernel_rfl) hHeld0 (fun hHeld => ?_)
 clear hHeld hHeld0
 have hHeld:=HSD.out
 rw [<- HWD.out]
 refine tk 0 3 (.pointer (some ⟨x,0,none⟩)) hHeld ?_
 refine tk 1 4 (.pointer (some ⟨x,0,none⟩)) hHeld ?_
 refine tk 2 5 (.pointer (some ⟨x,7,none⟩)) hHeld ?_
 refine tm 3 6 (.pointer (some ⟨rb,0,none⟩)) hHeld ?_
 refine tk 4 7 (.pointer (some ⟨rb,0,none⟩)) hHeld ?_
 simp only [lz,ls]
 refine tk 5 8 (.pointer (some ⟨rb,16,none⟩)) hHeld ?_
 refine tk 6 9 (.pointer (some ⟨x,0,none⟩)) hHeld ?_
 refine tk 7 10 (.pointer (some ⟨x,0,none⟩)) hHeld ?_
 refine tk 8 11 (.pointer (some ⟨x,1,none⟩)) hHeld ?_
 refine tm 9 12 (.int .i64 (n.many : Int)) hHeld ?_
 simp only [lz,ls]
 refine tk 10 13 (.slice (some ⟨rb,16,none⟩) n.many 7) hHeld ?_
 simp only [lz,ls]
 refine r1 11 (fun K hK => ?_) rfl
 go_simp
 refine HHE.out.mono ?_
 rintro e w3 ⟨r0,hd0,rfl,hb3⟩
 obtain rfl:=hd_one hd0 HHD.out
 have HB3:=hJQ (HBD.out.trans (hb3.mono HBD.out.size))
 have hs3:=HS.out w3 HB3.out
 clear hd0 hb3
 go_wp2_with fail
 refine hK.out _ _ (hs3) (fun hHeld => ?_)
 clear hK K
 try simp only [Act.put,lp,lz,ls]
 refine tk 12 2 (.int .i64 (heldN (acksL r n.many))) hHeld ?_
 simp only [lz,ls]
 refine wpAnyH_done (by kernel_rfl) ?_ _
 clear hHeld hs3
 obtain ⟨H,hH⟩ : ∃ H,heldN (acksL r n.many) = H:=⟨_,rfl⟩
 have HHH:=hJQ hH
 rw [hH]
 clear hH
 have hn3:=HH.out.below HB3.out
 have x6:=cell_of hn3.here (j:=6) rfl
 have f6:=frozen_of_row w3 x 6 _ _ hn3.here
 have HN3:=hJQ hn3
 clear hn3
 by_cases hc : n.com < H
 ·have hcd : decide (n.com < H) = true:=by simpa using hc
  have hk:=seti HN3.out.here 6 (.int .i64 H)
  obtain ⟨W2,hW2⟩ : ∃ xx,xx = w3.setCell ⟨x,6,none⟩ (.int .i64 H):=⟨_,rfl⟩
  rw [<- hW2] at hk
  obtain ⟨hn2,hkn2⟩:=HN3.out.wr (n':={ n with com:=H }) (lv':=lv) (rp':=.pointer (some ⟨rb,0,none⟩)) (ov':=ov) hk.1 hk.2 HN3.out.log HN3.out.rg HN3.out.out HN3.out.zlog HN3.out.zout
  have HLK : Hid (({ n with com:=H } : Nd).spread (mTell n.pr H) = n.look r):=hJQ (by
   unfold Nd.look
   rw [HHH.out,if_pos hc])
  have HMS : Hid (MsOk ⟨6,n.pr,0,H,[]⟩):=hJQ (by have h9:=HMM.out (by rw [HHH.out]; exact hc); rw [HHH.out] at h9; exact h9)
  have HTE:=hJQ (ntell_any hn2)
  have HN2:=hJQ hn2
  have HK2:=hJQ ((KN.of_below HB3.out).trans hkn2)
  have HW2:=hJQ hW2
  clear hk hW2 hn2 hkn2 hc
  go_upto_region 3 with fail
  rw [<- HW2.out]
  clear x6 f6
  go_wp2_with fail
  refine HTE.out.mono ?_
  rintro e w5 ⟨rfl,hb5⟩
  have HLE:=hJQ (letter_any (w:=w5) (x:=x) (A:=none) (N:=0) (c:=0) (l:=[]) (k:=6) (v:=n.pr) (m:=0) (y:=H) (Rd.nil ecell 3 w5 none) (fun _ => rfl) (fun _ he => by cases he) HMS.out (by omega))
  have HB5:=hJQ hb5
  clear hb5
  go_wp2_with fail
  refine HLE.out.mono ?_
  rintro e w6 ⟨rfl,hb6⟩
  have HB6:=hJQ (HB5.out.trans (hb6.mono HB5.out.size))
  have HSP:=hJQ (spread_any (HN2.out.below HB6.out) HO.out HMA.out (mTell n.pr H))
  have hmf : ∀ (fn : Fn) (first cap : Array Value) (w : World),(Instr.makeFunc fn first cap).run Tryz.prog w = .ok (.func fn first cap) w:=fun _ _ _ _ => rfl
  clear hb6
  go_wp2_with fail
  refine HSP.out.mono ?_
  rintro e w7 ⟨rfl,hkn7,ov',hn7⟩
  have HFI:=hJQ (And.intro ((HK2.out.trans (KN.of_below HB6.out)).trans hkn7) hn7)
  clear hkn7 hn7
  go_wp2_with fail
  go_end0
  exact ⟨rfl,HFI.out.1,_,by rw [<- HLK.out]; exact HFI.out.2⟩
 ·have hcd : decide (n.com < H) = false:=by simpa using hc
  have HLK : Hid (n = n.look r):=hJQ (by
   unfold Nd.look
   rw [HHH.out,if_neg hc])
  have HKB : Hid (KN z w w3):=hJQ (KN.of_below HB3.out)
  clear hc
  go_wp2_with fail
  go_end0
  exact ⟨rfl,HKB.out,_,by rw [<- HLK.out]; exact HN3.out⟩
end
open Go.ChangeShapes Go.WideShapes Go.ChangeAt Go.RowKit Go.Proofs.Rk
open Pq (Fld FReads errL bytL fcs)
open Gq (Bz Mine PL PDisk Kp Kl Lg Dk putL enc)

theorem set_range {n i : Nat} (f g : Nat -> Value) (h : ∀ k,k ≠ i -> g k = f k) : ((List.range n).map f).set i (g i) = (List.range n).map g:=by
 refine List.ext_getElem (by simp) (fun k h1 h2 => ?_)
 rw [List.getElem_set]
 simp only [List.getElem_map,List.getElem_range]
 split
 ·rename_i e; subst e; rfl
 ·rename_i e; exact (h k (fun e2 => e e2.symm)).symm
theorem rgc_set_ak (jp : Nat -> Value) (r : Rg) (i : Nat) (hi : i < 7) (v : Int) : (rgc jp r).set (16 + i) (.int .i64 v) = rgc jp { r with ak:=fun k => if k = i then v else r.ak k }:=by
 unfold rgc
 rw [List.set_append_right _ _ (by simp; omega),List.set_append_right _ _ (by simp; omega),List.set_append_right _ _ (by simp; omega)]
 have e : 16 + i - ((List.range 7).map jp).length - [Value.bool r.st,.int .i64 (r.bg : Int)].length - ((List.range 7).map (fun i => Value.bool (r.he i))).length = i:=by simp; omega
 rw [e]
 have h2:=set_range (n:=7) (i:=i) (fun k => .int .i64 (r.ak k)) (fun k => .int .i64 (if k = i then v else r.ak k)) (fun k hk => by simp [hk])
 simp only [if_true] at h2
 rw [h2]
theorem rgc_set_he (jp : Nat -> Value) (r : Rg) (i : Nat) (hi : i < 7) (v : Bool) : (rgc jp r).set (9 + i) (.bool v) = rgc jp { r with he:=fun k => if k = i then v else r.he k }:=by
 unfold rgc
 rw [List.set_append_right _ _ (by simp; omega),List.set_append_right _ _ (by simp; omega),List.set_append_left _ _ (by simp; omega)]
 have e : 9 + i - ((List.range 7).map jp).length - [Value.bool r.st,.int .i64 (r.bg : Int)].length = i:=by simp; omega
 rw [e]
 have h2:=set_range (n:=7) (i:=i) (fun k => .bool (r.he k)) (fun k => .bool (if k = i then v else r.he k)) (fun k hk => by simp [hk])
 simp only [if_true] at h2
 rw [h2]
theorem rgc_set_js (jp : Nat -> Value) (r : Rg) (i : Nat) (hi : i < 7) (v : Value) (r' : Rg) (h1 : r'.st = r.st) (h2 : r'.bg = r.bg) (h3 : r'.he = r.he) (h4 : r'.ak = r.ak) : (rgc jp r).set i v = rgc (fun k => if k = i then v else jp k) r':=by
 unfold rgc
 rw [List.set_append_left _ _ (by simp; omega),h1,h2,h3,h4]
 have h5:=set_range (n:=7) (i:=i) jp (fun k => if k = i then v else jp k) (fun k hk => by simp [hk])
 simp only [if_true] at h5
 rw [h5]
section
variable {w w' : World} {z : Nat -> Prop} {x st q p : Nat} {lv ov : Value} {s : Bool} {G : Lg} {D : Dk} {n : Nd}
theorem NdW.rgw {rb : Nat} {rp : Value} (h : NdW w z x st q p lv rp ov s G D n) (hrp : rp = .pointer (some ⟨rb,0,none⟩)) (hW : Wr rb w w') {cs : Array Value} (hb : w.heap[rb]? = some (.cells cs 111 (0,0))) (hz : ¬ z rb) {jp' : Nat -> Value} {r' : Rg} (hb' : w'.heap[rb]? = some (.cells (rgc jp' r').toArray 111 (0,0))) (hj : ∀ i,i < 7 -> JnW w z (jp' i) (r'.js i)) :
  NdW w' z x st q p lv rp ov s G D { n with rg:=some r' } /\ KN z w w':=by
 have hne : ∀ (k : Nat) (cs : Array Value) (t : TypeId),w.heap[k]? = some (.cells cs t (0,0)) -> t ≠ 111 -> w'.heap[k]? = some (.cells cs t (0,0)):=fun k cs t hk ht => hW.blk (fun e => by
  subst e
  rw [hb] at hk
  injection hk with hk
  injection hk with _ e2 _
  exact ht e2.symm) hk
 have hrow : ∀ (e sz m : Nat) (v : Value) (xs : List Value),e ≠ 111 -> w.ownsRow 0 e sz v m xs -> w'.ownsRow 0 e sz v m xs:=fun e sz m v xs he ho => Gq.own_tag ho (fun k cs hk => hne k cs e hk he)
 obtain ⟨bv,hp⟩:=h.pl
 exact ⟨⟨hne _ _ _ h.here (by decide),hrow _ _ _ _ _ (by decide) h.log,hne _ _ _ h.store (by decide),hrow _ _ _ _ _ (by decide) h.out,⟨bv,pl_wr hp hb far_reign hW⟩,
  ⟨rb,jp',hrp,hb',hz,fun i hi => (hj i hi).mono (fun k cs hk => hne k cs _ hk (by decide)) (fun lv l ho => hrow _ _ _ _ _ (by decide) ho)⟩,h.zx,h.zst,h.zlog,h.zout⟩,KN.of_wr hW hb hz near_reign⟩
end
end Go.Proofs.YtlppinfjdnhlbaaGreatDoor
