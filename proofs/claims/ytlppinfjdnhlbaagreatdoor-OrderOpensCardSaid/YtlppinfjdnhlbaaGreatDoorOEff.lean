/-
 A node is to lead a view. Condition: the node is right,and its disk is alive.
 A node that leads sends again what others may have missed. Condition: it is right,and its disk is alive.
 An ack comes to a node. Condition: the node is right,the message one.
 A text is offered to a node. Condition: the node is right,its disk is alive,and has room.
 What a call does to a node's disk and ledger,as one relation: nothing,a keep,a Sync of more entries,or two of these. Where the disk is alive and not armed it has behind it just what the node has. No condition.
-/
import Derived.Test.YtlppinfjdnhlbaaGreatDoorHd
import Derived.Test.YtlppinfjdnhlbaaGreatDoorOTJoin
import Derived.Test.YtlppinfjdnhlbaaGreatDoorKRight2
import Derived.Test.YtlppinfjdnhlbaaGreatDoorORg
import Derived.Test.YtlppinfjdnhlbaaGreatDoorOOk
import Derived.Test.YtlppinfjdnhlbaaGreatDoorOAck
namespace Go.Proofs.YtlppinfjdnhlbaaGreatDoor
set_option maxRecDepth 100000
open Go.ChangeShapes Go.WideShapes Go.ChangeAt Go.RowKit Go.Proofs.Rk
open Pq (Fld FReads errL bytL fcs)
open Gq (Bz Mine PL PDisk Kp Kl Lg Dk putL enc)

section
variable {w : World} {z : Nat -> Prop} {x st q p : Nat} {lv rp ov : Value} {s : Bool} {G : Lg} {D : Dk} {n : Nd}
theorem beg_self {s s' : Bool} {G G' : Lg} {D D' : Dk} {n n' : Nd} {r : Rg} (h : BegOut s G D n r s' G' D' n') : n'.self = n.self:=by
 rcases h with ⟨_,_,_,_,rfl⟩ | ⟨hq,_,_,_,rfl⟩
 ·rfl
 ·split
  ·rfl
  ·unfold Nd.begin
   rw [if_neg hq]
   simp only []
   unfold Nd.look
   split <;> rfl
def LdOut (s : Bool) (G : Lg) (D : Dk) (n : Nd) (v : Int) (s' : Bool) (G' : Lg) (D' : Dk) (n' : Nd) : Prop :=
 (¬ n.leadOk v /\ n.lead v = n /\ s' = s /\ G' = G /\ D' = D /\ n' = n) ∨
 (n.leadOk v /\ (keepD G (signD s D) (Ls.recs ⟨v,n.nm,n.log⟩)).2.dead = true /\ s' = true /\ G' = (keepD G (signD s D) (Ls.recs ⟨v,n.nm,n.log⟩)).1 /\ D' = (keepD G (signD s D) (Ls.recs ⟨v,n.nm,n.log⟩)).2 /\ n' = ({ n with pr:=v,rg:=some noRg } : Nd)) ∨
 (n.leadOk v /\ (keepD G (signD s D) (Ls.recs ⟨v,n.nm,n.log⟩)).2.dead = false /\ AskOk ({ n with pr:=v,rg:=some noRg } : Nd) noRg /\ JOk v (n.nm,n.log) /\ n.lead v = (({ n with pr:=v,rg:=some (noRg.join n.self n.nm n.log) } : Nd).spread (mAsk v)).begin (noRg.join n.self n.nm n.log) /\ BegOut true (keepD G (signD s D) (Ls.recs ⟨v,n.nm,n.log⟩)).1 (keepD G (signD s D) (Ls.recs ⟨v,n.nm,n.log⟩)).2 (({ n with pr:=v,rg:=some (noRg.join n.self n.nm n.log) } : Nd).spread (mAsk v)) (noRg.join n.self n.nm n.log) s' G' D' n')
set_option maxHeartbeats 16000000 in
theorem lead_any (h : NdW w z x st q p lv rp ov s G D n) (ho : n.out.length <= 600000) (hk : NdOk n) (hd : D.dead = false) {v : Int} (hsz : G.sz = 548) (hwt : D.wait.length <= 20000) (hKD : n.leadOk v -> (keepD G (signD s D) (Ls.recs ⟨v,n.nm,n.log⟩)).2.dead = false -> (keepD G (signD s D) (Ls.recs ⟨v,n.nm,n.log⟩)).1.sz = 548 /\ (keepD G (signD s D) (Ls.recs ⟨v,n.nm,n.log⟩)).2.wait.length <= 20000) :
  Calls Tryz.prog 41 #[.pointer (some ⟨x,0,none⟩),.int .i64 v] w fun e w' => e = .returned (.bool (decide (n.leadOk v))) /\ KN z w w' /\ ∃ lv' rp' ov' s' G' D' n',NdW w' z x st q p lv' rp' ov' s' G' D' n' /\ LdOut s G D n v s' G' D' n':=by
 obtain ⟨A,c,elv,-,-,-⟩:=own_form h.log
 subst elv
 obtain ⟨wd,hwd⟩ : ∃ xx,xx = w.drew:=⟨_,rfl⟩
 have hbd : Below w.heap.size w wd:=by rw [hwd]; exact (Below.refl _ _).drew
 have hnd:=h.below hbd
 have HDA:=hJQ (ndead_any hnd)
 rw [hd] at HDA
 obtain ⟨pp,hpp⟩ : ∃ k,pri v n.many = k:=⟨_,rfl⟩
 have HPR:=hJQ (primary_any v n.many wd)
 rw [hpp] at HPR
 have hH1 : w.cell? ⟨x,0,none⟩ = some (.int .i64 (n.self : Int)) /\ w.cell? ⟨x,1,none⟩ = some (.int .i64 (n.many : Int)) /\ w.cell? ⟨x,2,none⟩ = some (.int .i64 n.pr):=⟨cell_of h.here (j:=0) rfl,cell_of h.here (j:=1) rfl,cell_of h.here (j:=2) rfl⟩
 have HD1 : Hid (wd.cell? ⟨x,0,none⟩ = some (.int .i64 (n.self : Int)) /\ wd.cell? ⟨x,1,none⟩ = some (.int .i64 (n.many : Int)) /\ wd.cell? ⟨x,2,none⟩ = some (.int .i64 n.pr)):=hJQ ⟨cell_of hnd.here (j:=0) rfl,cell_of hnd.here (j:=1) rfl,cell_of hnd.here (j:=2) rfl⟩
 have HWD:=hJQ hwd
 have HND:=hJQ hnd
 have HKN : Hid (KN z w wd):=hJQ (KN.of_below hbd)
 by_cases h1 : v <= n.pr
 ·have e1 : decide (v <= n.pr) = true:=by simpa using h1
  have hno : ¬ n.leadOk v:=fun hc => by have:=hc.1; omega
  have HE : Hid (¬ n.leadOk v /\ n.lead v = n):=hJQ ⟨hno,by unfold Nd.lead; rw [if_neg hno]⟩
  have HEB : Hid ((Ending.returned (.bool false)) = .returned (.bool (decide (n.leadOk v)))):=hJQ (by simp [hno])
  clear h1 hno
  clear h ho hk hd hsz hwt hKD hwd hbd hnd hpp
  go_enter Tryz.func41,Tryz.ntmps41
  go_upto_region 1 with fail
  refine wp_region_held_drew (S:=fun V => V.cell? ⟨x,0,none⟩ = some (.int .i64 (n.self : Int)) /\ V.cell? ⟨x,1,none⟩ = some (.int .i64 (n.many : Int)) /\ V.cell? ⟨x,2,none⟩ = some (.int .i64 n.pr)) (by kernel_rfl) hH1 (fun hHeld => ?_)
  clear hHeld hH1
  have hHeld:=HD1.out
  rw [<- HWD.out]
  refine tk 0 5 (.pointer (some ⟨x,0,none⟩)) hHeld ?_
  simp only [lz,ls]
  refine r1 1 (fun K hK => ?_) rfl
  go_simp
  refine HDA.out.mono ?_
  rintro e w6 ⟨rfl,rfl⟩
  go_wp2_with fail
  refine hK.out _ _ (hHeld) (fun hHeld => ?_)
  clear hK K
  try simp only [Act.put,lp,lz,ls]
  refine tk 2 7 (.bool false) hHeld ?_
  refine tk 3 8 (.int .i64 v) hHeld ?_
  refine tk 4 9 (.pointer (some ⟨x,0,none⟩)) hHeld ?_
  refine tk 5 10 (.pointer (some ⟨x,0,none⟩)) hHeld ?_
  refine tk 6 11 (.pointer (some ⟨x,2,none⟩)) hHeld ?_
  simp only [lz,ls]
  refine tk 7 12 (.pointer (some ⟨x,2,none⟩)) hHeld ?_
  refine tm 8 13 (.int .i64 n.pr) hHeld ?_
  refine tk 9 14 (.bool true) hHeld ?_
  refine tk 10 15 (.bool true) hHeld ?_
  refine tk 11 16 (.bool true) hHeld ?_
  simp only [lz,ls]
  refine tu 12 17 hHeld ?_
  refine tu 13 18 hHeld ?_
  refine tu 14 19 hHeld ?_
  refine tu 15 20 hHeld ?_
  refine tu 16 21 hHeld ?_
  simp only [lz,ls]
  refine tu 17 22 hHeld ?_
  refine tu 18 23 hHeld ?_
  refine tu 19 24 hHeld ?_
  refine tu 20 25 hHeld ?_
  refine tu 21 26 hHeld ?_
  simp only [lz,ls]
  refine tu 22 27 hHeld ?_
  refine tk 23 28 (.bool true) hHeld ?_
  simp only [lz,ls]
  refine wpAnyH_done (by kernel_rfl) ?_ _
  clear hHeld
  go_wp2_with fail
  go_ret
  exact ⟨HEB.out,HKN.out,_,_,_,_,_,_,_,HND.out,.inl ⟨HE.out.1,HE.out.2,rfl,rfl,rfl,rfl⟩⟩
 ·have e1 : decide (v <= n.pr) = false:=by simpa using h1
  by_cases h2 : pp = (n.self : Int)
  ·have e2 : (pp != (n.self : Int)) = false:=by simpa using h2
   have hyes : n.leadOk v:=⟨by omega,by rw [hpp]; exact h2⟩
   have hvb:=(pri_is (show pri v n.many = (n.self : Int) by rw [hpp]; exact h2)).2
   have h3 : n.nm <= n.pr:=hk.ls.np
   have h4 : (0 : Int) <= n.nm:=hk.ls.n0
   have hLs : LsOk ⟨v,n.nm,n.log⟩:=⟨hk.ls.n0,by show n.nm <= v; omega,hvb.2,hk.ls.log,hk.ls.last⟩
   have hjok : JOk v (n.nm,n.log):=self_jok hk (by omega)
   have hask : AskOk ({ n with pr:=v,rg:=some noRg } : Nd) noRg:=⟨hyes.2,by show 1 <= v; omega,rfl,by show n.nm < v; omega,fun i j e => by cases e⟩
   obtain ⟨w2,hw2⟩ : ∃ xx,xx = wd.alloc (.cells #[.pointer none,.pointer none,.pointer none,.pointer none,.pointer none,.pointer none,.pointer none,.bool false,.int .i64 0,.bool false,.bool false,.bool false,.bool false,.bool false,.bool false,.bool false,.int .i64 0,.int .i64 0,.int .i64 0,.int .i64 0,.int .i64 0,.int .i64 0,.int .i64 0] 111):=⟨_,rfl⟩
   obtain ⟨rb,erb⟩ : ∃ xx,xx = wd.heap.size:=⟨_,rfl⟩
   have hb2 : Below wd.heap.size wd w2:=by rw [hw2]; exact box_below wd _
   have hk2 : w2.heap[rb]? = some (.cells #[.pointer none,.pointer none,.pointer none,.pointer none,.pointer none,.pointer none,.pointer none,.bool false,.int .i64 0,.bool false,.bool false,.bool false,.bool false,.bool false,.bool false,.bool false,.int .i64 0,.int .i64 0,.int .i64 0,.int .i64 0,.int .i64 0,.int .i64 0,.int .i64 0] 111 (0,0)):=by rw [hw2,erb]; exact new_block wd _
   have hn2:=hnd.below hb2
   have hrbz : ¬ z rb:=fun hz => by have:=hnd.zl _ hz; omega
   have hpo:=promise_any hn2 (v:=v) (rp':=.pointer (some ⟨rb,0,none⟩)) (rg':=some noRg) ⟨rb,fun _ => .pointer none,rfl,hk2,hrbz,fun _ _ => rfl⟩ hLs hsz hwt
   have HNK : Hid (NdOk { (({ n with pr:=v,rg:=some noRg } : Nd)) with rg:=none }):=hJQ ⟨hk.self,hk.many,hLs,hk.c0,hk.c1,fun _ e => by cases e⟩
   have hbr : ∀ (W : World),(Instr.build 111 #[]).run Tryz.prog W = .ok (.agg #[.pointer none,.pointer none,.pointer none,.pointer none,.pointer none,.pointer none,.pointer none,.bool false,.int .i64 0,.bool false,.bool false,.bool false,.bool false,.bool false,.bool false,.bool false,.int .i64 0,.int .i64 0,.int .i64 0,.int .i64 0,.int .i64 0,.int .i64 0,.int .i64 0]) W:=fun W => run_build W _ _ _ (by kernel_rfl)
   have HEB : Hid ((Ending.returned (.bool true)) = .returned (.bool (decide (n.leadOk v)))):=hJQ (by simp [hyes])
   have HMS : Hid (MsOk (mAsk v)):=hJQ (ms_ask (by omega) hvb.2)
   obtain ⟨K,hK⟩ : ∃ k,(keepD G (signD s D) (Ls.recs ⟨v,n.nm,n.log⟩)) = k:=⟨_,rfl⟩
   replace hKD:=hKD hyes
   rw [hK] at hpo hKD
   have HK:=hJQ hK
   have HYES:=hJQ hyes
   have HJOK:=hJQ hjok
   have HASK:=hJQ hask
   have HLEAD : Hid (n.lead v = (({ n with pr:=v,rg:=some (noRg.join n.self n.nm n.log) } : Nd).spread (mAsk v)).begin (noRg.join n.self n.nm n.log)):=hJQ (by unfold Nd.lead; rw [if_pos hyes])
   have HW2:=hJQ hw2
   have ERB:=hJQ erb
   have HK2 : Hid (KN z w w2):=hJQ (HKN.out.trans (KN.of_below hb2))
   obtain ⟨dd,hdd⟩ : ∃ k,K.2.dead = k:=⟨_,rfl⟩
   rw [hdd] at hpo hKD
   have HDD:=hJQ hdd
   have HPO:=hJQ hpo
   have HKD:=hJQ hKD
   have HO:=hJQ ho
   have HM7:=hJQ hk.many
   have HSE:=hJQ hk.self
   have hmf : ∀ (fn : Fn) (first cap : Array Value) (w : World),(Instr.makeFunc fn first cap).run Tryz.prog w = .ok (.func fn first cap) w:=fun _ _ _ _ => rfl
   clear h1 h2 hyes hvb h3 h4 hLs hjok hask hw2 erb hb2 hk2 hn2 hrbz hpo hK hdd
   clear h ho hk hd hsz hwt hKD hwd hbd hnd hpp
   cases dd with
   | true =>
    have HLO : Hid (LdOut s G D n v true K.1 K.2 ({ n with pr:=v,rg:=some noRg } : Nd)):=hJQ (.inr (.inl ⟨HYES.out,by rw [HK.out]; exact HDD.out,rfl,by rw [HK.out],by rw [HK.out],rfl⟩))
    clear hmf HKD
    go_enter Tryz.func41,Tryz.ntmps41
    go_upto_region 1 with fail
    refine wp_region_held_drew (S:=fun V => V.cell? ⟨x,0,none⟩ = some (.int .i64 (n.self : Int)) /\ V.cell? ⟨x,1,none⟩ = some (.int .i64 (n.many : Int)) /\ V.cell? ⟨x,2,none⟩ = some (.int .i64 n.pr)) (by kernel_rfl) hH1 (fun hHeld => ?_)
    clear hHeld hH1
    have hHeld:=HD1.out
    rw [<- HWD.out]
    refine tk 0 5 (.pointer (some ⟨x,0,none⟩)) hHeld ?_
    simp only [lz,ls]
    refine r1 1 (fun K hK => ?_) rfl
    go_simp
    refine HDA.out.mono ?_
    rintro e w6 ⟨rfl,rfl⟩
    go_wp2_with fail
    refine hK.out _ _ (hHeld) (fun hHeld => ?_)
    clear hK K
    try simp only [Act.put,lp,lz,ls]
    refine tk 2 7 (.bool false) hHeld ?_
    refine tk 3 8 (.int .i64 v) hHeld ?_
    refine tk 4 9 (.pointer (some ⟨x,0,none⟩)) hHeld ?_
    refine tk 5 10 (.pointer (some ⟨x,0,none⟩)) hHeld ?_
    refine tk 6 11 (.pointer (some ⟨x,2,none⟩)) hHeld ?_
    simp only [lz,ls]
    refine tk 7 12 (.pointer (some ⟨x,2,none⟩)) hHeld ?_
    refine tm 8 13 (.int .i64 n.pr) hHeld ?_
    refine tk 9 14 (.bool false) hHeld ?_
    refine tk 10 15 (.bool false) hHeld ?_
    refine tk 11 16 (.bool false) hHeld ?_
    simp only [lz,ls]
    refine tk 12 17 (.int .i64 v) hHeld ?_
    refine tk 13 18 (.pointer (some ⟨x,0,none⟩)) hHeld ?_
    refine tk 14 19 (.pointer (some ⟨x,0,none⟩)) hHeld ?_
    refine tk 15 20 (.pointer (some ⟨x,1,none⟩)) hHeld ?_
    refine tm 16 21 (.int .i64 (n.many : Int)) hHeld ?_
    simp only [lz,ls]
    refine tk 18 23 (.pointer (some ⟨x,0,none⟩)) hHeld ?_
    refine tk 19 24 (.pointer (some ⟨x,0,none⟩)) hHeld ?_
    refine tk 20 25 (.pointer (some ⟨x,0,none⟩)) hHeld ?_
    refine tm 21 26 (.int .i64 (n.self : Int)) hHeld ?_
    simp only [lz,ls]
    refine r1 17 (fun K hK => ?_) rfl
    go_simp
    refine HPR.out.mono ?_
    rintro e w6 ⟨rfl,rfl⟩
    go_wp2_with fail
    refine hK.out _ _ (hHeld) (fun hHeld => ?_)
    clear hK K
    try simp only [Act.put,lp,lz,ls]
    refine tk 22 27 (.bool false) hHeld ?_
    refine tk 23 28 (.bool false) hHeld ?_
    simp only [lz,ls]
    refine wpAnyH_done (by kernel_rfl) ?_ _
    clear hHeld
    go_upto_region 3 with fail
    clear e1 e2
    go_wp2_with fail
    rw [<- HW2.out,<- ERB.out]
    refine HPO.out.mono ?_
    rintro e w3 ⟨rfl,hkn3,hn3⟩
    have HN3:=hJQ hn3
    have HK3:=hJQ (HK2.out.trans hkn3)
    clear hkn3 hn3 hbr
    go_wp2_with fail
    go_ret
    exact ⟨HEB.out,HK3.out,_,_,_,_,_,_,_,HN3.out,HLO.out⟩
   | false =>
    have HLO : Hid (∀ s' G' D' n',BegOut true K.1 K.2 (({ n with pr:=v,rg:=some (noRg.join n.self n.nm n.log) } : Nd).spread (mAsk v)) (noRg.join n.self n.nm n.log) s' G' D' n' -> LdOut s G D n v s' G' D' n'):=hJQ (fun s' G' D' n' hbo => .inr (.inr ⟨HYES.out,by rw [HK.out]; exact HDD.out,HASK.out,HJOK.out,HLEAD.out,by rw [HK.out]; exact hbo⟩))
    have HKD2:=hJQ (HKD.out rfl)
    clear HKD
    go_enter Tryz.func41,Tryz.ntmps41
    go_upto_region 1 with fail
    refine wp_region_held_drew (S:=fun V => V.cell? ⟨x,0,none⟩ = some (.int .i64 (n.self : Int)) /\ V.cell? ⟨x,1,none⟩ = some (.int .i64 (n.many : Int)) /\ V.cell? ⟨x,2,none⟩ = some (.int .i64 n.pr)) (by kernel_rfl) hH1 (fun hHeld => ?_)
    clear hHeld hH1
    have hHeld:=HD1.out
    rw [<- HWD.out]
    refine tk 0 5 (.pointer (some ⟨x,0,none⟩)) hHeld ?_
    simp only [lz,ls]
    refine r1 1 (fun K hK => ?_) rfl
    go_simp
    refine HDA.out.mono ?_
    rintro e w6 ⟨rfl,rfl⟩
    go_wp2_with fail
    refine hK.out _ _ (hHeld) (fun hHeld => ?_)
    clear hK K
    try simp only [Act.put,lp,lz,ls]
    refine tk 2 7 (.bool false) hHeld ?_
    refine tk 3 8 (.int .i64 v) hHeld ?_
    refine tk 4 9 (.pointer (some ⟨x,0,none⟩)) hHeld ?_
    refine tk 5 10 (.pointer (some ⟨x,0,none⟩)) hHeld ?_
    refine tk 6 11 (.pointer (some ⟨x,2,none⟩)) hHeld ?_
    simp only [lz,ls]
    refine tk 7 12 (.pointer (some ⟨x,2,none⟩)) hHeld ?_
    refine tm 8 13 (.int .i64 n.pr) hHeld ?_
    refine tk 9 14 (.bool false) hHeld ?_
    refine tk 10 15 (.bool false) hHeld ?_
    refine tk 11 16 (.bool false) hHeld ?_
    simp only [lz,ls]
    refine tk 12 17 (.int .i64 v) hHeld ?_
    refine tk 13 18 (.pointer (some ⟨x,0,none⟩)) hHeld ?_
    refine tk 14 19 (.pointer (some ⟨x,0,none⟩)) hHeld ?_
    refine tk 15 20 (.pointer (some ⟨x,1,none⟩)) hHeld ?_
    refine tm 16 21 (.int .i64 (n.many : Int)) hHeld ?_
    simp only [lz,ls]
    refine tk 18 23 (.pointer (some ⟨x,0,none⟩)) hHeld ?_
    refine tk 19 24 (.pointer (some ⟨x,0,none⟩)) hHeld ?_
    refine tk 20 25 (.pointer (some ⟨x,0,none⟩)) hHeld ?_
    refine tm 21 26 (.int .i64 (n.self : Int)) hHeld ?_
    simp only [lz,ls]
    refine r1 17 (fun K hK => ?_) rfl
    go_simp
    refine HPR.out.mono ?_
    rintro e w6 ⟨rfl,rfl⟩
    go_wp2_with fail
    refine hK.out _ _ (hHeld) (fun hHeld => ?_)
    clear hK K
    try simp only [Act.put,lp,lz,ls]
    refine tk 22 27 (.bool false) hHeld ?_
    refine tk 23 28 (.bool false) hHeld ?_
    simp only [lz,ls]
    refine wpAnyH_done (by kernel_rfl) ?_ _
    clear hHeld
    go_upto_region 3 with fail
    clear e1 e2
    go_wp2_with fail
    rw [<- HW2.out,<- ERB.out]
    refine HPO.out.mono ?_
    rintro e w3 ⟨rfl,hkn3,hn3⟩
    have HN3:=hJQ hn3
    have HK3:=hJQ (HK2.out.trans hkn3)
    clear hkn3 hn3 hbr
    go_wp2_with fail
    have x2:=cell_of HN3.out.here (j:=2) rfl
    have HLE:=hJQ (letter_any (w:=w3) (x:=x) (A:=none) (N:=0) (c:=0) (l:=[]) (k:=1) (v:=v) (m:=0) (y:=0) (Rd.nil ecell 3 w3 none) (fun _ => rfl) (fun _ he => by cases he) HMS.out (by omega))
    go_wp2_with fail
    refine HLE.out.mono ?_
    rintro e w4 ⟨rfl,hb4⟩
    have HSP:=hJQ (spread_any (HN3.out.below hb4) (by have:=HO.out; show n.out.length <= 900000; omega) HM7.out (mAsk v))
    have HK4:=hJQ (HK3.out.trans (KN.of_below hb4))
    clear hb4 x2
    go_wp2_with fail
    refine HSP.out.mono ?_
    rintro e w6 ⟨rfl,hkn6,ov6,hn6⟩
    have HK6:=hJQ (HK4.out.trans hkn6)
    obtain ⟨w7,hw7⟩ : ∃ xx,xx = w6.drew:=⟨_,rfl⟩
    have hb7 : Below w6.heap.size w6 w7:=by rw [hw7]; exact (Below.refl _ _).drew
    have hn7:=hn6.below hb7
    have hol : (({ n with pr:=v,rg:=some noRg } : Nd).spread (mAsk v)).out.length <= 700000:=by
     have h1 : (({ n with pr:=v,rg:=some noRg } : Nd).others.map fun i => (i,mAsk v)).length <= 7:=by
      rw [List.length_map]
      unfold Nd.others
      have h2:=List.length_filter_le (fun k => decide (k ≠ n.self)) (List.range n.many)
      rw [List.length_range] at h2
      have:=HM7.out
      exact Nat.le_trans h2 (by omega)
     have:=HO.out
     show (n.out ++ _).length <= _
     rw [List.length_append]; exact Nat.le_trans (Nat.add_le_add_left h1 _) (by omega)
    have hjo:=join_any (r:=noRg) (n:=({ n with pr:=v,rg:=some noRg } : Nd).spread (mAsk v)) (f:=n.self) (kk:=2) (vv:=v) (m:=n.nm) (num:=0) (l:=n.log) hn7 rfl hol (HNK.out.outs _) HASK.out HSE.out hn7.log hn7.zlog HJOK.out HKD2.out.1 HKD2.out.2
    have hh6:=hn6.here
    have hh7:=hn7.here
    have HJO:=hJQ hjo
    have HK7:=hJQ (HK6.out.trans (KN.of_below hb7))
    have hH6 : w6.cell? ⟨x,0,none⟩ = some (.int .i64 (n.self : Int)):=cell_of hh6 (j:=0) rfl
    have HD6 : Hid (w7.cell? ⟨x,0,none⟩ = some (.int .i64 (n.self : Int))):=hJQ (cell_of hh7 (j:=0) rfl)
    have l3 : w7.cell? ⟨x,3,none⟩ = some (.int .i64 n.nm):=cell_of hh7 (j:=3) rfl
    have l4 : w7.cell? ⟨x,4,none⟩ = some (.slice A n.log.length c):=cell_of hh7 (j:=4) rfl
    have HW7:=hJQ hw7
    clear hkn6 hn6 hw7 hb7 hn7 hol hjo hh6 hh7 hmf
    go_upto_region 6 with fail
    refine wp_region_held_drew (S:=fun V => V.cell? ⟨x,0,none⟩ = some (.int .i64 (n.self : Int))) (by kernel_rfl) hH6 (fun hHeld => ?_)
    clear hHeld hH6
    have hHeld:=HD6.out
    rw [<- HW7.out]
    refine tk 0 42 (.pointer (some ⟨x,0,none⟩)) hHeld ?_
    refine tk 1 43 (.pointer (some ⟨x,0,none⟩)) hHeld ?_
    refine tk 2 44 (.pointer (some ⟨x,0,none⟩)) hHeld ?_
    refine tk 3 45 (.pointer (some ⟨x,0,none⟩)) hHeld ?_
    refine tm 4 46 (.int .i64 (n.self : Int)) hHeld ?_
    simp only [lz,ls]
    refine tk 5 47 (.int .i64 v) hHeld ?_
    refine tk 6 48 (.pointer (some ⟨x,0,none⟩)) hHeld ?_
    refine tk 7 49 (.pointer (some ⟨x,0,none⟩)) hHeld ?_
    refine tk 8 50 (.pointer (some ⟨x,2,none⟩)) hHeld ?_
    refine tk 9 51 (.pointer (some ⟨x,3,none⟩)) hHeld ?_
    simp only [lz,ls]
    refine tk 11 53 (.pointer (some ⟨x,0,none⟩)) hHeld ?_
    refine tk 12 54 (.pointer (some ⟨x,0,none⟩)) hHeld ?_
    refine tk 13 55 (.pointer (some ⟨x,2,none⟩)) hHeld ?_
    refine tk 14 56 (.pointer (some ⟨x,4,none⟩)) hHeld ?_
    simp only [lz,ls]
    refine wpAnyH_ready (rs:=[10,15]) (by kernel_rfl) (by simp) ?_
    refine AllReadyH.cons rfl (fun K hK => ?_) (AllReadyH.cons rfl (fun K hK => ?_) (AllReadyH.nil))
    ·go_simp
     refine hK.out _ _ (hHeld) (fun hHeld => ?_)
     clear hK K
     try simp only [Act.put,lp,lz,ls]
     refine r1 15 (fun K hK => ?_) rfl
     go_simp
     refine hK.out _ _ (hHeld) (fun hHeld => ?_)
     clear hK K
     try simp only [Act.put,lp,lz,ls]
     refine tk 16 58 (.agg #[.int .i64 2,.int .i64 v,.int .i64 n.nm,.int .i64 0,.slice A n.log.length c]) hHeld ?_
     simp only [lz,ls]
     refine r1 17 (fun K hK => ?_) rfl
     go_simp
     refine HJO.out.mono ?_
     rintro e w8 ⟨rfl,hkn8,lv8,rp8,ov8,s8,G8,D8,n8,hn8,hbo⟩
     have hs8 : w8.cell? ⟨x,0,none⟩ = some (.int .i64 (n.self : Int)):=by
      have h9:=cell_of hn8.here (j:=0) rfl
      rw [beg_self hbo] at h9
      exact h9
     have HFI:=hJQ (And.intro (HK7.out.trans hkn8) (And.intro hn8 (HLO.out _ _ _ _ hbo)))
     clear hkn8 hn8 hbo l3 l4
     go_wp2_with fail
     refine hK.out _ _ (hs8) (fun hHeld => ?_)
     clear hK K
     try simp only [Act.put,lp,lz,ls]
     refine wpAnyH_done (by kernel_rfl) ?_ _
     clear hHeld hs8
     go_wp2_with fail
     go_ret
     exact ⟨HEB.out,HFI.out.1,_,_,_,_,_,_,_,HFI.out.2.1,HFI.out.2.2⟩
    ·go_simp
     refine hK.out _ _ (hHeld) (fun hHeld => ?_)
     clear hK K
     try simp only [Act.put,lp,lz,ls]
     refine r1 10 (fun K hK => ?_) rfl
     go_simp
     refine hK.out _ _ (hHeld) (fun hHeld => ?_)
     clear hK K
     try simp only [Act.put,lp,lz,ls]
     refine tk 16 58 (.agg #[.int .i64 2,.int .i64 v,.int .i64 n.nm,.int .i64 0,.slice A n.log.length c]) hHeld ?_
     simp only [lz,ls]
     refine r1 17 (fun K hK => ?_) rfl
     go_simp
     refine HJO.out.mono ?_
     rintro e w8 ⟨rfl,hkn8,lv8,rp8,ov8,s8,G8,D8,n8,hn8,hbo⟩
     have hs8 : w8.cell? ⟨x,0,none⟩ = some (.int .i64 (n.self : Int)):=by
      have h9:=cell_of hn8.here (j:=0) rfl
      rw [beg_self hbo] at h9
      exact h9
     have HFI:=hJQ (And.intro (HK7.out.trans hkn8) (And.intro hn8 (HLO.out _ _ _ _ hbo)))
     clear hkn8 hn8 hbo l3 l4
     go_wp2_with fail
     refine hK.out _ _ (hs8) (fun hHeld => ?_)
     clear hK K
     try simp only [Act.put,lp,lz,ls]
     refine wpAnyH_done (by kernel_rfl) ?_ _
     clear hHeld hs8
     go_wp2_with fail
     go_ret
     exact ⟨HEB.out,HFI.out.1,_,_,_,_,_,_,_,HFI.out.2.1,HFI.out.2.2⟩
  ·have e2 : (pp != (n.self : Int)) = true:=by simpa using h2
   have hno : ¬ n.leadOk v:=fun hc => h2 (by rw [<- hpp]; exact hc.2)
   have HE : Hid (¬ n.leadOk v /\ n.lead v = n):=hJQ ⟨hno,by unfold Nd.lead; rw [if_neg hno]⟩
   have HEB : Hid ((Ending.returned (.bool false)) = .returned (.bool (decide (n.leadOk v)))):=hJQ (by simp [hno])
   clear h1 h2 hno
   clear h ho hk hd hsz hwt hKD hwd hbd hnd hpp
   go_enter Tryz.func41,Tryz.ntmps41
   go_upto_region 1 with fail
   refine wp_region_held_drew (S:=fun V => V.cell? ⟨x,0,none⟩ = some (.int .i64 (n.self : Int)) /\ V.cell? ⟨x,1,none⟩ = some (.int .i64 (n.many : Int)) /\ V.cell? ⟨x,2,none⟩ = some (.int .i64 n.pr)) (by kernel_rfl) hH1 (fun hHeld => ?_)
   clear hHeld hH1
   have hHeld:=HD1.out
   rw [<- HWD.out]
   refine tk 0 5 (.pointer (some ⟨x,0,none⟩)) hHeld ?_
   simp only [lz,ls]
   refine r1 1 (fun K hK => ?_) rfl
   go_simp
   refine HDA.out.mono ?_
   rintro e w6 ⟨rfl,rfl⟩
   go_wp2_with fail
   refine hK.out _ _ (hHeld) (fun hHeld => ?_)
   clear hK K
   try simp only [Act.put,lp,lz,ls]
   refine tk 2 7 (.bool false) hHeld ?_
   refine tk 3 8 (.int .i64 v) hHeld ?_
   refine tk 4 9 (.pointer (some ⟨x,0,none⟩)) hHeld ?_
   refine tk 5 10 (.pointer (some ⟨x,0,none⟩)) hHeld ?_
   refine tk 6 11 (.pointer (some ⟨x,2,none⟩)) hHeld ?_
   simp only [lz,ls]
   refine tk 7 12 (.pointer (some ⟨x,2,none⟩)) hHeld ?_
   refine tm 8 13 (.int .i64 n.pr) hHeld ?_
   refine tk 9 14 (.bool false) hHeld ?_
   refine tk 10 15 (.bool false) hHeld ?_
   refine tk 11 16 (.bool false) hHeld ?_
   simp only [lz,ls]
   refine tk 12 17 (.int .i64 v) hHeld ?_
   refine tk 13 18 (.pointer (some ⟨x,0,none⟩)) hHeld ?_
   refine tk 14 19 (.pointer (some ⟨x,0,none⟩)) hHeld ?_
   refine tk 15 20 (.pointer (some ⟨x,1,none⟩)) hHeld ?_
   refine tm 16 21 (.int .i64 (n.many : Int)) hHeld ?_
   simp only [lz,ls]
   refine tk 18 23 (.pointer (some ⟨x,0,none⟩)) hHeld ?_
   refine tk 19 24 (.pointer (some ⟨x,0,none⟩)) hHeld ?_
   refine tk 20 25 (.pointer (some ⟨x,0,none⟩)) hHeld ?_
   refine tm 21 26 (.int .i64 (n.self : Int)) hHeld ?_
   simp only [lz,ls]
   refine r1 17 (fun K hK => ?_) rfl
   go_simp
   refine HPR.out.mono ?_
   rintro e w6 ⟨rfl,rfl⟩
   go_wp2_with fail
   refine hK.out _ _ (hHeld) (fun hHeld => ?_)
   clear hK K
   try simp only [Act.put,lp,lz,ls]
   refine tk 22 27 (.bool true) hHeld ?_
   refine tk 23 28 (.bool true) hHeld ?_
   simp only [lz,ls]
   refine wpAnyH_done (by kernel_rfl) ?_ _
   clear hHeld
   go_wp2_with fail
   go_ret
   exact ⟨HEB.out,HKN.out,_,_,_,_,_,_,_,HND.out,.inl ⟨HE.out.1,HE.out.2,rfl,rfl,rfl,rfl⟩⟩
end
open Go.ChangeShapes Go.WideShapes Go.ChangeAt Go.RowKit Go.Proofs.Rk
open Pq (Fld FReads errL bytL fcs)
open Gq (Bz Mine PL PDisk Kp Kl Lg Dk putL enc)

section
variable {w : World} {z : Nat -> Prop} {x st q p : Nat} {lv rp ov : Value} {s : Bool} {G : Lg} {D : Dk} {n : Nd}
theorem ncommit_any (h : NdW w z x st q p lv rp ov s G D n) : Calls Tryz.prog 38 #[.pointer (some ⟨x,0,none⟩)] w fun e w' => e = .returned (.int .i64 n.com) /\ w = w':=by
 have c6:=cell_of h.here (j:=6) rfl
 clear h
 go_enter Tryz.func38,Tryz.ntmps38
 go_wp2_with fail
 go_ret
 exact ⟨rfl,rfl⟩
end
open Go.ChangeShapes Go.WideShapes Go.ChangeAt Go.RowKit Go.Proofs.Rk
open Pq (Fld FReads errL bytL fcs)
open Gq (Bz Mine PL PDisk Kp Kl Lg Dk putL enc)

section
variable {w : World} {z : Nat -> Prop} {x st q p : Nat} {lv rp ov : Value} {s : Bool} {G : Lg} {D : Dk} {n : Nd}
set_option maxHeartbeats 16000000 in
theorem takeack_any (h : NdW w z x st q p lv rp ov s G D n) (ho : n.out.length <= 800000) (hk : NdOk n) {v y : Int} {B : Option Addr} {M d : Nat} {f : Nat} (hf : f < n.many) (hy0 : 0 <= y) :
  Calls Tryz.prog 85 #[.pointer (some ⟨x,0,none⟩),.int .i64 (f : Int),.agg #[.int .i64 5,.int .i64 v,.int .i64 0,.int .i64 y,.slice B M d]] w fun e w' => e = .returned (.tuple #[]) /\ KN z w w' /\ ∃ ov',NdW w' z x st q p lv rp ov' s G D (n.takeAck f ⟨5,v,0,y,[]⟩):=by
 obtain ⟨nF,hnF⟩ : ∃ k,n.takeAck f ⟨5,v,0,y,[]⟩ = k:=⟨_,rfl⟩
 rw [hnF]
 obtain ⟨A,c,elv,-,-,-⟩:=own_form h.log
 subst elv
 obtain ⟨N,hN⟩ : ∃ k,n.log.length = k:=⟨_,rfl⟩
 obtain ⟨w1,hw1⟩ : ∃ xx,xx = w.alloc (.cells #[.int .i64 5,.int .i64 v,.int .i64 0,.int .i64 y,.slice B M d] 69):=⟨_,rfl⟩
 obtain ⟨b,eb⟩ : ∃ xx,xx = w.heap.size:=⟨_,rfl⟩
 have hb1 : Below w.heap.size w w1:=by rw [hw1]; exact box_below w _
 have hk1 : w1.heap[b]? = some (.cells #[.int .i64 5,.int .i64 v,.int .i64 0,.int .i64 y,.slice B M d] 69 (0,0)):=by rw [hw1,eb]; exact new_block w _
 obtain ⟨wd,hwd⟩ : ∃ xx,xx = w1.drew:=⟨_,rfl⟩
 have hbd : Below w1.heap.size w1 wd:=by rw [hwd]; exact (Below.refl _ _).drew
 have hb2:=hb1.trans (hbd.mono hb1.size)
 have hnd:=h.below hb2
 have hkd:=blk_below hk1 hbd
 have hh1:=(h.below hb1).here
 have hhd:=hnd.here
 rw [hN] at hh1 hhd
 have hH1 : w1.cell? ⟨x,2,none⟩ = some (.int .i64 n.pr) /\ w1.cell? ⟨x,4,none⟩ = some (.slice A N c) /\ w1.cell? ⟨b,1,none⟩ = some (.int .i64 v) /\ w1.cell? ⟨b,3,none⟩ = some (.int .i64 y):=⟨cell_of hh1 (j:=2) rfl,cell_of hh1 (j:=4) rfl,cell_of hk1 (j:=1) rfl,cell_of hk1 (j:=3) rfl⟩
 have HD1 : Hid (wd.cell? ⟨x,2,none⟩ = some (.int .i64 n.pr) /\ wd.cell? ⟨x,4,none⟩ = some (.slice A N c) /\ wd.cell? ⟨b,1,none⟩ = some (.int .i64 v) /\ wd.cell? ⟨b,3,none⟩ = some (.int .i64 y)):=hJQ ⟨cell_of hhd (j:=2) rfl,cell_of hhd (j:=4) rfl,cell_of hkd (j:=1) rfl,cell_of hkd (j:=3) rfl⟩
 have HST:=hJQ (nstarted_any hnd)
 have HNX:=hJQ hnd
 have HBX:=hJQ hkd
 have HKX : Hid (KN z w wd):=hJQ (KN.of_below hb2)
 have HW1:=hJQ hw1
 have EB:=hJQ eb
 have HWD:=hJQ hwd
 have HNN:=hJQ hN
 clear h hw1 eb hb1 hk1 hwd hbd hb2 hnd hkd hh1 hhd
 have ho2:=ho
 clear ho
 by_cases hst : n.stB = true
 ·rw [hst] at HST
  obtain ⟨r,hr,hrs⟩ : ∃ r,n.rg = some r /\ r.st = true:=by
   unfold Nd.stB at hst
   cases hr : n.rg with
   | none => rw [hr] at hst; cases hst
   | some r => rw [hr] at hst; exact ⟨r,rfl,hst⟩
  have hok : RunOkN n r:=by
   rcases hk.rg r hr with ⟨ha,_⟩ | ho
   ·rw [ha.st] at hrs; cases hrs
   ·exact ho
  by_cases hpv : n.pr = v
  ·have e1 : (n.pr != v) = false:=by simpa using hpv
   by_cases hyN : y <= (N : Int)
   ·have e2 : decide ((N : Int) < y) = false:=by simpa using hyN
    obtain ⟨yn,hyn⟩ : ∃ k : Nat,y = (k : Int):=⟨y.toNat,by omega⟩
    have hf7 : f < 7:=by have:=hk.many; omega
    have hfi : (f : Int) < 7:=by omega
    have HF7:=hJQ hf7
    have hrgd:=HNX.out.rg
    rw [hr] at hrgd
    obtain ⟨rb,jp,erp,hrb,hzb,hj⟩:=hrgd
    subst erp
    have k3:=seti hrb (9 + f) (.bool true)
    obtain ⟨w3,hw3⟩ : ∃ xx,xx = wd.setCell ⟨rb,9 + f,none⟩ (.bool true):=⟨_,rfl⟩
    rw [<- hw3] at k3
    rw [List.setIfInBounds_toArray,rgc_set_he jp r f hf7 true] at k3
    obtain ⟨hn3,hkn3⟩:=HNX.out.rgw (r':=({ r with he:=fun k => if k = f then true else r.he k } : Rg)) rfl k3.1 hrb hzb k3.2 hj
    obtain ⟨w4,hw4⟩ : ∃ xx,xx = w3.drew:=⟨_,rfl⟩
    have hb4 : Below w3.heap.size w3 w4:=by rw [hw4]; exact (Below.refl _ _).drew
    have hn4:=hn3.below hb4
    have hne : b ≠ rb:=fun e => by
     have h1:=HBX.out
     rw [e,hrb] at h1
     injection h1 with h1
     injection h1 with _ h2 _
     exact absurd h2 (by decide)
    have hbx3:=k3.1.blk hne HBX.out
    have hbx4:=blk_below hbx3 hb4
    obtain ⟨rb4,jp4,e4,hk4,hz4,hj4⟩:=hn4.rg
    injection e4 with e4
    injection e4 with e4
    injection e4 with e4 _ _
    subst e4
    obtain ⟨MX,hMX⟩ : ∃ k,max (r.ak f) y = k:=⟨_,rfl⟩
    have k5:=seti hk4 (16 + f) (.int .i64 MX)
    obtain ⟨w5,hw5⟩ : ∃ xx,xx = w4.setCell ⟨rb,16 + f,none⟩ (.int .i64 MX):=⟨_,rfl⟩
    rw [<- hw5] at k5
    rw [List.setIfInBounds_toArray,rgc_set_ak jp4 _ f hf7 MX] at k5
    obtain ⟨r2,hr2⟩ : ∃ k,({ r.ack f y with he:=fun k => if k = f then true else r.he k } : Rg) = k:=⟨_,rfl⟩
    have er2 : ({ ({ r with he:=fun k => if k = f then true else r.he k } : Rg) with ak:=fun k => if k = f then MX else r.ak k } : Rg) = r2:=by rw [<- hr2,<- hMX]; rfl
    rw [show (fun k => if k = f then MX else ({ r with he:=fun k => if k = f then true else r.he k } : Rg).ak k) = (fun k => if k = f then MX else r.ak k) from rfl,er2] at k5
    have hj5 : ∀ i,i < 7 -> JnW w4 z (jp4 i) (r2.js i):=by rw [<- hr2]; exact hj4
    obtain ⟨hn5,hkn5⟩:=hn4.rgw (r':=r2) rfl k5.1 hk4 hz4 k5.2 hj5
    have hbx5:=k5.1.blk hne hbx4
    have hheld:=held_le (l:=acksL r2 n.many) (k:=n.log.length) (by omega) (acks_le fun i => by
     rw [<- hr2]
     have h1:=hok.ak i
     have h2:=hok.ak f
     show (if i = f then max (r.ak f) y else r.ak i) <= (n.log.length : Int)
     split <;> omega)
    have hll : n.log.length <= 150:=hk.ls.log.1
    have hlk:=look_any (r:=r2) (n:={ n with rg:=some r2 }) hn5 rfl (by show n.out.length <= 900000; omega) (by show 1 <= n.many; omega) hk.many (fun _ => ms_tell hok.pos hk.ls.p1 hheld.1 (by have h9 : heldN (acksL r2 n.many) <= (n.log.length : Int):=hheld.2; show heldN (acksL r2 n.many) <= 150; omega))
    obtain ⟨nL,hnL⟩ : ∃ k,({ n with rg:=some r2 } : Nd).look r2 = k:=⟨_,rfl⟩
    rw [hnL] at hlk
    have hLp : nL.pr = n.pr /\ nL.log = n.log /\ nL.out.length <= n.out.length + 7:=by
     rw [<- hnL]
     unfold Nd.look
     have h1 : (({ n with rg:=some r2 } : Nd).others).length <= 7:=by
      unfold Nd.others
      have h2:=List.length_filter_le (fun k => decide (k ≠ n.self)) (List.range n.many)
      rw [List.length_range] at h2
      have:=hk.many
      exact Nat.le_trans h2 (by omega)
     split
     ·refine ⟨rfl,rfl,?_⟩
      show (n.out ++ _).length <= _
      rw [List.length_append,List.length_map]
      exact Nat.add_le_add_left h1 _
     ·exact ⟨rfl,rfl,by show n.out.length <= n.out.length + 7; omega⟩
    have HT : Hid (n.takeAck f ⟨5,v,0,y,[]⟩ = if y < (N : Int) then nL.send f ⟨4,n.pr,0,y,n.log.drop yn⟩ else nL):=hJQ (by
     unfold Nd.takeAck
     rw [hr]
     simp only []
     rw [if_pos (by rw [hrs,hN]; simp [hpv,hyN]),hr2,hN]
     have e9 : ({ self:=n.self,many:=n.many,pr:=n.pr,nm:=n.nm,log:=n.log,com:=n.com,rg:=some r2,out:=n.out } : Nd).look r2 = nL:=hnL
     rw [e9]
     have e8 : y.toNat = yn:=by omega
     rw [e8]; rfl)
    rw [hnF] at HT
    have HPBA : Hid (∀ (W : World) (ov' : Value),yn <= n.log.length -> NdW W z x st q p (.slice A n.log.length c) (.pointer (some ⟨rb,0,none⟩)) ov' s G D nL -> Calls Tryz.prog 57 #[.pointer (some ⟨x,0,none⟩),.int .i64 y] W fun e w' => ∃ A' c',e = .returned (.agg #[.int .i64 4,.int .i64 n.pr,.int .i64 0,.int .i64 y,.slice A' (n.log.length - yn) c']) /\ Rd ecell 3 w' A' (n.log.length - yn) (n.log.drop yn) /\ (A' = none -> c' = 0) /\ Below W.heap.size W w'):=hJQ (fun W ov' hle hW => by
     have h1:=nputbehind_any (f:=yn) hW (by rw [hLp.2.1]; exact hle) (by rw [hLp.2.1]; omega)
     rw [hLp.1,hLp.2.1,<- hyn] at h1
     exact h1)
    obtain ⟨N2,hN2⟩ : ∃ k,n.log.length - yn = k:=⟨_,rfl⟩
    rw [hN2] at HPBA
    have HN2 : Hid (N2 <= 4000000000):=hJQ (by omega)
    have HM4 : Hid (yn <= n.log.length -> MsOk ⟨4,n.pr,0,y,n.log.drop yn⟩):=hJQ (fun hle => by rw [hyn]; exact ms_put hok.pos hk.ls.p1 hk.ls.log (by have h1 : lastV n.log <= n.nm:=hk.ls.last; have:=hok.nm; omega) hle)
    have HI4 : Hid (In64 (n.log.drop yn)):=hJQ (in64_of (fun e he => by have:=rgt_mem hk.ls.log e (List.mem_of_mem_drop he); omega))
    have HNL : Hid (nL.out.length <= 1000000):=hJQ (by have:=hLp.2.2; omega)
    have HYN:=hJQ hyn
    have HLL:=hJQ hll
    have HLK:=hJQ hlk
    have HK5 : Hid (KN z w w5):=hJQ (((HKX.out.trans hkn3).trans (KN.of_below hb4)).trans hkn5)
    have HB5:=hJQ hbx5
    have hx3:=cell_of HNX.out.here (j:=7) rfl
    have hrc : ∃ u,wd.cell? ⟨rb,9 + f,none⟩ = some u:=⟨_,cell_of hrb (by rw [List.getElem?_toArray]; exact rgc_he jp r f hf7)⟩
    have hrf:=frozen_of_row wd rb (9 + f) _ _ hrb
    have hak4 : w4.cell? ⟨rb,16 + f,none⟩ = some (.int .i64 (r.ak f)):=cell_of hk4 (by rw [List.getElem?_toArray]; exact rgc_ak jp4 ({ r with he:=fun k => if k = f then true else r.he k } : Rg) f hf7)
    have hf4:=frozen_of_row w4 rb (16 + f) _ _ hk4
    have hH3 : w3.cell? ⟨x,7,none⟩ = some (.pointer (some ⟨rb,0,none⟩)) /\ w3.cell? ⟨b,3,none⟩ = some (.int .i64 y):=⟨cell_of hn3.here (j:=7) rfl,cell_of hbx3 (j:=3) rfl⟩
    have HD3 : Hid (w4.cell? ⟨x,7,none⟩ = some (.pointer (some ⟨rb,0,none⟩)) /\ w4.cell? ⟨b,3,none⟩ = some (.int .i64 y)):=hJQ ⟨cell_of hn4.here (j:=7) rfl,cell_of hbx4 (j:=3) rfl⟩
    have HS5 : Hid (w5.cell? ⟨x,7,none⟩ = some (.pointer (some ⟨rb,0,none⟩)) /\ w5.cell? ⟨b,3,none⟩ = some (.int .i64 y)):=hJQ ⟨cell_of hn5.here (j:=7) rfl,cell_of hbx5 (j:=3) rfl⟩
    have HAK4:=hJQ hak4
    have HF4:=hJQ hf4
    have HW3:=hJQ hw3
    have HW4:=hJQ hw4
    have HW5:=hJQ hw5
    have hmx : ∀ W,(Builtin.max_ #[3,3] 3 #[.int .i64 (r.ak f),.int .i64 y]).run Tryz.prog W = .ok (.int .i64 MX) W:=fun W => by rw [run_max_two,hMX]
    clear k3 hw3 hn3 hkn3 hw4 hb4 hn4 hne hbx3 hbx4 hk4 hz4 hj4 hMX k5 hw5 hr2 er2 hj5 hn5 hkn5 hbx5 hheld hll hlk hnL hLp hak4 hf4 hrb hzb hj hk hnF hr hrs hok hyN hf hy0 ho2 hst hyn hf7 hpv hN2
    go_enter Tryz.func85,Tryz.ntmps85
    go_upto_region 1 with fail
    rw [<- HW1.out,<- EB.out]
    refine wp_region_held_drew (S:=fun V => V.cell? ⟨x,2,none⟩ = some (.int .i64 n.pr) /\ V.cell? ⟨x,4,none⟩ = some (.slice A N c) /\ V.cell? ⟨b,1,none⟩ = some (.int .i64 v) /\ V.cell? ⟨b,3,none⟩ = some (.int .i64 y)) (by kernel_rfl) hH1 (fun hHeld => ?_)
    clear hHeld hH1
    have hHeld:=HD1.out
    rw [<- HWD.out]
    refine tk 0 6 (.pointer (some ⟨x,0,none⟩)) hHeld ?_
    simp only [lz,ls]
    refine r1 1 (fun K hK => ?_) rfl
    go_simp
    refine HST.out.mono ?_
    rintro e w6 ⟨rfl,rfl⟩
    go_wp2_with fail
    refine hK.out _ _ (hHeld) (fun hHeld => ?_)
    clear hK K
    try simp only [Act.put,lp,lz,ls]
    refine tk 2 8 (.bool false) hHeld ?_
    refine tk 3 9 (.bool false) hHeld ?_
    refine tk 4 10 (.pointer (some ⟨x,0,none⟩)) hHeld ?_
    refine tk 5 11 (.pointer (some ⟨x,0,none⟩)) hHeld ?_
    refine tk 6 12 (.pointer (some ⟨x,2,none⟩)) hHeld ?_
    simp only [lz,ls]
    refine tk 7 13 (.pointer (some ⟨x,2,none⟩)) hHeld ?_
    refine tm 8 14 (.int .i64 n.pr) hHeld ?_
    refine tk 9 15 (.pointer (some ⟨b,1,none⟩)) hHeld ?_
    refine tm 10 16 (.int .i64 v) hHeld ?_
    refine tk 11 17 (.bool false) hHeld ?_
    simp only [lz,ls]
    refine tk 12 18 (.bool false) hHeld ?_
    refine tk 13 19 (.bool false) hHeld ?_
    refine tk 14 20 (.pointer (some ⟨b,3,none⟩)) hHeld ?_
    refine tm 15 21 (.int .i64 y) hHeld ?_
    refine tk 16 22 (.pointer (some ⟨x,0,none⟩)) hHeld ?_
    simp only [lz,ls]
    refine tk 17 23 (.pointer (some ⟨x,0,none⟩)) hHeld ?_
    refine tk 18 24 (.pointer (some ⟨x,2,none⟩)) hHeld ?_
    refine tk 19 25 (.pointer (some ⟨x,4,none⟩)) hHeld ?_
    refine tm 20 26 (.slice A N c) hHeld ?_
    refine tk 21 27 (.int .i64 (N : Int)) hHeld ?_
    simp only [lz,ls]
    refine tk 22 28 (.bool false) hHeld ?_
    refine tk 23 29 (.bool false) hHeld ?_
    simp only [lz,ls]
    refine wpAnyH_done (by kernel_rfl) ?_ _
    clear hHeld
    obtain ⟨u9,hrc⟩:=hrc
    go_upto_region 3 with fail
    rw [<- HW3.out]
    clear hx3 hrc hrf
    refine wp_region_held_drew (S:=fun V => V.cell? ⟨x,7,none⟩ = some (.pointer (some ⟨rb,0,none⟩)) /\ V.cell? ⟨b,3,none⟩ = some (.int .i64 y)) (by kernel_rfl) hH3 (fun hHeld => ?_)
    clear hHeld hH3
    have hHeld:=HD3.out
    rw [<- HW4.out]
    have hak4:=HAK4.out
    have hf4:=HF4.out
    refine tk 0 38 (.pointer (some ⟨x,0,none⟩)) hHeld ?_
    refine tk 1 39 (.pointer (some ⟨x,0,none⟩)) hHeld ?_
    refine tk 2 40 (.pointer (some ⟨x,7,none⟩)) hHeld ?_
    refine tm 3 41 (.pointer (some ⟨rb,0,none⟩)) hHeld ?_
    refine tk 4 42 (.int .i64 (f : Int)) hHeld ?_
    simp only [lz,ls]
    refine tk 5 43 (.pointer (some ⟨x,0,none⟩)) hHeld ?_
    refine tk 6 44 (.pointer (some ⟨x,0,none⟩)) hHeld ?_
    refine tk 7 45 (.pointer (some ⟨x,7,none⟩)) hHeld ?_
    refine tm 8 46 (.pointer (some ⟨rb,0,none⟩)) hHeld ?_
    refine tk 9 47 (.int .i64 (f : Int)) hHeld ?_
    simp only [lz,ls]
    refine tk 10 48 (.pointer (some ⟨rb,0,none⟩)) hHeld ?_
    refine tk 11 49 (.pointer (some ⟨rb,16,none⟩)) hHeld ?_
    refine tk 12 50 (.pointer (some ⟨rb,16 + f,none⟩)) hHeld ?_
    refine tk 14 52 (.pointer (some ⟨b,3,none⟩)) hHeld ?_
    refine tm 15 53 (.int .i64 y) hHeld ?_
    simp only [lz,ls]
    refine tk 17 55 (.pointer (some ⟨rb,0,none⟩)) hHeld ?_
    refine tk 18 56 (.pointer (some ⟨rb,16,none⟩)) hHeld ?_
    simp only [lz,ls]
    refine r1 13 (fun K hK => ?_) rfl
    go_simp
    refine hK.out _ _ (hHeld) (fun hHeld => ?_)
    clear hK K
    try simp only [Act.put,lp,lz,ls]
    refine tk 16 54 (.int .i64 MX) hHeld ?_
    refine tk 19 57 (.pointer (some ⟨rb,16 + f,none⟩)) hHeld ?_
    simp only [lz,ls]
    refine r1 20 (fun K hK => ?_) rfl
    go_simp
    rw [<- HW5.out]
    refine hK.out _ _ (HS5.out) (fun hHeld => ?_)
    clear hK K
    try simp only [Act.put,lp,lz,ls]
    refine wpAnyH_done (by kernel_rfl) ?_ _
    clear hHeld hak4 hf4 hmx hfi
    go_wp2_with fail
    refine HLK.out.mono ?_
    rintro e w6 ⟨rfl,hkn6,ov6,hn6⟩
    obtain ⟨w7,hw7⟩ : ∃ xx,xx = w6.drew:=⟨_,rfl⟩
    have hb7 : Below w6.heap.size w6 w7:=by rw [hw7]; exact (Below.refl _ _).drew
    have hbx6:=hkn6.cells HB5.out near_msg
    have hbx7:=blk_below hbx6 hb7
    have hn7:=hn6.below hb7
    have hh6:=hn6.here
    have hh7:=hn7.here
    rw [HNN.out] at hh6 hh7
    have HN7:=hJQ hn7
    have HK7 : Hid (KN z w w7):=hJQ ((HK5.out.trans hkn6).trans (KN.of_below hb7))
    have HW7:=hJQ hw7
    have hH5 : w6.cell? ⟨x,4,none⟩ = some (.slice A N c) /\ w6.cell? ⟨b,3,none⟩ = some (.int .i64 y):=⟨cell_of hh6 (j:=4) rfl,cell_of hbx6 (j:=3) rfl⟩
    have HD5 : Hid (w7.cell? ⟨x,4,none⟩ = some (.slice A N c) /\ w7.cell? ⟨b,3,none⟩ = some (.int .i64 y)):=hJQ ⟨cell_of hh7 (j:=4) rfl,cell_of hbx7 (j:=3) rfl⟩
    clear hkn6 hn6 hw7 hb7 hbx6 hbx7 hn7 hh6 hh7
    by_cases hlt : y < (N : Int)
    ·have hltd : decide (y < (N : Int)) = true:=by simpa using hlt
     have HE : Hid (nL.send f ⟨4,n.pr,0,y,n.log.drop yn⟩ = nF):=hJQ (by rw [HT.out,if_pos hlt])
     have HLE : Hid (yn <= n.log.length):=hJQ (by have:=HYN.out; have:=HNN.out; omega)
     have HPB:=hJQ (HPBA.out w7 ov6 HLE.out HN7.out)
     clear hlt
     go_upto_region 5 with fail
     refine wp_region_held_drew (S:=fun V => V.cell? ⟨x,4,none⟩ = some (.slice A N c) /\ V.cell? ⟨b,3,none⟩ = some (.int .i64 y)) (by kernel_rfl) hH5 (fun hHeld => ?_)
     clear hHeld hH5
     have hHeld:=HD5.out
     rw [<- HW7.out]
     refine tk 0 60 (.pointer (some ⟨b,3,none⟩)) hHeld ?_
     refine tm 1 61 (.int .i64 y) hHeld ?_
     refine tk 2 62 (.pointer (some ⟨x,0,none⟩)) hHeld ?_
     refine tk 3 63 (.pointer (some ⟨x,0,none⟩)) hHeld ?_
     refine tk 4 64 (.pointer (some ⟨x,2,none⟩)) hHeld ?_
     simp only [lz,ls]
     refine tk 5 65 (.pointer (some ⟨x,4,none⟩)) hHeld ?_
     refine tm 6 66 (.slice A N c) hHeld ?_
     refine tk 7 67 (.int .i64 (N : Int)) hHeld ?_
     refine tk 8 68 (.bool true) hHeld ?_
     simp only [lz,ls]
     refine wpAnyH_done (by kernel_rfl) ?_ _
     have hb3:=hHeld.2
     clear hHeld hltd
     go_wp2_with fail
     refine HPB.out.mono ?_
     rintro e w8 ⟨A',c',rfl,hrd,hA,hb8⟩
     have HLT:=hJQ (letter_any (w:=w8) (x:=x) (A:=A') (N:=N2) (c:=c') (l:=n.log.drop yn) (k:=4) (v:=n.pr) (m:=0) (y:=y) hrd hA HI4.out (HM4.out HLE.out) HN2.out)
     have HB8:=hJQ hb8
     clear hrd hA hb8 hb3
     go_wp2_with fail
     refine HLT.out.mono ?_
     rintro e w9 ⟨rfl,hb9⟩
     have HB9:=hJQ (HB8.out.trans (hb9.mono HB8.out.size))
     have HSE:=hJQ (send_any (HN7.out.below HB9.out) HNL.out ⟨4,n.pr,0,y,n.log.drop yn⟩ f)
     clear hb9
     go_wp2_with fail
     refine HSE.out.mono ?_
     rintro e w10 ⟨rfl,hkn10,ov10,hn10⟩
     have HFI:=hJQ (And.intro ((HK7.out.trans (KN.of_below HB9.out)).trans hkn10) hn10)
     clear hkn10 hn10
     go_wp2_with fail
     go_end0
     exact ⟨rfl,HFI.out.1,_,by rw [<- HE.out]; exact HFI.out.2⟩
    ·have hltd : decide (y < (N : Int)) = false:=by simpa using hlt
     have HE : Hid (nL = nF):=hJQ (by rw [HT.out,if_neg hlt])
     clear hlt
     go_upto_region 5 with fail
     refine wp_region_held_drew (S:=fun V => V.cell? ⟨x,4,none⟩ = some (.slice A N c) /\ V.cell? ⟨b,3,none⟩ = some (.int .i64 y)) (by kernel_rfl) hH5 (fun hHeld => ?_)
     clear hHeld hH5
     have hHeld:=HD5.out
     rw [<- HW7.out]
     refine tk 0 60 (.pointer (some ⟨b,3,none⟩)) hHeld ?_
     refine tm 1 61 (.int .i64 y) hHeld ?_
     refine tk 2 62 (.pointer (some ⟨x,0,none⟩)) hHeld ?_
     refine tk 3 63 (.pointer (some ⟨x,0,none⟩)) hHeld ?_
     refine tk 4 64 (.pointer (some ⟨x,2,none⟩)) hHeld ?_
     simp only [lz,ls]
     refine tk 5 65 (.pointer (some ⟨x,4,none⟩)) hHeld ?_
     refine tm 6 66 (.slice A N c) hHeld ?_
     refine tk 7 67 (.int .i64 (N : Int)) hHeld ?_
     refine tk 8 68 (.bool false) hHeld ?_
     simp only [lz,ls]
     refine wpAnyH_done (by kernel_rfl) ?_ _
     clear hHeld hltd
     go_wp2_with fail
     first | go_end0 | (refine bodyPost_ret (results_none rfl _ _ _) rfl ?_)
     exact ⟨rfl,HK7.out,_,by rw [<- HE.out]; exact HN7.out⟩
   ·have e2 : decide ((N : Int) < y) = true:=by simpa using hyN
    have HE : Hid (n = nF):=hJQ (by
     rw [<- hnF]
     unfold Nd.takeAck
     rw [hr]
     simp only []
     rw [if_neg (by rw [<- hN] at hyN; simp [hyN])])
    clear hk hnF hr hrs hok hyN hf hy0 ho2 hN hst
    go_enter Tryz.func85,Tryz.ntmps85
    go_upto_region 1 with fail
    rw [<- HW1.out,<- EB.out]
    refine wp_region_held_drew (S:=fun V => V.cell? ⟨x,2,none⟩ = some (.int .i64 n.pr) /\ V.cell? ⟨x,4,none⟩ = some (.slice A N c) /\ V.cell? ⟨b,1,none⟩ = some (.int .i64 v) /\ V.cell? ⟨b,3,none⟩ = some (.int .i64 y)) (by kernel_rfl) hH1 (fun hHeld => ?_)
    clear hHeld hH1
    have hHeld:=HD1.out
    rw [<- HWD.out]
    refine tk 0 6 (.pointer (some ⟨x,0,none⟩)) hHeld ?_
    simp only [lz,ls]
    refine r1 1 (fun K hK => ?_) rfl
    go_simp
    refine HST.out.mono ?_
    rintro e w6 ⟨rfl,rfl⟩
    go_wp2_with fail
    refine hK.out _ _ (hHeld) (fun hHeld => ?_)
    clear hK K
    try simp only [Act.put,lp,lz,ls]
    refine tk 2 8 (.bool false) hHeld ?_
    refine tk 3 9 (.bool false) hHeld ?_
    refine tk 4 10 (.pointer (some ⟨x,0,none⟩)) hHeld ?_
    refine tk 5 11 (.pointer (some ⟨x,0,none⟩)) hHeld ?_
    refine tk 6 12 (.pointer (some ⟨x,2,none⟩)) hHeld ?_
    simp only [lz,ls]
    refine tk 7 13 (.pointer (some ⟨x,2,none⟩)) hHeld ?_
    refine tm 8 14 (.int .i64 n.pr) hHeld ?_
    refine tk 9 15 (.pointer (some ⟨b,1,none⟩)) hHeld ?_
    refine tm 10 16 (.int .i64 v) hHeld ?_
    refine tk 11 17 (.bool false) hHeld ?_
    simp only [lz,ls]
    refine tk 12 18 (.bool false) hHeld ?_
    refine tk 13 19 (.bool false) hHeld ?_
    refine tk 14 20 (.pointer (some ⟨b,3,none⟩)) hHeld ?_
    refine tm 15 21 (.int .i64 y) hHeld ?_
    refine tk 16 22 (.pointer (some ⟨x,0,none⟩)) hHeld ?_
    simp only [lz,ls]
    refine tk 17 23 (.pointer (some ⟨x,0,none⟩)) hHeld ?_
    refine tk 18 24 (.pointer (some ⟨x,2,none⟩)) hHeld ?_
    refine tk 19 25 (.pointer (some ⟨x,4,none⟩)) hHeld ?_
    refine tm 20 26 (.slice A N c) hHeld ?_
    refine tk 21 27 (.int .i64 (N : Int)) hHeld ?_
    simp only [lz,ls]
    refine tk 22 28 (.bool true) hHeld ?_
    refine tk 23 29 (.bool true) hHeld ?_
    simp only [lz,ls]
    refine wpAnyH_done (by kernel_rfl) ?_ _
    clear hHeld
    go_wp2_with fail
    first | go_end0 | (refine bodyPost_ret (results_none rfl _ _ _) rfl ?_)
    exact ⟨rfl,HKX.out,_,by rw [<- HE.out]; exact HNX.out⟩
  ·have e1 : (n.pr != v) = true:=by simpa using hpv
   have HE : Hid (n = nF):=hJQ (by
    rw [<- hnF]
    unfold Nd.takeAck
    rw [hr]
    simp only []
    rw [if_neg (by simp [hpv])])
   clear hk hnF hr hrs hok hf hy0 ho2 hN hst hpv
   go_enter Tryz.func85,Tryz.ntmps85
   go_upto_region 1 with fail
   rw [<- HW1.out,<- EB.out]
   refine wp_region_held_drew (S:=fun V => V.cell? ⟨x,2,none⟩ = some (.int .i64 n.pr) /\ V.cell? ⟨x,4,none⟩ = some (.slice A N c) /\ V.cell? ⟨b,1,none⟩ = some (.int .i64 v) /\ V.cell? ⟨b,3,none⟩ = some (.int .i64 y)) (by kernel_rfl) hH1 (fun hHeld => ?_)
   clear hHeld hH1
   have hHeld:=HD1.out
   rw [<- HWD.out]
   refine tk 0 6 (.pointer (some ⟨x,0,none⟩)) hHeld ?_
   simp only [lz,ls]
   refine r1 1 (fun K hK => ?_) rfl
   go_simp
   refine HST.out.mono ?_
   rintro e w6 ⟨rfl,rfl⟩
   go_wp2_with fail
   refine hK.out _ _ (hHeld) (fun hHeld => ?_)
   clear hK K
   try simp only [Act.put,lp,lz,ls]
   refine tk 2 8 (.bool false) hHeld ?_
   refine tk 3 9 (.bool false) hHeld ?_
   refine tk 4 10 (.pointer (some ⟨x,0,none⟩)) hHeld ?_
   refine tk 5 11 (.pointer (some ⟨x,0,none⟩)) hHeld ?_
   refine tk 6 12 (.pointer (some ⟨x,2,none⟩)) hHeld ?_
   simp only [lz,ls]
   refine tk 7 13 (.pointer (some ⟨x,2,none⟩)) hHeld ?_
   refine tm 8 14 (.int .i64 n.pr) hHeld ?_
   refine tk 9 15 (.pointer (some ⟨b,1,none⟩)) hHeld ?_
   refine tm 10 16 (.int .i64 v) hHeld ?_
   refine tk 11 17 (.bool true) hHeld ?_
   simp only [lz,ls]
   refine tk 12 18 (.bool true) hHeld ?_
   refine tk 13 19 (.bool true) hHeld ?_
   refine tu 14 20 hHeld ?_
   refine tu 15 21 hHeld ?_
   refine tu 16 22 hHeld ?_
   simp only [lz,ls]
   refine tu 17 23 hHeld ?_
   refine tu 18 24 hHeld ?_
   refine tu 19 25 hHeld ?_
   refine tu 20 26 hHeld ?_
   refine tu 21 27 hHeld ?_
   simp only [lz,ls]
   refine tu 22 28 hHeld ?_
   refine tk 23 29 (.bool true) hHeld ?_
   simp only [lz,ls]
   refine wpAnyH_done (by kernel_rfl) ?_ _
   clear hHeld
   go_wp2_with fail
   first | go_end0 | (refine bodyPost_ret (results_none rfl _ _ _) rfl ?_)
   exact ⟨rfl,HKX.out,_,by rw [<- HE.out]; exact HNX.out⟩
 ·have hst2 : n.stB = false:=by simpa using hst
  rw [hst2] at HST
  have HE : Hid (n = nF):=hJQ (by
   rw [<- hnF]
   unfold Nd.takeAck
   cases hr : n.rg with
   | none => rfl
   | some r =>
    simp only []
    unfold Nd.stB at hst2
    rw [hr] at hst2
    rw [if_neg (by simp only [] at hst2; rw [hst2]; simp)])
  clear hk hnF hf hy0 ho2 hN hst hst2
  go_enter Tryz.func85,Tryz.ntmps85
  go_upto_region 1 with fail
  rw [<- HW1.out,<- EB.out]
  refine wp_region_held_drew (S:=fun V => V.cell? ⟨x,2,none⟩ = some (.int .i64 n.pr) /\ V.cell? ⟨x,4,none⟩ = some (.slice A N c) /\ V.cell? ⟨b,1,none⟩ = some (.int .i64 v) /\ V.cell? ⟨b,3,none⟩ = some (.int .i64 y)) (by kernel_rfl) hH1 (fun hHeld => ?_)
  clear hHeld hH1
  have hHeld:=HD1.out
  rw [<- HWD.out]
  refine tk 0 6 (.pointer (some ⟨x,0,none⟩)) hHeld ?_
  simp only [lz,ls]
  refine r1 1 (fun K hK => ?_) rfl
  go_simp
  refine HST.out.mono ?_
  rintro e w6 ⟨rfl,rfl⟩
  go_wp2_with fail
  refine hK.out _ _ (hHeld) (fun hHeld => ?_)
  clear hK K
  try simp only [Act.put,lp,lz,ls]
  refine tk 2 8 (.bool true) hHeld ?_
  refine tk 3 9 (.bool true) hHeld ?_
  refine tu 4 10 hHeld ?_
  refine tu 5 11 hHeld ?_
  refine tu 6 12 hHeld ?_
  simp only [lz,ls]
  refine tu 7 13 hHeld ?_
  refine tu 8 14 hHeld ?_
  refine tu 9 15 hHeld ?_
  refine tu 10 16 hHeld ?_
  refine tu 11 17 hHeld ?_
  simp only [lz,ls]
  refine tk 12 18 (.bool true) hHeld ?_
  refine tk 13 19 (.bool true) hHeld ?_
  refine tu 14 20 hHeld ?_
  refine tu 15 21 hHeld ?_
  refine tu 16 22 hHeld ?_
  simp only [lz,ls]
  refine tu 17 23 hHeld ?_
  refine tu 18 24 hHeld ?_
  refine tu 19 25 hHeld ?_
  refine tu 20 26 hHeld ?_
  refine tu 21 27 hHeld ?_
  simp only [lz,ls]
  refine tu 22 28 hHeld ?_
  refine tk 23 29 (.bool true) hHeld ?_
  simp only [lz,ls]
  refine wpAnyH_done (by kernel_rfl) ?_ _
  clear hHeld
  go_wp2_with fail
  first | go_end0 | (refine bodyPost_ret (results_none rfl _ _ _) rfl ?_)
  exact ⟨rfl,HKX.out,_,by rw [<- HE.out]; exact HNX.out⟩
end
open Go.ChangeShapes Go.WideShapes Go.ChangeAt Go.RowKit Go.Proofs.Rk
open Pq (Fld FReads errL bytL fcs)
open Gq (Bz Mine PL PDisk Kp Kl Lg Dk putL enc)

section
variable {w : World} {z : Nat -> Prop} {x st q p : Nat} {lv rp ov : Value} {s : Bool} {G : Lg} {D : Dk} {n : Nd}
set_option maxHeartbeats 16000000 in
theorem offer_no (h : NdW w z x st q p lv rp ov s G D n) (hd : D.dead = false) {bd : ByteArray} (hno : n.offerOk bd = false) :
  Calls Tryz.prog 15 #[.pointer (some ⟨x,0,none⟩),.string bd] w fun e w' => e = .returned (.bool false) /\ w = w':=by
 obtain ⟨A,c,elv,-,-,-⟩:=own_form h.log
 subst elv
 have HDA:=hJQ (ndead_any h)
 rw [hd] at HDA
 have HST:=hJQ (nstarted_any h)
 have x4:=cell_of h.here (j:=4) rfl
 obtain ⟨N,hN⟩ : ∃ k,n.log.length = k:=⟨_,rfl⟩
 rw [hN] at x4
 have hof : n.offerOk bd = (n.stB && decide (N < 150) && decide (bd.size <= 200)):=by rw [<- hN]; rfl
 rw [hno] at hof
 clear h hd hno hN
 cases hs : n.stB with
 | false =>
  rw [hs] at HST
  clear hof hs
  go_enter Tryz.func15,Tryz.ntmps15
  go_wp2_with fail
  refine HDA.out.mono ?_
  rintro e w1 ⟨rfl,rfl⟩
  go_wp2_with fail
  refine HST.out.mono ?_
  rintro e w1 ⟨rfl,rfl⟩
  go_wp2_with fail
  go_ret
  exact ⟨rfl,rfl⟩
 | true =>
  rw [hs] at HST hof
  by_cases h1 : N < 150
  ·have h1d : decide ((150 : Int) <= (N : Int)) = false:=by simp; omega
   have h1e : decide (150 <= N) = false:=by simp; omega
   have h2 : ¬ bd.size <= 200:=fun h => by simp [h1,h] at hof
   have h2d : decide ((200 : Int) < (bd.size : Int)) = true:=by simp; omega
   have h2e : decide (200 < bd.size) = true:=by simp; omega
   clear hof hs h1 h2
   go_enter Tryz.func15,Tryz.ntmps15
   go_wp2_with fail
   refine HDA.out.mono ?_
   rintro e w1 ⟨rfl,rfl⟩
   go_wp2_with fail
   refine HST.out.mono ?_
   rintro e w1 ⟨rfl,rfl⟩
   go_wp2_with fail
   go_ret
   exact ⟨rfl,rfl⟩
  ·have h1d : decide ((150 : Int) <= (N : Int)) = true:=by simp; omega
   have h1e : decide (150 <= N) = true:=by simp; omega
   clear hof hs h1
   go_enter Tryz.func15,Tryz.ntmps15
   go_wp2_with fail
   refine HDA.out.mono ?_
   rintro e w1 ⟨rfl,rfl⟩
   go_wp2_with fail
   refine HST.out.mono ?_
   rintro e w1 ⟨rfl,rfl⟩
   go_wp2_with fail
   go_ret
   exact ⟨rfl,rfl⟩
set_option maxHeartbeats 16000000 in
theorem offer_yes (h : NdW w z x st q p lv rp ov s G D n) (ho : n.out.length <= 600000) (hk : NdOk n) (hd : D.dead = false) (hwt : D.wait.length <= 30000) {bd : ByteArray} (hyes : n.offerOk bd = true) (hroom : G.bs.length + (enc ([(⟨n.pr,(n.log.length : Int) + 1,bd⟩ : En)].map recE)).length <= G.sz * 64) :
  Calls Tryz.prog 15 #[.pointer (some ⟨x,0,none⟩),.string bd] w fun e w' => e = .returned (.bool true) /\ KN z w w' /\ ∃ lv' ov',NdW w' z x st q p lv' rp ov' s (syncD G D [(⟨n.pr,(n.log.length : Int) + 1,bd⟩ : En)]).1 (syncD G D [(⟨n.pr,(n.log.length : Int) + 1,bd⟩ : En)]).2 (if (syncD G D [(⟨n.pr,(n.log.length : Int) + 1,bd⟩ : En)]).2.dead then ({ n with log:=n.log ++ [(⟨n.pr,(n.log.length : Int) + 1,bd⟩ : En)] } : Nd) else n.offer bd):=by
 obtain ⟨A,c,elv,-,-,-⟩:=own_form h.log
 subst elv
 have HDA:=hJQ (ndead_any h)
 rw [hd] at HDA
 have HST:=hJQ (nstarted_any h)
 have x4:=cell_of h.here (j:=4) rfl
 have x2:=cell_of h.here (j:=2) rfl
 have hof : n.offerOk bd = (n.stB && decide (n.log.length < 150) && decide (bd.size <= 200)):=rfl
 rw [hyes] at hof
 have hof2:=hof.symm
 simp only [Bool.and_eq_true,decide_eq_true_eq] at hof2
 obtain ⟨⟨hsb,hl150⟩,hb200⟩:=hof2
 rw [hsb] at HST
 obtain ⟨r,hr,hrs⟩ : ∃ r,n.rg = some r /\ r.st = true:=by
  unfold Nd.stB at hsb
  cases hr : n.rg with
  | none => rw [hr] at hsb; cases hsb
  | some r => rw [hr] at hsb; exact ⟨r,rfl,hsb⟩
 have hok : RunOkN n r:=by
  rcases hk.rg r hr with ⟨ha,_⟩ | ho
  ·rw [ha.st] at hrs; cases hrs
  ·exact ho
 have hlast : lastV n.log <= n.nm:=hk.ls.last
 have hrgt:=rgt_snoc (e:=(⟨n.pr,(n.log.length : Int) + 1,bd⟩ : En)) hk.ls.log hl150 rfl hok.pos hk.ls.p1 hb200 (by show lastV n.log <= n.pr; have:=hok.nm; omega)
 obtain ⟨N,hN⟩ : ∃ k,n.log.length = k:=⟨_,rfl⟩
 obtain ⟨nx,hnx⟩ : ∃ k : Int,(N : Int) + 1 = k:=⟨_,rfl⟩
 have hen : (⟨n.pr,(n.log.length : Int) + 1,bd⟩ : En) = ⟨n.pr,nx,bd⟩:=by rw [hN,hnx]
 rw [hen] at hroom hrgt ⊢
 obtain ⟨e0,he0⟩ : ∃ k,(⟨n.pr,nx,bd⟩ : En) = k:=⟨_,rfl⟩
 rw [he0] at hroom hrgt hen ⊢
 obtain ⟨K,hK⟩ : ∃ k,syncD G D [e0] = k:=⟨_,rfl⟩
 obtain ⟨dd,hdd⟩ : ∃ k,K.2.dead = k:=⟨_,rfl⟩
 obtain ⟨nF,hnF⟩ : ∃ k,(if K.2.dead then ({ n with log:=n.log ++ [e0] } : Nd) else n.offer bd) = k:=⟨_,rfl⟩
 rw [hK,hnF]
 have HFD : Hid (dd = true -> ({ n with log:=n.log ++ [e0] } : Nd) = nF):=hJQ (fun e => by rw [<- hnF,hdd,if_pos e])
 have HFA : Hid (dd = false -> n.offer bd = nF):=hJQ (fun e => by rw [<- hnF,hdd,e,if_neg (by decide)])
 have hw0 : IntKind.i64.wrap ((N : Int) + 1) = nx:=by rw [IntKind.wrap_i64]; omega
 have hw1 : IntKind.i64.wrap (nx - 1) = (N : Int):=by rw [IntKind.wrap_i64]; omega
 obtain ⟨w2,hw2⟩ : ∃ xx,xx = w.alloc (.cells #[.int .i64 n.pr,.int .i64 nx,.string bd] 45):=⟨_,rfl⟩
 obtain ⟨nb,enb⟩ : ∃ xx,xx = w.heap.size:=⟨_,rfl⟩
 have hb2 : Below w.heap.size w w2:=by rw [hw2]; exact box_below w _
 have hk2 : w2.heap[nb]? = some (.cells #[.int .i64 n.pr,.int .i64 nx,.string bd] 45 (0,0)):=by rw [hw2,enb]; exact new_block w _
 have hn2:=h.below hb2
 have hnew : w2.ownsRow 0 45 3 (.slice (some ⟨nb,0,none⟩) 1 1) [e0].length ([e0].flatMap ecell):=by
  rw [<- he0]
  exact own_new (n:=1) (sz:=3) (base:=0) hk2 (Nat.zero_le _) (by unfold maxLen; omega) rfl
 have hex:=extend_any hn2 (fun r2 e i => by rw [hr] at e; injection e with e; subst e; exact hok.js i) (A2:=some ⟨nb,0,none⟩) (c2:=1) (l:=[e0]) hnew (fun b e1 e2 => by
  simp only [Value.ownBlock,Option.some.injEq] at e2
  subst e2
  have h9:=h.log.lt _ e1
  omega) hd hwt (by simp) (by omega) (fun e he => by
  rw [List.mem_singleton] at he
  subst he
  rw [<- he0]
  exact ⟨errE (by show (0 : Int) <= nx; omega) (by show nx <= 150; omega) hok.pos hk.ls.p1 hb200,hb200⟩) hroom
 rw [hK,hdd] at hex
 have HEX : Hid (Calls Tryz.prog 54 #[.pointer (some ⟨x,0,none⟩),.slice (some ⟨nb,0,none⟩) 1 1] w2 fun e w' => e = .returned (.bool (!dd)) /\ KN z w2 w' /\ ∃ lv',NdW w' z x st q p lv' rp ov s K.1 K.2 { n with log:=n.log ++ [e0] }):=hJQ hex
 have HKN2 : Hid (KN z w w2):=hJQ (KN.of_below hb2)
 have HW2:=hJQ hw2
 have ENB:=hJQ enb
 have hself : n.self < 7:=by have:=hk.self; have:=hk.many; omega
 have h150d : decide ((150 : Int) <= (N : Int)) = false:=by simp; omega
 have h150e : decide (150 <= N) = false:=by simp; omega
 have h200d : decide ((200 : Int) < (bd.size : Int)) = false:=by simp; omega
 have h200e : decide (200 < bd.size) = false:=by simp; omega
 have hll : (n.log ++ [e0]).length = N + 1:=by rw [List.length_append,hN]; rfl
 obtain ⟨r2,hr2⟩ : ∃ k,r.ack n.self nx = k:=⟨_,rfl⟩
 have hrun : RunOkN ({ n with log:=n.log ++ [e0],rg:=some r2 } : Nd) r2:=by
  rw [<- hr2]
  refine ⟨hok.pri,hok.pos,hok.st,hok.nm,hok.js,?_,?_,fun k => ?_⟩
  ·have:=hok.bg
   show r.bg <= (n.log ++ [e0]).length
   omega
  ·show lastV ((n.log ++ [e0]).take r.bg) < n.pr
   rw [List.take_append_of_le_length hok.bg]; exact hok.bv
  ·have h1:=hok.ak k
   have h2:=hok.ak n.self
   show 0 <= (if k = n.self then max (r.ak n.self) nx else r.ak k) /\ (if k = n.self then max (r.ak n.self) nx else r.ak k) <= ((n.log ++ [e0]).length : Int)
   rw [hll]
   split <;> omega
 have hheld:=held_le (l:=acksL r2 n.many) (k:=(N : Int) + 1) (by omega) (acks_le fun i => by have h9:=(hrun.ak i).2; have h8 : r2.ak i <= ((n.log ++ [e0]).length : Int):=h9; rw [hll] at h8; omega)
 have HHM : Hid (MsOk ⟨6,n.pr,0,heldN (acksL r2 n.many),[]⟩):=hJQ (ms_tell hok.pos hk.ls.p1 hheld.1 (by omega))
 have HM4 : Hid (MsOk ⟨4,n.pr,0,(N : Int),[e0]⟩):=hJQ (by
  have h9:=ms_put (f:=N) hok.pos hk.ls.p1 hrgt (by rw [lastV_snoc,<- he0]; exact Int.le_refl _) (by rw [hll]; omega)
  have h8 : (n.log ++ [e0]).drop N = [e0]:=by rw [<- hN,List.drop_left]
  rw [h8] at h9; exact h9)
 have HDR : Hid ((n.log ++ [e0]).drop N = [e0]):=hJQ (by rw [<- hN,List.drop_left])
 have HI4 : Hid (In64 [e0]):=hJQ (in64_of (fun e he => by rw [List.mem_singleton] at he; subst he; rw [<- he0]; exact ⟨by show (0 : Int) <= nx; omega,by show nx <= 150; omega⟩))
 have HOF : Hid (n.offer bd = (({ n with log:=n.log ++ [e0],rg:=some r2 } : Nd).spread (mPut n.pr N [e0])).look r2):=hJQ (by
  unfold Nd.offer
  rw [hr]
  simp only []
  rw [if_pos hyes,hen,hN,hnx,hr2])
 have HLL:=hJQ hll
 have HO:=hJQ ho
 have HM7:=hJQ hk.many
 have HSF:=hJQ hk.self
 have HNN : Hid (N < 150):=hJQ (by omega)
 have HR:=hJQ hr
 have HS7:=hJQ hself
 have HRAK : Hid (∀ i,0 <= r.ak i /\ r.ak i <= nx):=hJQ (fun i => by have:=hok.ak i; omega)
 have HR2:=hJQ hr2
 rw [hN] at x4
 have HHE:=hJQ h.here
 clear h ho hk hd hwt hyes hroom hof hsb hl150 hb200 hr hrs hok hlast hrgt hN hen hK hdd hnF hw2 enb hb2 hk2 hn2 hnew hex hll hr2 hrun hheld he0 hself hnx
 cases dd with
 | true =>
  have HF:=hJQ (HFD.out rfl)
  clear HFD HFA
  go_enter Tryz.func15,Tryz.ntmps15
  go_wp2_with fail
  refine HDA.out.mono ?_
  rintro e w1 ⟨rfl,rfl⟩
  go_wp2_with fail
  refine HST.out.mono ?_
  rintro e w1 ⟨rfl,rfl⟩
  go_upto_region 4 with fail
  clear h150d h150e h200d h200e
  go_wp2_with fail
  rw [<- HW2.out,<- ENB.out]
  clear x4 x2
  refine HEX.out.mono ?_
  rintro e w3 ⟨rfl,hkn3,lv3,hn3⟩
  have HN3:=hJQ hn3
  have HK3:=hJQ (HKN2.out.trans hkn3)
  clear hkn3 hn3
  go_wp2_with fail
  first | go_ret | (refine bodyPost_ret (results_tmp rfl _ _ _) rfl ?_)
  exact ⟨rfl,HK3.out,_,_,by rw [<- HF.out]; exact HN3.out⟩
 | false =>
  have HF:=hJQ (HFA.out rfl)
  clear HFD HFA
  go_enter Tryz.func15,Tryz.ntmps15
  go_wp2_with fail
  refine HDA.out.mono ?_
  rintro e w1 ⟨rfl,rfl⟩
  go_wp2_with fail
  refine HST.out.mono ?_
  rintro e w1 ⟨rfl,rfl⟩
  go_upto_region 4 with fail
  clear h150d h150e h200d h200e
  go_wp2_with fail
  rw [<- HW2.out,<- ENB.out]
  clear x4 x2
  refine HEX.out.mono ?_
  rintro e w3 ⟨rfl,hkn3,lv3,hn3⟩
  have HN3:=hJQ hn3
  have HK3:=hJQ (HKN2.out.trans hkn3)
  clear hkn3 hn3
  have hrg3:=HN3.out.rg
  rw [show ({ n with log:=n.log ++ [e0] } : Nd).rg = some r from HR.out] at hrg3
  obtain ⟨rb,jp,erp,hrb,hzb,hjj⟩:=hrg3
  subst erp
  obtain ⟨w4,hw4⟩ : ∃ xx,xx = w3.drew:=⟨_,rfl⟩
  have hb4 : Below w3.heap.size w3 w4:=by rw [hw4]; exact (Below.refl _ _).drew
  have hn4:=HN3.out.below hb4
  have hk4:=blk_below hrb hb4
  have k6:=seti hk4 (16 + n.self) (.int .i64 nx)
  obtain ⟨w6,hw6⟩ : ∃ xx,xx = w4.setCell ⟨rb,16 + n.self,none⟩ (.int .i64 nx):=⟨_,rfl⟩
  rw [<- hw6] at k6
  rw [List.setIfInBounds_toArray,rgc_set_ak jp r n.self HS7.out nx] at k6
  have er2 : ({ r with ak:=fun k => if k = n.self then nx else r.ak k } : Rg) = r2:=by
   rw [<- HR2.out]
   unfold Rg.ack
   congr 1
   funext k
   by_cases e : k = n.self
   ·rw [if_pos e,if_pos e]; have:=HRAK.out n.self; omega
   ·rw [if_neg e,if_neg e]
  rw [er2] at k6
  have hj4 : ∀ i,i < 7 -> JnW w4 z (jp i) (r2.js i):=fun i hi => by rw [<- HR2.out]; exact (hjj i hi).mono (fun k cs hk => blk_below hk hb4) (fun lv l ho => own_below ho hb4)
  obtain ⟨hn6,hkn6⟩:=hn4.rgw (r':=r2) rfl k6.1 hk4 hzb k6.2 hj4
  have hh3:=HN3.out.here
  have hH5 : w3.cell? ⟨x,7,none⟩ = some (.pointer (some ⟨rb,0,none⟩)) /\ w3.cell? ⟨x,0,none⟩ = some (.int .i64 (n.self : Int)):=⟨cell_of hh3 (j:=7) rfl,cell_of hh3 (j:=0) rfl⟩
  have HD5 : Hid (w4.cell? ⟨x,7,none⟩ = some (.pointer (some ⟨rb,0,none⟩)) /\ w4.cell? ⟨x,0,none⟩ = some (.int .i64 (n.self : Int))):=hJQ ⟨cell_of hn4.here (j:=7) rfl,cell_of hn4.here (j:=0) rfl⟩
  have HS6 : Hid (w6.cell? ⟨x,7,none⟩ = some (.pointer (some ⟨rb,0,none⟩)) /\ w6.cell? ⟨x,0,none⟩ = some (.int .i64 (n.self : Int))):=hJQ ⟨cell_of hn6.here (j:=7) rfl,cell_of hn6.here (j:=0) rfl⟩
  have hak4 : w4.cell? ⟨rb,16 + n.self,none⟩ = some (.int .i64 (r.ak n.self)):=cell_of hk4 (by rw [List.getElem?_toArray]; exact rgc_ak jp r n.self HS7.out)
  have hfr4:=frozen_of_row w4 rb (16 + n.self) _ _ hk4
  have hpb:=nputbehind_any (f:=N) hn6 (by show N <= (n.log ++ [e0]).length; rw [HLL.out]; omega) (by show (n.log ++ [e0]).length <= 1000000; rw [HLL.out]; have:=HNN.out; omega)
  have HPB : Hid (Calls Tryz.prog 57 #[.pointer (some ⟨x,0,none⟩),.int .i64 (N : Int)] w6 fun e w' => ∃ A' c',e = .returned (.agg #[.int .i64 4,.int .i64 n.pr,.int .i64 0,.int .i64 (N : Int),.slice A' 1 c']) /\ Rd ecell 3 w' A' 1 [e0] /\ (A' = none -> c' = 0) /\ Below w6.heap.size w6 w'):=hJQ (by
   have e1 : (({ n with log:=n.log ++ [e0] } : Nd).log).length - N = 1:=by show (n.log ++ [e0]).length - N = 1; rw [HLL.out]; omega
   have e2 : (({ n with log:=n.log ++ [e0] } : Nd).log).drop N = [e0]:=HDR.out
   have h9:=hpb
   rw [show (({ ({ n with log:=n.log ++ [e0] } : Nd) with rg:=some r2 } : Nd).log).length - N = 1 from e1,show (({ ({ n with log:=n.log ++ [e0] } : Nd) with rg:=some r2 } : Nd).log).drop N = [e0] from e2] at h9
   exact h9)
  have HN6 : Hid (NdW w6 z x st q p lv3 (.pointer (some ⟨rb,0,none⟩)) ov s K.1 K.2 ({ n with log:=n.log ++ [e0],rg:=some r2 } : Nd)):=hJQ hn6
  have HK6:=hJQ ((HK3.out.trans (KN.of_below hb4)).trans hkn6)
  have HW4:=hJQ hw4
  have HW6:=hJQ hw6
  have hs7i : (n.self : Int) < 7:=by have:=HS7.out; omega
  have hmf : ∀ (fn : Fn) (first cap : Array Value) (w : World),(Instr.makeFunc fn first cap).run Tryz.prog w = .ok (.func fn first cap) w:=fun _ _ _ _ => rfl
  clear hrb hzb hjj hw4 hb4 hn4 hk4 k6 hw6 er2 hj4 hn6 hkn6 hh3 hpb
  go_upto_region 5 with fail
  refine wp_region_held_drew (S:=fun V => V.cell? ⟨x,7,none⟩ = some (.pointer (some ⟨rb,0,none⟩)) /\ V.cell? ⟨x,0,none⟩ = some (.int .i64 (n.self : Int))) (by kernel_rfl) hH5 (fun hHeld => ?_)
  clear hHeld hH5
  have hHeld:=HD5.out
  rw [<- HW4.out]
  refine tk 0 45 (.pointer (some ⟨x,0,none⟩)) hHeld ?_
  refine tk 1 46 (.pointer (some ⟨x,0,none⟩)) hHeld ?_
  refine tk 2 47 (.pointer (some ⟨x,7,none⟩)) hHeld ?_
  refine tm 3 48 (.pointer (some ⟨rb,0,none⟩)) hHeld ?_
  refine tk 4 49 (.pointer (some ⟨x,0,none⟩)) hHeld ?_
  simp only [lz,ls]
  refine tk 5 50 (.pointer (some ⟨x,0,none⟩)) hHeld ?_
  refine tk 6 51 (.pointer (some ⟨x,0,none⟩)) hHeld ?_
  refine tm 7 52 (.int .i64 (n.self : Int)) hHeld ?_
  refine tk 8 53 (.int .i64 nx) hHeld ?_
  refine tk 9 54 (.pointer (some ⟨rb,0,none⟩)) hHeld ?_
  simp only [lz,ls]
  refine tk 10 55 (.pointer (some ⟨rb,16,none⟩)) hHeld ?_
  refine tk 11 56 (.pointer (some ⟨rb,16 + n.self,none⟩)) hHeld ?_
  simp only [lz,ls]
  refine r1 12 (fun K hK => ?_) rfl
  go_simp
  rw [<- HW6.out]
  refine hK.out _ _ (HS6.out) (fun hHeld => ?_)
  clear hK K
  try simp only [Act.put,lp,lz,ls]
  refine wpAnyH_done (by kernel_rfl) ?_ _
  clear hHeld hak4 hfr4 hs7i
  go_wp2_with fail
  refine HPB.out.mono ?_
  rintro e w8 ⟨A',c',rfl,hrd,hA,hb8⟩
  have HLT:=hJQ (letter_any (w:=w8) (x:=x) (A:=A') (N:=1) (c:=c') (l:=[e0]) (k:=4) (v:=n.pr) (m:=0) (y:=(N : Int)) hrd hA HI4.out HM4.out (by decide))
  have HB8:=hJQ hb8
  clear hrd hA hb8
  go_wp2_with fail
  refine HLT.out.mono ?_
  rintro e w9 ⟨rfl,hb9⟩
  have HB9:=hJQ (HB8.out.trans (hb9.mono HB8.out.size))
  have HSP:=hJQ (spread_any (HN6.out.below HB9.out) (by have:=HO.out; show n.out.length <= 900000; omega) HM7.out (mPut n.pr N [e0]))
  clear hb9
  go_wp2_with fail
  refine HSP.out.mono ?_
  rintro e w10 ⟨rfl,hkn10,ov10,hn10⟩
  have HK10:=hJQ ((HK6.out.trans (KN.of_below HB9.out)).trans hkn10)
  have HLK:=hJQ (look_any (r:=r2) hn10 rfl (by
   have h1 : (({ n with log:=n.log ++ [e0],rg:=some r2 } : Nd).others.map fun i => (i,mPut n.pr N [e0])).length <= 7:=by
    rw [List.length_map]
    unfold Nd.others
    have h2:=List.length_filter_le (fun k => decide (k ≠ n.self)) (List.range n.many)
    rw [List.length_range] at h2
    have:=HM7.out
    exact Nat.le_trans h2 (by omega)
   have:=HO.out
   show (n.out ++ _).length <= _
   rw [List.length_append]; exact Nat.le_trans (Nat.add_le_add_left h1 _) (by omega)) (by show 1 <= n.many; have:=HSF.out; omega) HM7.out (fun _ => HHM.out))
  clear hkn10 hn10
  go_wp2_with fail
  refine HLK.out.mono ?_
  rintro e w11 ⟨rfl,hkn11,ov11,hn11⟩
  have HFI:=hJQ (And.intro (HK10.out.trans hkn11) hn11)
  clear hkn11 hn11
  go_wp2_with fail
  first | go_ret | (refine bodyPost_ret (results_tmp rfl _ _ _) rfl ?_)
  exact ⟨rfl,HFI.out.1,_,_,by rw [<- HF.out,HOF.out]; exact HFI.out.2⟩
end
open Go.Proofs.Rk
open Gq (Lg Dk putL enc)

def Nd.ls (n : Nd) : Ls:=⟨n.pr,n.nm,n.log⟩
inductive Eff : Bool -> Lg -> Dk -> Ls -> Bool -> Lg -> Dk -> Ls -> Prop
 | idle {s G D L} : Eff s G D L s G D L
 | keep {s G D L} (L' : Ls) (h : LsOk L') : Eff s G D L true (keepD G (signD s D) L'.recs).1 (keepD G (signD s D) L'.recs).2 L'
 | sync {s G D} {L : Ls} (l : List En) (h : LsOk { L with log:=L.log ++ l }) (hp : 1 <= L.pr) : Eff s G D L s (syncD G D l).1 (syncD G D l).2 { L with log:=L.log ++ l }
 | two {s G D} {L L1 L2 : Ls} (h1 : LsOk L1) (hd : (keepD G (signD s D) L1.recs).2.dead = false) (h2 : LsOk L2) : Eff s G D L true (keepD (keepD G (signD s D) L1.recs).1 (signD true (keepD G (signD s D) L1.recs).2) L2.recs).1 (keepD (keepD G (signD s D) L1.recs).1 (signD true (keepD G (signD s D) L1.recs).2) L2.recs).2 L2
theorem eff_alive {s s' : Bool} {G G' : Lg} {D D' : Dk} {L L' : Ls} (h : Eff s G D L s' G' D' L') (hS : SS G D s L) (ha : D.armed = 0) : SS G' D' s' L' /\ D'.armed = 0:=by
 cases h with
 | idle => exact ⟨hS,ha⟩
 | keep L' hL => exact keep_alive hS ha hL
 | sync l hL hp =>
  cases s with
  | true => exact sync_alive hS ha hp hL
  | false => have h9:=(hS.no rfl).1; rw [h9] at hp; exact absurd hp (by decide)
 | two h1 hd h2 =>
  obtain ⟨k1,k2⟩:=keep_alive hS ha h1
  exact keep_alive k1 k2 h2
def StepOut (s : Bool) (G : Lg) (D : Dk) (n nT : Nd) (s' : Bool) (G' : Lg) (D' : Dk) (n' : Nd) : Prop :=
 ∃ L',Eff s G D n.ls s' G' D' L' /\ (D'.dead = false -> n' = nT /\ L' = nT.ls)
theorem StepOut.same {s : Bool} {G : Lg} {D : Dk} {n nT : Nd} (h : nT = n) : StepOut s G D n nT s G D n:=⟨n.ls,.idle,fun _ => by rw [h]; exact ⟨rfl,rfl⟩⟩
theorem StepOut.idle {s : Bool} {G : Lg} {D : Dk} {n nT : Nd} (h : nT.ls = n.ls) : StepOut s G D n nT s G D nT:=⟨n.ls,.idle,fun _ => ⟨rfl,h.symm⟩⟩
theorem look_ls {n : Nd} {r : Rg} : (n.look r).ls = n.ls:=by unfold Nd.look; split <;> rfl
theorem begin_ls {n : Nd} {r : Rg} (hq : ¬ ((joinsL r.js n.many).length : Int) < quo n.many) : (n.begin r).ls = ⟨n.pr,n.pr,bestL (joinsL r.js n.many)⟩:=by
 unfold Nd.begin
 rw [if_neg hq]
 simp only []
 rw [look_ls]; rfl
theorem best_ls {n : Nd} {r : Rg} (hk : NdOk { n with rg:=none }) (ha : AskOk n r) (hq : ¬ ((joinsL r.js n.many).length : Int) < quo n.many) : LsOk ⟨n.pr,n.pr,bestL (joinsL r.js n.many)⟩:=by
 obtain ⟨h1,h2⟩:=best_ok (n:={ n with rg:=none }) (r:=r) hk ha hq
 have hp:=ha.pos
 have hb : n.pr <= 4611686018427387904:=hk.ls.p1
 exact ⟨by show (0 : Int) <= n.pr; omega,Int.le_refl _,hb,h1,by have h3 : lastV (bestL (joinsL r.js n.many)) < n.pr:=h2; show lastV (bestL (joinsL r.js n.many)) <= n.pr; omega⟩
theorem beg_step {s s' : Bool} {G G' : Lg} {D D' : Dk} {n n' : Nd} {r : Rg} (hk : NdOk { n with rg:=none }) (ha : AskOk n r) (h : BegOut s G D n r s' G' D' n') : StepOut s G D n (n.begin r) s' G' D' n':=by
 rcases h with ⟨hq,rfl,rfl,rfl,rfl⟩ | ⟨hq,rfl,rfl,rfl,rfl⟩
 ·exact .same (by unfold Nd.begin; rw [if_pos hq])
 ·exact ⟨_,.keep _ (best_ls hk ha hq),fun hd => by rw [hd,if_neg (by decide)]; exact ⟨rfl,(begin_ls hq).symm⟩⟩
theorem tj_step {s s' : Bool} {G G' : Lg} {D D' : Dk} {n n' : Nd} {f : Nat} {v m : Int} {l : List En} (hk : NdOk n) (hf : f < n.many) (h : TjOut s G D n f v m l s' G' D' n') : StepOut s G D n (n.takeJoin f ⟨2,v,m,0,l⟩) s' G' D' n':=by
 rcases h with ⟨e,rfl,rfl,rfl,rfl⟩ | ⟨r,hr,ha,hj,e,hb⟩
 ·rw [e]; exact .same rfl
 ·rw [e]
  exact beg_step (n:={ n with rg:=some (r.join f m l) }) hk.noRg (join_ok (j:=(m,l)) ha hf hj) hb
theorem ld_step {s s' : Bool} {G G' : Lg} {D D' : Dk} {n n' : Nd} {v : Int} (hk : NdOk n) (h : LdOut s G D n v s' G' D' n') : StepOut s G D n (n.lead v) s' G' D' n':=by
 have hls : n.leadOk v -> LsOk ⟨v,n.nm,n.log⟩:=fun hy => by
  have h3 : n.nm <= n.pr:=hk.ls.np
  have h1:=hy.1
  exact ⟨hk.ls.n0,by show n.nm <= v; omega,(pri_is hy.2).2.2,hk.ls.log,hk.ls.last⟩
 rcases h with ⟨_,e,rfl,rfl,rfl,rfl⟩ | ⟨hy,hd,rfl,rfl,rfl,rfl⟩ | ⟨hy,hd,ha,hj,e,hb⟩
 ·rw [e]; exact .same rfl
 ·exact ⟨_,.keep _ (hls hy),fun hd2 => by rw [hd] at hd2; cases hd2⟩
 ·rw [e]
  have hk2 : NdOk { (({ n with pr:=v,rg:=some (noRg.join n.self n.nm n.log) } : Nd).spread (mAsk v)) with rg:=none }:=⟨hk.self,hk.many,hls hy,hk.c0,hk.c1,fun _ e => by cases e⟩
  have ha2:=join_ok (n:=(({ n with pr:=v,rg:=some noRg } : Nd).spread (mAsk v))) (j:=(n.nm,n.log)) ha hk.self hj
  rcases hb with ⟨hq,rfl,rfl,rfl,rfl⟩ | ⟨hq,rfl,rfl,rfl,rfl⟩
  ·refine ⟨_,.keep _ (hls hy),fun _ => ?_⟩
   unfold Nd.begin
   rw [if_pos hq]
   exact ⟨rfl,rfl⟩
  ·refine ⟨_,.two (hls hy) hd (best_ls hk2 ha2 hq),fun hd => by rw [hd,if_neg (by decide)]; exact ⟨rfl,(begin_ls hq).symm⟩⟩
theorem offer_step {s : Bool} {G : Lg} {D : Dk} {n : Nd} {bd : ByteArray} (hk : NdOk n) (hy : n.offerOk bd = true) : LsOk ⟨n.pr,n.nm,n.log ++ [⟨n.pr,(n.log.length : Int) + 1,bd⟩]⟩ /\ 1 <= n.pr /\
  StepOut s G D n (n.offer bd) s (syncD G D [⟨n.pr,(n.log.length : Int) + 1,bd⟩]).1 (syncD G D [⟨n.pr,(n.log.length : Int) + 1,bd⟩]).2 (if (syncD G D [⟨n.pr,(n.log.length : Int) + 1,bd⟩]).2.dead then { n with log:=n.log ++ [⟨n.pr,(n.log.length : Int) + 1,bd⟩] } else n.offer bd):=by
 obtain ⟨r,hr,hrs⟩ : ∃ r,n.rg = some r /\ r.st = true:=by
  unfold Nd.offerOk at hy
  cases hr : n.rg with
  | none => rw [hr] at hy; simp at hy
  | some r => rw [hr] at hy; simp at hy; exact ⟨r,rfl,hy.1.1⟩
 have hok : RunOkN n r:=by
  rcases hk.rg r hr with ⟨ha,_⟩ | ho
  ·rw [ha.st] at hrs; cases hrs
  ·exact ho
 have he : (n.offer bd).ls = ⟨n.pr,n.nm,n.log ++ [⟨n.pr,(n.log.length : Int) + 1,bd⟩]⟩:=by
  unfold Nd.offer
  rw [hr]
  simp only []
  rw [if_pos hy,look_ls]; rfl
 have hL : LsOk ⟨n.pr,n.nm,n.log ++ [⟨n.pr,(n.log.length : Int) + 1,bd⟩]⟩:=by
  have:=(offer_ok hk bd).ls
  have h9 : LsOk (n.offer bd).ls:=this
  rw [he] at h9; exact h9
 refine ⟨hL,hok.pos,_,.sync _ hL hok.pos,fun hd => by rw [hd,if_neg (by decide)]; exact ⟨rfl,he.symm⟩⟩
end Go.Proofs.YtlppinfjdnhlbaaGreatDoor
