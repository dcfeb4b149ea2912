/-
 A message comes to a node. Condition: the node is right,and its disk is alive.
 A packet comes to a node. Condition: the node is right,and its disk is alive.
 A node is opened on a disk that is alive: the one that lasts there,or none. Condition: the disk has at most 65536 sectors.
 Who owns which block: a node lies where nobody writes its blocks; each call of a node that is alive,and whose disk is not armed,as one contract. Condition: the node is right.
-/
import Derived.Test.YtlppinfjdnhlbaaGreatDoorHd
import Derived.Test.YtlppinfjdnhlbaaGreatDoorOEff
import Derived.Test.YtlppinfjdnhlbaaGreatDoorODec
import Derived.Test.YtlppinfjdnhlbaaGreatDoorOAck
import Derived.Test.YtlppinfjdnhlbaaGreatDoorOOpen
import Derived.Test.YtlppinfjdnhlbaaGreatDoorORg
import Derived.Test.YtlppinfjdnhlbaaGreatDoorGOpened
import Derived.Test.YtlppinfjdnhlbaaGreatDoorGNew
import Derived.Test.YtlppinfjdnhlbaaGreatDoorGNext
namespace Go.Proofs.YtlppinfjdnhlbaaGreatDoor
set_option maxRecDepth 100000
open Go.ChangeShapes Go.WideShapes Go.ChangeAt Go.RowKit Go.Proofs.Rk
open Pq (Fld FReads errL bytL fcs)
open Gq (Bz Mine PL PDisk Kp Kl Lg Dk putL enc)

section
variable {w : World} {z : Nat -> Prop} {x st q p : Nat} {lv rp ov : Value} {s : Bool} {G : Lg} {D : Dk} {n : Nd}
theorem ms_parts {m : Ms} (h : MsOk m) : (m.k = 1 -> m = ⟨1,m.v,0,0,[]⟩) /\ (m.k = 2 -> m = ⟨2,m.v,m.m,0,m.l⟩ /\ JOk m.v (m.m,m.l)) /\ (m.k = 3 -> m = ⟨3,m.v,0,0,m.l⟩ /\ Rgt m.l /\ lastV m.l < m.v) /\ (m.k = 4 -> m = ⟨4,m.v,0,m.n,m.l⟩) /\ (m.k = 5 -> m = ⟨5,m.v,0,m.n,[]⟩) /\ (m.k = 6 -> m = ⟨6,m.v,0,m.n,[]⟩) /\ (m.k = 1 ∨ m.k = 2 ∨ m.k = 3 ∨ m.k = 4 ∨ m.k = 5 ∨ m.k = 6):=by
 obtain ⟨k,v,mm,y,l⟩:=m
 obtain ⟨h1,h2,h3,h4,h5,h6,h7⟩:=h
 simp only at h1 h2 h3 h4 h5 h6 h7 ⊢
 unfold big at h2
 rcases h7 with ⟨rfl,rfl,h8⟩ | ⟨rfl,⟨rfl,rfl,rfl⟩ | ⟨rfl,rfl,h8⟩ | ⟨rfl,h8⟩ | ⟨rfl | rfl,rfl⟩⟩
 ·obtain ⟨h9,h10⟩:=rgt_rw h3 (by omega) h8
  simp
  exact ⟨h3,h4,h9,h10⟩
 ·simp
 ·obtain ⟨h9,h10⟩:=rgt_rw (by omega) (by omega) h8
  simp
  exact ⟨h9,by omega⟩
 ·simp
 ·simp
 ·simp
theorem send_ls {n : Nd} {f : Nat} {m : Ms} : (n.send f m).ls = n.ls:=rfl
theorem ask_step (h : NdW w z x st q p lv rp ov s G D n) (ho : n.out.length <= 600000) (hk : NdOk n) (hS : SS G D s n.ls) {v : Int} {f : Nat} (h1 : 1 <= v) (h2 : v <= 4611686018427387904) (hp : pri v n.many = (f : Int)) {B : Option Addr} {M d : Nat} :
  Calls Tryz.prog 130 #[.pointer (some ⟨x,0,none⟩),.agg #[.int .i64 1,.int .i64 v,.int .i64 0,.int .i64 0,.slice B M d]] w fun e w' => e = .returned (.tuple #[]) /\ KN z w w' /\ ∃ lv' rp' ov' s' G' D' n',NdW w' z x st q p lv' rp' ov' s' G' D' n' /\ StepOut s G D n (n.takeAsk f ⟨1,v,0,0,[]⟩) s' G' D' n':=by
 have hlo : ∀ e ∈ n.log,0 <= e.n /\ e.n <= 150:=fun e he => by have:=rgt_mem hk.ls.log e he; omega
 have hwt : D.wait.length <= 20000:=by rw [hS.wait]; simp
 by_cases hc : n.pr < v
 ·have hL : LsOk ⟨v,n.nm,n.log⟩:=(prs_ok hk hc h2).ls
  refine (takeask_new h (by omega) hlo hk.ls.log.1 hc (fun _ => ms_join h1 h2 (self_jok hk hc)) hp hL hS.sz hwt).mono ?_
  rintro e w' ⟨rfl,hkn,ov',hn⟩
  refine ⟨rfl,hkn,_,_,_,_,_,_,_,hn,_,.keep _ hL,fun hd => ?_⟩
  rw [hd,if_neg (by decide)]
  refine ⟨rfl,?_⟩
  unfold Nd.takeAsk
  simp only [if_pos hc]
  split <;> rfl
 ·refine (takeask_old h (by omega) hlo hk.ls.log.1 hc (fun hc2 => ms_join h1 h2 ⟨hk.ls.n0,hc2,hk.ls.log,hk.ls.last⟩) hp).mono ?_
  rintro e w' ⟨rfl,hkn,ov',hn⟩
  refine ⟨rfl,hkn,_,_,_,_,_,_,_,hn,.idle ?_⟩
  unfold Nd.takeAsk
  simp only [if_neg hc]
  split <;> rfl
theorem start_step (h : NdW w z x st q p lv rp ov s G D n) (ho : n.out.length <= 600000) (hk : NdOk n) (hS : SS G D s n.ls) {v : Int} {f : Nat} (h1 : 1 <= v) (h2 : v <= 4611686018427387904) (hp : pri v n.many = (f : Int)) {B : Option Addr} {M d : Nat} {l : List En} (hl : w.ownsRow 0 45 3 (.slice B M d) l.length (l.flatMap ecell)) (hz : Mine ⟨0,z⟩ (.slice B M d)) (hr : Rgt l) (hv : lastV l < v) :
  Calls Tryz.prog 131 #[.pointer (some ⟨x,0,none⟩),.agg #[.int .i64 3,.int .i64 v,.int .i64 0,.int .i64 0,.slice B M d]] w fun e w' => e = .returned (.tuple #[]) /\ KN z w w' /\ ∃ lv' rp' ov' s' G' D' n',NdW w' z x st q p lv' rp' ov' s' G' D' n' /\ StepOut s G D n (n.takeStart f ⟨3,v,0,0,l⟩) s' G' D' n':=by
 have hwt : D.wait.length <= 20000:=by rw [hS.wait]; simp
 have h3 : n.nm <= n.pr:=hk.ls.np
 have h4 : n.log.length <= 150:=hk.ls.log.1
 have h5 : n.pr <= 4611686018427387904:=hk.ls.p1
 have h6 : l.length <= 150:=hr.1
 by_cases hc : n.later v
 ·have hL : LsOk ⟨v,v,l⟩:=⟨by show (0 : Int) <= v; omega,Int.le_refl _,h2,hr,by show lastV l <= v; omega⟩
  refine (takestart_yes h (by omega) hc hl hz hL hS.sz hwt (ms_ack h1 h2 (by omega) (by omega)) hp).mono ?_
  rintro e w' ⟨rfl,hkn,ov',hn⟩
  refine ⟨rfl,hkn,_,_,_,_,_,_,_,hn,_,.keep _ hL,fun hd => ?_⟩
  rw [hd,if_neg (by decide)]
  refine ⟨rfl,?_⟩
  unfold Nd.takeStart
  simp only [if_pos (show n.pr <= v /\ n.nm < v from hc)]
  split <;> rfl
 ·have h7 : 1 <= n.pr:=by
   rcases Int.lt_or_le v n.pr with h8 | h8
   ·omega
   ·have h9 : ¬ n.nm < v:=fun h => hc ⟨h8,h⟩
    omega
  refine (takestart_no (l:=l) h (by omega) hc (ms_ack h7 h5 (by omega) (by omega)) (fun e => by rw [e]; exact hp)).mono ?_
  rintro e w' ⟨rfl,hkn,ov',hn⟩
  refine ⟨rfl,hkn,_,_,_,_,_,_,_,hn,.idle ?_⟩
  unfold Nd.takeStart
  simp only [if_neg (show ¬ (n.pr <= v /\ n.nm < v) from hc)]
  split <;> rfl
theorem put_step (h : NdW w z x st q p lv rp ov s G D n) (ho : n.out.length <= 600000) (hk : NdOk n) (hd : D.dead = false) (hS : SS G D s n.ls) {v y : Int} {f : Nat} (h1 : 1 <= v) (h2 : v <= 4611686018427387904) (hp : pri v n.many = (f : Int)) (hf : f ≠ n.self) {B : Option Addr} {M d : Nat} {l : List En} (hl : Rd ecell 3 w B M l) (hM : M <= 150) (hrow : ∀ e ∈ l,0 <= e.n /\ e.n <= 150 /\ 1 <= e.v /\ e.v <= v /\ e.b.size <= 200) :
  Calls Tryz.prog 132 #[.pointer (some ⟨x,0,none⟩),.agg #[.int .i64 4,.int .i64 v,.int .i64 0,.int .i64 y,.slice B M d]] w fun e w' => e = .returned (.tuple #[]) /\ KN z w w' /\ ∃ lv' rp' ov' s' G' D' n',NdW w' z x st q p lv' rp' ov' s' G' D' n' /\ StepOut s G D n (n.takePut f ⟨4,v,0,y,l⟩) s' G' D' n':=by
 have hwt : D.wait.length <= 30000:=by rw [hS.wait]; simp
 cases hin : n.inB v with
 | false =>
  refine (takeput_no (l:=l) (f:=f) h hin).mono ?_
  rintro e w' ⟨rfl,hkn,hn⟩
  refine ⟨rfl,hkn,_,_,_,_,_,_,_,hn,.idle ?_⟩
  unfold Nd.takePut
  rw [if_neg (fun hc => by rw [inB_iff.2 hc] at hin; cases hin)]
 | true =>
  obtain ⟨e1,e2⟩:=inB_iff.1 hin
  have hrg:=not_lead hk hp hf e1
  have hlast : lastV n.log <= n.nm:=hk.ls.last
  obtain ⟨k1,k2⟩:=rgt_follow (v:=v) h2 l n.log hk.ls.log (by rw [<- e2]; exact hlast) hrow
  obtain ⟨fl,hfl⟩ : ∃ k,follow ((n.log.length : Int) + 1) (lastV n.log) l = k:=⟨_,rfl⟩
  rw [hfl] at k1 k2
  have hlen : (n.log ++ fl).length <= 150:=k1.1
  rw [List.length_append] at hlen
  have hfm : ∀ e ∈ fl,e ∈ l:=fun e he => by rw [<- hfl] at he; exact follow_mem l _ _ e he
  have hL : LsOk { n.ls with log:=n.ls.log ++ fl }:=⟨hk.ls.n0,hk.ls.np,hk.ls.p1,k1,by show lastV (n.log ++ fl) <= n.nm; rw [e2]; exact k2⟩
  have hpr : 1 <= n.ls.pr:=by show 1 <= n.pr; omega
  refine (takeput_yes h (by omega) hk.ls.log.1 hin hl hM hfl (fun r e => by rw [hrg] at e; cases e) hd hwt (by omega) (fun e he => by
   have h9:=hrow e (hfm e he)
   exact ⟨errE h9.1 h9.2.1 h9.2.2.1 (by omega) h9.2.2.2.2,h9.2.2.2.2⟩) (ss_room hS hpr hL) (ms_ack h1 h2 (by omega) (by rw [List.length_append]; omega)) hp).mono ?_
  rintro e w' ⟨rfl,hkn,lv',ov',hn⟩
  refine ⟨rfl,hkn,_,_,_,_,_,_,_,hn,_,.sync fl hL hpr,fun hd2 => ?_⟩
  rw [hd2,if_neg (by decide)]
  refine ⟨rfl,?_⟩
  unfold Nd.takePut
  rw [if_pos (show n.pr = v /\ n.nm = v from ⟨e1,e2⟩)]
  simp only [hfl]
  rfl
theorem tell_step (h : NdW w z x st q p lv rp ov s G D n) {v y : Int} {f : Nat} {B : Option Addr} {M d : Nat} :
  Calls Tryz.prog 133 #[.pointer (some ⟨x,0,none⟩),.agg #[.int .i64 6,.int .i64 v,.int .i64 0,.int .i64 y,.slice B M d]] w fun e w' => e = .returned (.tuple #[]) /\ KN z w w' /\ ∃ lv' rp' ov' s' G' D' n',NdW w' z x st q p lv' rp' ov' s' G' D' n' /\ StepOut s G D n (n.takeTell ⟨6,v,0,y,[]⟩) s' G' D' n':=by
 refine (taketell_any (l:=[]) (_f:=f) h).mono ?_
 rintro e w' ⟨rfl,hkn,hn⟩
 refine ⟨rfl,hkn,_,_,_,_,_,_,_,hn,.idle ?_⟩
 unfold Nd.takeTell
 split <;> rfl
theorem takeAck_ls {n : Nd} {f : Nat} {m : Ms} : (n.takeAck f m).ls = n.ls:=by
 unfold Nd.takeAck
 split
 ·rfl
 ·split
  ·simp only []
   split
   ·rw [send_ls,look_ls]; rfl
   ·rw [look_ls]; rfl
  ·rfl
theorem ack_step (h : NdW w z x st q p lv rp ov s G D n) (ho : n.out.length <= 600000) (hk : NdOk n) {v y : Int} {f : Nat} (hf : f < n.many) (hy : 0 <= y) {B : Option Addr} {M d : Nat} :
  Calls Tryz.prog 85 #[.pointer (some ⟨x,0,none⟩),.int .i64 (f : Int),.agg #[.int .i64 5,.int .i64 v,.int .i64 0,.int .i64 y,.slice B M d]] w fun e w' => e = .returned (.tuple #[]) /\ KN z w w' /\ ∃ lv' rp' ov' s' G' D' n',NdW w' z x st q p lv' rp' ov' s' G' D' n' /\ StepOut s G D n (n.takeAck f ⟨5,v,0,y,[]⟩) s' G' D' n':=by
 refine (takeack_any h (by omega) hk hf hy).mono ?_
 rintro e w' ⟨rfl,hkn,ov',hn⟩
 exact ⟨rfl,hkn,_,_,_,_,_,_,_,hn,.idle takeAck_ls⟩
theorem tjoin_step (h : NdW w z x st q p lv rp ov s G D n) (ho : n.out.length <= 600000) (hk : NdOk n) (hS : SS G D s n.ls) {v m : Int} {B : Option Addr} {M d : Nat} {l : List En} {f : Nat} (hf : f < n.many) (hl : w.ownsRow 0 45 3 (.slice B M d) l.length (l.flatMap ecell)) (hz : Mine ⟨0,z⟩ (.slice B M d)) (hj : JOk v (m,l)) :
  Calls Tryz.prog 84 #[.pointer (some ⟨x,0,none⟩),.int .i64 (f : Int),.agg #[.int .i64 2,.int .i64 v,.int .i64 m,.int .i64 0,.slice B M d]] w fun e w' => e = .returned (.tuple #[]) /\ KN z w w' /\ ∃ lv' rp' ov' s' G' D' n',NdW w' z x st q p lv' rp' ov' s' G' D' n' /\ StepOut s G D n (n.takeJoin f ⟨2,v,m,0,l⟩) s' G' D' n':=by
 refine (takejoin_any h (by omega) hk hf hl hz hj hS.sz (by rw [hS.wait]; simp)).mono ?_
 rintro e w' ⟨rfl,hkn,lv',rp',ov',s',G',D',n',hn,ht⟩
 exact ⟨rfl,hkn,_,_,_,_,_,_,_,hn,tj_step hk hf ht⟩
set_option maxHeartbeats 8000000 in
theorem heed_any (h : NdW w z x st q p lv rp ov s G D n) (ho : n.out.length <= 600000) (hk : NdOk n) (hd : D.dead = false) (hS : SS G D s n.ls) {m : Ms} {f : Nat} (hm : MsOk m) (hk2 : m.k ≠ 2) (hk5 : m.k ≠ 5) (hp : pri m.v n.many = (f : Int)) (hf : f ≠ n.self) {A : Option Addr} {c : Nat} (hl : w.ownsRow 0 45 3 (.slice A m.l.length c) m.l.length (m.l.flatMap ecell)) (hz : Mine ⟨0,z⟩ (.slice A m.l.length c)) :
  Calls Tryz.prog 87 #[.pointer (some ⟨x,0,none⟩),.agg #[.int .i64 m.k,.int .i64 m.v,.int .i64 m.m,.int .i64 m.n,.slice A m.l.length c]] w fun e w' => e = .returned (.tuple #[]) /\ KN z w w' /\ ∃ lv' rp' ov' s' G' D' n',NdW w' z x st q p lv' rp' ov' s' G' D' n' /\ StepOut s G D n (n.takeM f m) s' G' D' n':=by
 obtain ⟨h1,h2,h3,h4,h5,h6,hrows⟩:=hm
 have hm : MsOk m:=⟨h1,h2,h3,h4,h5,h6,hrows⟩
 unfold big at h2
 obtain ⟨p1,p2,p3,p4,p5,p6,p7⟩:=ms_parts hm
 have hmr:=ms_rows hm
 have hA : A = none -> c = 0:=fun e => by
  subst e
  rcases hl.2 with ⟨e2,_⟩ | ⟨g,cap,cur,e2,_⟩
  ·injection e2
  ·injection e2 with e2; cases e2
 obtain ⟨nT,hnT⟩ : ∃ k,n.takeM f m = k:=⟨_,rfl⟩
 rw [hnT]
 obtain ⟨N,hN⟩ : ∃ k,m.l.length = k:=⟨_,rfl⟩
 obtain ⟨w1,hw1⟩ : ∃ xx,xx = w.alloc (.cells #[.int .i64 m.k,.int .i64 m.v,.int .i64 m.m,.int .i64 m.n,.slice A N c] 69):=⟨_,rfl⟩
 obtain ⟨b,eb⟩ : ∃ xx,xx = w.heap.size:=⟨_,rfl⟩
 have hb1 : Below w.heap.size w w1:=by rw [hw1]; exact box_below w _
 have hk1 : w1.heap[b]? = some (.cells #[.int .i64 m.k,.int .i64 m.v,.int .i64 m.m,.int .i64 m.n,.slice A N c] 69 (0,0)):=by rw [hw1,eb]; exact new_block w _
 have hn1:=h.below hb1
 have hl1:=own_below hl hb1
 have HW1:=hJQ hw1
 have EB:=hJQ eb
 have HK1 : Hid (KN z w w1):=hJQ (KN.of_below hb1)
 have hpk : m.k = 1 ∨ m.k = 3 ∨ m.k = 4 ∨ m.k = 6:=by omega
 rcases hpk with hpk | hpk | hpk | hpk
 ·have ek : m.k = 1:=hpk
  have emm : m.m = 0:=by rw [p1 ek]
  have eyy : m.n = 0:=by rw [p1 ek]
  have hc:=ask_step (B:=A) (M:=m.l.length) (d:=c) hn1 ho hk hS h1 h2 hp
  have HC : Hid (Calls Tryz.prog 130 #[.pointer (some ⟨x,0,none⟩),.agg #[.int .i64 1,.int .i64 m.v,.int .i64 0,.int .i64 0,.slice A N c]] w1 fun e w' => e = .returned (.tuple #[]) /\ KN z w1 w' /\ ∃ lv' rp' ov' s' G' D' n',NdW w' z x st q p lv' rp' ov' s' G' D' n' /\ StepOut s G D n (n.takeAsk f ⟨1,m.v,0,0,[]⟩) s' G' D' n'):=hJQ (by rw [<- hN]; exact hc)
  have HT : Hid (n.takeAsk f ⟨1,m.v,0,0,[]⟩ = nT):=hJQ (by
   rw [<- hnT]
   unfold Nd.takeM
   rw [if_neg hk2,if_neg hk5,if_neg (by simp [hp])]
   rw [if_pos ek]; exact congrArg (n.takeAsk f) (p1 ek).symm)
  rw [ek,emm,eyy] at hk1 ⊢
  have b0:=cell_of hk1 (j:=0) rfl
  have b1:=cell_of hk1 (j:=1) rfl
  have b2:=cell_of hk1 (j:=2) rfl
  have b3:=cell_of hk1 (j:=3) rfl
  have b4:=cell_of hk1 (j:=4) rfl
  have HW1b:=hJQ HW1.out
  rw [ek,emm,eyy] at HW1b
  rw [hN]
  clear h ho hk hd hS h1 h2 h3 h4 h5 h6 hrows hm hk2 hk5 hp hf hl hz p1 p2 p3 p4 p5 p6 p7 hmr hA hnT hN hw1 eb hb1 hk1 hn1 hl1 hc ek emm hpk HW1 eyy
  go_enter Tryz.func87,Tryz.ntmps87
  go_upto_region 1 with fail
  rw [<- HW1b.out,<- EB.out]
  go_wp2_with fail
  refine HC.out.mono ?_
  rintro e w3 ⟨rfl,hkn,lv3,rp3,ov3,s3,G3,D3,n3,hn3,hso⟩
  have HFI:=hJQ (And.intro (HK1.out.trans hkn) (And.intro hn3 hso))
  clear hkn hn3 hso
  go_wp2_with fail
  first | go_end0 | (refine bodyPost_ret (results_none rfl _ _ _) rfl ?_)
  exact ⟨rfl,HFI.out.1,_,_,_,_,_,_,_,HFI.out.2.1,by rw [<- HT.out]; exact HFI.out.2.2⟩
 ·have ek : m.k = 3:=hpk
  have emm : m.m = 0:=by rw [(p3 ek).1]
  have eyy : m.n = 0:=by rw [(p3 ek).1]
  have hc:=start_step hn1 ho hk hS h1 h2 hp hl1 hz (p3 ek).2.1 (p3 ek).2.2
  have HC : Hid (Calls Tryz.prog 131 #[.pointer (some ⟨x,0,none⟩),.agg #[.int .i64 3,.int .i64 m.v,.int .i64 0,.int .i64 0,.slice A N c]] w1 fun e w' => e = .returned (.tuple #[]) /\ KN z w1 w' /\ ∃ lv' rp' ov' s' G' D' n',NdW w' z x st q p lv' rp' ov' s' G' D' n' /\ StepOut s G D n (n.takeStart f ⟨3,m.v,0,0,m.l⟩) s' G' D' n'):=hJQ (by rw [<- hN]; exact hc)
  have HT : Hid (n.takeStart f ⟨3,m.v,0,0,m.l⟩ = nT):=hJQ (by
   rw [<- hnT]
   unfold Nd.takeM
   rw [if_neg hk2,if_neg hk5,if_neg (by simp [hp])]
   rw [if_neg (by omega),if_pos ek]; exact congrArg (n.takeStart f) (p3 ek).1.symm)
  rw [ek,emm,eyy] at hk1 ⊢
  have b0:=cell_of hk1 (j:=0) rfl
  have b1:=cell_of hk1 (j:=1) rfl
  have b2:=cell_of hk1 (j:=2) rfl
  have b3:=cell_of hk1 (j:=3) rfl
  have b4:=cell_of hk1 (j:=4) rfl
  have HW1b:=hJQ HW1.out
  rw [ek,emm,eyy] at HW1b
  rw [hN]
  clear h ho hk hd hS h1 h2 h3 h4 h5 h6 hrows hm hk2 hk5 hp hf hl hz p1 p2 p3 p4 p5 p6 p7 hmr hA hnT hN hw1 eb hb1 hk1 hn1 hl1 hc ek emm hpk HW1 eyy
  go_enter Tryz.func87,Tryz.ntmps87
  go_upto_region 1 with fail
  rw [<- HW1b.out,<- EB.out]
  go_wp2_with fail
  refine HC.out.mono ?_
  rintro e w3 ⟨rfl,hkn,lv3,rp3,ov3,s3,G3,D3,n3,hn3,hso⟩
  have HFI:=hJQ (And.intro (HK1.out.trans hkn) (And.intro hn3 hso))
  clear hkn hn3 hso
  go_wp2_with fail
  first | go_end0 | (refine bodyPost_ret (results_none rfl _ _ _) rfl ?_)
  exact ⟨rfl,HFI.out.1,_,_,_,_,_,_,_,HFI.out.2.1,by rw [<- HT.out]; exact HFI.out.2.2⟩
 ·have ek : m.k = 4:=hpk
  have emm : m.m = 0:=by rw [p4 ek]
  have hc:=put_step (d:=c) (y:=m.n) hn1 ho hk hd hS h1 h2 hp hf (Rd.of_own hl1 (fun _ _ => rfl) (by decide)) hmr.2.1 hmr.1
  have HC : Hid (Calls Tryz.prog 132 #[.pointer (some ⟨x,0,none⟩),.agg #[.int .i64 4,.int .i64 m.v,.int .i64 0,.int .i64 m.n,.slice A N c]] w1 fun e w' => e = .returned (.tuple #[]) /\ KN z w1 w' /\ ∃ lv' rp' ov' s' G' D' n',NdW w' z x st q p lv' rp' ov' s' G' D' n' /\ StepOut s G D n (n.takePut f ⟨4,m.v,0,m.n,m.l⟩) s' G' D' n'):=hJQ (by rw [<- hN]; exact hc)
  have HT : Hid (n.takePut f ⟨4,m.v,0,m.n,m.l⟩ = nT):=hJQ (by
   rw [<- hnT]
   unfold Nd.takeM
   rw [if_neg hk2,if_neg hk5,if_neg (by simp [hp])]
   rw [if_neg (by omega),if_neg (by omega),if_pos ek]; exact congrArg (n.takePut f) (p4 ek).symm)
  rw [ek,emm] at hk1 ⊢
  have b0:=cell_of hk1 (j:=0) rfl
  have b1:=cell_of hk1 (j:=1) rfl
  have b2:=cell_of hk1 (j:=2) rfl
  have b3:=cell_of hk1 (j:=3) rfl
  have b4:=cell_of hk1 (j:=4) rfl
  have HW1b:=hJQ HW1.out
  rw [ek,emm] at HW1b
  rw [hN]
  clear h ho hk hd hS h1 h2 h3 h4 h5 h6 hrows hm hk2 hk5 hp hf hl hz p1 p2 p3 p4 p5 p6 p7 hmr hA hnT hN hw1 eb hb1 hk1 hn1 hl1 hc ek emm hpk HW1 
  go_enter Tryz.func87,Tryz.ntmps87
  go_upto_region 1 with fail
  rw [<- HW1b.out,<- EB.out]
  go_wp2_with fail
  refine HC.out.mono ?_
  rintro e w3 ⟨rfl,hkn,lv3,rp3,ov3,s3,G3,D3,n3,hn3,hso⟩
  have HFI:=hJQ (And.intro (HK1.out.trans hkn) (And.intro hn3 hso))
  clear hkn hn3 hso
  go_wp2_with fail
  first | go_end0 | (refine bodyPost_ret (results_none rfl _ _ _) rfl ?_)
  exact ⟨rfl,HFI.out.1,_,_,_,_,_,_,_,HFI.out.2.1,by rw [<- HT.out]; exact HFI.out.2.2⟩
 ·have ek : m.k = 6:=hpk
  have emm : m.m = 0:=by rw [p6 ek]
  have hc:=tell_step (v:=m.v) (y:=m.n) (f:=f) (B:=A) (M:=m.l.length) (d:=c) hn1
  have HC : Hid (Calls Tryz.prog 133 #[.pointer (some ⟨x,0,none⟩),.agg #[.int .i64 6,.int .i64 m.v,.int .i64 0,.int .i64 m.n,.slice A N c]] w1 fun e w' => e = .returned (.tuple #[]) /\ KN z w1 w' /\ ∃ lv' rp' ov' s' G' D' n',NdW w' z x st q p lv' rp' ov' s' G' D' n' /\ StepOut s G D n (n.takeTell ⟨6,m.v,0,m.n,[]⟩) s' G' D' n'):=hJQ (by rw [<- hN]; exact hc)
  have HT : Hid (n.takeTell ⟨6,m.v,0,m.n,[]⟩ = nT):=hJQ (by
   rw [<- hnT]
   unfold Nd.takeM
   rw [if_neg hk2,if_neg hk5,if_neg (by simp [hp])]
   rw [if_neg (by omega),if_neg (by omega),if_neg (by omega)]; exact congrArg n.takeTell (p6 ek).symm)
  rw [ek,emm] at hk1 ⊢
  have b0:=cell_of hk1 (j:=0) rfl
  have b1:=cell_of hk1 (j:=1) rfl
  have b2:=cell_of hk1 (j:=2) rfl
  have b3:=cell_of hk1 (j:=3) rfl
  have b4:=cell_of hk1 (j:=4) rfl
  have HW1b:=hJQ HW1.out
  rw [ek,emm] at HW1b
  rw [hN]
  clear h ho hk hd hS h1 h2 h3 h4 h5 h6 hrows hm hk2 hk5 hp hf hl hz p1 p2 p3 p4 p5 p6 p7 hmr hA hnT hN hw1 eb hb1 hk1 hn1 hl1 hc ek emm hpk HW1 
  go_enter Tryz.func87,Tryz.ntmps87
  go_upto_region 1 with fail
  rw [<- HW1b.out,<- EB.out]
  go_wp2_with fail
  refine HC.out.mono ?_
  rintro e w3 ⟨rfl,hkn,lv3,rp3,ov3,s3,G3,D3,n3,hn3,hso⟩
  have HFI:=hJQ (And.intro (HK1.out.trans hkn) (And.intro hn3 hso))
  clear hkn hn3 hso
  go_wp2_with fail
  first | go_end0 | (refine bodyPost_ret (results_none rfl _ _ _) rfl ?_)
  exact ⟨rfl,HFI.out.1,_,_,_,_,_,_,_,HFI.out.2.1,by rw [<- HT.out]; exact HFI.out.2.2⟩
end
open Go.ChangeShapes Go.WideShapes Go.ChangeAt Go.RowKit Go.Proofs.Rk
open Pq (Fld FReads errL bytL fcs)
open Gq (Bz Mine PL PDisk Kp Kl Lg Dk putL enc)

section
variable {w : World} {z : Nat -> Prop} {x st q p : Nat} {lv rp ov : Value} {s : Bool} {G : Lg} {D : Dk} {n : Nd}
set_option maxHeartbeats 16000000 in
theorem take_any (h : NdW w z x st q p lv rp ov s G D n) (ho : n.out.length <= 600000) (hk : NdOk n) (hd : D.dead = false) (hS : SS G D s n.ls) {pf pt : Int} {bd : ByteArray} (hbs : bd.size <= maxLen) :
  Calls Tryz.prog 40 #[.pointer (some ⟨x,0,none⟩),.agg #[.int .i64 pf,.int .i64 pt,.string bd]] w fun e w' => e = .returned (.tuple #[]) /\ KN z w w' /\ ∃ lv' rp' ov' s' G' D' n',NdW w' z x st q p lv' rp' ov' s' G' D' n' /\ StepOut s G D n (n.take pf pt (Pq.sb bd)) s' G' D' n':=by
 obtain ⟨nT,hnT⟩ : ∃ k,n.take pf pt (Pq.sb bd) = k:=⟨_,rfl⟩
 rw [hnT]
 obtain ⟨w1,hw1⟩ : ∃ xx,xx = w.alloc (.cells #[.int .i64 pf,.int .i64 pt,.string bd] 28):=⟨_,rfl⟩
 obtain ⟨b,eb⟩ : ∃ xx,xx = w.heap.size:=⟨_,rfl⟩
 have hb1 : Below w.heap.size w w1:=by rw [hw1]; exact box_below w _
 have hk1 : w1.heap[b]? = some (.cells #[.int .i64 pf,.int .i64 pt,.string bd] 28 (0,0)):=by rw [hw1,eb]; exact new_block w _
 obtain ⟨wd,hwd⟩ : ∃ xx,xx = w1.drew:=⟨_,rfl⟩
 have hbd : Below w1.heap.size w1 wd:=by rw [hwd]; exact (Below.refl _ _).drew
 have hb2:=hb1.trans (hbd.mono hb1.size)
 have hnd:=h.below hb2
 have hkd:=blk_below hk1 hbd
 have hn1:=h.below hb1
 have HDA:=hJQ (ndead_any hnd)
 rw [hd] at HDA
 have hH1 : w1.cell? ⟨x,0,none⟩ = some (.int .i64 (n.self : Int)) /\ w1.cell? ⟨x,1,none⟩ = some (.int .i64 (n.many : Int)) /\ w1.cell? ⟨b,0,none⟩ = some (.int .i64 pf) /\ w1.cell? ⟨b,1,none⟩ = some (.int .i64 pt):=⟨cell_of hn1.here (j:=0) rfl,cell_of hn1.here (j:=1) rfl,cell_of hk1 (j:=0) rfl,cell_of hk1 (j:=1) rfl⟩
 have HD1 : Hid (wd.cell? ⟨x,0,none⟩ = some (.int .i64 (n.self : Int)) /\ wd.cell? ⟨x,1,none⟩ = some (.int .i64 (n.many : Int)) /\ wd.cell? ⟨b,0,none⟩ = some (.int .i64 pf) /\ wd.cell? ⟨b,1,none⟩ = some (.int .i64 pt)):=hJQ ⟨cell_of hnd.here (j:=0) rfl,cell_of hnd.here (j:=1) rfl,cell_of hkd (j:=0) rfl,cell_of hkd (j:=1) rfl⟩
 have HND:=hJQ hnd
 have HKD:=hJQ hkd
 have HKN : Hid (KN z w wd):=hJQ (KN.of_below hb2)
 have HW1:=hJQ hw1
 have EB:=hJQ eb
 have HWD:=hJQ hwd
 have HQ : Hid (¬ (pt = n.self /\ pf ≠ n.self /\ 0 <= pf /\ pf < n.many) -> nT = n):=hJQ (fun hc => by
  rw [<- hnT]
  unfold Nd.take
  split
  ·rfl
  ·rw [if_neg hc])
 by_cases h1 : pt = (n.self : Int)
 ·have e1 : (pt != (n.self : Int)) = false:=by simpa using h1
  by_cases h2 : pf = (n.self : Int)
  ·have e2 : (pf == (n.self : Int)) = true:=by simpa using h2
   have HE : Hid (nT = n):=hJQ (HQ.out (fun hc => hc.2.1 h2))
   clear h1 h2
   clear h ho hk hd hS hbs hnT hw1 eb hb1 hk1 hwd hbd hb2 hnd hkd hn1 HQ
   go_enter Tryz.func40,Tryz.ntmps40
   go_upto_region 1 with fail
   rw [<- HW1.out,<- EB.out]
   refine wp_region_held_drew (S:=fun V => V.cell? ⟨x,0,none⟩ = some (.int .i64 (n.self : Int)) /\ V.cell? ⟨x,1,none⟩ = some (.int .i64 (n.many : Int)) /\ V.cell? ⟨b,0,none⟩ = some (.int .i64 pf) /\ V.cell? ⟨b,1,none⟩ = some (.int .i64 pt)) (by kernel_rfl) hH1 (fun hHeld => ?_)
   clear hHeld hH1
   have hHeld:=HD1.out
   rw [<- HWD.out]
   refine tk 0 6 (.pointer (some ⟨x,0,none⟩)) hHeld ?_
   simp only [lz,ls]
   refine r1 1 (fun K hK => ?_) rfl
   go_simp
   refine HDA.out.mono ?_
   rintro e w6 ⟨rfl,rfl⟩
   go_wp2_with fail
   refine hK.out _ _ (hHeld) (fun hHeld => ?_)
   clear hK K
   try simp only [Act.put,lp,lz,ls]
   refine tk 2 8 (.bool false) hHeld ?_
   refine tk 3 9 (.pointer (some ⟨b,1,none⟩)) hHeld ?_
   refine tm 4 10 (.int .i64 pt) hHeld ?_
   refine tk 5 11 (.pointer (some ⟨x,0,none⟩)) hHeld ?_
   refine tk 6 12 (.pointer (some ⟨x,0,none⟩)) hHeld ?_
   simp only [lz,ls]
   refine tk 7 13 (.pointer (some ⟨x,0,none⟩)) hHeld ?_
   refine tm 8 14 (.int .i64 (n.self : Int)) hHeld ?_
   refine tk 9 15 (.bool false) hHeld ?_
   refine tk 10 16 (.bool false) hHeld ?_
   refine tk 11 17 (.bool false) hHeld ?_
   simp only [lz,ls]
   refine tk 12 18 (.pointer (some ⟨b,0,none⟩)) hHeld ?_
   refine tm 13 19 (.int .i64 pf) hHeld ?_
   refine tk 14 20 (.pointer (some ⟨x,0,none⟩)) hHeld ?_
   refine tk 15 21 (.pointer (some ⟨x,0,none⟩)) hHeld ?_
   refine tk 16 22 (.pointer (some ⟨x,0,none⟩)) hHeld ?_
   simp only [lz,ls]
   refine tm 17 23 (.int .i64 (n.self : Int)) hHeld ?_
   refine tk 18 24 (.bool true) hHeld ?_
   refine tk 19 25 (.bool true) hHeld ?_
   refine tk 20 26 (.bool true) hHeld ?_
   refine tu 21 27 hHeld ?_
   simp only [lz,ls]
   refine tu 22 28 hHeld ?_
   refine tu 23 29 hHeld ?_
   refine tk 24 30 (.bool true) hHeld ?_
   refine tk 25 31 (.bool true) hHeld ?_
   refine tu 26 32 hHeld ?_
   simp only [lz,ls]
   refine tu 27 33 hHeld ?_
   refine tu 28 34 hHeld ?_
   refine tu 29 35 hHeld ?_
   refine tu 30 36 hHeld ?_
   refine tu 31 37 hHeld ?_
   simp only [lz,ls]
   refine tu 32 38 hHeld ?_
   refine tk 33 39 (.bool true) hHeld ?_
   simp only [lz,ls]
   refine wpAnyH_done (by kernel_rfl) ?_ _
   clear hHeld
   go_wp2_with fail
   first | go_end0 | (refine bodyPost_ret (results_none rfl _ _ _) rfl ?_)
   exact ⟨rfl,HKN.out,_,_,_,_,_,_,_,HND.out,.same HE.out⟩
  ·have e2 : (pf == (n.self : Int)) = false:=by simpa using h2
   by_cases h3 : pf < 0
   ·have e3 : decide (pf < 0) = true:=by simpa using h3
    have HE : Hid (nT = n):=hJQ (HQ.out (fun hc => by have:=hc.2.2.1; omega))
    clear h1 h2 h3
    clear h ho hk hd hS hbs hnT hw1 eb hb1 hk1 hwd hbd hb2 hnd hkd hn1 HQ
    go_enter Tryz.func40,Tryz.ntmps40
    go_upto_region 1 with fail
    rw [<- HW1.out,<- EB.out]
    refine wp_region_held_drew (S:=fun V => V.cell? ⟨x,0,none⟩ = some (.int .i64 (n.self : Int)) /\ V.cell? ⟨x,1,none⟩ = some (.int .i64 (n.many : Int)) /\ V.cell? ⟨b,0,none⟩ = some (.int .i64 pf) /\ V.cell? ⟨b,1,none⟩ = some (.int .i64 pt)) (by kernel_rfl) hH1 (fun hHeld => ?_)
    clear hHeld hH1
    have hHeld:=HD1.out
    rw [<- HWD.out]
    refine tk 0 6 (.pointer (some ⟨x,0,none⟩)) hHeld ?_
    simp only [lz,ls]
    refine r1 1 (fun K hK => ?_) rfl
    go_simp
    refine HDA.out.mono ?_
    rintro e w6 ⟨rfl,rfl⟩
    go_wp2_with fail
    refine hK.out _ _ (hHeld) (fun hHeld => ?_)
    clear hK K
    try simp only [Act.put,lp,lz,ls]
    refine tk 2 8 (.bool false) hHeld ?_
    refine tk 3 9 (.pointer (some ⟨b,1,none⟩)) hHeld ?_
    refine tm 4 10 (.int .i64 pt) hHeld ?_
    refine tk 5 11 (.pointer (some ⟨x,0,none⟩)) hHeld ?_
    refine tk 6 12 (.pointer (some ⟨x,0,none⟩)) hHeld ?_
    simp only [lz,ls]
    refine tk 7 13 (.pointer (some ⟨x,0,none⟩)) hHeld ?_
    refine tm 8 14 (.int .i64 (n.self : Int)) hHeld ?_
    refine tk 9 15 (.bool false) hHeld ?_
    refine tk 10 16 (.bool false) hHeld ?_
    refine tk 11 17 (.bool false) hHeld ?_
    simp only [lz,ls]
    refine tk 12 18 (.pointer (some ⟨b,0,none⟩)) hHeld ?_
    refine tm 13 19 (.int .i64 pf) hHeld ?_
    refine tk 14 20 (.pointer (some ⟨x,0,none⟩)) hHeld ?_
    refine tk 15 21 (.pointer (some ⟨x,0,none⟩)) hHeld ?_
    refine tk 16 22 (.pointer (some ⟨x,0,none⟩)) hHeld ?_
    simp only [lz,ls]
    refine tm 17 23 (.int .i64 (n.self : Int)) hHeld ?_
    refine tk 18 24 (.bool false) hHeld ?_
    refine tk 19 25 (.bool false) hHeld ?_
    refine tk 20 26 (.bool false) hHeld ?_
    refine tk 21 27 (.pointer (some ⟨b,0,none⟩)) hHeld ?_
    simp only [lz,ls]
    refine tm 22 28 (.int .i64 pf) hHeld ?_
    refine tk 23 29 (.bool true) hHeld ?_
    refine tk 24 30 (.bool true) hHeld ?_
    refine tk 25 31 (.bool true) hHeld ?_
    refine tu 26 32 hHeld ?_
    simp only [lz,ls]
    refine tu 27 33 hHeld ?_
    refine tu 28 34 hHeld ?_
    refine tu 29 35 hHeld ?_
    refine tu 30 36 hHeld ?_
    refine tu 31 37 hHeld ?_
    simp only [lz,ls]
    refine tu 32 38 hHeld ?_
    refine tk 33 39 (.bool true) hHeld ?_
    simp only [lz,ls]
    refine wpAnyH_done (by kernel_rfl) ?_ _
    clear hHeld
    go_wp2_with fail
    first | go_end0 | (refine bodyPost_ret (results_none rfl _ _ _) rfl ?_)
    exact ⟨rfl,HKN.out,_,_,_,_,_,_,_,HND.out,.same HE.out⟩
   ·have e3 : decide (pf < 0) = false:=by simpa using h3
    by_cases h4 : (n.many : Int) <= pf
    ·have e4 : decide ((n.many : Int) <= pf) = true:=by simpa using h4
     have HE : Hid (nT = n):=hJQ (HQ.out (fun hc => by have:=hc.2.2.2; omega))
     clear h1 h2 h3 h4
     clear h ho hk hd hS hbs hnT hw1 eb hb1 hk1 hwd hbd hb2 hnd hkd hn1 HQ
     go_enter Tryz.func40,Tryz.ntmps40
     go_upto_region 1 with fail
     rw [<- HW1.out,<- EB.out]
     refine wp_region_held_drew (S:=fun V => V.cell? ⟨x,0,none⟩ = some (.int .i64 (n.self : Int)) /\ V.cell? ⟨x,1,none⟩ = some (.int .i64 (n.many : Int)) /\ V.cell? ⟨b,0,none⟩ = some (.int .i64 pf) /\ V.cell? ⟨b,1,none⟩ = some (.int .i64 pt)) (by kernel_rfl) hH1 (fun hHeld => ?_)
     clear hHeld hH1
     have hHeld:=HD1.out
     rw [<- HWD.out]
     refine tk 0 6 (.pointer (some ⟨x,0,none⟩)) hHeld ?_
     simp only [lz,ls]
     refine r1 1 (fun K hK => ?_) rfl
     go_simp
     refine HDA.out.mono ?_
     rintro e w6 ⟨rfl,rfl⟩
     go_wp2_with fail
     refine hK.out _ _ (hHeld) (fun hHeld => ?_)
     clear hK K
     try simp only [Act.put,lp,lz,ls]
     refine tk 2 8 (.bool false) hHeld ?_
     refine tk 3 9 (.pointer (some ⟨b,1,none⟩)) hHeld ?_
     refine tm 4 10 (.int .i64 pt) hHeld ?_
     refine tk 5 11 (.pointer (some ⟨x,0,none⟩)) hHeld ?_
     refine tk 6 12 (.pointer (some ⟨x,0,none⟩)) hHeld ?_
     simp only [lz,ls]
     refine tk 7 13 (.pointer (some ⟨x,0,none⟩)) hHeld ?_
     refine tm 8 14 (.int .i64 (n.self : Int)) hHeld ?_
     refine tk 9 15 (.bool false) hHeld ?_
     refine tk 10 16 (.bool false) hHeld ?_
     refine tk 11 17 (.bool false) hHeld ?_
     simp only [lz,ls]
     refine tk 12 18 (.pointer (some ⟨b,0,none⟩)) hHeld ?_
     refine tm 13 19 (.int .i64 pf) hHeld ?_
     refine tk 14 20 (.pointer (some ⟨x,0,none⟩)) hHeld ?_
     refine tk 15 21 (.pointer (some ⟨x,0,none⟩)) hHeld ?_
     refine tk 16 22 (.pointer (some ⟨x,0,none⟩)) hHeld ?_
     simp only [lz,ls]
     refine tm 17 23 (.int .i64 (n.self : Int)) hHeld ?_
     refine tk 18 24 (.bool false) hHeld ?_
     refine tk 19 25 (.bool false) hHeld ?_
     refine tk 20 26 (.bool false) hHeld ?_
     refine tk 21 27 (.pointer (some ⟨b,0,none⟩)) hHeld ?_
     simp only [lz,ls]
     refine tm 22 28 (.int .i64 pf) hHeld ?_
     refine tk 23 29 (.bool false) hHeld ?_
     refine tk 24 30 (.bool false) hHeld ?_
     refine tk 25 31 (.bool false) hHeld ?_
     refine tk 26 32 (.pointer (some ⟨b,0,none⟩)) hHeld ?_
     simp only [lz,ls]
     refine tm 27 33 (.int .i64 pf) hHeld ?_
     refine tk 28 34 (.pointer (some ⟨x,0,none⟩)) hHeld ?_
     refine tk 29 35 (.pointer (some ⟨x,0,none⟩)) hHeld ?_
     refine tk 30 36 (.pointer (some ⟨x,1,none⟩)) hHeld ?_
     refine tm 31 37 (.int .i64 (n.many : Int)) hHeld ?_
     simp only [lz,ls]
     refine tk 32 38 (.bool true) hHeld ?_
     refine tk 33 39 (.bool true) hHeld ?_
     simp only [lz,ls]
     refine wpAnyH_done (by kernel_rfl) ?_ _
     clear hHeld
     go_wp2_with fail
     first | go_end0 | (refine bodyPost_ret (results_none rfl _ _ _) rfl ?_)
     exact ⟨rfl,HKN.out,_,_,_,_,_,_,_,HND.out,.same HE.out⟩
    ·have e4 : decide ((n.many : Int) <= pf) = false:=by simpa using h4
     obtain ⟨f,hpf⟩ : ∃ f : Nat,pf = (f : Int):=⟨pf.toNat,by omega⟩
     have hfm : f < n.many:=by omega
     have hfs : f ≠ n.self:=by omega
     have HDE:=hJQ (odecode_any bd wd hbs)
     have HNT : Hid ((deM (Pq.sb bd) = none -> nT = n) /\ ∀ m,deM (Pq.sb bd) = some m -> nT = n.takeM f m):=hJQ ⟨fun e => by rw [<- hnT]; unfold Nd.take; rw [e],fun m e => by
      rw [<- hnT]
      unfold Nd.take
      rw [e]
      simp only []
      rw [if_pos ⟨h1,h2,by omega,by omega⟩]
      have e9 : pf.toNat = f:=by omega
      rw [e9]⟩
     have HH:=hJQ (And.intro ho (And.intro hk (And.intro hd hS)))
     have HF:=hJQ (And.intro hfm hfs)
     have HPF:=hJQ hpf
     clear h1 h2 h3 h4 hpf hfm hfs HQ
     clear h ho hk hd hS hbs hnT hw1 eb hb1 hk1 hwd hbd hb2 hnd hkd hn1
     go_enter Tryz.func40,Tryz.ntmps40
     go_upto_region 1 with fail
     rw [<- HW1.out,<- EB.out]
     refine wp_region_held_drew (S:=fun V => V.cell? ⟨x,0,none⟩ = some (.int .i64 (n.self : Int)) /\ V.cell? ⟨x,1,none⟩ = some (.int .i64 (n.many : Int)) /\ V.cell? ⟨b,0,none⟩ = some (.int .i64 pf) /\ V.cell? ⟨b,1,none⟩ = some (.int .i64 pt)) (by kernel_rfl) hH1 (fun hHeld => ?_)
     clear hHeld hH1
     have hHeld:=HD1.out
     rw [<- HWD.out]
     refine tk 0 6 (.pointer (some ⟨x,0,none⟩)) hHeld ?_
     simp only [lz,ls]
     refine r1 1 (fun K hK => ?_) rfl
     go_simp
     refine HDA.out.mono ?_
     rintro e w6 ⟨rfl,rfl⟩
     go_wp2_with fail
     refine hK.out _ _ (hHeld) (fun hHeld => ?_)
     clear hK K
     try simp only [Act.put,lp,lz,ls]
     refine tk 2 8 (.bool false) hHeld ?_
     refine tk 3 9 (.pointer (some ⟨b,1,none⟩)) hHeld ?_
     refine tm 4 10 (.int .i64 pt) hHeld ?_
     refine tk 5 11 (.pointer (some ⟨x,0,none⟩)) hHeld ?_
     refine tk 6 12 (.pointer (some ⟨x,0,none⟩)) hHeld ?_
     simp only [lz,ls]
     refine tk 7 13 (.pointer (some ⟨x,0,none⟩)) hHeld ?_
     refine tm 8 14 (.int .i64 (n.self : Int)) hHeld ?_
     refine tk 9 15 (.bool false) hHeld ?_
     refine tk 10 16 (.bool false) hHeld ?_
     refine tk 11 17 (.bool false) hHeld ?_
     simp only [lz,ls]
     refine tk 12 18 (.pointer (some ⟨b,0,none⟩)) hHeld ?_
     refine tm 13 19 (.int .i64 pf) hHeld ?_
     refine tk 14 20 (.pointer (some ⟨x,0,none⟩)) hHeld ?_
     refine tk 15 21 (.pointer (some ⟨x,0,none⟩)) hHeld ?_
     refine tk 16 22 (.pointer (some ⟨x,0,none⟩)) hHeld ?_
     simp only [lz,ls]
     refine tm 17 23 (.int .i64 (n.self : Int)) hHeld ?_
     refine tk 18 24 (.bool false) hHeld ?_
     refine tk 19 25 (.bool false) hHeld ?_
     refine tk 20 26 (.bool false) hHeld ?_
     refine tk 21 27 (.pointer (some ⟨b,0,none⟩)) hHeld ?_
     simp only [lz,ls]
     refine tm 22 28 (.int .i64 pf) hHeld ?_
     refine tk 23 29 (.bool false) hHeld ?_
     refine tk 24 30 (.bool false) hHeld ?_
     refine tk 25 31 (.bool false) hHeld ?_
     refine tk 26 32 (.pointer (some ⟨b,0,none⟩)) hHeld ?_
     simp only [lz,ls]
     refine tm 27 33 (.int .i64 pf) hHeld ?_
     refine tk 28 34 (.pointer (some ⟨x,0,none⟩)) hHeld ?_
     refine tk 29 35 (.pointer (some ⟨x,0,none⟩)) hHeld ?_
     refine tk 30 36 (.pointer (some ⟨x,1,none⟩)) hHeld ?_
     refine tm 31 37 (.int .i64 (n.many : Int)) hHeld ?_
     simp only [lz,ls]
     refine tk 32 38 (.bool false) hHeld ?_
     refine tk 33 39 (.bool false) hHeld ?_
     simp only [lz,ls]
     refine wpAnyH_done (by kernel_rfl) ?_ _
     clear hHeld
     have c2:=cell_of HKD.out (j:=2) rfl
     go_wp2_with fail
     refine HDE.out.mono ?_
     intro e w3 hpost
     obtain ⟨R,hR⟩ : ∃ k,deM (Pq.sb bd) = k:=⟨_,rfl⟩
     rw [hR] at hpost
     obtain ⟨hb3,hpost⟩:=hpost
     cases R with
     | none =>
      obtain rfl:=hpost
      have HE:=hJQ (HNT.out.1 hR)
      have HN3:=hJQ (HND.out.below hb3)
      have HK3:=hJQ (HKN.out.trans (KN.of_below hb3))
      obtain ⟨w4,hw4⟩ : ∃ xx,xx = w3.alloc (.cells #[.int .i64 0,.int .i64 0,.int .i64 0,.int .i64 0,.slice none 0 0] 69):=⟨_,rfl⟩
      have hb4 : Below w3.heap.size w3 w4:=by rw [hw4]; exact box_below w3 _
      have HN4:=hJQ (HN3.out.below hb4)
      have HK4:=hJQ (HK3.out.trans (KN.of_below hb4))
      have HW4:=hJQ hw4
      clear hR hb3 c2 hw4 hb4
      go_wp2_with fail
      rw [<- HW4.out]
      first | go_end0 | (refine bodyPost_ret (results_none rfl _ _ _) rfl ?_)
      exact ⟨rfl,HK4.out,_,_,_,_,_,_,_,HN4.out,.same HE.out⟩
     | some m =>
      obtain ⟨A,c,rfl,hl3⟩:=hpost
      have HT:=hJQ (HNT.out.2 m hR)
      have hm:=deM_ok hR
      have hz3 : Mine ⟨0,z⟩ (.slice A m.l.length c):=fun k e hz => by
       have h1:=own_ge hl3 k e
       have h2:=HND.out.zl k hz
       omega
      have hl30:=own_base hl3 (Nat.zero_le _)
      have hn3:=HND.out.below hb3
      obtain ⟨N,hN⟩ : ∃ k,m.l.length = k:=⟨_,rfl⟩
      obtain ⟨w4,hw4⟩ : ∃ xx,xx = w3.alloc (.cells #[.int .i64 m.k,.int .i64 m.v,.int .i64 m.m,.int .i64 m.n,.slice A N c] 69):=⟨_,rfl⟩
      obtain ⟨b4,eb4⟩ : ∃ xx,xx = w3.heap.size:=⟨_,rfl⟩
      have hb4 : Below w3.heap.size w3 w4:=by rw [hw4]; exact box_below w3 _
      have hk4 : w4.heap[b4]? = some (.cells #[.int .i64 m.k,.int .i64 m.v,.int .i64 m.m,.int .i64 m.n,.slice A N c] 69 (0,0)):=by rw [hw4,eb4]; exact new_block w3 _
      have hn4:=hn3.below hb4
      have hl4:=own_below hl30 hb4
      have hkp4:=blk_below (blk_below HKD.out hb3) hb4
      obtain ⟨ho,hk,hd,hS⟩:=HH.out
      obtain ⟨hfm,hfs⟩:=HF.out
      obtain ⟨q1,q2,q3,q4,q5,q6,q7⟩:=ms_parts hm
      have HW4:=hJQ hw4
      have EB4:=hJQ eb4
      have HK4:=hJQ (HKN.out.trans (KN.of_below (hb3.trans (hb4.mono hb3.size))))
      have HN4:=hJQ hn4
      have HKP4:=hJQ hkp4
      have HPFX:=hJQ HPF.out
      rw [hN]
      by_cases k2 : m.k = 2
      ·have hc:=tjoin_step (m:=m.m) hn4 ho hk hS hfm hl4 hz3 (q2 k2).2
       have HC : Hid (Calls Tryz.prog 84 #[.pointer (some ⟨x,0,none⟩),.int .i64 pf,.agg #[.int .i64 2,.int .i64 m.v,.int .i64 m.m,.int .i64 0,.slice A N c]] w4 fun e w' => e = .returned (.tuple #[]) /\ KN z w4 w' /\ ∃ lv' rp' ov' s' G' D' n',NdW w' z x st q p lv' rp' ov' s' G' D' n' /\ StepOut s G D n (n.takeJoin f ⟨2,m.v,m.m,0,m.l⟩) s' G' D' n'):=hJQ (by rw [<- hN,HPF.out]; exact hc)
       have HTT : Hid (n.takeJoin f ⟨2,m.v,m.m,0,m.l⟩ = nT):=hJQ (by
        rw [HT.out]
        unfold Nd.takeM
        rw [if_pos k2]
        exact congrArg (n.takeJoin f) (q2 k2).1.symm)
       have en : m.n = 0:=by rw [(q2 k2).1]
       have HW4b:=HW4
       rw [k2,en] at hk4 HW4b ⊢
       have b0:=cell_of hk4 (j:=0) rfl
       have b1:=cell_of hk4 (j:=1) rfl
       have b2:=cell_of hk4 (j:=2) rfl
       have b3:=cell_of hk4 (j:=3) rfl
       have b4c:=cell_of hk4 (j:=4) rfl
       have p0:=cell_of HKP4.out (j:=0) rfl
       clear c2 hm hz3 hl30 hn3 hN hw4 eb4 hb4 hn4 hl4 hkp4 ho hk hd hS hfm hfs q1 q2 q3 q4 q5 q6 q7 hR hb3 hl3 hc en
       go_upto_region 3 with fail
       rw [<- HW4b.out,<- EB4.out]
       go_wp2_with fail
       refine HC.out.mono ?_
       rintro e w6 ⟨rfl,hkn,lv6,rp6,ov6,s6,G6,D6,n6,hn6,hso⟩
       have HFI:=hJQ (And.intro (HK4.out.trans hkn) (And.intro hn6 hso))
       clear hkn hn6 hso
       go_wp2_with fail
       first | go_end0 | (refine bodyPost_ret (results_none rfl _ _ _) rfl ?_)
       exact ⟨rfl,HFI.out.1,_,_,_,_,_,_,_,HFI.out.2.1,by rw [<- HTT.out]; exact HFI.out.2.2⟩
      ·by_cases k5 : m.k = 5
       ·have hy0 : 0 <= m.n:=hm.2.2.2.2.1
        have hc:=ack_step (v:=m.v) (y:=m.n) (B:=A) (M:=m.l.length) (d:=c) hn4 ho hk hfm hy0
        have HC : Hid (Calls Tryz.prog 85 #[.pointer (some ⟨x,0,none⟩),.int .i64 pf,.agg #[.int .i64 5,.int .i64 m.v,.int .i64 0,.int .i64 m.n,.slice A N c]] w4 fun e w' => e = .returned (.tuple #[]) /\ KN z w4 w' /\ ∃ lv' rp' ov' s' G' D' n',NdW w' z x st q p lv' rp' ov' s' G' D' n' /\ StepOut s G D n (n.takeAck f ⟨5,m.v,0,m.n,[]⟩) s' G' D' n'):=hJQ (by rw [<- hN,HPF.out]; exact hc)
        have HTT : Hid (n.takeAck f ⟨5,m.v,0,m.n,[]⟩ = nT):=hJQ (by
         rw [HT.out]
         unfold Nd.takeM
         rw [if_neg k2,if_pos k5]
         exact congrArg (n.takeAck f) (q5 k5).symm)
        have em : m.m = 0:=by rw [q5 k5]
        have HW4b:=HW4
        rw [k5,em] at hk4 HW4b ⊢
        have b0:=cell_of hk4 (j:=0) rfl
        have b1:=cell_of hk4 (j:=1) rfl
        have b2:=cell_of hk4 (j:=2) rfl
        have b3:=cell_of hk4 (j:=3) rfl
        have b4c:=cell_of hk4 (j:=4) rfl
        have p0:=cell_of HKP4.out (j:=0) rfl
        clear c2 hm hz3 hl30 hn3 hN hw4 eb4 hb4 hn4 hl4 hkp4 ho hk hd hS hfm hfs q1 q2 q3 q4 q5 q6 q7 hR hb3 hl3 hc em hy0
        go_upto_region 3 with fail
        rw [<- HW4b.out,<- EB4.out]
        go_wp2_with fail
        refine HC.out.mono ?_
        rintro e w6 ⟨rfl,hkn,lv6,rp6,ov6,s6,G6,D6,n6,hn6,hso⟩
        have HFI:=hJQ (And.intro (HK4.out.trans hkn) (And.intro hn6 hso))
        clear hkn hn6 hso
        go_wp2_with fail
        first | go_end0 | (refine bodyPost_ret (results_none rfl _ _ _) rfl ?_)
        exact ⟨rfl,HFI.out.1,_,_,_,_,_,_,_,HFI.out.2.1,by rw [<- HTT.out]; exact HFI.out.2.2⟩
       ·have e2m : (m.k == 2) = false:=by simpa using k2
        have e5m : (m.k == 5) = false:=by simpa using k5
        obtain ⟨wx,hwx⟩ : ∃ xx,xx = w4.drew:=⟨_,rfl⟩
        have hbx : Below w4.heap.size w4 wx:=by rw [hwx]; exact (Below.refl _ _).drew
        have hnx:=hn4.below hbx
        have hkx:=blk_below hk4 hbx
        have hkpx:=blk_below hkp4 hbx
        have HKX:=hJQ hkx
        obtain ⟨pp,hpp⟩ : ∃ k,pri m.v n.many = k:=⟨_,rfl⟩
        have HPR:=hJQ (primary_any m.v n.many wx)
        rw [hpp] at HPR
        have hH8 : w4.cell? ⟨x,1,none⟩ = some (.int .i64 (n.many : Int)) /\ w4.cell? ⟨b,0,none⟩ = some (.int .i64 pf) /\ w4.cell? ⟨b4,1,none⟩ = some (.int .i64 m.v):=⟨cell_of hn4.here (j:=1) rfl,cell_of hkp4 (j:=0) rfl,cell_of hk4 (j:=1) rfl⟩
        have HD8 : Hid (wx.cell? ⟨x,1,none⟩ = some (.int .i64 (n.many : Int)) /\ wx.cell? ⟨b,0,none⟩ = some (.int .i64 pf) /\ wx.cell? ⟨b4,1,none⟩ = some (.int .i64 m.v)):=hJQ ⟨cell_of hnx.here (j:=1) rfl,cell_of hkpx (j:=0) rfl,cell_of hkx (j:=1) rfl⟩
        have HWX:=hJQ hwx
        have HNX:=hJQ hnx
        have HKNX:=hJQ (HK4.out.trans (KN.of_below hbx))
        have b0:=cell_of hk4 (j:=0) rfl
        by_cases hpf2 : pf = pp
        ·have e8 : (pf == pp) = true:=by simpa using hpf2
         have hc:=heed_any hnx ho hk hd hS hm k2 k5 (f:=f) (by rw [hpp,<- hpf2]; exact HPF.out) hfs (own_below hl4 hbx) hz3
         have HC : Hid (Calls Tryz.prog 87 #[.pointer (some ⟨x,0,none⟩),.agg #[.int .i64 m.k,.int .i64 m.v,.int .i64 m.m,.int .i64 m.n,.slice A N c]] wx fun e w' => e = .returned (.tuple #[]) /\ KN z wx w' /\ ∃ lv' rp' ov' s' G' D' n',NdW w' z x st q p lv' rp' ov' s' G' D' n' /\ StepOut s G D n (n.takeM f m) s' G' D' n'):=hJQ (by rw [<- hN]; exact hc)
         have HTT : Hid (n.takeM f m = nT):=hJQ HT.out.symm
         clear c2 hm hz3 hl30 hn3 hN hw4 eb4 hb4 hn4 hl4 hkp4 ho hk hd hS hfm hfs q1 q2 q3 q4 q5 q6 q7 hR hb3 hl3 hc hwx hbx hnx hkx hkpx hpp hpf2 k2 k5 hk4
         go_upto_region 3 with fail
         rw [<- HW4.out,<- EB4.out]
         go_upto_region 8 with fail
         clear b0 e2m e5m
         refine wp_region_held_drew (S:=fun V => V.cell? ⟨x,1,none⟩ = some (.int .i64 (n.many : Int)) /\ V.cell? ⟨b,0,none⟩ = some (.int .i64 pf) /\ V.cell? ⟨b4,1,none⟩ = some (.int .i64 m.v)) (by kernel_rfl) hH8 (fun hHeld => ?_)
         clear hHeld hH8
         have hHeld:=HD8.out
         rw [<- HWX.out]
         refine tk 0 68 (.pointer (some ⟨b,0,none⟩)) hHeld ?_
         refine tm 1 69 (.int .i64 pf) hHeld ?_
         refine tk 2 70 (.pointer (some ⟨b4,1,none⟩)) hHeld ?_
         refine tm 3 71 (.int .i64 m.v) hHeld ?_
         refine tk 4 72 (.pointer (some ⟨x,0,none⟩)) hHeld ?_
         simp only [lz,ls]
         refine tk 5 73 (.pointer (some ⟨x,0,none⟩)) hHeld ?_
         refine tk 6 74 (.pointer (some ⟨x,1,none⟩)) hHeld ?_
         refine tm 7 75 (.int .i64 (n.many : Int)) hHeld ?_
         simp only [lz,ls]
         refine r1 8 (fun K hK => ?_) rfl
         go_simp
         refine HPR.out.mono ?_
         rintro e w6 ⟨rfl,rfl⟩
         go_wp2_with fail
         refine hK.out _ _ (hHeld) (fun hHeld => ?_)
         clear hK K
         try simp only [Act.put,lp,lz,ls]
         refine tk 9 77 (.bool true) hHeld ?_
         refine tk 10 67 (.bool true) hHeld ?_
         simp only [lz,ls]
         refine wpAnyH_done (by kernel_rfl) ?_ _
         clear hHeld e8
         have b0:=cell_of HKX.out (j:=0) rfl
         have b1:=cell_of HKX.out (j:=1) rfl
         have b2:=cell_of HKX.out (j:=2) rfl
         have b3:=cell_of HKX.out (j:=3) rfl
         have b4c:=cell_of HKX.out (j:=4) rfl
         go_wp2_with fail
         refine HC.out.mono ?_
         rintro e w6 ⟨rfl,hkn,lv6,rp6,ov6,s6,G6,D6,n6,hn6,hso⟩
         have HFI:=hJQ (And.intro (HKNX.out.trans hkn) (And.intro hn6 hso))
         clear hkn hn6 hso
         go_wp2_with fail
         first | go_end0 | (refine bodyPost_ret (results_none rfl _ _ _) rfl ?_)
         exact ⟨rfl,HFI.out.1,_,_,_,_,_,_,_,HFI.out.2.1,by rw [<- HTT.out]; exact HFI.out.2.2⟩
        ·have e8 : (pf == pp) = false:=by simpa using hpf2
         have HTT : Hid (nT = n):=hJQ (by
          rw [HT.out]
          unfold Nd.takeM
          rw [if_neg k2,if_neg k5,if_pos (by rw [hpp]; intro e; exact hpf2 (by rw [HPF.out,e]))])
         clear c2 hm hz3 hl30 hn3 hN hw4 eb4 hb4 hn4 hl4 hkp4 ho hk hd hS hfm hfs q1 q2 q3 q4 q5 q6 q7 hR hb3 hl3 hwx hbx hnx hkx hkpx hpp hpf2 k2 k5 hk4
         go_upto_region 3 with fail
         rw [<- HW4.out,<- EB4.out]
         go_upto_region 8 with fail
         clear b0 e2m e5m
         refine wp_region_held_drew (S:=fun V => V.cell? ⟨x,1,none⟩ = some (.int .i64 (n.many : Int)) /\ V.cell? ⟨b,0,none⟩ = some (.int .i64 pf) /\ V.cell? ⟨b4,1,none⟩ = some (.int .i64 m.v)) (by kernel_rfl) hH8 (fun hHeld => ?_)
         clear hHeld hH8
         have hHeld:=HD8.out
         rw [<- HWX.out]
         refine tk 0 68 (.pointer (some ⟨b,0,none⟩)) hHeld ?_
         refine tm 1 69 (.int .i64 pf) hHeld ?_
         refine tk 2 70 (.pointer (some ⟨b4,1,none⟩)) hHeld ?_
         refine tm 3 71 (.int .i64 m.v) hHeld ?_
         refine tk 4 72 (.pointer (some ⟨x,0,none⟩)) hHeld ?_
         simp only [lz,ls]
         refine tk 5 73 (.pointer (some ⟨x,0,none⟩)) hHeld ?_
         refine tk 6 74 (.pointer (some ⟨x,1,none⟩)) hHeld ?_
         refine tm 7 75 (.int .i64 (n.many : Int)) hHeld ?_
         simp only [lz,ls]
         refine r1 8 (fun K hK => ?_) rfl
         go_simp
         refine HPR.out.mono ?_
         rintro e w6 ⟨rfl,rfl⟩
         go_wp2_with fail
         refine hK.out _ _ (hHeld) (fun hHeld => ?_)
         clear hK K
         try simp only [Act.put,lp,lz,ls]
         refine tk 9 77 (.bool false) hHeld ?_
         refine tk 10 67 (.bool false) hHeld ?_
         simp only [lz,ls]
         refine wpAnyH_done (by kernel_rfl) ?_ _
         clear hHeld e8
         go_wp2_with fail
         first | go_end0 | (refine bodyPost_ret (results_none rfl _ _ _) rfl ?_)
         exact ⟨rfl,HKNX.out,_,_,_,_,_,_,_,HNX.out,.same HTT.out⟩
 ·have e1 : (pt != (n.self : Int)) = true:=by simpa using h1
  have HE : Hid (nT = n):=hJQ (HQ.out (fun hc => h1 hc.1))
  clear h1
  clear h ho hk hd hS hbs hnT hw1 eb hb1 hk1 hwd hbd hb2 hnd hkd hn1 HQ
  go_enter Tryz.func40,Tryz.ntmps40
  go_upto_region 1 with fail
  rw [<- HW1.out,<- EB.out]
  refine wp_region_held_drew (S:=fun V => V.cell? ⟨x,0,none⟩ = some (.int .i64 (n.self : Int)) /\ V.cell? ⟨x,1,none⟩ = some (.int .i64 (n.many : Int)) /\ V.cell? ⟨b,0,none⟩ = some (.int .i64 pf) /\ V.cell? ⟨b,1,none⟩ = some (.int .i64 pt)) (by kernel_rfl) hH1 (fun hHeld => ?_)
  clear hHeld hH1
  have hHeld:=HD1.out
  rw [<- HWD.out]
  refine tk 0 6 (.pointer (some ⟨x,0,none⟩)) hHeld ?_
  simp only [lz,ls]
  refine r1 1 (fun K hK => ?_) rfl
  go_simp
  refine HDA.out.mono ?_
  rintro e w6 ⟨rfl,rfl⟩
  go_wp2_with fail
  refine hK.out _ _ (hHeld) (fun hHeld => ?_)
  clear hK K
  try simp only [Act.put,lp,lz,ls]
  refine tk 2 8 (.bool false) hHeld ?_
  refine tk 3 9 (.pointer (some ⟨b,1,none⟩)) hHeld ?_
  refine tm 4 10 (.int .i64 pt) hHeld ?_
  refine tk 5 11 (.pointer (some ⟨x,0,none⟩)) hHeld ?_
  refine tk 6 12 (.pointer (some ⟨x,0,none⟩)) hHeld ?_
  simp only [lz,ls]
  refine tk 7 13 (.pointer (some ⟨x,0,none⟩)) hHeld ?_
  refine tm 8 14 (.int .i64 (n.self : Int)) hHeld ?_
  refine tk 9 15 (.bool true) hHeld ?_
  refine tk 10 16 (.bool true) hHeld ?_
  refine tk 11 17 (.bool true) hHeld ?_
  simp only [lz,ls]
  refine tu 12 18 hHeld ?_
  refine tu 13 19 hHeld ?_
  refine tu 14 20 hHeld ?_
  refine tu 15 21 hHeld ?_
  refine tu 16 22 hHeld ?_
  simp only [lz,ls]
  refine tu 17 23 hHeld ?_
  refine tu 18 24 hHeld ?_
  refine tk 19 25 (.bool true) hHeld ?_
  refine tk 20 26 (.bool true) hHeld ?_
  refine tu 21 27 hHeld ?_
  simp only [lz,ls]
  refine tu 22 28 hHeld ?_
  refine tu 23 29 hHeld ?_
  refine tk 24 30 (.bool true) hHeld ?_
  refine tk 25 31 (.bool true) hHeld ?_
  refine tu 26 32 hHeld ?_
  simp only [lz,ls]
  refine tu 27 33 hHeld ?_
  refine tu 28 34 hHeld ?_
  refine tu 29 35 hHeld ?_
  refine tu 30 36 hHeld ?_
  refine tu 31 37 hHeld ?_
  simp only [lz,ls]
  refine tu 32 38 hHeld ?_
  refine tk 33 39 (.bool true) hHeld ?_
  simp only [lz,ls]
  refine wpAnyH_done (by kernel_rfl) ?_ _
  clear hHeld
  go_wp2_with fail
  first | go_end0 | (refine bodyPost_ret (results_none rfl _ _ _) rfl ?_)
  exact ⟨rfl,HKN.out,_,_,_,_,_,_,_,HND.out,.same HE.out⟩
end
open Go.ChangeShapes Go.WideShapes Go.ChangeAt Go.RowKit Go.Proofs.Rk
open Pq (Fld FReads errL bytL fcs)
open Gq (Bz Mine PL PDisk Kp Kl Lg Dk putL enc)

theorem own_none2 (w : World) (base e sz : Nat) : w.ownsRow base e sz (.slice none 0 0) 0 []:=⟨by simp,.inl ⟨rfl,rfl⟩⟩
section
variable {w : World} {z : Nat -> Prop} {p : Nat} {D : Dk}
def OpPost (w : World) (z : Nat -> Prop) (p self many : Nat) (D : Dk) (e : Ending) (w' : World) : Prop:=Below w.heap.size w w' /\
 ((e = .returned (.tuple #[.pointer none,.int .i64 130]) /\ ∀ m l L,¬ Lasts D m l L) ∨
  (∃ m l L x st q lv,e = .returned (.tuple #[.pointer (some ⟨x,0,none⟩),.int .i64 0]) /\ Lasts D m l L /\ w.heap.size <= x /\ w.heap.size <= st /\ w.heap.size <= q /\ (∀ k,lv.ownBlock = some k -> w.heap.size <= k) /\
   NdW w' z x st q p lv (.pointer none) (.slice none 0 0) (signedB D) ⟨1,(D.firm.length - 3) / 2,m,enc l⟩ D (⟨self,many,L.pr,L.nm,L.log,0,none,[]⟩ : Nd)))
set_option maxHeartbeats 8000000 in
theorem open_no (h : PDisk w ⟨0,z⟩ p D) (hd : D.dead = false) {sf mn : Int} (hno : ¬ (isG mn = true /\ 0 <= sf /\ sf < mn /\ 1100 <= D.firm.length)) (hl : D.firm.length <= 65536) :
  Calls Tryz.prog 34 #[.pointer (some ⟨p,0,none⟩),.int .i64 sf,.int .i64 mn] w fun e w' => e = .returned (.tuple #[.pointer none,.int .i64 130]) /\ w = w':=by
 have HDA:=hJQ (Gq.dead_any ⟨0,z⟩ p D w h)
 rw [hd] at HDA
 have HQ:=hJQ (quorum_any mn w)
 have HMA:=hJQ (Gq.many_any ⟨0,z⟩ p D w h)
 obtain ⟨fl,hfl⟩ : ∃ k,D.firm.length = k:=⟨_,rfl⟩
 rw [hfl] at HMA hno hl
 obtain ⟨qq,hqq⟩ : ∃ k,quo mn = k:=⟨_,rfl⟩
 rw [hqq] at HQ
 have hq0 : isG mn = true ↔ qq ≠ 0:=by
  rw [<- hqq]
  constructor
  ·intro hg; have:=(quo_two hg).2.2.1; omega
  ·intro hne
   cases hg : isG mn with
   | true => rfl
   | false => exact absurd (by unfold quo; rw [hg]; rfl) hne
 clear h hd hfl hqq
 by_cases h1 : qq = 0
 ·subst h1
  clear hno hq0
  go_enter Tryz.func34,Tryz.ntmps34
  go_wp2_with fail
  refine HDA.out.mono ?_
  rintro e w1 ⟨rfl,rfl⟩
  go_wp2_with fail
  refine HQ.out.mono ?_
  rintro e w1 ⟨rfl,rfl⟩
  go_wp2_with fail
  go_ret2
  exact ⟨rfl,rfl⟩
 ·have e1 : (qq == 0) = false:=by simpa using h1
  by_cases h2 : sf < 0
  ·have e2 : decide (sf < 0) = true:=by simpa using h2
   clear hno hq0 h1 h2
   go_enter Tryz.func34,Tryz.ntmps34
   go_wp2_with fail
   refine HDA.out.mono ?_
   rintro e w1 ⟨rfl,rfl⟩
   go_wp2_with fail
   refine HQ.out.mono ?_
   rintro e w1 ⟨rfl,rfl⟩
   go_wp2_with fail
   go_ret2
   exact ⟨rfl,rfl⟩
  ·have e2 : decide (sf < 0) = false:=by simpa using h2
   by_cases h3 : mn <= sf
   ·have e3 : decide (mn <= sf) = true:=by simpa using h3
    clear hno hq0 h1 h2 h3
    go_enter Tryz.func34,Tryz.ntmps34
    go_wp2_with fail
    refine HDA.out.mono ?_
    rintro e w1 ⟨rfl,rfl⟩
    go_wp2_with fail
    refine HQ.out.mono ?_
    rintro e w1 ⟨rfl,rfl⟩
    go_wp2_with fail
    go_ret2
    exact ⟨rfl,rfl⟩
   ·have e3 : decide (mn <= sf) = false:=by simpa using h3
    have h4 : fl < 1100:=by
     have h5:=hq0.2 h1
     rcases Nat.lt_or_ge fl 1100 with h6 | h6
     ·exact h6
     ·exact absurd ⟨h5,by omega,by omega,h6⟩ hno
    have e4 : decide ((fl : Int) < 1100) = true:=by simp; omega
    have e5 : decide (fl < 1100) = true:=by simp; omega
    clear hno hq0 h1 h2 h3 h4
    go_enter Tryz.func34,Tryz.ntmps34
    go_wp2_with fail
    refine HDA.out.mono ?_
    rintro e w1 ⟨rfl,rfl⟩
    go_wp2_with fail
    refine HQ.out.mono ?_
    rintro e w1 ⟨rfl,rfl⟩
    go_wp2_with fail
    refine HMA.out.mono ?_
    rintro e w1 ⟨rfl,rfl⟩
    go_wp2_with fail
    go_ret2
    exact ⟨rfl,rfl⟩
set_option maxHeartbeats 8000000 in
theorem open_yes (h : PDisk w ⟨0,z⟩ p D) (hd : D.dead = false) {self many : Nat} (hm : many <= 7) (hs : self < many) (h0 : 1100 <= D.firm.length) (hl : D.firm.length <= 65536) :
  Calls Tryz.prog 34 #[.pointer (some ⟨p,0,none⟩),.int .i64 (self : Int),.int .i64 (many : Int)] w (OpPost w z p self many D):=by
 have HDA:=hJQ (Gq.dead_any ⟨0,z⟩ p D w h)
 rw [hd] at HDA
 have HQ:=hJQ (quorum_any (many : Int) w)
 have HMA:=hJQ (Gq.many_any ⟨0,z⟩ p D w h)
 have HOS:=hJQ (openstore_any h hd h0 hl)
 have hzl : ∀ k,z k -> k < w.heap.size:=by obtain ⟨sv,wv,left,hP⟩:=h; exact hP.zl
 obtain ⟨qq,hqq⟩ : ∃ k,quo (many : Int) = k:=⟨_,rfl⟩
 rw [hqq] at HQ
 have hqn : qq ≠ 0:=by
  have hg : isG (many : Int) = true:=by simp [isG]; omega
  have:=(quo_two hg).2.2.1
  omega
 have e1 : (qq == 0) = false:=by simpa using hqn
 obtain ⟨sf,hsf⟩ : ∃ k : Int,(self : Int) = k:=⟨_,rfl⟩
 obtain ⟨mn,hmn⟩ : ∃ k : Int,(many : Int) = k:=⟨_,rfl⟩
 have e2 : decide (sf < 0) = false:=by simp; omega
 have e3 : decide (mn <= sf) = false:=by simp; omega
 obtain ⟨fl,hfl⟩ : ∃ k,D.firm.length = k:=⟨_,rfl⟩
 rw [hfl] at HMA
 have e4 : decide ((fl : Int) < 1100) = false:=by simp; omega
 have e5 : decide (fl < 1100) = false:=by simp; omega
 rw [hsf,hmn]
 rw [hmn] at HQ
 have HSF:=hJQ hsf
 have HMN:=hJQ hmn
 have HZL:=hJQ hzl
 clear h hd hm hs h0 hl hqq hqn hsf hmn hfl hzl
 go_enter Tryz.func34,Tryz.ntmps34
 go_wp2_with fail
 refine HDA.out.mono ?_
 rintro e w1 ⟨rfl,rfl⟩
 go_wp2_with fail
 refine HQ.out.mono ?_
 rintro e w1 ⟨rfl,rfl⟩
 go_wp2_with fail
 refine HMA.out.mono ?_
 rintro e w1 ⟨rfl,rfl⟩
 go_wp2_with fail
 clear e1 e2 e3 e4 e5
 refine HOS.out.mono ?_
 intro e w1 hpost
 obtain ⟨hb1,hpost⟩:=hpost
 rcases hpost with ⟨v,a,b,A,N,c,rfl,hno⟩ | ⟨m,l,L,q,st,bv,A,c,rfl,hla,hst,hq,hstW,hpl,hrow⟩
 ·obtain ⟨w2,hw2⟩ : ∃ xx,xx = w1.alloc (.cells #[.int .i64 a,.int .i64 b,.slice A N c] 101):=⟨_,rfl⟩
  have hb2 : Below w1.heap.size w1 w2:=by rw [hw2]; exact box_below w1 _
  have HE:=hJQ (And.intro (hb1.trans (hb2.mono hb1.size)) hno)
  have HW2:=hJQ hw2
  clear hb1 hno hw2 hb2
  go_wp2_with fail
  rw [<- HW2.out]
  go_ret2
  exact ⟨HE.out.1,.inl ⟨rfl,HE.out.2⟩⟩
 ·obtain ⟨N,hN⟩ : ∃ k,L.log.length = k:=⟨_,rfl⟩
  obtain ⟨pr,hpr⟩ : ∃ k,L.pr = k:=⟨_,rfl⟩
  obtain ⟨nm,hnm⟩ : ∃ k,L.nm = k:=⟨_,rfl⟩
  obtain ⟨w2,hw2⟩ : ∃ xx,xx = w1.alloc (.cells #[.int .i64 pr,.int .i64 nm,.slice A N c] 101):=⟨_,rfl⟩
  obtain ⟨b2,eb2⟩ : ∃ xx,xx = w1.heap.size:=⟨_,rfl⟩
  have hb2 : Below w1.heap.size w1 w2:=by rw [hw2]; exact box_below w1 _
  have hk2 : w2.heap[b2]? = some (.cells #[.int .i64 pr,.int .i64 nm,.slice A N c] 101 (0,0)):=by rw [hw2,eb2]; exact new_block w1 _
  obtain ⟨w3,hw3⟩ : ∃ xx,xx = w2.alloc (.cells #[.int .i64 sf,.int .i64 mn,.int .i64 pr,.int .i64 nm,.slice A N c,.pointer (some ⟨st,0,none⟩),.int .i64 0,.pointer none,.slice none 0 0] 105):=⟨_,rfl⟩
  obtain ⟨x,ex⟩ : ∃ xx,xx = w2.heap.size:=⟨_,rfl⟩
  have hb3 : Below w2.heap.size w2 w3:=by rw [hw3]; exact box_below w2 _
  have hk3 : w3.heap[x]? = some (.cells #[.int .i64 sf,.int .i64 mn,.int .i64 pr,.int .i64 nm,.slice A N c,.pointer (some ⟨st,0,none⟩),.int .i64 0,.pointer none,.slice none 0 0] 105 (0,0)):=by rw [hw3,ex]; exact new_block w2 _
  have hb13 : Below w1.heap.size w1 w3:=hb2.trans (hb3.mono hb2.size)
  have hsz:=hb1.size
  have hsz2:=hb2.size
  have hzn : ∀ k,w.heap.size <= k -> ¬ z k:=fun k hk hz => by have:=HZL.out k hz; omega
  have hnd : NdW w3 z x st q p (.slice A N c) (.pointer none) (.slice none 0 0) (signedB D) ⟨1,(D.firm.length - 3) / 2,m,enc l⟩ D (⟨self,many,L.pr,L.nm,L.log,0,none,[]⟩ : Nd):=by
   refine ⟨?_,?_,blk_below hstW hb13,own_none2 _ _ _ _,⟨bv,hpl.kept hb13⟩,rfl,hzn x (by omega),hzn st hst,?_,Mine.nil _⟩
   ·rw [hk3,HSF.out,HMN.out,hpr,hnm]
   ·have h9:=own_base (own_below hrow hb13) (Nat.zero_le w.heap.size)
    rw [<- hN]; exact h9
   ·intro k e hz
    have h9:=own_ge hrow k (by rw [hN]; exact e)
    exact hzn k h9 hz
  have hlvn : ∀ k,(Value.slice A N c).ownBlock = some k -> w.heap.size <= k:=fun k e => own_ge hrow k (by rw [hN]; exact e)
  have HE : Hid (OpPost w z p self many D (.returned (.tuple #[.pointer (some ⟨x,0,none⟩),.int .i64 0])) w3):=hJQ ⟨hb1.trans (hb13.mono hb1.size),.inr ⟨m,l,L,x,st,q,_,rfl,hla,by omega,hst,hq,hlvn,hnd⟩⟩
  have HW2:=hJQ hw2
  have EB2:=hJQ eb2
  have HW3:=hJQ hw3
  have EX:=hJQ ex
  have d0:=cell_of hk2 (j:=0) rfl
  have d1:=cell_of hk2 (j:=1) rfl
  have d2:=cell_of hk2 (j:=2) rfl
  rw [hpr,hnm,hN]
  clear hb1 hla hst hq hstW hpl hrow hN hpr hnm hw2 eb2 hb2 hk2 hw3 ex hb3 hk3 hb13 hsz hsz2 hzn hnd hlvn
  go_upto_region 6 with fail
  rw [<- HW2.out,<- EB2.out]
  go_wp2_with fail
  rw [<- HW3.out,<- EX.out]
  go_ret2
  exact HE.out
end
open Go.ChangeShapes Go.WideShapes Go.ChangeAt Go.RowKit Go.Proofs.Rk
open Pq (Fld FReads errL bytL fcs)
open Gq (Bz Mine PL PD PDisk Kp Kl Lg Dk putL enc cur)

structure Car (w w' : World) (z z' : Nat -> Prop) : Prop where
 size : w.heap.size <= w'.heap.size
 kept : ∀ k,k < w.heap.size -> ¬ z k -> w'.heap[k]? = w.heap[k]?
 zz : ∀ k,k < w.heap.size -> z' k -> z k
 zl : ∀ k,z' k -> k < w'.heap.size
section
variable {w w' : World} {z z' : Nat -> Prop}
theorem Car.blk (h : Car w w' z z') {k : Nat} {o : Obj} (hk : w.heap[k]? = some o) (hz : ¬ z k) : w'.heap[k]? = some o /\ ¬ z' k :=
 ⟨(h.kept k (blk_lt hk) hz).trans hk,fun h2 => hz (h.zz k (blk_lt hk) h2)⟩
theorem Car.own (h : Car w w' z z') {e sz n : Nat} {v : Value} {xs : List Value} (ho : w.ownsRow 0 e sz v n xs) (hm : Mine ⟨0,z⟩ v) : w'.ownsRow 0 e sz v n xs /\ Mine ⟨0,z'⟩ v:=by
 refine ⟨⟨ho.1,?_⟩,fun k e => ?_⟩
 ·rcases ho.2 with hn | ⟨g,cap,cur,e,hbg,hg,rest⟩
  ·exact .inl hn
  ·refine .inr ⟨g,cap,cur,e,hbg,?_,rest⟩
   exact (h.blk hg (hm g (by rw [e]; rfl))).1
 ·have:=ho.lt k e
  exact fun h2 => hm k e (h.zz k this.2 h2)
theorem Car.disk (h : Car w w' z z') {p : Nat} {D : Dk} (hd : PDisk w ⟨0,z⟩ p D) : PDisk w' ⟨0,z'⟩ p D:=by
 obtain ⟨sv,wv,left,hd⟩:=hd
 obtain ⟨k1,k2⟩:=h.blk hd.here hd.zp
 obtain ⟨k3,k4⟩:=h.own hd.secs hd.zs
 obtain ⟨k5,k6⟩:=h.own hd.wrs hd.zw
 exact ⟨sv,wv,left,hd.ok,hd.base,k1,k3,k5,hd.left_hi,hd.life,k2,k4,k6,h.zl⟩
theorem Car.pl (h : Car w w' z z') {q p : Nat} {G : Lg} {bv : Value} {D : Dk} (hp : PL w ⟨0,z⟩ q p G bv D) : PL w' ⟨0,z'⟩ q p G bv D:=by
 obtain ⟨k1,k2⟩:=h.blk hp.here hp.zq
 obtain ⟨k3,k4⟩:=h.own hp.row hp.zb
 exact ⟨k1,hp.base,k3,h.disk hp.disk,hp.gok,k2,k4⟩
theorem Car.jn (h : Car w w' z z') {v : Value} {j : Option (Int × List En)} (hj : JnW w z v j) : JnW w' z' v j:=by
 cases j with
 | none => exact hj
 | some j =>
  obtain ⟨b,k,vw,num,lv,e,hb,ho,hm,hz⟩:=hj
  obtain ⟨k1,k2⟩:=h.blk hb hz
  obtain ⟨k3,k4⟩:=h.own ho hm
  exact ⟨b,k,vw,num,lv,e,k1,k3,k4,k2⟩
theorem Car.rg (h : Car w w' z z') {v : Value} {r : Option Rg} (hr : RgW w z v r) : RgW w' z' v r:=by
 cases r with
 | none => exact hr
 | some r =>
  obtain ⟨b,jp,e,hb,hz,hj⟩:=hr
  obtain ⟨k1,k2⟩:=h.blk hb hz
  exact ⟨b,jp,e,k1,k2,fun i hi => h.jn (hj i hi)⟩
theorem Car.nd (h : Car w w' z z') {x st q p : Nat} {lv rp ov : Value} {s : Bool} {G : Lg} {D : Dk} {n : Nd} (hn : NdW w z x st q p lv rp ov s G D n) : NdW w' z' x st q p lv rp ov s G D n:=by
 obtain ⟨k1,k2⟩:=h.blk hn.here hn.zx
 obtain ⟨k3,k4⟩:=h.blk hn.store hn.zst
 obtain ⟨k5,k6⟩:=h.own hn.log hn.zlog
 obtain ⟨k7,k8⟩:=h.own hn.out hn.zout
 obtain ⟨bv,hp⟩:=hn.pl
 exact ⟨k1,k5,k3,k7,⟨bv,h.pl hp⟩,h.rg hn.rg,k2,k4,k6,k8⟩
end
/-! ### Owners of blocks: 0 the caller,i + 1 the node i -/
def zF (w : World) (F : Nat -> Nat) (i : Nat) (k : Nat) : Prop:=k < w.heap.size /\ F k ≠ i + 1
def bump (w : World) (F : Nat -> Nat) (i : Nat) (k : Nat) : Nat:=if k < w.heap.size then F k else i
structure Fr (i : Nat) (F : Nat -> Nat) (w w' : World) : Prop where
 os : w'.os = w.os
 tape : w'.tape = w.tape
 output : w'.output = w.output
 size : w.heap.size <= w'.heap.size
 kept : ∀ k,k < w.heap.size -> F k ≠ i -> w'.heap[k]? = w.heap[k]?
theorem Fr.of_kn {i : Nat} {F : Nat -> Nat} {w w' : World} (h : KN (zF w F i) w w') : Fr (i + 1) F w w':=⟨h.os,h.tape,h.output,h.size,fun k hk hf => by
 have e:=Array.getElem?_eq_getElem hk
 rw [e]
 exact h.kept k _ e (.inl ⟨hk,hf⟩)⟩
theorem Fr.of_below {i : Nat} {F : Nat -> Nat} {w w' : World} (h : Below w.heap.size w w') : Fr i F w w':=⟨h.os,h.tape,h.output,h.size,fun k hk _ => h.block k hk⟩
theorem bump_old {w : World} {F : Nat -> Nat} {i k : Nat} (h : k < w.heap.size) : bump w F i k = F k:=if_pos h
theorem bump_new {w : World} {F : Nat -> Nat} {i k : Nat} (h : ¬ k < w.heap.size) : bump w F i k = i:=if_neg h
theorem car_other {i j : Nat} {F : Nat -> Nat} {w w' : World} (h : Fr i F w w') (hne : j + 1 ≠ i) : Car w w' (zF w F j) (zF w' (bump w F i) j) :=
 ⟨h.size,fun k hk hz => h.kept k hk (fun e => hz ⟨hk,by omega⟩),fun k hk hz => ⟨hk,by have h2:=hz.2; rw [bump_old hk] at h2; exact h2⟩,fun k hz => hz.1⟩
theorem car_same {i : Nat} {F : Nat -> Nat} {w w' : World} : Car w' w' (zF w F i) (zF w' (bump w F (i + 1)) i) :=
 ⟨Nat.le_refl _,fun _ _ _ => rfl,fun k _ hz => by
  by_cases hk : k < w.heap.size
  ·have h2:=hz.2
   rw [bump_old hk] at h2
   exact ⟨hk,h2⟩
  ·exact absurd (bump_new hk) hz.2,fun k hz => hz.1⟩
def NodeL (w : World) (F : Nat -> Nat) (many i x p : Nat) (n : Nd) : Prop :=
 ∃ st q lv rp ov s G D,NdW w (zF w F i) x st q p lv rp ov s G D n /\ SS G D s n.ls /\ D.armed = 0 /\ NdOk n /\ n.self = i /\ n.many = many
theorem NodeL.other {i j many x p : Nat} {F : Nat -> Nat} {w w' : World} {n : Nd} (h : NodeL w F many j x p n) (hf : Fr i F w w') (hne : j + 1 ≠ i) : NodeL w' (bump w F i) many j x p n:=by
 obtain ⟨st,q,lv,rp,ov,s,G,D,hn,rest⟩:=h
 exact ⟨st,q,lv,rp,ov,s,G,D,(car_other hf hne).nd hn,rest⟩
theorem NodeL.ok {w : World} {F : Nat -> Nat} {many i x p : Nat} {n : Nd} (h : NodeL w F many i x p n) : NdOk n:=by
 obtain ⟨st,q,lv,rp,ov,s,G,D,_,_,_,hk,_⟩:=h
 exact hk
theorem NodeL.self {w : World} {F : Nat -> Nat} {many i x p : Nat} {n : Nd} (h : NodeL w F many i x p n) : n.self = i /\ n.many = many:=by
 obtain ⟨st,q,lv,rp,ov,s,G,D,_,_,_,_,h1,h2⟩:=h
 exact ⟨h1,h2⟩
/-! ### Calls -/
section
variable {w : World} {F : Nat -> Nat} {many i x p : Nat} {n : Nd}
theorem begin_id {n : Nd} {r : Rg} : (n.begin r).self = n.self /\ (n.begin r).many = n.many:=by
 unfold Nd.begin
 split
 ·exact ⟨rfl,rfl⟩
 ·simp only []
  unfold Nd.look
  split <;> exact ⟨rfl,rfl⟩
theorem look_id {n : Nd} {r : Rg} : (n.look r).self = n.self /\ (n.look r).many = n.many:=by unfold Nd.look; split <;> exact ⟨rfl,rfl⟩
theorem lead_id (n : Nd) (v : Int) : (n.lead v).self = n.self /\ (n.lead v).many = n.many:=by
 unfold Nd.lead
 split
 ·exact begin_id
 ·exact ⟨rfl,rfl⟩
theorem offer_id (n : Nd) (b : ByteArray) : (n.offer b).self = n.self /\ (n.offer b).many = n.many:=by
 unfold Nd.offer
 split
 ·exact ⟨rfl,rfl⟩
 ·split
  ·exact look_id
  ·exact ⟨rfl,rfl⟩
theorem takeM_id (n : Nd) (f : Nat) (m : Ms) : (n.takeM f m).self = n.self /\ (n.takeM f m).many = n.many:=by
 unfold Nd.takeM
 split
 ·unfold Nd.takeJoin
  split
  ·exact ⟨rfl,rfl⟩
  ·split
   ·exact begin_id
   ·exact ⟨rfl,rfl⟩
 ·split
  ·unfold Nd.takeAck
   split
   ·exact ⟨rfl,rfl⟩
   ·split
    ·simp only []
     split
     ·exact look_id
     ·exact look_id
    ·exact ⟨rfl,rfl⟩
  ·split
   ·exact ⟨rfl,rfl⟩
   ·split
    ·unfold Nd.takeAsk
     by_cases hc : n.pr < m.v
     ·simp only [if_pos hc]; split <;> exact ⟨rfl,rfl⟩
     ·simp only [if_neg hc]; split <;> exact ⟨rfl,rfl⟩
    ·split
     ·unfold Nd.takeStart
      by_cases hc : n.pr <= m.v /\ n.nm < m.v
      ·simp only [if_pos hc]; split <;> exact ⟨rfl,rfl⟩
      ·simp only [if_neg hc]; split <;> exact ⟨rfl,rfl⟩
     ·split
      ·unfold Nd.takePut
       split <;> exact ⟨rfl,rfl⟩
      ·unfold Nd.takeTell
       split <;> exact ⟨rfl,rfl⟩
theorem take_id (n : Nd) (f t : Int) (b : List Int) : (n.take f t b).self = n.self /\ (n.take f t b).many = n.many:=by
 unfold Nd.take
 split
 ·exact ⟨rfl,rfl⟩
 ·split
  ·exact takeM_id _ _ _
  ·exact ⟨rfl,rfl⟩
theorem live_of {w' : World} {st q : Nat} {lv rp ov : Value} {s s' : Bool} {G G' : Lg} {D D' : Dk} {n n' nT : Nd} (hS : SS G D s n.ls) (ha : D.armed = 0) (hkn : KN (zF w F i) w w') (hn : NdW w' (zF w F i) x st q p lv rp ov s' G' D' n') (hs : StepOut s G D n nT s' G' D' n') (hk : NdOk nT) (h1 : nT.self = i) (h2 : nT.many = many) :
  Fr (i + 1) F w w' /\ NodeL w' (bump w F (i + 1)) many i x p nT:=by
 obtain ⟨L',he,hd⟩:=hs
 obtain ⟨k1,k2⟩:=eff_alive he hS ha
 obtain ⟨rfl,rfl⟩:=hd k1.dead
 exact ⟨Fr.of_kn hkn,st,q,lv,rp,ov,s',G',D',car_same.nd hn,k1,k2,hk,h1,h2⟩
theorem take_live (h : NodeL w F many i x p n) (ho : n.out.length <= 600000) {pf pt : Int} {bd : ByteArray} (hb : bd.size <= maxLen) :
  Calls Tryz.prog 40 #[.pointer (some ⟨x,0,none⟩),.agg #[.int .i64 pf,.int .i64 pt,.string bd]] w fun e w' => e = .returned (.tuple #[]) /\ Fr (i + 1) F w w' /\ NodeL w' (bump w F (i + 1)) many i x p (n.take pf pt (Pq.sb bd)):=by
 obtain ⟨st,q,lv,rp,ov,s,G,D,hn,hS,ha,hk,h1,h2⟩:=h
 refine (take_any hn ho hk hS.dead hS hb).mono ?_
 rintro e w' ⟨rfl,hkn,lv',rp',ov',s',G',D',n',hn',hs⟩
 obtain ⟨e1,e2⟩:=take_id n pf pt (Pq.sb bd)
 exact ⟨rfl,live_of hS ha hkn hn' hs (take_ok hk _ _ _) (e1.trans h1) (e2.trans h2)⟩
theorem lead_live (h : NodeL w F many i x p n) (ho : n.out.length <= 600000) (v : Int) :
  Calls Tryz.prog 41 #[.pointer (some ⟨x,0,none⟩),.int .i64 v] w fun e w' => e = .returned (.bool (decide (n.leadOk v))) /\ Fr (i + 1) F w w' /\ NodeL w' (bump w F (i + 1)) many i x p (n.lead v):=by
 obtain ⟨st,q,lv,rp,ov,s,G,D,hn,hS,ha,hk,h1,h2⟩:=h
 have hkd : n.leadOk v -> (keepD G (signD s D) (Ls.recs ⟨v,n.nm,n.log⟩)).2.dead = false -> (keepD G (signD s D) (Ls.recs ⟨v,n.nm,n.log⟩)).1.sz = 548 /\ (keepD G (signD s D) (Ls.recs ⟨v,n.nm,n.log⟩)).2.wait.length <= 20000:=fun hy hd => by
  have h3 : n.nm <= n.pr:=hk.ls.np
  have h4:=hy.1
  have hL : LsOk ⟨v,n.nm,n.log⟩:=⟨hk.ls.n0,by show n.nm <= v; omega,(pri_is hy.2).2.2,hk.ls.log,hk.ls.last⟩
  obtain ⟨k1,_⟩:=keep_alive hS ha hL
  exact ⟨k1.sz,by rw [k1.wait]; simp⟩
 refine (lead_any hn ho hk hS.dead hS.sz (by rw [hS.wait]; simp) hkd).mono ?_
 rintro e w' ⟨rfl,hkn,lv',rp',ov',s',G',D',n',hn',hs⟩
 obtain ⟨e1,e2⟩:=lead_id n v
 exact ⟨rfl,live_of hS ha hkn hn' (ld_step hk hs) (lead_ok hk v) (e1.trans h1) (e2.trans h2)⟩
theorem offer_live (h : NodeL w F many i x p n) (ho : n.out.length <= 600000) (bd : ByteArray) :
  Calls Tryz.prog 15 #[.pointer (some ⟨x,0,none⟩),.string bd] w fun e w' => e = .returned (.bool (n.offerOk bd)) /\ Fr (i + 1) F w w' /\ NodeL w' (bump w F (i + 1)) many i x p (n.offer bd):=by
 obtain ⟨st,q,lv,rp,ov,s,G,D,hn,hS,ha,hk,h1,h2⟩:=h
 obtain ⟨e1,e2⟩:=offer_id n bd
 cases hy : n.offerOk bd with
 | false =>
  refine (offer_no hn hS.dead hy).mono ?_
  rintro e w' ⟨rfl,rfl⟩
  have he : n.offer bd = n:=by
   unfold Nd.offer
   split
   ·rfl
   ·rw [if_neg (by rw [hy]; decide)]
  rw [he]
  exact ⟨rfl,live_of hS ha (KN.refl _ _) hn (.same rfl) hk h1 h2⟩
 | true =>
  obtain ⟨hL,hp,hs⟩:=offer_step (s:=s) (G:=G) (D:=D) hk hy
  refine (offer_yes hn ho hk hS.dead (by rw [hS.wait]; simp) hy (ss_room (L:=n.ls) hS hp hL)).mono ?_
  rintro e w' ⟨rfl,hkn,lv',ov',hn'⟩
  exact ⟨rfl,live_of hS ha hkn hn' hs (offer_ok hk bd) (e1.trans h1) (e2.trans h2)⟩
theorem out_live (h : NodeL w F many i x p n) :
  Calls Tryz.prog 39 #[.pointer (some ⟨x,0,none⟩)] w fun e w' => ∃ ov,e = .returned ov /\ Fr (i + 1) F w w' /\ NodeL w' (bump w F (i + 1)) many i x p { n with out:=[] } /\ w'.ownsRow 0 28 3 ov n.out.length (n.out.flatMap (pkt i)) /\ ∀ k,ov.ownBlock = some k -> bump w F (i + 1) k = i + 1:=by
 obtain ⟨st,q,lv,rp,ov,s,G,D,hn,hS,ha,hk,h1,h2⟩:=h
 refine (nout_any hn).mono ?_
 rintro e w' ⟨rfl,hkn,hn',ho⟩
 rw [hS.dead,if_neg (by decide)]
 rw [h1] at ho
 obtain ⟨k1,k2⟩:=live_of (nT:={ n with out:=[] }) hS ha hkn hn' (.idle rfl) (hk.outs []) h1 h2
 refine ⟨_,rfl,k1,k2,ho,fun k e => ?_⟩
 have hz:=hn.zout k e
 by_cases hk2 : k < w.heap.size
 ·rw [bump_old hk2]
  by_cases e2 : F k = i + 1
  ·exact e2
  ·exact absurd ⟨hk2,e2⟩ hz
 ·exact bump_new hk2
theorem commit_live (h : NodeL w F many i x p n) : Calls Tryz.prog 38 #[.pointer (some ⟨x,0,none⟩)] w fun e w' => e = .returned (.int .i64 n.com) /\ w = w':=by
 obtain ⟨st,q,lv,rp,ov,s,G,D,hn,_⟩:=h
 exact ncommit_any hn
theorem leads_live (h : NodeL w F many i x p n) : Calls Tryz.prog 17 #[.pointer (some ⟨x,0,none⟩)] w fun e w' => e = .returned (.bool n.rg.isSome) /\ w = w':=by
 obtain ⟨st,q,lv,rp,ov,s,G,D,hn,_⟩:=h
 exact nleads_any hn
theorem log_live (h : NodeL w F many i x p n) : Calls Tryz.prog 16 #[.pointer (some ⟨x,0,none⟩)] w fun e w' => ∃ v,e = .returned v /\ w'.ownsRow w.heap.size 45 3 v n.log.length (n.log.flatMap ecell) /\ Below w.heap.size w w':=by
 obtain ⟨st,q,lv,rp,ov,s,G,D,hn,_,_,hk,_⟩:=h
 have h1 : n.log.length <= 150:=hk.ls.log.1
 exact nlog_any hn (by omega)
end
/-! ### Disks -/
theorem opened_live {w w1 : World} {F : Nat -> Nat} {many i p : Nat} {D : Dk} {L0 : Ls} {s0 : Bool} {r : List (List Int)} {m0 : Gq.Mk} (hi : i < many) (hm : many <= 7) (hb : Below w.heap.size w w1) (hd : PDisk w1 (Bz.new w) p D) (hs : D.armed = 0) (hla : Lasts D m0 r L0) (hss : SS ⟨1,548,m0,enc r⟩ D s0 L0) (hsg : signedB D = s0) :
  Calls Tryz.prog 34 #[.pointer (some ⟨p,0,none⟩),.int .i64 (i : Int),.int .i64 (many : Int)] w1 fun e w' => ∃ x,e = .returned (.tuple #[.pointer (some ⟨x,0,none⟩),.int .i64 0]) /\ Fr (i + 1) F w w' /\ NodeL w' (bump w F (i + 1)) many i x p ⟨i,many,L0.pr,L0.nm,L0.log,0,none,[]⟩:=by
 have hz0 : PDisk w1 ⟨0,fun k => k < w.heap.size⟩ p D:=hd.mono (Nat.zero_le _) rfl
 have hc : Car w1 w1 (fun k => k < w.heap.size) (zF w F i):=⟨Nat.le_refl _,fun _ _ _ => rfl,fun k _ hz => hz.1,fun k hz => Nat.lt_of_lt_of_le hz.1 hb.size⟩
 have hz1:=hc.disk hz0
 refine (open_yes hz1 hss.dead hm hi (by rw [hss.len]; exact Nat.le_refl _) (by rw [hss.len]; decide)).mono ?_
 rintro e w' ⟨hb2,hp⟩
 rcases hp with ⟨_,hno⟩ | ⟨m,l,L,x,st,q,lv,rfl,hl2,_,_,_,_,hn⟩
 ·exact absurd hla (hno _ _ _)
 ·have hf0 : Gq.Found (cur D) 1 ((D.firm.length - 3) / 2) m0 (enc r):=hla.1
  obtain ⟨rfl,rfl⟩:=lasts_same hf0 hla.2.1 hl2
  have e1 : L = L0:=by
   have h1:=hl2.2.2.1
   have h2:=hla.2.2.1
   rw [h2] at h1
   injection h1 with h1
   exact h1.symm
  subst e1
  have hbb:=hb.trans (hb2.mono hb.size)
  refine ⟨x,rfl,Fr.of_below hbb,st,q,lv,.pointer none,.slice none 0 0,signedB D,_,D,car_same.nd hn,?_,hs,⟨hi,hm,hss.ls,Int.le_refl _,by show (0 : Int) <= _; omega,fun _ e => by cases e⟩,rfl,rfl⟩
  rw [hsg]
  have e2 : (D.firm.length - 3) / 2 = 548:=by rw [hss.len]
  rw [e2]
  exact hss
theorem strip_zero : strip (List.replicate 64 0) = []:=by decide
theorem new_txt (n : Nat) (hn : n < 1100) : txt (Gq.newD 1100) n = []:=by
 unfold txt
 have : (cur (Gq.newD 1100)).getD n [] = List.replicate 64 0:=by
  show (List.replicate 1100 (List.replicate 64 (0 : Int))).getD n [] = _
  rw [List.getD_eq_getElem?_getD,List.getElem?_replicate,if_pos hn]; rfl
 rw [this]; exact strip_zero
theorem new_isnew : isNewB (Gq.newD 1100) = true:=by
 rw [isnew_end (fun n _ h => new_txt n (by rw [Gq.newD_len] at h; exact h)),new_txt 0 (by decide)]
 decide
theorem new_ss : SS ⟨1,548,Gq.mk0,enc []⟩ (Gq.newD 1100) false Ls0 /\ Lasts (Gq.newD 1100) Gq.mk0 [] Ls0 /\ signedB (Gq.newD 1100) = false:=by
 have ha:=Gq.alive_new 1100 1 548 (by decide) (by decide)
 refine ⟨⟨rfl,rfl,Gq.newD_len _,rfl,rfl,⟨Int.le_refl _,Int.le_refl _,by show (0 : Int) <= 4611686018427387904; decide,rgt_nil,Int.le_refl _⟩,⟨[],ha.inv,.inr ⟨rfl,rfl⟩⟩,(fun e => by cases e),fun _ => ⟨rfl,new_isnew,by rw [new_txt 0 (by decide)]; decide⟩⟩,⟨?_,Gq.rok_nil,rfl,.inr new_isnew⟩,?_⟩
 ·have h1:=ha.inv.hold.found rfl Gq.rok_nil
  rw [show ((Gq.newD 1100).firm.length - 3) / 2 = 548 by rw [Gq.newD_len]]
  exact h1
 ·unfold signedB
  rw [new_txt 0 (by decide)]
  decide
end Go.Proofs.YtlppinfjdnhlbaaGreatDoor
