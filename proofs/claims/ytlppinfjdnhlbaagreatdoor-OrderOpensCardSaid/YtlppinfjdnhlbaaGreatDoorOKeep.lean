/-
 What the store's keep leaves: the records of what is to last,and nothing else,as far as they last. Condition: there is room.
-/
import Derived.Test.YtlppinfjdnhlbaaGreatDoorHd
import Derived.Test.YtlppinfjdnhlbaaGreatDoorOOk
import Derived.Lib.SlBytesConst
namespace Go.Proofs.YtlppinfjdnhlbaaGreatDoor
set_option maxRecDepth 100000
open Go.ChangeShapes Go.WideShapes Go.ChangeAt Go.RowKit Go.Proofs.Rk
open Pq (Fld FReads errL bytL fcs)
open Gq (Bz Mine PL PDisk Kp Kl Lg Dk putL SReads enc le4 doD)

def signB : List Int:=[104,97,114,112,115,105,99,104,111,114,100,32,111,114,100,101,114]
theorem sign_bys : ∀ k : Nat,0 <= signB.getD k 0 /\ signB.getD k 0 <= 255:=fun k => by
 have hb : ∀ z ∈ signB,0 <= z /\ z <= 255:=by decide
 rw [List.getD_eq_getElem?_getD]
 cases h : signB[k]? with
 | none => simp
 | some v => exact hb v (List.mem_of_getElem? h)
def signD (sg : Bool) (D : Dk) : Dk:=if sg then D else (doD D 0 0 0 signB).1
def keepD (G : Lg) (D : Dk) (r : List (List Int)) : Lg × Dk:=if D.dead then (G,D) else ((putL G D (1 - G.m.half) 0 (enc r)).1,(putL G D (1 - G.m.half) 0 (enc r)).2.1)
theorem amiss_all {d : Bool} {sz : Nat} {l : List (List Int)} (hd : d = false) (h1 : ∀ s ∈ l,s.length <= 4096) (h2 : Gq.need l <= sz * 64) : Gq.amissL d 0 l sz = 0:=by
 unfold Gq.amissL
 rw [if_neg (by rw [hd]; simp),if_neg (by rintro ⟨x,hx,h⟩; have:=h1 x hx; omega),if_neg (by omega)]
structure KpPost (z : Nat -> Prop) (st q p : Nat) (G : Lg) (D1 : Dk) (r : List (List Int)) (w : World) (e : Ending) (w' : World) : Prop where
 ret : e = .returned (.tuple #[])
 kt : KT z w w'
 here : w'.heap[st]? = some (.cells #[.pointer (some ⟨p,0,none⟩),.pointer (some ⟨q,0,none⟩),.bool true] 124 (0,0))
 pl : ∃ bv,PL w' ⟨0,z⟩ q p (keepD G D1 r).1 bv (keepD G D1 r).2
theorem kp_post {z : Nat -> Prop} {st q p : Nat} {G : Lg} {bv : Value} {D1 : Dk} {r : List (List Int)} {w w1 w' : World} {e0 : Ending} (hk : KT z w w1) (hs : w1.heap[st]? = some (.cells #[.pointer (some ⟨p,0,none⟩),.pointer (some ⟨q,0,none⟩),.bool true] 124 (0,0)))
  (hpl : PL w1 ⟨0,z⟩ q p G bv D1) (hr : ∀ s ∈ r,s.length <= 4096) (hn : Gq.need r <= G.sz * 64) (h : Gq.RpPost ⟨0,z⟩ q p G bv D1 r w1 e0 w') : (∃ v,e0 = .returned v) /\ KpPost z st q p G D1 r w (.returned (.tuple #[])) w':=by
 cases hd : D1.dead with
 | true =>
  rcases h with ⟨_,he,rfl⟩ | ⟨h0,_⟩
  ·exact ⟨⟨_,he⟩,rfl,hk,hs,bv,by unfold keepD; rw [hd]; exact hpl⟩
  ·unfold Gq.amissL at h0
   rw [if_pos hd] at h0
   exact absurd h0 (by decide)
 | false =>
  have ha:=amiss_all (d:=D1.dead) hd hr hn
  rcases h with ⟨h0,_⟩ | ⟨_,bb,h2⟩
  ·exact absurd ha h0
  ·refine ⟨⟨_,h2.ret⟩,rfl,hk.trans (KT.of_kl h2.kl),Kl.cells h2.kl hs far_store,?_⟩
   unfold keepD
   rw [hd,if_neg (by simp)]
   rcases h2.pl with ⟨h3,h4⟩ | ⟨h3,h4⟩
   ·refine ⟨bb,?_⟩
    have e1 : (putL G D1 (1 - G.m.half) 0 (enc r)).1 = (Gq.sgR ⟨0,z⟩ q p G bv bb D1 (enc r)).next:=if_pos h3
    rw [e1]
    exact h4
   ·refine ⟨bv,?_⟩
    have e1 : (putL G D1 (1 - G.m.half) 0 (enc r)).1 = G:=if_neg h3
    rw [e1]
    exact h4
theorem strs_snoc (l : List (List Int)) (s : List Int) : Gq.strs (l ++ [s]) = Gq.strs l ++ [.string (strOfNums s)]:=by simp [Gq.strs]
set_option maxHeartbeats 16000000 in
theorem keep_any {z : Nat -> Prop} {w : World} {st q p : Nat} {sg : Bool} {G : Lg} {bv : Value} {D : Dk} {A : Option Addr} {c : Nat} {L : Ls} (hst : w.heap[st]? = some (.cells #[.pointer (some ⟨p,0,none⟩),.pointer (some ⟨q,0,none⟩),.bool sg] 124 (0,0))) (hzs : ¬ z st)
  (hpl : PL w ⟨0,z⟩ q p G bv D) (hwt : D.wait.length <= 20000) (hA : w.ownsRow 0 45 3 (.slice A L.log.length c) L.log.length (L.log.flatMap ecell)) (hok : LsOk L) (hroom : G.sz = 548) :
  Calls Tryz.prog 134 #[.pointer (some ⟨st,0,none⟩),.agg #[.int .i64 L.pr,.int .i64 L.nm,.slice A L.log.length c]] w (KpPost z st q p G (signD sg D) L.recs w):=by
 obtain ⟨n,hn⟩ : ∃ n,L.log.length = n:=⟨_,rfl⟩
 rw [hn] at hA ⊢
 obtain ⟨pr,hpr⟩ : ∃ x,L.pr = x:=⟨_,rfl⟩
 obtain ⟨nm,hnm⟩ : ∃ x,L.nm = x:=⟨_,rfl⟩
 have HRS : Hid (L.recs = recV pr nm :: L.log.map recE):=hJQ (by rw [<- hpr,<- hnm]; rfl)
 have HEV : Hid (errL (vwF pr nm) = 0):=hJQ (by rw [<- hpr,<- hnm]; exact errV (by have:=hok.n0; have:=hok.np; omega) hok.p1 hok.n0 (by have:=hok.np; have:=hok.p1; omega))
 have HEE : Hid (∀ e ∈ L.log,errL (enF e) = 0):=hJQ (fun e he => by
  have:=rgt_mem hok.log e he
  exact errE this.1 this.2.1 this.2.2.1 this.2.2.2.1 this.2.2.2.2)
 have HN:=hJQ hn
 have hn1 : n <= 150:=by have:=hok.log.1; omega
 have HRN : Hid (Gq.need L.recs <= G.sz * 64):=hJQ (by have:=recs_need hok; rw [hroom]; omega)
 have HRK:=hJQ (recs_rok hok)
 obtain ⟨D1,hD1⟩ : ∃ D1,signD sg D = D1:=⟨_,rfl⟩
 have HDD : Hid (signD sg D = D1):=hJQ hD1
 rw [hpr,hnm,hD1]
 have HWT1 : Hid (D1.wait.length <= 30000):=hJQ (by
  rw [<- hD1]
  unfold signD
  split
  ·omega
  ·have:=Gq.do_wait D 0 0 0 signB
   omega)
 obtain ⟨w1,hw1⟩ : ∃ xx,xx = w.alloc (.cells #[.int .i64 pr,.int .i64 nm,.slice A n c] 101):=⟨_,rfl⟩
 obtain ⟨xb,exb⟩ : ∃ xx,xx = w.heap.size:=⟨_,rfl⟩
 have hb1 : Below w.heap.size w w1:=by rw [hw1]; exact box_below w _
 have hx1 : w1.heap[xb]? = some (.cells #[.int .i64 pr,.int .i64 nm,.slice A n c] 101 (0,0)):=by rw [hw1,exb]; exact new_block w _
 have HX1:=hJQ hx1
 have HST1:=hJQ (blk_below hst hb1)
 have HPL1:=hJQ (hpl.kept hb1)
 have HA1:=hJQ (own_below hA hb1)
 have HT1 : Hid (KT z w w1):=hJQ (KT.of_below hb1)
 have HW1:=hJQ hw1
 have EXB:=hJQ exb
 have HZS:=hJQ hzs
 have HWT:=hJQ hwt
 obtain ⟨i0,hi,hz0,hz1,hz2⟩:=info_parts Gq.info9
 clear hn hpr hnm hok hroom hD1 hw1 exb hb1 hx1 hst hzs hpl hwt hA
 cases sg with
 | true =>
  have HPw1 : Hid (PL w1 ⟨0,z⟩ q p G bv D1):=hJQ (by have h:=HDD.out; unfold signD at h; rw [if_pos rfl] at h; rw [<- h]; exact HPL1.out)
  have HXw1:=HX1
  have HAw1:=HA1
  have HSw1:=HST1
  have HTw1:=HT1
  have s2:=cell_of HST1.out (j:=2) rfl
  go_enter Tryz.func134,Tryz.ntmps134
  go_upto_region 1 with fail
  rw [<- HW1.out,<- EXB.out]
  go_upto_region 4 with fail
  clear s2
  obtain ⟨x0,x1,x2⟩ : w1.cell? ⟨xb,0,none⟩ = some (.int .i64 pr) /\ w1.cell? ⟨xb,1,none⟩ = some (.int .i64 nm) /\ w1.cell? ⟨xb,2,none⟩ = some (.slice A n c):=⟨cell_of HXw1.out (j:=0) rfl,cell_of HXw1.out (j:=1) rfl,cell_of HXw1.out (j:=2) rfl⟩
  have HOV:=hJQ (ofviews_any pr nm w1)
  go_wp2_with fail
  refine HOV.out.mono ?_
  rintro e w5 ⟨b5,rfl,hk5,hg5,hb5⟩
  have HB5:=hJQ hb5
  have HRC:=hJQ (record_any (c:=2) (fs:=vwF pr nm) (of_fields (l:=vwF pr nm) hk5 (by simp [vwF])) (by simp [vwF]) HEV.out)
  clear hk5 hg5 hb5 x0 x1 x2
  go_wp2_with fail
  refine HRC.out.mono ?_
  rintro e w6 ⟨rfl,hb6⟩
  have HB6:=hJQ (HB5.out.trans (hb6.mono HB5.out.size))
  obtain ⟨w7,hw7⟩ : ∃ W,W = w6.alloc (.cells #[.string (strOfNums (bytL (vwF pr nm)))] 9):=⟨_,rfl⟩
  obtain ⟨rb,erb⟩ : ∃ b,b = w6.heap.size:=⟨_,rfl⟩
  have hr7 : w7.heap[rb]? = some (.cells #[.string (strOfNums (bytL (vwF pr nm)))] 9 (0,0)):=by rw [hw7,erb]; exact new_block w6 _
  have HB7 : Hid (Below w1.heap.size w1 w7):=hJQ (HB6.out.trans ((by rw [hw7]; exact box_below w6 _ : Below w6.heap.size w6 w7).mono HB6.out.size))
  have HO7 : Hid (w7.ownsRow w1.heap.size 9 1 (.slice (some ⟨rb,0,none⟩) 1 1) (0 + 1) (Gq.strs (L.recs.take (0 + 1)))):=hJQ (by
   have h:=own_new (n:=1) (sz:=1) (base:=w1.heap.size) hr7 (by rw [erb]; exact HB6.out.size) (by unfold maxLen; omega) rfl
   rw [HRS.out]
   exact h)
  have hx7:=blk_below HXw1.out HB7.out
  have x2:=cell_of hx7 (j:=2) rfl
  have HW7:=hJQ hw7
  have ERB:=hJQ erb
  clear hb6 hw7 erb hr7 hx7
  go_upto_region 5 with fail
  rw [<- HW7.out,<- ERB.out]
  go_wp2_with fail
  clear x2
  go_loopw [4,32] (fun u i wr => ∃ j : Nat,j <= n /\ i = .int .i64 j /\ Hid (wr.ownsRow w1.heap.size 9 1 u (j + 1) (Gq.strs (L.recs.take (j + 1)))) /\ Hid (Below w1.heap.size w1 wr)) (fun _ i _ => n - (intOf i).toNat)
  case atStart => exact ⟨0,Nat.zero_le _,rfl,HO7,HB7⟩
  case round =>
   obtain ⟨j,hj,rfl,HOJ,HX⟩:=hrel
   by_cases hlt : j < n
   ·have hrd : Rd ecell 3 wr A n L.log:=Rd.of_own (own_below HAw1.out HX.out) (fun _ _ => rfl) (by omega)
    obtain ⟨b0,off,x,hAx,hx,hcc⟩:=hrd.at hlt
    subst hAx
    have c0 : wr.cell? ⟨b0,off + j * 3,none⟩ = some (.int .i64 x.v):=hcc 0 _ rfl
    have c1 : wr.cell? ⟨b0,off + j * 3 + 1,none⟩ = some (.int .i64 x.n):=hcc 1 _ rfl
    have c2 : wr.cell? ⟨b0,off + j * 3 + 2,none⟩ = some (.string x.b):=hcc 2 _ rfl
    have HTK : Hid (L.recs.take (j + 1 + 1) = L.recs.take (j + 1) ++ [recE x]):=hJQ (by
     have h1:=(List.getElem?_eq_some_iff.1 hx)
     obtain ⟨h2,h3⟩:=h1
     rw [HRS.out,List.take_succ_eq_append_getElem (by simp; omega)]
     congr 2
     simp [h3])
    have HEX:=hJQ (HEE.out x (List.mem_of_getElem? hx))
    obtain ⟨w8,hw8⟩ : ∃ xx,xx = wr.alloc (.cells #[.int .i64 x.v,.int .i64 x.n,.string x.b] 45):=⟨_,rfl⟩
    obtain ⟨r,er⟩ : ∃ xx,xx = wr.heap.size:=⟨_,rfl⟩
    have hb8 : Below wr.heap.size wr w8:=by rw [hw8]; exact box_below wr _
    have hkr : w8.heap[r]? = some (.cells #[.int .i64 x.v,.int .i64 x.n,.string x.b] 45 (0,0)):=by rw [hw8,er]; exact new_block wr _
    have HX8:=hJQ (HX.out.trans (hb8.mono HX.out.size))
    have HO8:=hJQ (own_below HOJ.out hb8)
    have r0:=cell_of hkr (j:=0) rfl
    have r1:=cell_of hkr (j:=1) rfl
    have r2:=cell_of hkr (j:=2) rfl
    have HW8:=hJQ hw8
    have ER:=hJQ er
    have hji : (j : Int) < (n : Int):=by omega
    have hwj : IntKind.i64.wrap ((j : Int) + 1) = (j : Int) + 1:=by rw [IntKind.wrap_i64]; omega
    obtain ⟨M,hM⟩ : ∃ M,j + 1 = M:=⟨_,rfl⟩
    rw [hM] at HO8 HTK
    have HM:=hJQ hM
    obtain ⟨A3,e3,rfl,-,-,-⟩:=own_form HO8.out
    have HM2 : Hid (M <= 150):=hJQ (by omega)
    clear hrd hx hcc hw8 er hkr hb8 hM
    go_upto_region 8 with fail
    rw [<- HW8.out,<- ER.out]
    clear c0 c1 c2
    go_wp2_with fail
    refine (ofentry_any x w8).mono ?_
    rintro e w9 ⟨b9,rfl,hk9,hg9,hb9⟩
    have HX9 : Hid (Below w1.heap.size w1 w9):=hJQ (HX8.out.trans (hb9.mono HX8.out.size))
    have HO9:=hJQ (own_below HO8.out hb9)
    have HRE:=hJQ (record_any (c:=3) (fs:=enF x) (of_fields (l:=enF x) hk9 (by simp [enF])) (by simp [enF]) HEX.out)
    clear hb9 hg9 hk9 r0 r1 r2
    go_wp2_with fail
    refine HRE.out.mono ?_
    rintro e w10 ⟨rfl,hb10⟩
    obtain ⟨w11,hw11⟩ : ∃ xx,xx = w10.alloc (.cells #[.string (strOfNums (recE x))] 9):=⟨_,rfl⟩
    obtain ⟨sb,esb⟩ : ∃ xx,xx = w10.heap.size:=⟨_,rfl⟩
    have hs11 : w11.heap[sb]? = some (.cells #[.string (strOfNums (recE x))] 9 (0,0)):=by rw [hw11,esb]; exact new_block w10 _
    have hb11 : Below w10.heap.size w10 w11:=by rw [hw11]; exact box_below w10 _
    have HX11 : Hid (Below w1.heap.size w1 w11):=hJQ ((HX9.out.trans (hb10.mono HX9.out.size)).trans (hb11.mono (Nat.le_trans HX9.out.size hb10.size)))
    have HO11:=hJQ (own_below (own_below HO9.out hb10) hb11)
    have hsz11:=HX11.out.size
    have Hw11:=hJQ hw11
    have ESB:=hJQ esb
    have HS11:=hJQ hs11
    have e11 : strOfNums (bytL (enF x)) = strOfNums (recE x):=rfl
    rw [e11]
    clear hb10 hw11 esb hs11 hb11 e11
    go_upto_region 9 with (at_builtin; rw [<- Hw11.out,<- ESB.out]; refine wpList_append_lies w11 rfl _ _ 195 rfl w1.heap.size 9 i0 (.string ⟨#[]⟩) 1 16 Tryz.underlying195 hi hz0 hz1 hz2 rfl (by decide) (.slice A3 M e3) M (Gq.strs (L.recs.take M)) rfl HO11.out ⟨sb,0,none⟩ 1 1 [.string (strOfNums (recE x))] rfl rfl (World.news_of_block HS11.out) (fun u hu => by rw [List.mem_singleton] at hu; subst hu; rfl) (by decide) (by unfold maxLen; have:=HM2.out; omega) (by have:=HM2.out; omega) hsz11 _ rfl ?_; intro g6 cap6 w12 hown6 hgrow6 hat6 hlt6; have HO6:=hJQ hown6; have HX6 : Hid (Below w1.heap.size w1 w12):=hJQ (HX11.out.trans (gb_own HO11.out hgrow6 (Nat.le_refl _) hsz11)); clear hown6 hgrow6 hat6 hlt6)
    go_wp2_with fail
    go_roundw
    case rel => exact ⟨j + 1,hlt,by go_num,(by have h:=HO6.out; rw [<- strs_snoc,<- HTK.out] at h; rw [HM.out] at *; exact hJQ h),HX6⟩
    case measure => simp [intOf]; omega
   ·obtain rfl : j = n:=by omega
    have hji : ¬ (j : Int) < (j : Int):=by omega
    have hlr : L.recs.length = j + 1:=by rw [HRS.out]; simp [HN.out]
    have ho:=HOJ.out
    rw [List.take_of_length_le (Nat.le_of_eq hlr)] at ho
    obtain ⟨A9,c9,e9,hs9,-,-⟩:=Gq.own_sreads ho (fun s hs => (HRK.out s hs).2)
    subst e9
    have hp9:=HPw1.out.kept HX.out
    have hst9:=blk_below HSw1.out HX.out
    have s1:=cell_of hst9 (j:=1) rfl
    have HRP:=hJQ (Gq.replace_any ⟨0,z⟩ q p G bv D1 A9 (j + 1) c9 L.recs wr hp9 hs9 (by omega) (fun s hs => by have:=(HRK.out s hs).1; omega) HWT1.out)
    have HFN:=hJQ (fun e0 w' h => kp_post (w':=w') (e0:=e0) (HTw1.out.after HX.out) hst9 hp9 (fun s hs => (HRK.out s hs).1) HRN.out h)
    clear ho hs9 hp9 hst9 hlr
    obtain ⟨M,hM⟩ : ∃ M,j + 1 = M:=⟨_,rfl⟩
    rw [hM] at HRP
    have hM3 : (j : Nat) + 1 = M:=hM
    try rw [hM]
    clear hM hM3
    go_wp2_with fail
    refine HRP.out.mono ?_
    intro e0 w12 h12
    obtain ⟨⟨v0,hv0⟩,hE⟩:=HFN.out e0 w12 h12
    subst hv0
    have HE:=hJQ hE
    clear h12 hE
    go_wp2_with fail
    go_end0
    exact HE.out
 | false =>
  have hD2 : (doD D 0 0 0 signB).1 = D1:=by have h:=HDD.out; unfold signD at h; rw [if_neg (by simp)] at h; exact h
  obtain ⟨w2,hw2⟩ : ∃ xx,xx = w1.alloc (.cells #[.int .u8 104,.int .u8 97,.int .u8 114,.int .u8 112,.int .u8 115,.int .u8 105,.int .u8 99,.int .u8 104,.int .u8 111,.int .u8 114,.int .u8 100,.int .u8 32,.int .u8 111,.int .u8 114,.int .u8 100,.int .u8 101,.int .u8 114] 5 (17,18)):=⟨_,rfl⟩
  obtain ⟨gb,egb⟩ : ∃ xx,xx = w1.heap.size:=⟨_,rfl⟩
  have hb2 : Below w1.heap.size w1 w2:=by rw [hw2]; exact box_below w1 _
  have hg2 : w2.heap[gb]? = some (.cells #[.int .u8 104,.int .u8 97,.int .u8 114,.int .u8 112,.int .u8 115,.int .u8 105,.int .u8 99,.int .u8 104,.int .u8 111,.int .u8 114,.int .u8 100,.int .u8 32,.int .u8 111,.int .u8 114,.int .u8 100,.int .u8 101,.int .u8 114] 5 (17,18)):=by rw [hw2,egb]; exact new_block w1 _
  have hp2:=HPL1.out.kept hb2
  have HWR : Hid (Calls Tryz.prog 36 #[.pointer (some ⟨p,0,none⟩),.int .i64 0,.slice (some ⟨gb,0,none⟩) 17 17] w2 (Gq.WrPost w2 ⟨0,z⟩ p D 0 signB)):=hJQ (Gq.write_any ⟨0,z⟩ p D 0 (some ⟨gb,0,none⟩) 17 17 signB w2 hp2.disk (fun w' hk => by
   have hg3:=hk.tag gb _ 5 _ hg2 (by decide) (by decide) (by decide)
   refine ⟨rfl,fun _ => ⟨gb,0,rfl,fun i hi => ?_⟩,sign_bys⟩
   rw [Nat.zero_add,cell_of_row w' gb i _ _ _ hg3]
   have : i = 0 ∨ i = 1 ∨ i = 2 ∨ i = 3 ∨ i = 4 ∨ i = 5 ∨ i = 6 ∨ i = 7 ∨ i = 8 ∨ i = 9 ∨ i = 10 ∨ i = 11 ∨ i = 12 ∨ i = 13 ∨ i = 14 ∨ i = 15 ∨ i = 16:=by omega
   rcases this with rfl | rfl | rfl | rfl | rfl | rfl | rfl | rfl | rfl | rfl | rfl | rfl | rfl | rfl | rfl | rfl | rfl <;> rfl) (by have:=HWT.out; omega))
  have HFL : Hid (∀ w',Gq.WrPost w2 ⟨0,z⟩ p D 0 signB (.returned (.int .i64 (doD D 0 0 0 signB).2.2)) w' -> PL w' ⟨0,z⟩ q p G bv D1 /\ Kl ⟨0,z⟩ w2 w'):=hJQ (fun w' h => by
   obtain ⟨_,h1,h2⟩:=h
   rw [hD2] at h1
   exact ⟨pl_disk hp2 h2 h1 (by rw [<- hD2]; exact Gq.do_len _ _ _ _ _),Gq.Kl.of_kp h2⟩)
  have HS2:=hJQ (blk_below HST1.out hb2)
  have HX2:=hJQ (blk_below HX1.out hb2)
  have HA2:=hJQ (own_below HA1.out hb2)
  have HT2:=hJQ (HT1.out.after hb2)
  have HW2:=hJQ hw2
  have EGB:=hJQ egb
  have s2:=cell_of HST1.out (j:=2) rfl
  have s0:=cell_of HST1.out (j:=0) rfl
  have kc:=fun (w : World) (C : Array Value) (n c : Nat) => Lib.run_convert_bytes_const (P:=Tryz.prog) w 82 5 C n c Tryz.underlying82 Tryz.underlying5
  clear hD2 hw2 egb hb2 hg2 hp2
  go_enter Tryz.func134,Tryz.ntmps134
  go_upto_region 1 with fail
  rw [<- HW1.out,<- EXB.out]
  go_wp2_with fail
  rw [<- HW2.out,<- EGB.out]
  clear s2 s0 kc
  refine HWR.out.mono ?_
  intro e w3 h3
  obtain rfl:=h3.1
  obtain ⟨hp3,hk3⟩:=HFL.out w3 h3
  have hs3:=Kl.cells hk3 HS2.out far_store
  have HP3:=hJQ hp3
  have HS3:=hJQ hs3
  have HX3:=hJQ (Kl.cells hk3 HX2.out (by unfold Far; decide))
  have HA3:=hJQ (Kl.own hk3 HA2.out far_entry)
  have HT3:=hJQ (HT2.out.trans (KT.of_kl hk3))
  have s2:=cell_of hs3 (j:=2) rfl
  have f2:=frozen_of_row w3 st 2 _ _ hs3
  clear h3 hp3 hk3 hs3
  go_upto_region 4 with fail
  obtain ⟨w4,hw4⟩ : ∃ W,W = w3.setCell ⟨st,2,none⟩ (.bool true):=⟨_,rfl⟩
  have HPw4 : Hid (PL w4 ⟨0,z⟩ q p G bv D1):=hJQ (by rw [hw4]; exact pl_set HP3.out HS3.out far_store _)
  have HSw4 : Hid (w4.heap[st]? = some (.cells #[.pointer (some ⟨p,0,none⟩),.pointer (some ⟨q,0,none⟩),.bool true] 124 (0,0))):=hJQ (by rw [hw4]; exact heap_setCell_same w3 st 2 _ _ _ HS3.out)
  have hwr : KT z w3 w4:=by rw [hw4]; exact KT.set HS3.out HZS.out _
  have HXw4:=hJQ (KT.cells hwr HX3.out (by unfold Far; decide) (by decide))
  have HAw4:=hJQ (KT.own hwr HA3.out far_entry (by decide))
  have HTw4:=hJQ (HT3.out.trans hwr)
  rw [<- hw4]
  clear hw4 hwr s2 f2
  obtain ⟨x0,x1,x2⟩ : w4.cell? ⟨xb,0,none⟩ = some (.int .i64 pr) /\ w4.cell? ⟨xb,1,none⟩ = some (.int .i64 nm) /\ w4.cell? ⟨xb,2,none⟩ = some (.slice A n c):=⟨cell_of HXw4.out (j:=0) rfl,cell_of HXw4.out (j:=1) rfl,cell_of HXw4.out (j:=2) rfl⟩
  have HOV:=hJQ (ofviews_any pr nm w4)
  go_wp2_with fail
  refine HOV.out.mono ?_
  rintro e w5 ⟨b5,rfl,hk5,hg5,hb5⟩
  have HB5:=hJQ hb5
  have HRC:=hJQ (record_any (c:=2) (fs:=vwF pr nm) (of_fields (l:=vwF pr nm) hk5 (by simp [vwF])) (by simp [vwF]) HEV.out)
  clear hk5 hg5 hb5 x0 x1 x2
  go_wp2_with fail
  refine HRC.out.mono ?_
  rintro e w6 ⟨rfl,hb6⟩
  have HB6:=hJQ (HB5.out.trans (hb6.mono HB5.out.size))
  obtain ⟨w7,hw7⟩ : ∃ W,W = w6.alloc (.cells #[.string (strOfNums (bytL (vwF pr nm)))] 9):=⟨_,rfl⟩
  obtain ⟨rb,erb⟩ : ∃ b,b = w6.heap.size:=⟨_,rfl⟩
  have hr7 : w7.heap[rb]? = some (.cells #[.string (strOfNums (bytL (vwF pr nm)))] 9 (0,0)):=by rw [hw7,erb]; exact new_block w6 _
  have HB7 : Hid (Below w4.heap.size w4 w7):=hJQ (HB6.out.trans ((by rw [hw7]; exact box_below w6 _ : Below w6.heap.size w6 w7).mono HB6.out.size))
  have HO7 : Hid (w7.ownsRow w4.heap.size 9 1 (.slice (some ⟨rb,0,none⟩) 1 1) (0 + 1) (Gq.strs (L.recs.take (0 + 1)))):=hJQ (by
   have h:=own_new (n:=1) (sz:=1) (base:=w4.heap.size) hr7 (by rw [erb]; exact HB6.out.size) (by unfold maxLen; omega) rfl
   rw [HRS.out]
   exact h)
  have hx7:=blk_below HXw4.out HB7.out
  have x2:=cell_of hx7 (j:=2) rfl
  have HW7:=hJQ hw7
  have ERB:=hJQ erb
  clear hb6 hw7 erb hr7 hx7
  go_upto_region 5 with fail
  rw [<- HW7.out,<- ERB.out]
  go_wp2_with fail
  clear x2
  go_loopw [4,32] (fun u i wr => ∃ j : Nat,j <= n /\ i = .int .i64 j /\ Hid (wr.ownsRow w4.heap.size 9 1 u (j + 1) (Gq.strs (L.recs.take (j + 1)))) /\ Hid (Below w4.heap.size w4 wr)) (fun _ i _ => n - (intOf i).toNat)
  case atStart => exact ⟨0,Nat.zero_le _,rfl,HO7,HB7⟩
  case round =>
   obtain ⟨j,hj,rfl,HOJ,HX⟩:=hrel
   by_cases hlt : j < n
   ·have hrd : Rd ecell 3 wr A n L.log:=Rd.of_own (own_below HAw4.out HX.out) (fun _ _ => rfl) (by omega)
    obtain ⟨b0,off,x,hAx,hx,hcc⟩:=hrd.at hlt
    subst hAx
    have c0 : wr.cell? ⟨b0,off + j * 3,none⟩ = some (.int .i64 x.v):=hcc 0 _ rfl
    have c1 : wr.cell? ⟨b0,off + j * 3 + 1,none⟩ = some (.int .i64 x.n):=hcc 1 _ rfl
    have c2 : wr.cell? ⟨b0,off + j * 3 + 2,none⟩ = some (.string x.b):=hcc 2 _ rfl
    have HTK : Hid (L.recs.take (j + 1 + 1) = L.recs.take (j + 1) ++ [recE x]):=hJQ (by
     have h1:=(List.getElem?_eq_some_iff.1 hx)
     obtain ⟨h2,h3⟩:=h1
     rw [HRS.out,List.take_succ_eq_append_getElem (by simp; omega)]
     congr 2
     simp [h3])
    have HEX:=hJQ (HEE.out x (List.mem_of_getElem? hx))
    obtain ⟨w8,hw8⟩ : ∃ xx,xx = wr.alloc (.cells #[.int .i64 x.v,.int .i64 x.n,.string x.b] 45):=⟨_,rfl⟩
    obtain ⟨r,er⟩ : ∃ xx,xx = wr.heap.size:=⟨_,rfl⟩
    have hb8 : Below wr.heap.size wr w8:=by rw [hw8]; exact box_below wr _
    have hkr : w8.heap[r]? = some (.cells #[.int .i64 x.v,.int .i64 x.n,.string x.b] 45 (0,0)):=by rw [hw8,er]; exact new_block wr _
    have HX8:=hJQ (HX.out.trans (hb8.mono HX.out.size))
    have HO8:=hJQ (own_below HOJ.out hb8)
    have r0:=cell_of hkr (j:=0) rfl
    have r1:=cell_of hkr (j:=1) rfl
    have r2:=cell_of hkr (j:=2) rfl
    have HW8:=hJQ hw8
    have ER:=hJQ er
    have hji : (j : Int) < (n : Int):=by omega
    have hwj : IntKind.i64.wrap ((j : Int) + 1) = (j : Int) + 1:=by rw [IntKind.wrap_i64]; omega
    obtain ⟨M,hM⟩ : ∃ M,j + 1 = M:=⟨_,rfl⟩
    rw [hM] at HO8 HTK
    have HM:=hJQ hM
    obtain ⟨A3,e3,rfl,-,-,-⟩:=own_form HO8.out
    have HM2 : Hid (M <= 150):=hJQ (by omega)
    clear hrd hx hcc hw8 er hkr hb8 hM
    go_upto_region 8 with fail
    rw [<- HW8.out,<- ER.out]
    clear c0 c1 c2
    go_wp2_with fail
    refine (ofentry_any x w8).mono ?_
    rintro e w9 ⟨b9,rfl,hk9,hg9,hb9⟩
    have HX9 : Hid (Below w4.heap.size w4 w9):=hJQ (HX8.out.trans (hb9.mono HX8.out.size))
    have HO9:=hJQ (own_below HO8.out hb9)
    have HRE:=hJQ (record_any (c:=3) (fs:=enF x) (of_fields (l:=enF x) hk9 (by simp [enF])) (by simp [enF]) HEX.out)
    clear hb9 hg9 hk9 r0 r1 r2
    go_wp2_with fail
    refine HRE.out.mono ?_
    rintro e w10 ⟨rfl,hb10⟩
    obtain ⟨w11,hw11⟩ : ∃ xx,xx = w10.alloc (.cells #[.string (strOfNums (recE x))] 9):=⟨_,rfl⟩
    obtain ⟨sb,esb⟩ : ∃ xx,xx = w10.heap.size:=⟨_,rfl⟩
    have hs11 : w11.heap[sb]? = some (.cells #[.string (strOfNums (recE x))] 9 (0,0)):=by rw [hw11,esb]; exact new_block w10 _
    have hb11 : Below w10.heap.size w10 w11:=by rw [hw11]; exact box_below w10 _
    have HX11 : Hid (Below w4.heap.size w4 w11):=hJQ ((HX9.out.trans (hb10.mono HX9.out.size)).trans (hb11.mono (Nat.le_trans HX9.out.size hb10.size)))
    have HO11:=hJQ (own_below (own_below HO9.out hb10) hb11)
    have hsz11:=HX11.out.size
    have Hw41:=hJQ hw11
    have ESB:=hJQ esb
    have HS11:=hJQ hs11
    have e11 : strOfNums (bytL (enF x)) = strOfNums (recE x):=rfl
    rw [e11]
    clear hb10 hw11 esb hs11 hb11 e11
    go_upto_region 9 with (at_builtin; rw [<- Hw41.out,<- ESB.out]; refine wpList_append_lies w11 rfl _ _ 195 rfl w4.heap.size 9 i0 (.string ⟨#[]⟩) 1 16 Tryz.underlying195 hi hz0 hz1 hz2 rfl (by decide) (.slice A3 M e3) M (Gq.strs (L.recs.take M)) rfl HO11.out ⟨sb,0,none⟩ 1 1 [.string (strOfNums (recE x))] rfl rfl (World.news_of_block HS11.out) (fun u hu => by rw [List.mem_singleton] at hu; subst hu; rfl) (by decide) (by unfold maxLen; have:=HM2.out; omega) (by have:=HM2.out; omega) hsz11 _ rfl ?_; intro g6 cap6 w12 hown6 hgrow6 hat6 hlt6; have HO6:=hJQ hown6; have HX6 : Hid (Below w4.heap.size w4 w12):=hJQ (HX11.out.trans (gb_own HO11.out hgrow6 (Nat.le_refl _) hsz11)); clear hown6 hgrow6 hat6 hlt6)
    go_wp2_with fail
    go_roundw
    case rel => exact ⟨j + 1,hlt,by go_num,(by have h:=HO6.out; rw [<- strs_snoc,<- HTK.out] at h; rw [HM.out] at *; exact hJQ h),HX6⟩
    case measure => simp [intOf]; omega
   ·obtain rfl : j = n:=by omega
    have hji : ¬ (j : Int) < (j : Int):=by omega
    have hlr : L.recs.length = j + 1:=by rw [HRS.out]; simp [HN.out]
    have ho:=HOJ.out
    rw [List.take_of_length_le (Nat.le_of_eq hlr)] at ho
    obtain ⟨A9,c9,e9,hs9,-,-⟩:=Gq.own_sreads ho (fun s hs => (HRK.out s hs).2)
    subst e9
    have hp9:=HPw4.out.kept HX.out
    have hst9:=blk_below HSw4.out HX.out
    have s1:=cell_of hst9 (j:=1) rfl
    have HRP:=hJQ (Gq.replace_any ⟨0,z⟩ q p G bv D1 A9 (j + 1) c9 L.recs wr hp9 hs9 (by omega) (fun s hs => by have:=(HRK.out s hs).1; omega) HWT1.out)
    have HFN:=hJQ (fun e0 w' h => kp_post (w':=w') (e0:=e0) (HTw4.out.after HX.out) hst9 hp9 (fun s hs => (HRK.out s hs).1) HRN.out h)
    clear ho hs9 hp9 hst9 hlr
    obtain ⟨M,hM⟩ : ∃ M,j + 1 = M:=⟨_,rfl⟩
    rw [hM] at HRP
    have hM3 : (j : Nat) + 1 = M:=hM
    try rw [hM]
    clear hM hM3
    go_wp2_with fail
    refine HRP.out.mono ?_
    intro e0 w12 h12
    obtain ⟨⟨v0,hv0⟩,hE⟩:=HFN.out e0 w12 h12
    subst hv0
    have HE:=hJQ hE
    clear h12 hE
    go_wp2_with fail
    go_end0
    exact HE.out
end Go.Proofs.YtlppinfjdnhlbaaGreatDoor
