/-
 Who leads begins its view with the best log. Condition: that is a log,and there is room.
 A member's join is there; as soon as a quorum's are,the view is begun. Condition: the node asks,the join is one.
 A join comes to a node. Condition: the node is right,the join one.
-/
import Derived.Test.YtlppinfjdnhlbaaGreatDoorHd
import Derived.Test.YtlppinfjdnhlbaaGreatDoorORg
import Derived.Test.YtlppinfjdnhlbaaGreatDoorOOk
import Derived.Test.YtlppinfjdnhlbaaGreatDoorKRight2
namespace Go.Proofs.YtlppinfjdnhlbaaGreatDoor
set_option maxRecDepth 100000
open Go.ChangeShapes Go.WideShapes Go.ChangeAt Go.RowKit Go.Proofs.Rk
open Pq (Fld FReads errL bytL fcs)
open Gq (Bz Mine PL PDisk Kp Kl Lg Dk putL enc)

section
variable {w : World} {z : Nat -> Prop} {x st q p : Nat} {lv rp ov : Value} {s : Bool} {G : Lg} {D : Dk} {n : Nd}
def Nd.begun (n : Nd) (l : List En) : Nd:=(({ n with pr:=n.pr,nm:=n.pr,log:=l,com:=min n.com l.length,rg:=some (started n l) } : Nd).spread (mStart n.pr l)).look (started n l)
set_option maxHeartbeats 8000000 in
theorem start_any (h : NdW w z x st q p lv rp ov s G D n) (ho : n.out.length <= 800000) (hs : n.self < n.many) (h7 : n.many <= 7) {B : Option Addr} {M d : Nat} {l : List En} (hl : w.ownsRow 0 45 3 (.slice B M d) l.length (l.flatMap ecell)) (hz : Mine ⟨0,z⟩ (.slice B M d)) (hL : LsOk ⟨n.pr,n.pr,l⟩) (hsz : G.sz = 548) (hwt : D.wait.length <= 20000)
  (hm : MsOk ⟨3,n.pr,0,0,l⟩) (hm6 : ∀ k : Int,0 <= k -> k <= l.length -> MsOk ⟨6,n.pr,0,k,[]⟩) (hhd : heldN (acksL (started n l) n.many) <= l.length) (hh0 : 0 <= heldN (acksL (started n l) n.many)) :
  Calls Tryz.prog 136 #[.pointer (some ⟨x,0,none⟩),.slice B M d] w fun e w' => e = .returned (.tuple #[]) /\ KN z w w' /\ ∃ lv' rp' ov',NdW w' z x st q p lv' rp' ov' true (keepD G (signD s D) (Ls.recs ⟨n.pr,n.pr,l⟩)).1 (keepD G (signD s D) (Ls.recs ⟨n.pr,n.pr,l⟩)).2 (if (keepD G (signD s D) (Ls.recs ⟨n.pr,n.pr,l⟩)).2.dead then ({ n with pr:=n.pr,nm:=n.pr,log:=l,com:=min n.com l.length } : Nd) else n.begun l):=by
 have hM : M = l.length:=by
  obtain ⟨A3,c3,e3,_,_,_⟩:=own_form hl
  injection e3
 have hx2:=cell_of h.here (j:=2) rfl
 have had:=adopt_any h hl hz hL hsz hwt
 obtain ⟨KD,hKD⟩ : ∃ K,keepD G (signD s D) (Ls.recs ⟨n.pr,n.pr,l⟩) = K:=⟨_,rfl⟩
 rw [hKD] at had ⊢
 obtain ⟨dd,hdd⟩ : ∃ t,KD.2.dead = t:=⟨_,rfl⟩
 obtain ⟨nF,hnF⟩ : ∃ k,(if KD.2.dead then ({ n with pr:=n.pr,nm:=n.pr,log:=l,com:=min n.com l.length } : Nd) else n.begun l) = k:=⟨_,rfl⟩
 rw [hnF]
 rw [hdd] at had
 have HXX:=hJQ hx2
 have HFD : Hid (dd = true -> ({ n with pr:=n.pr,nm:=n.pr,log:=l,com:=min n.com l.length } : Nd) = nF):=hJQ (fun e => by rw [<- hnF,hdd,if_pos e])
 have HFA : Hid (dd = false -> n.begun l = nF):=hJQ (fun e => by rw [<- hnF,hdd,e,if_neg (by decide)])
 have HAD:=hJQ had
 have HO : Hid (({ n with pr:=n.pr,nm:=n.pr,log:=l,com:=min n.com l.length,rg:=some (started n l) } : Nd).out.length <= 900000):=hJQ (by show n.out.length <= 900000; omega)
 have HMA : Hid (({ n with pr:=n.pr,nm:=n.pr,log:=l,com:=min n.com l.length,rg:=some (started n l) } : Nd).many <= 7):=hJQ h7
 have hs7 : n.self < 7:=by omega
 have HS7:=hJQ hs7
 have HHL:=hJQ hM
 have hbr : ∀ (W : World),(Instr.build 111 #[(1,.bool true),(2,.int .i64 (M : Int))]).run Tryz.prog W = .ok (.agg #[.pointer none,.pointer none,.pointer none,.pointer none,.pointer none,.pointer none,.pointer none,.bool true,.int .i64 (M : Int),.bool false,.bool false,.bool false,.bool false,.bool false,.bool false,.bool false,.int .i64 0,.int .i64 0,.int .i64 0,.int .i64 0,.int .i64 0,.int .i64 0,.int .i64 0]) W:=fun W => run_build W _ _ _ (by kernel_rfl)
 have HLO : Hid (∀ (W : World) (ov' : Value),NdW W z x st q p (.slice B M d) (.pointer (some ⟨w.heap.size,0,none⟩)) ov' true KD.1 KD.2 (({ n with pr:=n.pr,nm:=n.pr,log:=l,com:=min n.com l.length,rg:=some (started n l) } : Nd).spread (mStart n.pr l)) -> True):=hJQ (fun _ _ _ => trivial)
 have HLO2 : Hid (∀ (rb : Nat) (W : World) (ov' : Value),NdW W z x st q p (.slice B M d) (.pointer (some ⟨rb,0,none⟩)) ov' true KD.1 KD.2 (({ n with pr:=n.pr,nm:=n.pr,log:=l,com:=min n.com l.length,rg:=some (started n l) } : Nd).spread (mStart n.pr l)) -> Calls Tryz.prog 59 #[.pointer (some ⟨x,0,none⟩)] W fun e w' => e = .returned (.tuple #[]) /\ KN z W w' /\ ∃ ov2,NdW w' z x st q p (.slice B M d) (.pointer (some ⟨rb,0,none⟩)) ov2 true KD.1 KD.2 (n.begun l)):=hJQ (fun rb W ov' hW => by
  have hout : (({ n with pr:=n.pr,nm:=n.pr,log:=l,com:=min n.com l.length,rg:=some (started n l) } : Nd).spread (mStart n.pr l)).out.length <= 900000:=by
   have h1 : (n.others.map fun i => (i,mStart n.pr l)).length <= 7:=by
    rw [List.length_map]
    unfold Nd.others
    have:=List.length_filter_le (fun k => decide (k ≠ n.self)) (List.range n.many)
    rw [List.length_range] at this
    omega
   show (n.out ++ n.others.map fun i => (i,mStart n.pr l)).length <= 900000
   rw [List.length_append]; omega
  exact look_any (r:=started n l) hW rfl hout (by show 1 <= n.many; omega) h7 (fun _ => hm6 _ hh0 hhd))
 have HM3:=hJQ hm
 have HIN : Hid (In64 l):=hJQ (in64_of (fun e he => by have:=rgt_mem hL.log e he; omega))
 have HLN : Hid (M <= 4000000000):=hJQ (by have h9 : l.length <= 150:=hL.log.1; omega)
 clear hl h ho hs h7 hz hL hsz hwt hm hm6 hhd hh0 had hKD hnF hdd HLO
 cases dd with
 | true =>
  have HF:=hJQ (HFD.out rfl)
  clear HFD HFA hbr hM
  go_enter Tryz.func136,Tryz.ntmps136
  go_wp2_with fail
  refine HAD.out.mono ?_
  rintro e w1 ⟨rfl,hkn1,hn1⟩
  have HN1:=hJQ (And.intro hkn1 hn1)
  clear hkn1 hn1
  go_wp2_with fail
  first | go_end0 | (refine bodyPost_ret (results_none rfl _ _ _) rfl ?_)
  exact ⟨rfl,HN1.out.1,_,_,_,by rw [<- HF.out]; exact HN1.out.2⟩
 | false =>
  have HF:=hJQ (HFA.out rfl)
  clear HFD HFA hM hx2
  have hx2 : w.cell? ⟨x,2,none⟩ = some (.int .i64 n.pr):=HXX.out
  go_enter Tryz.func136,Tryz.ntmps136
  go_wp2_with fail
  refine HAD.out.mono ?_
  rintro e w1 ⟨rfl,hkn1,hn1⟩
  clear hx2
  obtain ⟨w2,hw2⟩ : ∃ xx,xx = w1.alloc (.cells #[.pointer none,.pointer none,.pointer none,.pointer none,.pointer none,.pointer none,.pointer none,.bool true,.int .i64 (M : Int),.bool false,.bool false,.bool false,.bool false,.bool false,.bool false,.bool false,.int .i64 0,.int .i64 0,.int .i64 0,.int .i64 0,.int .i64 0,.int .i64 0,.int .i64 0] 111):=⟨_,rfl⟩
  obtain ⟨rb,erb⟩ : ∃ xx,xx = w1.heap.size:=⟨_,rfl⟩
  have hb2 : Below w1.heap.size w1 w2:=by rw [hw2]; exact box_below w1 _
  have hk2 : w2.heap[rb]? = some (.cells #[.pointer none,.pointer none,.pointer none,.pointer none,.pointer none,.pointer none,.pointer none,.bool true,.int .i64 (M : Int),.bool false,.bool false,.bool false,.bool false,.bool false,.bool false,.bool false,.int .i64 0,.int .i64 0,.int .i64 0,.int .i64 0,.int .i64 0,.int .i64 0,.int .i64 0] 111 (0,0)):=by rw [hw2,erb]; exact new_block w1 _
  have hn2:=hn1.below hb2
  have hrbz : ¬ z rb:=fun hz => by have:=hn1.zl _ hz; omega
  have x7:=cell_of hn1.here (j:=7) rfl
  have f7:=frozen_of_row w1 x 7 _ _ hn1.here
  have hxl:=blk_lt hn1.here
  obtain ⟨w3,hw3⟩ : ∃ xx,xx = w2.setCell ⟨x,7,none⟩ (.pointer (some ⟨rb,0,none⟩)):=⟨_,rfl⟩
  have hk3:=seti hn2.here 7 (.pointer (some ⟨rb,0,none⟩))
  rw [<- hw3] at hk3
  have hlR : (l.length : Int) = (M : Int):=by rw [<- HHL.out]
  have hrg2 : RgW w2 z (.pointer (some ⟨rb,0,none⟩)) (some (⟨fun _ => none,true,l.length,fun _ => false,fun _ => 0⟩ : Rg)):=⟨rb,fun _ => .pointer none,rfl,by rw [hk2]; show some (Obj.cells #[_,_,_,_,_,_,_,_,.int .i64 (M : Int),_,_,_,_,_,_,_,_,_,_,_,_,_,_] _ _) = some (Obj.cells #[_,_,_,_,_,_,_,_,.int .i64 (l.length : Int),_,_,_,_,_,_,_,_,_,_,_,_,_,_] _ _); rw [hlR],hrbz,fun _ _ => rfl⟩
  obtain ⟨hn3,hkn3⟩:=hn2.wr (n':=({ n with pr:=n.pr,nm:=n.pr,log:=l,com:=min n.com l.length,rg:=some (⟨fun _ => none,true,l.length,fun _ => false,fun _ => 0⟩ : Rg) } : Nd)) (lv':=.slice B M d) (rp':=.pointer (some ⟨rb,0,none⟩)) (ov':=ov) hk3.1 hk3.2 hn2.log hrg2 hn2.out hn2.zlog hn2.zout
  obtain ⟨w4,hw4⟩ : ∃ xx,xx = w3.drew:=⟨_,rfl⟩
  have hb4 : Below w3.heap.size w3 w4:=by rw [hw4]; exact (Below.refl _ _).drew
  have hn4:=hn3.below hb4
  obtain ⟨rb4,jp4,e4,hk4,hz4,hj4⟩:=hn4.rg
  injection e4 with e4
  injection e4 with e4
  injection e4 with e4 _ _
  subst e4
  have hk6:=seti hk4 (16 + n.self) (.int .i64 (M : Int))
  obtain ⟨w6,hw6⟩ : ∃ xx,xx = w4.setCell ⟨rb,16 + n.self,none⟩ (.int .i64 (M : Int)):=⟨_,rfl⟩
  rw [<- hw6] at hk6
  rw [List.setIfInBounds_toArray,rgc_set_ak jp4 _ n.self HS7.out (M : Int)] at hk6
  have hr5 : ({ (⟨fun _ => none,true,l.length,fun _ => false,fun _ => 0⟩ : Rg) with ak:=fun k => if k = n.self then (M : Int) else (⟨fun _ => none,true,l.length,fun _ => false,fun _ => 0⟩ : Rg).ak k } : Rg) = started n l:=by rw [<- hlR]; rfl
  rw [hr5] at hk6
  obtain ⟨hn6,hkn6⟩:=hn4.rgw (r':=started n l) rfl hk6.1 hk4 hz4 hk6.2 hj4
  have HN6 : Hid (NdW w6 z x st q p (.slice B M d) (.pointer (some ⟨rb,0,none⟩)) ov true KD.1 KD.2 ({ n with pr:=n.pr,nm:=n.pr,log:=l,com:=min n.com l.length,rg:=some (started n l) } : Nd)):=hJQ hn6
  have HK6 : Hid (KN z w w6):=hJQ ((((hkn1.trans (KN.of_below hb2)).trans hkn3).trans (KN.of_below hb4)).trans hkn6)
  have HLE:=hJQ (letter_any (w:=w6) (x:=x) (A:=B) (N:=M) (c:=d) (l:=l) (k:=3) (v:=n.pr) (m:=0) (y:=0) (Rd.of_own (by rw [HHL.out]; have h9:=HN6.out.log; rw [HHL.out] at h9; exact h9) (fun _ _ => rfl) (by have:=HLN.out; omega)) (fun e => by
   subst e
   rcases HN6.out.log.2 with ⟨e2,_⟩ | ⟨g,cap,cur,e2,_⟩
   ·injection e2
   ·injection e2 with e2; cases e2) HIN.out HM3.out HLN.out)
  have HLO:=hJQ (HLO2.out rb)
  have hH2 : w3.cell? ⟨x,7,none⟩ = some (.pointer (some ⟨rb,0,none⟩)) /\ w3.cell? ⟨x,0,none⟩ = some (.int .i64 (n.self : Int)):=⟨cell_of hn3.here (j:=7) rfl,cell_of hn3.here (j:=0) rfl⟩
  have HD4 : Hid (w4.cell? ⟨x,7,none⟩ = some (.pointer (some ⟨rb,0,none⟩)) /\ w4.cell? ⟨x,0,none⟩ = some (.int .i64 (n.self : Int))):=hJQ ⟨cell_of hn4.here (j:=7) rfl,cell_of hn4.here (j:=0) rfl⟩
  have HS6 : Hid (w6.cell? ⟨x,7,none⟩ = some (.pointer (some ⟨rb,0,none⟩)) /\ w6.cell? ⟨x,0,none⟩ = some (.int .i64 (n.self : Int))):=hJQ ⟨cell_of hn6.here (j:=7) rfl,cell_of hn6.here (j:=0) rfl⟩
  have hxp:=cell_of hn6.here (j:=2) rfl
  have HXP : Hid (w6.cell? ⟨x,2,none⟩ = some (.int .i64 n.pr)):=hJQ hxp
  have hrs : ∃ v,w4.cell? ⟨rb,16 + n.self,none⟩ = some v:=⟨_,cell_of hk4 (by rw [List.getElem?_toArray]; exact rgc_ak jp4 _ n.self HS7.out)⟩
  have fr4:=frozen_of_row w4 rb (16 + n.self) _ _ hk4
  have HW2:=hJQ hw2
  have ERB:=hJQ erb
  have HW3 : Hid (w3 = (w1.setCell ⟨x,7,none⟩ (.pointer (some ⟨rb,0,none⟩))).alloc (.cells #[.pointer none,.pointer none,.pointer none,.pointer none,.pointer none,.pointer none,.pointer none,.bool true,.int .i64 (M : Int),.bool false,.bool false,.bool false,.bool false,.bool false,.bool false,.bool false,.int .i64 0,.int .i64 0,.int .i64 0,.int .i64 0,.int .i64 0,.int .i64 0,.int .i64 0] 111)):=hJQ (by rw [hw3,hw2]; exact World.setCell_alloc_past _ _ _ _ hxl)
  have HW4:=hJQ hw4
  have HW6:=hJQ hw6
  have HFR4:=hJQ fr4
  have HRS:=hJQ hrs
  clear hkn1 hn1 hw2 erb hb2 hk2 hn2 hrbz hw3 hk3 hlR hrg2 hn3 hkn3 hw4 hb4 hn4 hk4 hz4 hj4 hk6 hw6 hr5 hn6 hkn6 hxp fr4 hrs
  go_upto_region 2 with fail
  rw [<- ERB.out,<- HW3.out]
  clear x7 f7 hxl hbr
  refine wp_region_held_drew (S:=fun V => V.cell? ⟨x,7,none⟩ = some (.pointer (some ⟨rb,0,none⟩)) /\ V.cell? ⟨x,0,none⟩ = some (.int .i64 (n.self : Int))) (by kernel_rfl) hH2 (fun hHeld => ?_)
  clear hHeld hH2
  have hHeld:=HD4.out
  rw [<- HW4.out]
  obtain ⟨v0,hrs⟩:=HRS.out
  have fr4:=HFR4.out
  have hs7i : (n.self : Int) < 7:=by have:=HS7.out; omega
  refine tk 0 20 (.pointer (some ⟨x,0,none⟩)) hHeld ?_
  refine tk 1 21 (.pointer (some ⟨x,0,none⟩)) hHeld ?_
  refine tk 2 22 (.pointer (some ⟨x,7,none⟩)) hHeld ?_
  refine tm 3 23 (.pointer (some ⟨rb,0,none⟩)) hHeld ?_
  refine tk 4 24 (.pointer (some ⟨x,0,none⟩)) hHeld ?_
  simp only [lz,ls]
  refine tk 5 25 (.pointer (some ⟨x,0,none⟩)) hHeld ?_
  refine tk 6 26 (.pointer (some ⟨x,0,none⟩)) hHeld ?_
  refine tm 7 27 (.int .i64 (n.self : Int)) hHeld ?_
  refine tk 8 28 (.slice B M d) hHeld ?_
  refine tk 9 29 (.int .i64 (M : Int)) hHeld ?_
  simp only [lz,ls]
  refine tk 10 30 (.pointer (some ⟨rb,0,none⟩)) hHeld ?_
  refine tk 11 31 (.pointer (some ⟨rb,16,none⟩)) hHeld ?_
  refine tk 12 32 (.pointer (some ⟨rb,16 + n.self,none⟩)) hHeld ?_
  simp only [lz,ls]
  refine r1 13 (fun K hK => ?_) rfl
  go_simp
  rw [<- HW6.out]
  refine hK.out _ _ (HS6.out) (fun hHeld => ?_)
  clear hK K
  try simp only [Act.put,lp,lz,ls]
  refine wpAnyH_done (by kernel_rfl) ?_ _
  clear hrs fr4 hs7i
  have hxp:=HXP.out
  clear hHeld
  go_wp2_with fail
  refine HLE.out.mono ?_
  rintro e w7 ⟨rfl,hb7⟩
  have HSP:=hJQ (spread_any (HN6.out.below hb7) HO.out HMA.out (mStart n.pr l))
  have HK7:=hJQ (HK6.out.trans (KN.of_below hb7))
  have hmf : ∀ (fn : Fn) (first cap : Array Value) (w : World),(Instr.makeFunc fn first cap).run Tryz.prog w = .ok (.func fn first cap) w:=fun _ _ _ _ => rfl
  clear hb7
  go_wp2_with fail
  refine HSP.out.mono ?_
  rintro e w8 ⟨rfl,hkn8,ov',hn8⟩
  have HLK:=hJQ (HLO.out w8 ov' hn8)
  have HK8:=hJQ (HK7.out.trans hkn8)
  clear hkn8 hn8
  go_wp2_with fail
  refine HLK.out.mono ?_
  rintro e w9 ⟨rfl,hkn9,ov2,hn9⟩
  have HFI:=hJQ (And.intro (HK8.out.trans hkn9) hn9)
  clear hkn9 hn9
  go_wp2_with fail
  go_end0
  exact ⟨rfl,HFI.out.1,_,_,_,by rw [<- HF.out]; exact HFI.out.2⟩
end
open Go.ChangeShapes Go.WideShapes Go.ChangeAt Go.RowKit Go.Proofs.Rk
open Pq (Fld FReads errL bytL fcs)
open Gq (Bz Mine PL PDisk Kp Kl Lg Dk putL enc)

/-! ### Joins,by rising members -/
def valsTo (js : Nat -> Option (Int × List En)) (jl : Nat -> Value) (k : Nat) : List Value:=(List.range k).filterMap fun i => (js i).map fun _ => jl i
theorem joins_none {js : Nat -> Option (Int × List En)} {k : Nat} (h : js k = none) : joinsL js (k + 1) = joinsL js k:=by
 unfold joinsL; rw [List.range_succ,List.filterMap_append]; simp [h]
theorem joins_some {js : Nat -> Option (Int × List En)} {k : Nat} {j : Int × List En} (h : js k = some j) : joinsL js (k + 1) = joinsL js k ++ [j]:=by
 unfold joinsL; rw [List.range_succ,List.filterMap_append]; simp [h]
theorem vals_none {js : Nat -> Option (Int × List En)} {jl : Nat -> Value} {k : Nat} (h : js k = none) : valsTo js jl (k + 1) = valsTo js jl k:=by
 unfold valsTo; rw [List.range_succ,List.filterMap_append]; simp [h]
theorem vals_some {js : Nat -> Option (Int × List En)} {jl : Nat -> Value} {k : Nat} {j : Int × List En} (h : js k = some j) : valsTo js jl (k + 1) = valsTo js jl k ++ [jl k]:=by
 unfold valsTo; rw [List.range_succ,List.filterMap_append]; simp [h]
theorem vals_len {js : Nat -> Option (Int × List En)} {jl : Nat -> Value} : ∀ k,(valsTo js jl k).length = (joinsL js k).length
 | 0 => rfl
 | k + 1 => by
  cases h : js k with
  | none => rw [vals_none h,joins_none h]; exact vals_len k
  | some j => rw [vals_some h,joins_some h,List.length_append,List.length_append,vals_len k]; rfl
theorem vals_get {js : Nat -> Option (Int × List En)} {jl : Nat -> Value} {i : Nat} {x : Int × List En} : ∀ k,(joinsL js k)[i]? = some x -> ∃ a,a < k /\ js a = some x /\ (valsTo js jl k)[i]? = some (jl a)
 | 0,h => by simp [joinsL] at h
 | k + 1,h => by
  cases hj : js k with
  | none =>
   rw [joins_none hj] at h
   obtain ⟨a,h1,h2,h3⟩:=vals_get k h
   exact ⟨a,by omega,h2,by rw [vals_none hj]; exact h3⟩
  | some j =>
   rw [joins_some hj] at h
   rw [vals_some hj]
   by_cases hi : i < (joinsL js k).length
   ·rw [List.getElem?_append_left hi] at h
    obtain ⟨a,h1,h2,h3⟩:=vals_get k h
    exact ⟨a,by omega,h2,by rw [List.getElem?_append_left (by rw [vals_len]; exact hi)]; exact h3⟩
   ·have hi2 : i = (joinsL js k).length:=by
     have:=(List.getElem?_eq_some_iff.1 h).1
     rw [List.length_append,List.length_singleton] at this
     omega
    subst hi2
    rw [List.getElem?_concat_length] at h
    injection h with h
    subst h
    exact ⟨k,by omega,hj,by rw [<- vals_len (jl:=jl),List.getElem?_concat_length]⟩
theorem joins_more {js : Nat -> Option (Int × List En)} {m : Nat} (h : ∀ i j,js i = some j -> i < m) : ∀ d,joinsL js (m + d) = joinsL js m
 | 0 => rfl
 | d + 1 => by
  rw [<- Nat.add_assoc,joins_none (k:=m + d),joins_more h d]
  cases hj : js (m + d) with
  | none => rfl
  | some j => exact absurd (h _ _ hj) (by omega)
theorem joins_le {js : Nat -> Option (Int × List En)} : ∀ k,(joinsL js k).length <= k
 | 0 => by simp [joinsL]
 | k + 1 => by
  have:=joins_le (js:=js) k
  cases h : js k with
  | none => rw [joins_none h]; omega
  | some j => rw [joins_some h,List.length_append,List.length_singleton]; omega
theorem isB_best {l : List Mk} {r : Int} (h : IsB l r) (hne : l ≠ []) : r = (bestN l : Int) /\ bestN l < l.length:=by
 rcases h with ⟨h,_⟩ | ⟨i,x,rfl,h1,h2,h3⟩
 ·exact absurd h hne
 ·have hi : i < l.length:=(List.getElem?_eq_some_iff.1 h1).1
  have hf : l.findIdx? (fun m => l.all fun x => !less m x) = some i:=by
   rw [List.findIdx?_eq_some_iff_getElem]
   refine ⟨hi,?_,fun j hj => ?_⟩
   ·rw [List.all_eq_true]
    intro y hy
    have e : l[i] = x:=by have:=List.getElem?_eq_getElem hi; rw [h1] at this; injection this with this; exact this.symm
    rw [e,h2 y hy]; rfl
   ·obtain ⟨y,hy,h4⟩:=h3 j _ hj (List.getElem?_eq_getElem (by omega))
    simp only [Bool.not_eq_true,List.all_eq_false]
    exact ⟨y,hy,by rw [h4]; decide⟩
  have hb : bestN l = i:=by unfold bestN; rw [hf]; rfl
  rw [hb]; exact ⟨rfl,hi⟩
theorem infoMk : (Tryz.prog.info? 164).map (fun i => (i.zero,i.size,i.bytes)) = some (some (.agg #[.int .i64 0,.int .i64 0]),2,16):=by kernel_rfl
theorem infoL : (Tryz.prog.info? 32).map (fun i => (i.zero,i.size,i.bytes)) = some (some (.slice none 0 0),1,24):=by kernel_rfl
section
variable {w : World} {z : Nat -> Prop} {x st q p : Nat} {lv rp ov : Value} {s : Bool} {G : Lg} {D : Dk} {n : Nd}
def BegOut (s : Bool) (G : Lg) (D : Dk) (n : Nd) (r : Rg) (s' : Bool) (G' : Lg) (D' : Dk) (n' : Nd) : Prop :=
 (((joinsL r.js n.many).length : Int) < quo n.many /\ s' = s /\ G' = G /\ D' = D /\ n' = n) ∨
 (¬ ((joinsL r.js n.many).length : Int) < quo n.many /\ s' = true /\ G' = (keepD G (signD s D) (Ls.recs ⟨n.pr,n.pr,bestL (joinsL r.js n.many)⟩)).1 /\ D' = (keepD G (signD s D) (Ls.recs ⟨n.pr,n.pr,bestL (joinsL r.js n.many)⟩)).2 /\
  n' = if D'.dead then ({ n with pr:=n.pr,nm:=n.pr,log:=bestL (joinsL r.js n.many),com:=min n.com (bestL (joinsL r.js n.many)).length } : Nd) else n.begin r)
theorem index_joins {jp : Nat -> Value} (hp : ∀ i,i < 7 -> ∃ a,jp i = .pointer a) {k : Nat} (hk : k < 7) (V : World) : (Instr.index 107 (.agg #[jp 0,jp 1,jp 2,jp 3,jp 4,jp 5,jp 6]) (.int .i64 (k : Int))).run Tryz.prog V = .ok (jp k) V:=by
 obtain ⟨a0,e0⟩:=hp 0 (by decide)
 obtain ⟨a1,e1⟩:=hp 1 (by decide)
 obtain ⟨a2,e2⟩:=hp 2 (by decide)
 obtain ⟨a3,e3⟩:=hp 3 (by decide)
 obtain ⟨a4,e4⟩:=hp 4 (by decide)
 obtain ⟨a5,e5⟩:=hp 5 (by decide)
 obtain ⟨a6,e6⟩:=hp 6 (by decide)
 rw [e0,e1,e2,e3,e4,e5,e6]
 have ht : Tryz.prog.underlying 107 = some (.array 7 106):=by kernel_rfl
 have h1 : Tryz.prog.cellsOf 106 = 1:=by kernel_rfl
 have hsm : (Tryz.prog.info? 106).isSome = true:=by kernel_rfl
 obtain ⟨i6,hi6⟩:=Option.isSome_iff_exists.1 hsm
 have hs : (sizeOf 106).run Tryz.prog V = .ok 1 V:=by rw [run_sizeOf V hi6,h1]
 have : k = 0 ∨ k = 1 ∨ k = 2 ∨ k = 3 ∨ k = 4 ∨ k = 5 ∨ k = 6:=by omega
 rcases this with rfl | rfl | rfl | rfl | rfl | rfl | rfl
 ·rw [e0]; simp [Instr.index,run_underlying ht,asIntOf,go_sem,hs]
 ·rw [e1]; simp [Instr.index,run_underlying ht,asIntOf,go_sem,hs]
 ·rw [e2]; simp [Instr.index,run_underlying ht,asIntOf,go_sem,hs]
 ·rw [e3]; simp [Instr.index,run_underlying ht,asIntOf,go_sem,hs]
 ·rw [e4]; simp [Instr.index,run_underlying ht,asIntOf,go_sem,hs]
 ·rw [e5]; simp [Instr.index,run_underlying ht,asIntOf,go_sem,hs]
 ·rw [e6]; simp [Instr.index,run_underlying ht,asIntOf,go_sem,hs]
theorem own_none (w : World) (base e sz : Nat) : w.ownsRow base e sz (.slice none 0 0) 0 []:=⟨by simp,.inl ⟨rfl,rfl⟩⟩
theorem own_gb2 {w w' : World} {base e sz n : Nat} {v u : Value} {xs : List Value} (h : w.ownsRow base e sz v n xs) (hg : w.grownBy w' u.ownBlock) (hne : ∀ k,u.ownBlock = some k -> v.ownBlock = some k -> False) : w'.ownsRow base e sz v n xs:=own_gb' h hg (fun k e1 e2 => hne k e1 e2)
theorem own_other {w : World} {b1 b2 e1 e2 s1 s2 n1 n2 : Nat} {v1 v2 : Value} {l1 l2 : List Value} (h1 : w.ownsRow b1 e1 s1 v1 n1 l1) (h2 : w.ownsRow b2 e2 s2 v2 n2 l2) (hne : e1 ≠ e2) {r : Nat} (k1 : v1.ownBlock = some r) (k2 : v2.ownBlock = some r) : False:=by
 rcases h1.2 with ⟨rfl,_⟩ | ⟨g,cap,cur,rfl,_,hg,_⟩
 ·simp [Value.ownBlock] at k1
 ·rcases h2.2 with ⟨rfl,_⟩ | ⟨g2,cap2,cur2,rfl,_,hg2,_⟩
  ·simp [Value.ownBlock] at k2
  ·simp only [Value.ownBlock,Option.some.injEq] at k1 k2
   subst k1
   subst k2
   rw [hg] at hg2
   injection hg2 with hg2
   injection hg2 with _ h4 _
   exact hne h4
set_option maxHeartbeats 16000000 in
theorem join_any {r : Rg} (h : NdW w z x st q p lv rp ov s G D n) (hr : n.rg = some r) (ho : n.out.length <= 700000) (hk : NdOk { n with rg:=none }) (ha : AskOk n r) {f : Nat} (hf : f < n.many) {kk vv m num : Int} {B : Option Addr} {M d : Nat} {l : List En} (hl : w.ownsRow 0 45 3 (.slice B M d) l.length (l.flatMap ecell)) (hz : Mine ⟨0,z⟩ (.slice B M d)) (hj : JOk n.pr (m,l)) (hsz : G.sz = 548) (hwt : D.wait.length <= 20000) :
  Calls Tryz.prog 89 #[.pointer (some ⟨x,0,none⟩),.int .i64 (f : Int),.agg #[.int .i64 kk,.int .i64 vv,.int .i64 m,.int .i64 num,.slice B M d]] w fun e w' => e = .returned (.tuple #[]) /\ KN z w w' /\ ∃ lv' rp' ov' s' G' D' n',NdW w' z x st q p lv' rp' ov' s' G' D' n' /\ BegOut s G D { n with rg:=some (r.join f m l) } (r.join f m l) s' G' D' n':=by
 have hf7 : f < 7:=by have h9 : n.many <= 7:=hk.many; omega
 have hfi : (f : Int) < 7:=by omega
 have hrg:=h.rg
 rw [hr] at hrg
 obtain ⟨rb,jp0,erp,hrb,hzb,hj0⟩:=hrg
 subst erp
 obtain ⟨w1,hw1⟩ : ∃ xx,xx = w.alloc (.cells #[.int .i64 kk,.int .i64 vv,.int .i64 m,.int .i64 num,.slice B M d] 69):=⟨_,rfl⟩
 obtain ⟨b,eb⟩ : ∃ xx,xx = w.heap.size:=⟨_,rfl⟩
 have hb1 : Below w.heap.size w w1:=by rw [hw1]; exact box_below w _
 have hk1 : w1.heap[b]? = some (.cells #[.int .i64 kk,.int .i64 vv,.int .i64 m,.int .i64 num,.slice B M d] 69 (0,0)):=by rw [hw1,eb]; exact new_block w _
 have h1:=h.below hb1
 have hrb1:=blk_below hrb hb1
 have hbz : ¬ z b:=fun hz2 => by have:=h.zl _ hz2; omega
 have k2:=seti hrb1 f (.pointer (some ⟨b,0,none⟩))
 obtain ⟨w2,hw2⟩ : ∃ xx,xx = w1.setCell ⟨rb,f,none⟩ (.pointer (some ⟨b,0,none⟩)):=⟨_,rfl⟩
 rw [<- hw2] at k2
 rw [List.setIfInBounds_toArray,rgc_set_js jp0 r f hf7 (.pointer (some ⟨b,0,none⟩)) (r.join f m l) rfl rfl rfl rfl] at k2
 obtain ⟨r',hr'⟩ : ∃ k,r.join f m l = k:=⟨_,rfl⟩
 have hj1 : ∀ i,i < 7 -> JnW w1 z (if i = f then .pointer (some ⟨b,0,none⟩) else jp0 i) ((r.join f m l).js i):=fun i hi => by
  show JnW w1 z _ (if i = f then some (m,l) else r.js i)
  by_cases e : i = f
  ·rw [if_pos e,if_pos e]
   exact ⟨b,_,_,_,_,rfl,hk1,own_below hl hb1,hz,hbz⟩
  ·rw [if_neg e,if_neg e]
   exact (hj0 i hi).mono (fun k cs hk => blk_below hk hb1) (fun lv l ho => own_below ho hb1)
 obtain ⟨hn2,hkn2⟩:=h1.rgw (r':=r.join f m l) rfl k2.1 hrb1 hzb k2.2 hj1
 have hjk:=join_ok (n:=n) ha hf hj
 rw [hr'] at hn2 hjk k2 hj1 ⊢
 obtain ⟨n1,hn1⟩ : ∃ k,({ n with rg:=some r' } : Nd) = k:=⟨_,rfl⟩
 rw [hn1] at hn2 hjk ⊢
 have hk1' : NdOk { n1 with rg:=none }:=by rw [<- hn1]; exact hk
 have hn1r : n1.rg = some r':=by rw [<- hn1]
 have hn1o : n1.out.length <= 700000:=by rw [<- hn1]; exact ho
 have hkn : KN z w w2:=(KN.of_below hb1).trans hkn2
 have hn2rg:=hn2.rg
 rw [hn1r] at hn2rg
 obtain ⟨rb2,jp,e2,hrb2,hzb2,hj2⟩:=hn2rg
 injection e2 with e2
 injection e2 with e2
 injection e2 with e2 _ _
 subst e2
 obtain ⟨js,hjs⟩ : ∃ k,r'.js = k:=⟨_,rfl⟩
 rw [hjs] at hj2
 have hjp : ∀ i,i < 7 -> ∃ a,jp i = .pointer a:=fun i hi => by
  have h9:=hj2 i hi
  cases e : js i with
  | none => rw [e] at h9; exact ⟨_,h9⟩
  | some j => rw [e] at h9; obtain ⟨b,_,_,_,_,e9,_⟩:=h9; exact ⟨_,e9⟩
 have hch : ∀ i,∃ t : Nat × Value × Value × Value × Option Addr × Nat,i < 7 -> ∀ j,js i = some j -> jp i = .pointer (some ⟨t.1,0,none⟩) /\ w2.heap[t.1]? = some (.cells #[t.2.1,t.2.2.1,.int .i64 j.1,t.2.2.2.1,.slice t.2.2.2.2.1 j.2.length t.2.2.2.2.2] 69 (0,0)) /\ w2.ownsRow 0 45 3 (.slice t.2.2.2.2.1 j.2.length t.2.2.2.2.2) j.2.length (j.2.flatMap ecell) /\ Mine ⟨0,z⟩ (.slice t.2.2.2.2.1 j.2.length t.2.2.2.2.2):=fun i => by
  by_cases hi : i < 7
  ·have h9:=hj2 i hi
   cases e : js i with
   | none => exact ⟨⟨0,.int .i64 0,.int .i64 0,.int .i64 0,none,0⟩,fun _ j h8 => by cases h8⟩
   | some j =>
    rw [e] at h9
    obtain ⟨b,k,vw,num,lv,e9,hb,ho,hm,_⟩:=h9
    obtain ⟨A9,c9,rfl,_,_,_⟩:=own_form ho
    exact ⟨⟨b,k,vw,num,A9,c9⟩,fun _ j2 h8 => by injection h8 with h8; subst h8; exact ⟨e9,hb,ho,hm⟩⟩
  ·exact ⟨⟨0,.int .i64 0,.int .i64 0,.int .i64 0,none,0⟩,fun h8 => absurd h8 hi⟩
 obtain ⟨tf,htf⟩:=Classical.axiomOfChoice hch
 obtain ⟨ln,hln⟩ : ∃ ln : Nat -> Nat,∀ i j,js i = some j -> ln i = j.2.length:=⟨fun i => match js i with | none => 0 | some j => j.2.length,fun i j e => by simp only [e]⟩
 obtain ⟨jl,hjl⟩ : ∃ jl : Nat -> Value,∀ i,jl i = .slice (tf i).2.2.2.2.1 (ln i) (tf i).2.2.2.2.2:=⟨_,fun _ => rfl⟩
 have hmany : n1.many <= 7:=by rw [<- hn1]; exact hk.many
 have hJ7 : joinsL js 7 = joinsL js n1.many:=by
  have h9:=joins_more (js:=js) (m:=n1.many) (fun i j e => by rw [<- hjs] at e; exact (hjk.js i j e).2) (7 - n1.many)
  rw [show n1.many + (7 - n1.many) = 7 by omega] at h9
  exact h9
 have HLJ : Hid (∀ i,i < 7 -> w2.cell? ⟨rb,i,none⟩ = some (jp i)):=hJQ (fun i hi => cell_of hrb2 (by rw [List.getElem?_toArray]; exact rgc_js jp _ i hi))
 have HIX : Hid (∀ (k : Nat),k < 7 -> ∀ V,(Instr.index 107 (.agg #[jp 0,jp 1,jp 2,jp 3,jp 4,jp 5,jp 6]) (.int .i64 (k : Int))).run Tryz.prog V = .ok (jp k) V):=hJQ (fun k hk V => index_joins hjp hk V)
 have HTF:=hJQ htf
 have HJN : Hid (∀ i,i < 7 -> js i = none -> jp i = .pointer none):=hJQ (fun i hi e => by have h9:=hj2 i hi; rw [e] at h9; exact h9)
 have HLN:=hJQ hln
 have HJL:=hJQ hjl
 have HJ7:=hJQ hJ7
 have HN2:=hJQ hn2
 have HKN:=hJQ hkn
 have HJK:=hJQ hjk
 have HKK:=hJQ hk1'
 have HRR:=hJQ hn1r
 have HOO:=hJQ hn1o
 have HJS:=hJQ hjs
 have HSZ:=hJQ hsz
 have HWT:=hJQ hwt
 have HMY:=hJQ hmany
 have x7:=cell_of h1.here (j:=7) rfl
 have rf0 : ∃ u,w1.cell? ⟨rb,f,none⟩ = some u:=⟨_,cell_of hrb1 (by rw [List.getElem?_toArray]; exact rgc_js jp0 r f hf7)⟩
 have rff:=frozen_of_row w1 rb f _ _ hrb1
 have HW1:=hJQ hw1
 have EB:=hJQ eb
 have HW2:=hJQ hw2
 obtain ⟨i0,hi,hz0,hz1,hz2⟩:=info_parts infoMk
 obtain ⟨iL,hiL,hzL0,hzL1,hzL2⟩:=info_parts infoL
 clear h hr ho hk ha hf hl hz hj hsz hwt hf7 hrb hzb hj0 hw1 eb hb1 hk1 h1 hrb1 hbz k2 hw2 hr' hj1 hn2 hkn2 hjk hn1 hk1' hn1r hn1o hkn hrb2 hzb2 hj2 hjs hjp hch htf hln hjl hmany hJ7
 obtain ⟨u0,rf0⟩:=rf0
 go_enter Tryz.func89,Tryz.ntmps89
 go_upto_region 1 with fail
 rw [<- HW1.out,<- EB.out]
 go_upto_region 4 with fail
 rw [<- HW2.out]
 clear x7 rf0 rff hfi
 have x7:=cell_of HN2.out.here (j:=7) rfl
 have c0:=HLJ.out 0 (by decide)
 have c1:=HLJ.out 1 (by decide)
 have c2:=HLJ.out 2 (by decide)
 have c3:=HLJ.out 3 (by decide)
 have c4:=HLJ.out 4 (by decide)
 have c5:=HLJ.out 5 (by decide)
 have c6:=HLJ.out 6 (by decide)
 go_wp2_with fail
 clear x7 c0 c1 c2 c3 c4 c5 c6
 go_loopw [6,7,9,25] (fun u g _ i wr => ∃ k : Nat,k <= 7 /\ i = .int .i64 k /\ Hid (wr.ownsRow w2.heap.size 164 2 u (joinsL js k).length ((joinsL js k).flatMap fun j => mcell (mkOf j))) /\ Hid (wr.ownsRow w2.heap.size 32 1 g (joinsL js k).length (valsTo js jl k)) /\ Hid (Below w2.heap.size w2 wr)) (fun _ _ _ i _ => 7 - (intOf i).toNat)
 case atStart => exact ⟨0,Nat.zero_le _,rfl,hJQ (own_none _ _ _ _),hJQ (own_none _ _ _ _),hJQ (Below.refl _ _)⟩
 case round =>
  obtain ⟨k,hk,rfl,HOM,HOG,HX⟩:=hrel
  by_cases hlt : k < 7
  ·have hki : (k : Int) < 7:=by omega
   have hwk : IntKind.i64.wrap ((k : Int) + 1) = (k : Int) + 1:=by rw [IntKind.wrap_i64]; omega
   have hix:=HIX.out k hlt
   cases hjk : js k with
   | none =>
    rw [HJN.out k hlt hjk] at hix
    have HJ0:=hJQ (joins_none hjk)
    have HV0:=hJQ (vals_none (jl:=jl) hjk)
    clear hjk
    go_wp2_with fail
    go_roundw
    case rel => exact ⟨k + 1,hlt,by go_num,(by rw [HJ0.out]; exact HOM),(by rw [HJ0.out,HV0.out]; exact HOG),HX⟩
    case measure => simp [intOf]; omega
   | some j =>
    obtain ⟨ejp,hbk,-,-⟩:=HTF.out k hlt j hjk
    rw [ejp] at hix
    have HJ1:=hJQ (joins_some hjk)
    have HV1 : Hid (valsTo js jl (k + 1) = valsTo js jl k ++ [.slice (tf k).2.2.2.2.1 j.2.length (tf k).2.2.2.2.2]):=hJQ (by rw [vals_some hjk,HJL.out k,HLN.out k j hjk])
    obtain ⟨Ak,hAk⟩ : ∃ a,(tf k).2.2.2.2.1 = a:=⟨_,rfl⟩
    obtain ⟨ck,hck⟩ : ∃ a,(tf k).2.2.2.2.2 = a:=⟨_,rfl⟩
    obtain ⟨Nk,hNk⟩ : ∃ a,j.2.length = a:=⟨_,rfl⟩
    obtain ⟨bk,hbk0⟩ : ∃ a,(tf k).1 = a:=⟨_,rfl⟩
    rw [hAk,hck,hNk] at HV1
    rw [hAk,hck,hNk,hbk0] at hbk
    rw [hbk0] at hix
    have HNK:=hJQ hNk
    obtain ⟨N3,hN3⟩ : ∃ a,(joinsL js k).length = a:=⟨_,rfl⟩
    obtain ⟨ms,hms⟩ : ∃ a,((joinsL js k).flatMap fun j => mcell (mkOf j)) = a:=⟨_,rfl⟩
    obtain ⟨vs,hvs⟩ : ∃ a,valsTo js jl k = a:=⟨_,rfl⟩
    rw [hN3,hms] at HOM
    rw [hN3,hvs] at HOG
    have HN3:=hJQ hN3
    have HMS:=hJQ hms
    have HVS:=hJQ hvs
    have HN7 : Hid (N3 <= 7):=hJQ (by have:=joins_le (js:=js) k; omega)
    obtain ⟨A3,c3,rfl,-,-,-⟩:=own_form HOM.out
    obtain ⟨A4,c4,rfl,-,-,-⟩:=own_form HOG.out
    have HBK:=hJQ hbk
    have HSB : Hid (∀ V : World,Below w2.heap.size w2 V -> V.cell? ⟨bk,2,none⟩ = some (.int .i64 j.1) /\ V.cell? ⟨bk,4,none⟩ = some (.slice Ak Nk ck)):=hJQ (fun V hV => ⟨cell_of (blk_below HBK.out hV) (j:=2) rfl,cell_of (blk_below HBK.out hV) (j:=4) rfl⟩)
    have HS8 : Hid (∀ V : World,Below wr.heap.size wr V -> V.cell? ⟨bk,2,none⟩ = some (.int .i64 j.1) /\ V.cell? ⟨bk,4,none⟩ = some (.slice Ak Nk ck)):=hJQ (fun V hV => HSB.out V (HX.out.trans (hV.mono HX.out.size)))
    obtain ⟨wd,hwd⟩ : ∃ xx,xx = wr.drew:=⟨_,rfl⟩
    have hbwd : Below wr.heap.size wr wd:=by rw [hwd]; exact (Below.refl _ _).drew
    have HBWD:=hJQ hbwd
    have HMK:=hJQ (markof_any j.1 Ak Nk ck wd)
    have hH8:=HS8.out wr (Below.refl _ _)
    have HD8:=hJQ (HS8.out wd hbwd)
    have HWD:=hJQ hwd
    clear hjk ejp hbk hAk hck hNk hbk0 hN3 hms hvs hwd hbwd
    go_upto_region 8 with fail
    clear hix
    refine wp_region_held_drew (S:=fun V => V.cell? ⟨bk,2,none⟩ = some (.int .i64 j.1) /\ V.cell? ⟨bk,4,none⟩ = some (.slice Ak Nk ck)) (by kernel_rfl) hH8 (fun hHeld => ?_)
    clear hHeld hH8
    have hHeld:=HD8.out
    rw [<- HWD.out]
    refine tk 0 30 (.slice A3 N3 c3) hHeld ?_
    refine tk 1 31 (.pointer (some ⟨bk,0,none⟩)) hHeld ?_
    refine tk 2 32 (.pointer (some ⟨bk,0,none⟩)) hHeld ?_
    refine tk 3 33 (.pointer (some ⟨bk,2,none⟩)) hHeld ?_
    refine tm 4 34 (.int .i64 j.1) hHeld ?_
    simp only [lz,ls]
    refine tk 5 35 (.pointer (some ⟨bk,0,none⟩)) hHeld ?_
    refine tk 6 36 (.pointer (some ⟨bk,0,none⟩)) hHeld ?_
    refine tk 7 37 (.pointer (some ⟨bk,4,none⟩)) hHeld ?_
    refine tm 8 38 (.slice Ak Nk ck) hHeld ?_
    simp only [lz,ls]
    refine r1 9 (fun K hK => ?_) rfl
    go_simp
    refine HMK.out.mono ?_
    rintro e w3 ⟨rfl,hb3⟩
    obtain ⟨w4,hw4⟩ : ∃ xx,xx = w3.alloc (.cells #[.int .i64 j.1,.int .i64 (Nk : Int)] 164):=⟨_,rfl⟩
    obtain ⟨nb,hnb⟩ : ∃ xx,xx = w3.heap.size:=⟨_,rfl⟩
    have hb4 : Below w3.heap.size w3 w4:=by rw [hw4]; exact box_below w3 _
    have HNB : Hid (w4.heap[nb]? = some (.cells #[.int .i64 j.1,.int .i64 (Nk : Int)] 164 (0,0))):=hJQ (by rw [hw4,hnb]; exact new_block w3 _)
    have HBD3:=HBWD.out.trans (hb3.mono HBWD.out.size)
    have HB4:=hJQ (HBD3.trans (hb4.mono HBD3.size))
    have HO4:=hJQ (own_below HOM.out HB4.out)
    have HG4:=hJQ (own_below HOG.out HB4.out)
    have HX4 : Hid (Below w2.heap.size w2 w4):=hJQ (HX.out.trans (HB4.out.mono HX.out.size))
    have hs3:=HS8.out w3 HBD3
    have HSW4:=hJQ (HS8.out w4 HB4.out)
    have HW4:=hJQ hw4
    have HNBE:=hJQ hnb
    clear hb3 hw4 hnb hb4 HBD3
    go_wp2_with fail
    refine hK.out _ _ (hs3) (fun hHeld => ?_)
    clear hK K
    try simp only [Act.put,lp,lz,ls]
    refine r1 10 (fun K hK => ?_) rfl
    go_simp
    rw [<- HW4.out,<- HNBE.out]
    refine hK.out _ _ (HSW4.out) (fun hHeld => ?_)
    clear hK K
    try simp only [Act.put,lp,lz,ls]
    refine r1 11 (fun K hK => ?_) rfl
    refine step_append_lies (w:=w4) (by rfl) _ _ 198 (by rfl) w2.heap.size 164 i0 _ 2 16 Tryz.underlying198 hi hz0 hz1 hz2 rfl (by decide) (.slice A3 N3 c3) N3 (ms) (by rfl) HO4.out ⟨nb,0,none⟩ 1 1 [.int .i64 j.1,.int .i64 (Nk : Int)] (by rfl) rfl (World.news_of_block HNB.out) (by intro u hu; simp at hu; rcases hu with rfl | rfl <;> rfl) (by decide) (by unfold maxLen; have:=HN7.out; omega) (by have:=HN7.out; omega) HX4.out.size w4.heap.size rfl ?_
    intro g cap w6 hown hgrow hat _
    have HO6:=hJQ hown
    have hb6:=gb_own HO4.out hgrow (Nat.le_refl _) HX4.out.size
    have HX6 : Hid (Below w2.heap.size w2 w6):=hJQ (HX4.out.trans hb6)
    have HG6 : Hid (w6.ownsRow w2.heap.size 32 1 (.slice A4 N3 c4) N3 vs):=hJQ (own_gb2 HG4.out hgrow (fun r e1 e2 => own_other HO4.out HG4.out (by decide) e1 e2))
    have hs6:=HSB.out w6 HX6.out
    clear hown hgrow hat hb6
    refine hK.out _ _ (hs6) (fun hHeld => ?_)
    clear hK K
    try simp only [Act.put,List.setIfInBounds_toArray]
    refine tk 12 6 (.slice (some ⟨g,0,none⟩) (N3 + 1) cap) hHeld ?_
    simp only [lz,ls]
    refine wpAnyH_done (by kernel_rfl) ?_ _
    clear hHeld hs6
    obtain ⟨w7,hw7⟩ : ∃ xx,xx = w6.alloc (.cells #[.slice Ak Nk ck] 32):=⟨_,rfl⟩
    obtain ⟨sb,esb⟩ : ∃ xx,xx = w6.heap.size:=⟨_,rfl⟩
    have hs7 : w7.heap[sb]? = some (.cells #[.slice Ak Nk ck] 32 (0,0)):=by rw [hw7,esb]; exact new_block w6 _
    have hb7 : Below w6.heap.size w6 w7:=by rw [hw7]; exact box_below w6 _
    have HX7 : Hid (Below w2.heap.size w2 w7):=hJQ (HX6.out.trans (hb7.mono HX6.out.size))
    have HG7:=hJQ (own_below HG6.out hb7)
    have HO7:=hJQ (own_below HO6.out hb7)
    have hsz7:=HX7.out.size
    have hc4:=(HSB.out w6 HX6.out).2
    have HW7:=hJQ hw7
    have ESB:=hJQ esb
    have HS7:=hJQ hs7
    clear hw7 esb hs7 hb7
    go_upto_region 10 with (at_builtin; rw [<- HW7.out,<- ESB.out]; refine wpList_append_lies w7 rfl _ _ 199 rfl w2.heap.size 32 iL (.slice none 0 0) 1 24 Tryz.underlying199 hiL hzL0 hzL1 hzL2 rfl (by decide) (.slice A4 N3 c4) N3 vs rfl HG7.out ⟨sb,0,none⟩ 1 1 [.slice Ak Nk ck] rfl rfl (World.news_of_block HS7.out) (fun u hu => by rw [List.mem_singleton] at hu; subst hu; rfl) (by decide) (by unfold maxLen; have:=HN7.out; omega) (by have:=HN7.out; omega) hsz7 _ rfl ?_; intro g9 cap9 w9 hown9 hgrow9 hat9 hlt9; have HG9:=hJQ hown9; have HX9 : Hid (Below w2.heap.size w2 w9):=hJQ (HX7.out.trans (gb_own HG7.out hgrow9 (Nat.le_refl _) hsz7)); have HO9:=hJQ (own_gb2 HO7.out hgrow9 (fun r e1 e2 => own_other HG7.out HO7.out (by decide) e1 e2)); clear hown9 hgrow9 hat9 hlt9)
    clear hc4
    go_wp2_with fail
    go_roundw
    case rel => exact ⟨k + 1,hlt,by go_num,(by rw [HJ1.out,List.length_append,List.length_singleton,HN3.out,List.flatMap_append,HMS.out]; have h9:=HO9.out; rw [<- HNK.out] at h9; exact hJQ (by simpa [mcell,mkOf] using h9)),(by rw [HJ1.out,List.length_append,List.length_singleton,HN3.out,HV1.out,HVS.out]; exact HG9),HX9⟩
    case measure => simp [intOf]; omega
  ·obtain rfl : k = 7:=by omega
   have hki : ¬ (7 : Int) < 7:=by omega
   obtain ⟨J,hJ⟩ : ∃ J,joinsL js n1.many = J:=⟨_,rfl⟩
   rw [HJ7.out,hJ] at HOM HOG
   obtain ⟨NJ,hNJ⟩ : ∃ a,J.length = a:=⟨_,rfl⟩
   rw [hNJ] at HOM HOG
   obtain ⟨A3,c3,rfl,-,-,-⟩:=own_form HOM.out
   obtain ⟨A4,c4,rfl,-,-,hA4⟩:=own_form HOG.out
   have hNJ7 : NJ <= 7:=by have h9:=joins_le (js:=js) n1.many; have:=HMY.out; rw [hJ,hNJ] at h9; omega
   have hrd : Rd mcell 2 wr A3 NJ (J.map mkOf):=Rd.of_own (by have h9:=HOM.out; rw [List.flatMap_map]; exact h9) (fun _ _ => rfl) (by decide)
   have HBE:=hJQ (best_any (c:=c3) hrd (by omega))
   have HNR:=hJQ (HN2.out.below HX.out)
   have HQ:=hJQ (quorum_any (n1.many : Int) wr)
   have x1:=cell_of HNR.out.here (j:=1) rfl
   have HJJ : Hid (joinsL r'.js n1.many = J):=hJQ (by rw [HJS.out,hJ])
   have HNJ:=hJQ hNJ
   have HN7:=hJQ hNJ7
   have HA4:=hJQ hA4
   have HJT:=hJQ hJ
   obtain ⟨qq,hqq⟩ : ∃ k,quo n1.many = k:=⟨_,rfl⟩
   rw [hqq] at HQ
   have HQQ:=hJQ hqq
   clear hJ hNJ hNJ7 hrd hA4 hqq hk hlt
   by_cases hq : (NJ : Int) < qq
   ·have hqd : decide (qq <= (NJ : Int)) = false:=by simpa using hq
    have HEE : Hid (BegOut s G D n1 r' s G D n1):=hJQ (.inl ⟨by rw [HJJ.out,HNJ.out,HQQ.out]; exact hq,rfl,rfl,rfl,rfl⟩)
    clear hq
    go_wp2_with fail
    refine HQ.out.mono ?_
    rintro e w3 ⟨rfl,rfl⟩
    go_wp2_with fail
    first | go_end0 | (refine bodyPost_ret (results_none rfl _ _ _) rfl ?_)
    exact ⟨rfl,HKN.out.trans (KN.of_below HX.out),_,_,_,_,_,_,_,HNR.out,HEE.out⟩
   ·have hqd : decide (qq <= (NJ : Int)) = true:=by simp; omega
    have HNQ : Hid (quo n1.many <= ((joinsL r'.js n1.many).length : Int)):=hJQ (by rw [HJJ.out,HNJ.out,HQQ.out]; omega)
    have HJ0 : Hid (0 < NJ):=hJQ (by
     have hg:=NdOk.isG HKK.out
     have h9:=(quo_ge (m:=n1.many) hg).1
     rw [HQQ.out] at h9; omega)
    clear hq
    go_wp2_with fail
    refine HQ.out.mono ?_
    rintro e w3 ⟨rfl,rfl⟩
    clear x1
    go_wp2_with fail
    refine HBE.out.mono ?_
    rintro e w4 ⟨r0,hB,rfl,hb4⟩
    obtain ⟨er,hlt⟩:=isB_best hB (by intro e; have h9:=congrArg List.length e; rw [List.length_map,HNJ.out] at h9; have:=HJ0.out; simp at h9; omega)
    subst er
    rw [List.length_map,HNJ.out] at hlt
    obtain ⟨bi,hbi⟩ : ∃ k,bestN (J.map mkOf) = k:=⟨_,rfl⟩
    rw [hbi] at hlt
    obtain ⟨jb,hjb⟩ : ∃ x,J[bi]? = some x:=⟨_,List.getElem?_eq_getElem (by rw [HNJ.out]; exact hlt)⟩
    obtain ⟨a,ha7,hja,hva⟩:=vals_get (jl:=jl) 7 (i:=bi) (x:=jb) (by rw [HJ7.out,HJT.out]; exact hjb)
    have hbest : bestL J = jb.2:=by
     unfold bestL
     rw [hbi,List.getD_eq_getElem?_getD,hjb]; rfl
    rw [HJL.out a,HLN.out a jb hja] at hva
    obtain ⟨-,-,hta,htz⟩:=HTF.out a ha7 jb hja
    obtain ⟨Ab,hAb⟩ : ∃ t,(tf a).2.2.2.2.1 = t:=⟨_,rfl⟩
    obtain ⟨cb,hcb⟩ : ∃ t,(tf a).2.2.2.2.2 = t:=⟨_,rfl⟩
    rw [hAb,hcb] at hva hta htz
    have hb24 : Below w2.heap.size w2 w4:=HX.out.trans (hb4.mono HX.out.size)
    have hta4:=own_below hta (hb24.mono (Nat.le_refl _))
    obtain ⟨g4,rfl⟩:=HA4.out HJ0.out
    have hc4:=own_cell (own_below HOG.out hb4) bi _ hva
    obtain ⟨lb,hlb⟩ : ∃ t,jb.2 = t:=⟨_,rfl⟩
    obtain ⟨Nb,hNb⟩ : ∃ t,lb.length = t:=⟨_,rfl⟩
    rw [hlb] at hta4 hc4 htz hbest
    have hbo:=best_ok (n:={ n1 with rg:=none }) (r:=r') HKK.out HJK.out (Int.not_lt.2 HNQ.out)
    have hbo2 : Rgt lb /\ lastV lb < n1.pr:=by
     have h9 : Rgt (bestL (joinsL r'.js n1.many)) /\ lastV (bestL (joinsL r'.js n1.many)) < n1.pr:=hbo
     rw [HJJ.out,hbest] at h9; exact h9
    have hl150 : lb.length <= 150:=hbo2.1.1
    have hp1 : (1 : Int) <= n1.pr:=HJK.out.pos
    have hpb : n1.pr <= 4611686018427387904:=HKK.out.ls.p1
    have hheld:=held_le (l:=acksL (started n1 lb) n1.many) (k:=lb.length) (by omega) (acks_le fun i => by show (if i = n1.self then (lb.length : Int) else 0) <= (lb.length : Int); split <;> omega)
    have hst:=start_any (HN2.out.below hb24) (by have:=HOO.out; omega) (show n1.self < n1.many from HKK.out.self) HMY.out hta4 htz ⟨by show (0 : Int) <= n1.pr; omega,Int.le_refl _,hpb,hbo2.1,by show lastV lb <= n1.pr; omega⟩ HSZ.out HWT.out (ms_start hp1 hpb hbo2.1 hbo2.2) (fun k h0 h1 => ms_tell hp1 hpb h0 (by omega)) hheld.2 hheld.1
    rw [hNb] at hst hc4
    have HST:=hJQ hst
    have HEE : Hid (∀ s' G' D' n',s' = true -> G' = (keepD G (signD s D) (Ls.recs ⟨n1.pr,n1.pr,lb⟩)).1 -> D' = (keepD G (signD s D) (Ls.recs ⟨n1.pr,n1.pr,lb⟩)).2 -> n' = (if (keepD G (signD s D) (Ls.recs ⟨n1.pr,n1.pr,lb⟩)).2.dead then ({ n1 with pr:=n1.pr,nm:=n1.pr,log:=lb,com:=min n1.com lb.length } : Nd) else n1.begun lb) -> BegOut s G D n1 r' s' G' D' n'):=hJQ (fun s' G' D' n' e1 e2 e3 e4 => .inr ⟨Int.not_lt.2 HNQ.out,e1,by rw [HJJ.out,hbest]; exact e2,by rw [HJJ.out,hbest]; exact e3,by
     have hbg : n1.begin r' = n1.begun lb:=by
      unfold Nd.begin
      rw [if_neg (Int.not_lt.2 HNQ.out),HJJ.out,hbest]; rfl
     rw [e4,HJJ.out,hbest,hbg,e3]⟩)
    rw [hNb] at HEE
    have HK4:=hJQ (HKN.out.trans (KN.of_below hb24))
    have hbii : (bi : Int) < (NJ : Int):=by omega
    have hbin : bi < NJ:=hlt
    rw [hbi]
    clear hB hb4 hbi hjb ha7 hja hva hbest hta htz hAb hcb hb24 hta4 hlb hNb hbo hbo2 hl150 hp1 hpb hheld hst
    go_wp2_with fail
    refine HST.out.mono ?_
    rintro e w5 ⟨rfl,hkn5,lv5,rp5,ov5,hn5⟩
    have HFI:=hJQ (And.intro (HK4.out.trans hkn5) hn5)
    clear hkn5 hn5
    go_wp2_with fail
    first | go_end0 | (refine bodyPost_ret (results_none rfl _ _ _) rfl ?_)
    exact ⟨rfl,HFI.out.1,_,_,_,_,_,_,_,HFI.out.2,HEE.out _ _ _ _ rfl rfl rfl rfl⟩
end
open Go.ChangeShapes Go.WideShapes Go.ChangeAt Go.RowKit Go.Proofs.Rk
open Pq (Fld FReads errL bytL fcs)
open Gq (Bz Mine PL PDisk Kp Kl Lg Dk putL enc)

section
variable {w : World} {z : Nat -> Prop} {x st q p : Nat} {lv rp ov : Value} {s : Bool} {G : Lg} {D : Dk} {n : Nd}
def TjOut (s : Bool) (G : Lg) (D : Dk) (n : Nd) (f : Nat) (v m : Int) (l : List En) (s' : Bool) (G' : Lg) (D' : Dk) (n' : Nd) : Prop :=
 (n.takeJoin f ⟨2,v,m,0,l⟩ = n /\ s' = s /\ G' = G /\ D' = D /\ n' = n) ∨
 ∃ r,n.rg = some r /\ AskOk n r /\ JOk n.pr (m,l) /\ n.takeJoin f ⟨2,v,m,0,l⟩ = ({ n with rg:=some (r.join f m l) } : Nd).begin (r.join f m l) /\ BegOut s G D { n with rg:=some (r.join f m l) } (r.join f m l) s' G' D' n'
set_option maxHeartbeats 16000000 in
theorem takejoin_any (h : NdW w z x st q p lv rp ov s G D n) (ho : n.out.length <= 700000) (hk : NdOk n) {kk v m num : Int} {B : Option Addr} {M d : Nat} {l : List En} {f : Nat} (hf : f < n.many) (hl : w.ownsRow 0 45 3 (.slice B M d) l.length (l.flatMap ecell)) (hz : Mine ⟨0,z⟩ (.slice B M d)) (hj : JOk v (m,l)) (hsz : G.sz = 548) (hwt : D.wait.length <= 20000) :
  Calls Tryz.prog 84 #[.pointer (some ⟨x,0,none⟩),.int .i64 (f : Int),.agg #[.int .i64 kk,.int .i64 v,.int .i64 m,.int .i64 num,.slice B M d]] w fun e w' => e = .returned (.tuple #[]) /\ KN z w w' /\ ∃ lv' rp' ov' s' G' D' n',NdW w' z x st q p lv' rp' ov' s' G' D' n' /\ TjOut s G D n f v m l s' G' D' n':=by
 have hf7 : f < 7:=by have:=hk.many; omega
 have hfi : (f : Int) < 7:=by omega
 obtain ⟨w1,hw1⟩ : ∃ xx,xx = w.alloc (.cells #[.int .i64 kk,.int .i64 v,.int .i64 m,.int .i64 num,.slice B M d] 69):=⟨_,rfl⟩
 obtain ⟨b,eb⟩ : ∃ xx,xx = w.heap.size:=⟨_,rfl⟩
 have hb1 : Below w.heap.size w w1:=by rw [hw1]; exact box_below w _
 have hk1 : w1.heap[b]? = some (.cells #[.int .i64 kk,.int .i64 v,.int .i64 m,.int .i64 num,.slice B M d] 69 (0,0)):=by rw [hw1,eb]; exact new_block w _
 obtain ⟨wd,hwd⟩ : ∃ xx,xx = w1.drew:=⟨_,rfl⟩
 have hbd : Below w1.heap.size w1 wd:=by rw [hwd]; exact (Below.refl _ _).drew
 have hb2:=hb1.trans (hbd.mono hb1.size)
 have hnd:=h.below hb2
 have hkd:=blk_below hk1 hbd
 have HLE:=hJQ (nleads_any hnd)
 have HST:=hJQ (nstarted_any hnd)
 have hn1:=h.below hb1
 have HND:=hJQ hnd
 have HKD:=hJQ hkd
 have HKN : Hid (KN z w wd):=hJQ (KN.of_below hb2)
 have HW1:=hJQ hw1
 have EB:=hJQ eb
 have HWD:=hJQ hwd
 have HLD:=hJQ (own_below hl hb2)
 have hHa : w1.cell? ⟨x,2,none⟩ = some (.int .i64 n.pr) /\ w1.cell? ⟨b,1,none⟩ = some (.int .i64 v):=⟨cell_of hn1.here (j:=2) rfl,cell_of hk1 (j:=1) rfl⟩
 have HDa : Hid (wd.cell? ⟨x,2,none⟩ = some (.int .i64 n.pr) /\ wd.cell? ⟨b,1,none⟩ = some (.int .i64 v)):=hJQ ⟨cell_of hnd.here (j:=2) rfl,cell_of hkd (j:=1) rfl⟩
 cases hr : n.rg with
 | none =>
  rw [hr] at HLE
  have HE : Hid (n.takeJoin f ⟨2,v,m,0,l⟩ = n):=hJQ (by unfold Nd.takeJoin; rw [hr])
  clear hr
  clear h ho hk hf hl hz hj hsz hwt hw1 eb hb1 hk1 hwd hbd hb2 hnd hkd hn1 hf7
  go_enter Tryz.func84,Tryz.ntmps84
  go_upto_region 1 with fail
  rw [<- HW1.out,<- EB.out]
  refine wp_region_held_drew (S:=fun V => V.cell? ⟨x,2,none⟩ = some (.int .i64 n.pr) /\ V.cell? ⟨b,1,none⟩ = some (.int .i64 v)) (by kernel_rfl) hHa (fun hHeld => ?_)
  clear hHeld hHa
  have hHeld:=HDa.out
  rw [<- HWD.out]
  refine tk 0 6 (.pointer (some ⟨x,0,none⟩)) hHeld ?_
  simp only [lz,ls]
  refine r1 1 (fun K hK => ?_) rfl
  go_simp
  refine HLE.out.mono ?_
  rintro e w6 ⟨rfl,rfl⟩
  go_wp2_with fail
  refine hK.out _ _ (hHeld) (fun hHeld => ?_)
  clear hK K
  try simp only [Act.put,lp,lz,ls]
  refine tk 2 8 (.bool false) hHeld ?_
  refine tu 3 9 hHeld ?_
  refine tu 4 10 hHeld ?_
  refine tu 5 11 hHeld ?_
  refine tk 6 12 (.bool false) hHeld ?_
  simp only [lz,ls]
  refine tk 7 13 (.bool false) hHeld ?_
  refine tu 8 14 hHeld ?_
  refine tu 9 15 hHeld ?_
  refine tu 10 16 hHeld ?_
  refine tu 11 17 hHeld ?_
  simp only [lz,ls]
  refine tu 12 18 hHeld ?_
  refine tu 13 19 hHeld ?_
  refine tu 14 20 hHeld ?_
  refine tu 15 21 hHeld ?_
  refine tk 16 22 (.bool false) hHeld ?_
  simp only [lz,ls]
  refine tk 17 23 (.bool false) hHeld ?_
  refine tu 18 24 hHeld ?_
  refine tu 19 25 hHeld ?_
  refine tu 20 26 hHeld ?_
  refine tu 21 27 hHeld ?_
  simp only [lz,ls]
  refine tu 22 28 hHeld ?_
  refine tu 23 29 hHeld ?_
  refine tu 24 30 hHeld ?_
  refine tu 25 31 hHeld ?_
  refine tu 26 32 hHeld ?_
  simp only [lz,ls]
  refine tu 27 33 hHeld ?_
  refine tk 28 34 (.bool false) hHeld ?_
  simp only [lz,ls]
  refine wpAnyH_done (by kernel_rfl) ?_ _
  clear hHeld
  go_wp2_with fail
  first | go_end0 | (refine bodyPost_ret (results_none rfl _ _ _) rfl ?_)
  exact ⟨rfl,HKN.out,_,_,_,_,_,_,_,HND.out,.inl ⟨HE.out,rfl,rfl,rfl,rfl⟩⟩
 | some r =>
  rw [hr] at HLE
  cases hst : r.st with
  | true =>
   have hs2 : n.stB = true:=by unfold Nd.stB; rw [hr]; exact hst
   rw [hs2] at HST
   have HE : Hid (n.takeJoin f ⟨2,v,m,0,l⟩ = n):=hJQ (by unfold Nd.takeJoin; rw [hr]; simp [hst])
   clear hr hst hs2
   clear h ho hk hf hl hz hj hsz hwt hw1 eb hb1 hk1 hwd hbd hb2 hnd hkd hn1 hf7
   go_enter Tryz.func84,Tryz.ntmps84
   go_upto_region 1 with fail
   rw [<- HW1.out,<- EB.out]
   refine wp_region_held_drew (S:=fun V => V.cell? ⟨x,2,none⟩ = some (.int .i64 n.pr) /\ V.cell? ⟨b,1,none⟩ = some (.int .i64 v)) (by kernel_rfl) hHa (fun hHeld => ?_)
   clear hHeld hHa
   have hHeld:=HDa.out
   rw [<- HWD.out]
   refine tk 0 6 (.pointer (some ⟨x,0,none⟩)) hHeld ?_
   simp only [lz,ls]
   refine r1 1 (fun K hK => ?_) rfl
   go_simp
   refine HLE.out.mono ?_
   rintro e w6 ⟨rfl,rfl⟩
   go_wp2_with fail
   refine hK.out _ _ (hHeld) (fun hHeld => ?_)
   clear hK K
   try simp only [Act.put,lp,lz,ls]
   refine tk 2 8 (.bool true) hHeld ?_
   refine tk 3 9 (.pointer (some ⟨x,0,none⟩)) hHeld ?_
   simp only [lz,ls]
   refine r1 4 (fun K hK => ?_) rfl
   go_simp
   refine HST.out.mono ?_
   rintro e w6 ⟨rfl,rfl⟩
   go_wp2_with fail
   refine hK.out _ _ (hHeld) (fun hHeld => ?_)
   clear hK K
   try simp only [Act.put,lp,lz,ls]
   refine tk 5 11 (.bool false) hHeld ?_
   refine tk 6 12 (.bool false) hHeld ?_
   refine tk 7 13 (.bool false) hHeld ?_
   refine tu 8 14 hHeld ?_
   refine tu 9 15 hHeld ?_
   simp only [lz,ls]
   refine tu 10 16 hHeld ?_
   refine tu 11 17 hHeld ?_
   refine tu 12 18 hHeld ?_
   refine tu 13 19 hHeld ?_
   refine tu 14 20 hHeld ?_
   simp only [lz,ls]
   refine tu 15 21 hHeld ?_
   refine tk 16 22 (.bool false) hHeld ?_
   refine tk 17 23 (.bool false) hHeld ?_
   refine tu 18 24 hHeld ?_
   refine tu 19 25 hHeld ?_
   simp only [lz,ls]
   refine tu 20 26 hHeld ?_
   refine tu 21 27 hHeld ?_
   refine tu 22 28 hHeld ?_
   refine tu 23 29 hHeld ?_
   refine tu 24 30 hHeld ?_
   simp only [lz,ls]
   refine tu 25 31 hHeld ?_
   refine tu 26 32 hHeld ?_
   refine tu 27 33 hHeld ?_
   refine tk 28 34 (.bool false) hHeld ?_
   simp only [lz,ls]
   refine wpAnyH_done (by kernel_rfl) ?_ _
   clear hHeld
   go_wp2_with fail
   first | go_end0 | (refine bodyPost_ret (results_none rfl _ _ _) rfl ?_)
   exact ⟨rfl,HKN.out,_,_,_,_,_,_,_,HND.out,.inl ⟨HE.out,rfl,rfl,rfl,rfl⟩⟩
  | false =>
   have hs2 : n.stB = false:=by unfold Nd.stB; rw [hr]; exact hst
   rw [hs2] at HST
   by_cases hpv : n.pr = v
   ·have e1 : (n.pr == v) = true:=by simpa using hpv
    have ha : AskOk n r:=by
     rcases hk.rg r hr with ⟨ha,_⟩ | ho
     ·exact ha
     ·rw [ho.st] at hst; cases hst
    have hrg:=hnd.rg
    rw [hr] at hrg
    obtain ⟨rb,jp,erp,hrb,hzb,hjj⟩:=hrg
    subst erp
    have hrg1:=hn1.rg
    rw [hr] at hrg1
    obtain ⟨rb1,jp1,e1p,hrb1,_,hjj1⟩:=hrg1
    injection e1p with e1p
    injection e1p with e1p
    injection e1p with e1p _ _
    subst e1p
    have hjp : jp1 f = jp f:=by
     have h2:=blk_below hrb1 hbd
     rw [hrb] at h2
     injection h2 with h2
     injection h2 with h2 _ _
     have h3:=congrArg (fun a : Array Value => a[f]?) h2
     simp only [List.getElem?_toArray] at h3
     rw [rgc_js jp r f hf7,rgc_js jp1 r f hf7] at h3
     injection h3 with h3
     exact h3.symm
    have hjf:=hjj f hf7
    obtain ⟨jf,hjfe⟩ : ∃ t,jp f = t:=⟨_,rfl⟩
    have hHe : w1.cell? ⟨x,2,none⟩ = some (.int .i64 n.pr) /\ w1.cell? ⟨b,1,none⟩ = some (.int .i64 v) /\ w1.cell? ⟨x,7,none⟩ = some (.pointer (some ⟨rb,0,none⟩)) /\ w1.cell? ⟨rb,f,none⟩ = some (jf):=⟨cell_of hn1.here (j:=2) rfl,cell_of hk1 (j:=1) rfl,cell_of hn1.here (j:=7) rfl,by rw [<- hjfe,<- hjp]; exact cell_of hrb1 (by rw [List.getElem?_toArray]; exact rgc_js jp1 r f hf7)⟩
    have HDe : Hid (wd.cell? ⟨x,2,none⟩ = some (.int .i64 n.pr) /\ wd.cell? ⟨b,1,none⟩ = some (.int .i64 v) /\ wd.cell? ⟨x,7,none⟩ = some (.pointer (some ⟨rb,0,none⟩)) /\ wd.cell? ⟨rb,f,none⟩ = some (jf)):=hJQ ⟨cell_of hnd.here (j:=2) rfl,cell_of hkd (j:=1) rfl,cell_of hnd.here (j:=7) rfl,by rw [<- hjfe]; exact cell_of hrb (by rw [List.getElem?_toArray]; exact rgc_js jp r f hf7)⟩
    rw [hjfe] at hjf
    clear hHa HDa
    cases hjs : r.js f with
    | none =>
     rw [hjs] at hjf
     have hjf2 : jf = .pointer none:=hjf
     subst hjf2
     have HTJ : Hid (∀ s' G' D' n',BegOut s G D { n with rg:=some (r.join f m l) } (r.join f m l) s' G' D' n' -> TjOut s G D n f v m l s' G' D' n'):=hJQ (fun s' G' D' n' hbo => .inr ⟨r,hr,ha,by rw [hpv]; exact hj,by
      unfold Nd.takeJoin
      rw [hr]
      simp only []
      rw [if_pos (by simp [hst,hpv,hjs])],hbo⟩)
     have HJO:=hJQ (join_any (kk:=kk) (vv:=v) (num:=num) hnd hr ho hk.noRg ha hf (own_below hl hb2) hz (by rw [hpv]; exact hj) hsz hwt)
     clear hr hst hs2 hpv ha hrb hzb hjj hrb1 hjj1 hjp hjfe hjs hjf
     clear h ho hk hf hl hz hj hsz hwt hw1 eb hb1 hk1 hwd hbd hb2 hnd hkd hn1 hf7
     go_enter Tryz.func84,Tryz.ntmps84
     go_upto_region 1 with fail
     rw [<- HW1.out,<- EB.out]
     refine wp_region_held_drew (S:=fun V => V.cell? ⟨x,2,none⟩ = some (.int .i64 n.pr) /\ V.cell? ⟨b,1,none⟩ = some (.int .i64 v) /\ V.cell? ⟨x,7,none⟩ = some (.pointer (some ⟨rb,0,none⟩)) /\ V.cell? ⟨rb,f,none⟩ = some (.pointer none)) (by kernel_rfl) hHe (fun hHeld => ?_)
     clear hHeld hHe
     have hHeld:=HDe.out
     rw [<- HWD.out]
     refine tk 0 6 (.pointer (some ⟨x,0,none⟩)) hHeld ?_
     simp only [lz,ls]
     refine r1 1 (fun K hK => ?_) rfl
     go_simp
     refine HLE.out.mono ?_
     rintro e w6 ⟨rfl,rfl⟩
     go_wp2_with fail
     refine hK.out _ _ (hHeld) (fun hHeld => ?_)
     clear hK K
     try simp only [Act.put,lp,lz,ls]
     refine tk 2 8 (.bool true) hHeld ?_
     refine tk 3 9 (.pointer (some ⟨x,0,none⟩)) hHeld ?_
     simp only [lz,ls]
     refine r1 4 (fun K hK => ?_) rfl
     go_simp
     refine HST.out.mono ?_
     rintro e w6 ⟨rfl,rfl⟩
     go_wp2_with fail
     refine hK.out _ _ (hHeld) (fun hHeld => ?_)
     clear hK K
     try simp only [Act.put,lp,lz,ls]
     refine tk 5 11 (.bool true) hHeld ?_
     refine tk 6 12 (.bool true) hHeld ?_
     refine tk 7 13 (.bool true) hHeld ?_
     refine tk 8 14 (.pointer (some ⟨x,0,none⟩)) hHeld ?_
     refine tk 9 15 (.pointer (some ⟨x,0,none⟩)) hHeld ?_
     simp only [lz,ls]
     refine tk 10 16 (.pointer (some ⟨x,2,none⟩)) hHeld ?_
     refine tk 11 17 (.pointer (some ⟨x,2,none⟩)) hHeld ?_
     refine tm 12 18 (.int .i64 n.pr) hHeld ?_
     refine tk 13 19 (.pointer (some ⟨b,1,none⟩)) hHeld ?_
     refine tm 14 20 (.int .i64 v) hHeld ?_
     simp only [lz,ls]
     refine tk 15 21 (.bool true) hHeld ?_
     refine tk 16 22 (.bool true) hHeld ?_
     refine tk 17 23 (.bool true) hHeld ?_
     refine tk 18 24 (.pointer (some ⟨x,0,none⟩)) hHeld ?_
     refine tk 19 25 (.pointer (some ⟨x,0,none⟩)) hHeld ?_
     simp only [lz,ls]
     refine tk 20 26 (.pointer (some ⟨x,7,none⟩)) hHeld ?_
     refine tm 21 27 (.pointer (some ⟨rb,0,none⟩)) hHeld ?_
     refine tk 22 28 (.int .i64 (f : Int)) hHeld ?_
     refine tk 23 29 (.pointer (some ⟨rb,0,none⟩)) hHeld ?_
     refine tk 24 30 (.pointer (some ⟨rb,0,none⟩)) hHeld ?_
     simp only [lz,ls]
     refine tk 25 31 (.pointer (some ⟨rb,f,none⟩)) hHeld ?_
     refine tm 26 32 (.pointer none) hHeld ?_
     refine tk 27 33 (.bool true) hHeld ?_
     refine tk 28 34 (.bool true) hHeld ?_
     simp only [lz,ls]
     refine wpAnyH_done (by kernel_rfl) ?_ _
     have b0:=cell_of HKD.out (j:=0) rfl
     have b1:=cell_of HKD.out (j:=1) rfl
     have b2:=cell_of HKD.out (j:=2) rfl
     have b3:=cell_of HKD.out (j:=3) rfl
     have b4:=cell_of HKD.out (j:=4) rfl
     clear hHeld
     go_wp2_with fail
     refine HJO.out.mono ?_
     rintro e w3 ⟨rfl,hkn3,lv3,rp3,ov3,s3,G3,D3,n3,hn3,hbo⟩
     have HFI:=hJQ (And.intro (HKN.out.trans hkn3) (And.intro hn3 (HTJ.out _ _ _ _ hbo)))
     clear hkn3 hn3 hbo
     go_wp2_with fail
     go_end0
     exact ⟨rfl,HFI.out.1,_,_,_,_,_,_,_,HFI.out.2.1,HFI.out.2.2⟩
    | some j =>
     rw [hjs] at hjf
     obtain ⟨bj,kj,vj,nj,lj,ejf,-⟩:=hjf
     subst ejf
     have HE : Hid (n.takeJoin f ⟨2,v,m,0,l⟩ = n):=hJQ (by unfold Nd.takeJoin; rw [hr]; simp [hst,hpv,hjs])
     clear hr hst hs2 hpv ha hrb hzb hjj hrb1 hjj1 hjp hjfe hjs
     clear h ho hk hf hl hz hj hsz hwt hw1 eb hb1 hk1 hwd hbd hb2 hnd hkd hn1 hf7
     go_enter Tryz.func84,Tryz.ntmps84
     go_upto_region 1 with fail
     rw [<- HW1.out,<- EB.out]
     refine wp_region_held_drew (S:=fun V => V.cell? ⟨x,2,none⟩ = some (.int .i64 n.pr) /\ V.cell? ⟨b,1,none⟩ = some (.int .i64 v) /\ V.cell? ⟨x,7,none⟩ = some (.pointer (some ⟨rb,0,none⟩)) /\ V.cell? ⟨rb,f,none⟩ = some (.pointer (some ⟨bj,0,none⟩))) (by kernel_rfl) hHe (fun hHeld => ?_)
     clear hHeld hHe
     have hHeld:=HDe.out
     rw [<- HWD.out]
     refine tk 0 6 (.pointer (some ⟨x,0,none⟩)) hHeld ?_
     simp only [lz,ls]
     refine r1 1 (fun K hK => ?_) rfl
     go_simp
     refine HLE.out.mono ?_
     rintro e w6 ⟨rfl,rfl⟩
     go_wp2_with fail
     refine hK.out _ _ (hHeld) (fun hHeld => ?_)
     clear hK K
     try simp only [Act.put,lp,lz,ls]
     refine tk 2 8 (.bool true) hHeld ?_
     refine tk 3 9 (.pointer (some ⟨x,0,none⟩)) hHeld ?_
     simp only [lz,ls]
     refine r1 4 (fun K hK => ?_) rfl
     go_simp
     refine HST.out.mono ?_
     rintro e w6 ⟨rfl,rfl⟩
     go_wp2_with fail
     refine hK.out _ _ (hHeld) (fun hHeld => ?_)
     clear hK K
     try simp only [Act.put,lp,lz,ls]
     refine tk 5 11 (.bool true) hHeld ?_
     refine tk 6 12 (.bool true) hHeld ?_
     refine tk 7 13 (.bool true) hHeld ?_
     refine tk 8 14 (.pointer (some ⟨x,0,none⟩)) hHeld ?_
     refine tk 9 15 (.pointer (some ⟨x,0,none⟩)) hHeld ?_
     simp only [lz,ls]
     refine tk 10 16 (.pointer (some ⟨x,2,none⟩)) hHeld ?_
     refine tk 11 17 (.pointer (some ⟨x,2,none⟩)) hHeld ?_
     refine tm 12 18 (.int .i64 n.pr) hHeld ?_
     refine tk 13 19 (.pointer (some ⟨b,1,none⟩)) hHeld ?_
     refine tm 14 20 (.int .i64 v) hHeld ?_
     simp only [lz,ls]
     refine tk 15 21 (.bool true) hHeld ?_
     refine tk 16 22 (.bool true) hHeld ?_
     refine tk 17 23 (.bool true) hHeld ?_
     refine tk 18 24 (.pointer (some ⟨x,0,none⟩)) hHeld ?_
     refine tk 19 25 (.pointer (some ⟨x,0,none⟩)) hHeld ?_
     simp only [lz,ls]
     refine tk 20 26 (.pointer (some ⟨x,7,none⟩)) hHeld ?_
     refine tm 21 27 (.pointer (some ⟨rb,0,none⟩)) hHeld ?_
     refine tk 22 28 (.int .i64 (f : Int)) hHeld ?_
     refine tk 23 29 (.pointer (some ⟨rb,0,none⟩)) hHeld ?_
     refine tk 24 30 (.pointer (some ⟨rb,0,none⟩)) hHeld ?_
     simp only [lz,ls]
     refine tk 25 31 (.pointer (some ⟨rb,f,none⟩)) hHeld ?_
     refine tm 26 32 (.pointer (some ⟨bj,0,none⟩)) hHeld ?_
     refine tk 27 33 (.bool false) hHeld ?_
     refine tk 28 34 (.bool false) hHeld ?_
     simp only [lz,ls]
     refine wpAnyH_done (by kernel_rfl) ?_ _
     clear hHeld
     go_wp2_with fail
     first | go_end0 | (refine bodyPost_ret (results_none rfl _ _ _) rfl ?_)
     exact ⟨rfl,HKN.out,_,_,_,_,_,_,_,HND.out,.inl ⟨HE.out,rfl,rfl,rfl,rfl⟩⟩
   ·have e1 : (n.pr == v) = false:=by simpa using hpv
    have HE : Hid (n.takeJoin f ⟨2,v,m,0,l⟩ = n):=hJQ (by unfold Nd.takeJoin; rw [hr]; simp [hst,hpv])
    clear hr hst hs2 hpv
    clear h ho hk hf hl hz hj hsz hwt hw1 eb hb1 hk1 hwd hbd hb2 hnd hkd hn1 hf7
    go_enter Tryz.func84,Tryz.ntmps84
    go_upto_region 1 with fail
    rw [<- HW1.out,<- EB.out]
    refine wp_region_held_drew (S:=fun V => V.cell? ⟨x,2,none⟩ = some (.int .i64 n.pr) /\ V.cell? ⟨b,1,none⟩ = some (.int .i64 v)) (by kernel_rfl) hHa (fun hHeld => ?_)
    clear hHeld hHa
    have hHeld:=HDa.out
    rw [<- HWD.out]
    refine tk 0 6 (.pointer (some ⟨x,0,none⟩)) hHeld ?_
    simp only [lz,ls]
    refine r1 1 (fun K hK => ?_) rfl
    go_simp
    refine HLE.out.mono ?_
    rintro e w6 ⟨rfl,rfl⟩
    go_wp2_with fail
    refine hK.out _ _ (hHeld) (fun hHeld => ?_)
    clear hK K
    try simp only [Act.put,lp,lz,ls]
    refine tk 2 8 (.bool true) hHeld ?_
    refine tk 3 9 (.pointer (some ⟨x,0,none⟩)) hHeld ?_
    simp only [lz,ls]
    refine r1 4 (fun K hK => ?_) rfl
    go_simp
    refine HST.out.mono ?_
    rintro e w6 ⟨rfl,rfl⟩
    go_wp2_with fail
    refine hK.out _ _ (hHeld) (fun hHeld => ?_)
    clear hK K
    try simp only [Act.put,lp,lz,ls]
    refine tk 5 11 (.bool true) hHeld ?_
    refine tk 6 12 (.bool true) hHeld ?_
    refine tk 7 13 (.bool true) hHeld ?_
    refine tk 8 14 (.pointer (some ⟨x,0,none⟩)) hHeld ?_
    refine tk 9 15 (.pointer (some ⟨x,0,none⟩)) hHeld ?_
    simp only [lz,ls]
    refine tk 10 16 (.pointer (some ⟨x,2,none⟩)) hHeld ?_
    refine tk 11 17 (.pointer (some ⟨x,2,none⟩)) hHeld ?_
    refine tm 12 18 (.int .i64 n.pr) hHeld ?_
    refine tk 13 19 (.pointer (some ⟨b,1,none⟩)) hHeld ?_
    refine tm 14 20 (.int .i64 v) hHeld ?_
    simp only [lz,ls]
    refine tk 15 21 (.bool false) hHeld ?_
    refine tk 16 22 (.bool false) hHeld ?_
    refine tk 17 23 (.bool false) hHeld ?_
    refine tu 18 24 hHeld ?_
    refine tu 19 25 hHeld ?_
    simp only [lz,ls]
    refine tu 20 26 hHeld ?_
    refine tu 21 27 hHeld ?_
    refine tu 22 28 hHeld ?_
    refine tu 23 29 hHeld ?_
    refine tu 24 30 hHeld ?_
    simp only [lz,ls]
    refine tu 25 31 hHeld ?_
    refine tu 26 32 hHeld ?_
    refine tu 27 33 hHeld ?_
    refine tk 28 34 (.bool false) hHeld ?_
    simp only [lz,ls]
    refine wpAnyH_done (by kernel_rfl) ?_ _
    clear hHeld
    go_wp2_with fail
    first | go_end0 | (refine bodyPost_ret (results_none rfl _ _ _) rfl ?_)
    exact ⟨rfl,HKN.out,_,_,_,_,_,_,_,HND.out,.inl ⟨HE.out,rfl,rfl,rfl,rfl⟩⟩
end
end Go.Proofs.YtlppinfjdnhlbaaGreatDoor
