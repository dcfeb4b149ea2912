/-
 A group begins: new nodes on new disks. Condition: at most seven of them.
 A group of three that commits an entry: the law's alive says true. No condition.
 A script of calls on a disk in memory; writes on a disk that lives. No condition.
 OrderOpens: the law returns true of every script and of every member. No condition.
-/
import Derived.Test.YtlppinfjdnhlbaaGreatDoorHd
import Derived.Test.YtlppinfjdnhlbaaGreatDoorOTwo
import Derived.Test.YtlppinfjdnhlbaaGreatDoorKRight2
namespace Go.Proofs.YtlppinfjdnhlbaaGreatDoor
set_option maxRecDepth 100000
open Go.ChangeShapes Go.WideShapes Go.ChangeAt Go.RowKit Go.Proofs.Rk
open Pq (Fld FReads errL bytL fcs)
open Gq (Bz Mine PL PDisk Kp Kl Lg Dk)

theorem info34 : (Tryz.prog.info? 34).map (fun i => (i.zero,i.size,i.bytes)) = some (some (.pointer none),1,8):=by kernel_rfl
theorem info50 : (Tryz.prog.info? 50).map (fun i => (i.zero,i.size,i.bytes)) = some (some (.pointer none),1,8):=by kernel_rfl
theorem info54 : (Tryz.prog.info? 54).map (fun i => (i.zero,i.size,i.bytes)) = some (some (.agg #[.int .i64 0,.int .i64 0,.int .i64 0,.int .i64 0,.slice none 0 0,.int .i64 0,.int .i64 0,.slice none 0 0,.slice none 0 0,.int .i64 0,.slice none 0 0,.slice none 0 0]),12,176):=by kernel_rfl
def nd0 (many i : Nat) : Nd:=⟨i,many,0,0,[],0,none,[]⟩
theorem jnew_any (a b : Int) (w : World) : Calls Tryz.prog 43 #[.int .i64 a,.int .i64 b] w fun e w' => e = .returned (.agg #[.int .i64 a,.int .i64 b,.int .i64 0,.int .i64 0,.slice none 0 0,.int .i64 0,.int .i64 0,.slice none 0 0,.slice none 0 0,.int .i64 0,.slice none 0 0,.slice none 0 0]) /\ Below w.heap.size w w':=by
 obtain ⟨w1,hw1⟩ : ∃ xx,xx = w.alloc (.cells #[.int .i64 a,.int .i64 b,.int .i64 0,.int .i64 0,.slice none 0 0,.int .i64 0,.int .i64 0,.slice none 0 0,.slice none 0 0,.int .i64 0,.slice none 0 0,.slice none 0 0] 54):=⟨_,rfl⟩
 obtain ⟨q,eq⟩ : ∃ xx,xx = w.heap.size:=⟨_,rfl⟩
 have hb1 : Below w.heap.size w w1:=by rw [hw1]; exact box_below w _
 have hk1 : w1.heap[q]? = some (.cells #[.int .i64 a,.int .i64 b,.int .i64 0,.int .i64 0,.slice none 0 0,.int .i64 0,.int .i64 0,.slice none 0 0,.slice none 0 0,.int .i64 0,.slice none 0 0,.slice none 0 0] 54 (0,0)):=by rw [hw1,eq]; exact new_block w _
 have HB:=hJQ hb1
 have HW:=hJQ hw1
 have EQ:=hJQ eq
 have z0:=cell_of hk1 (j:=0) rfl
 have z1:=cell_of hk1 (j:=1) rfl
 have z2:=cell_of hk1 (j:=2) rfl
 have z3:=cell_of hk1 (j:=3) rfl
 have z4:=cell_of hk1 (j:=4) rfl
 have z5:=cell_of hk1 (j:=5) rfl
 have z6:=cell_of hk1 (j:=6) rfl
 have z7:=cell_of hk1 (j:=7) rfl
 have z8:=cell_of hk1 (j:=8) rfl
 have z9:=cell_of hk1 (j:=9) rfl
 have z10:=cell_of hk1 (j:=10) rfl
 have z11:=cell_of hk1 (j:=11) rfl
 clear hb1 hw1 eq hk1
 go_enter Tryz.func43,Tryz.ntmps43
 go_wp2_with fail
 rw [<- HW.out,<- EQ.out]
 refine bodyPost_ret (v:=.agg #[.int .i64 a,.int .i64 b,.int .i64 0,.int .i64 0,.slice none 0 0,.int .i64 0,.int .i64 0,.slice none 0 0,.slice none 0 0,.int .i64 0,.slice none 0 0,.slice none 0 0]) (by simp [results,Tryz.results43,go_sem,z0,z1,z2,z3,z4,z5,z6,z7,z8,z9,z10,z11]) rfl ?_
 exact ⟨rfl,by rw [EQ.out]; exact HB.out⟩
structure Ch (w V : World) (g : Nat) (nv dv : Value) : Prop where
 os : V.os = w.os
 tape : V.tape = w.tape
 output : V.output = w.output
 size : w.heap.size <= V.heap.size
 kept : ∀ k,k < w.heap.size -> k ≠ g -> nv.ownBlock ≠ some k -> dv.ownBlock ≠ some k -> V.heap[k]? = w.heap[k]?
section
variable {w V V2 : World} {g : Nat} {nv dv : Value}
theorem Ch.below (h : Ch w V g nv dv) (hb : Below V.heap.size V V2) : Ch w V2 g nv dv:=⟨hb.os.trans h.os,hb.tape.trans h.tape,hb.output.trans h.output,Nat.le_trans h.size hb.size,fun k hk h1 h2 h3 => (hb.block k (Nat.lt_of_lt_of_le hk h.size)).trans (h.kept k hk h1 h2 h3)⟩
theorem Ch.grow (h : Ch w V g nv dv) {o : Option Nat} (hb : V.grownBy V2 o) (ho : ∀ k,o = some k -> k < w.heap.size -> nv.ownBlock = some k ∨ dv.ownBlock = some k) : Ch w V2 g nv dv:=⟨hb.os.trans h.os,hb.tape.trans h.tape,hb.output.trans h.output,Nat.le_trans h.size hb.size,fun k hk h1 h2 h3 => (hb.block k (Nat.lt_of_lt_of_le hk h.size) (fun e => (ho k e.symm hk).elim h2 h3)).trans (h.kept k hk h1 h2 h3)⟩
theorem Ch.set (h : Ch w V g nv dv) (hb : Wr g V V2) : Ch w V2 g nv dv:=⟨hb.gb.os.trans h.os,hb.gb.tape.trans h.tape,hb.gb.output.trans h.output,Nat.le_trans h.size hb.gb.size,fun k hk h1 h2 h3 => (hb.rest k h1).trans (h.kept k hk h1 h2 h3)⟩
end
theorem own_keep {w w' : World} {B e sz n : Nat} {v : Value} {xs : List Value} {o : Option Nat} (h : w.ownsRow B e sz v n xs) (hg : w.grownBy w' o) (hne : ∀ k,v.ownBlock = some k -> o ≠ some k) : w'.ownsRow B e sz v n xs:=own_fr h fun k e2 => hg.block k (h.lt k e2).2 (fun e3 => hne k e2 e3.symm)
theorem own_far {w : World} {B B' e e' s s' n n' : Nat} {v v' : Value} {xs xs' : List Value} (h : w.ownsRow B e s v n xs) (h' : w.ownsRow B' e' s' v' n' xs') (hne : e ≠ e') : ∀ k,v.ownBlock = some k -> v'.ownBlock ≠ some k:=fun k e1 e2 => by
 obtain ⟨c1,h1⟩:=own_type h e1
 obtain ⟨c2,h2⟩:=own_type h' e2
 exact types_ne h1 h2 hne rfl
theorem own_wr {w w' : World} {B e sz n g : Nat} {v : Value} {xs : List Value} {cs : Array Value} {t : TypeId} (h : w.ownsRow B e sz v n xs) (hg : Wr g w w') (hb : w.heap[g]? = some (.cells cs t (0,0))) (hne : t ≠ e) : w'.ownsRow B e sz v n xs:=own_fr h fun k e2 => hg.rest k fun e3 => own_ne h hb hne (by rw [e2,e3])
theorem GM.two {w V : World} {F : Nat -> Nat} {B g j : Nat} {X P : Nat -> Nat} {nv dv pv yv nv' dv' : Value} (h : GM w F B g j X P [] nv dv pv yv) (hc : Ch w V g nv dv) (ha : ∀ k,nv'.ownBlock = some k -> nv.ownBlock = some k ∨ w.heap.size <= k) (hb : ∀ k,dv'.ownBlock = some k -> dv.ownBlock = some k ∨ w.heap.size <= k) :
  Fr 0 F w V /\ ∃ xs,V.ownsRow B 54 12 pv j xs /\ FRow V B yv 0 [] /\ (∀ k,pv.ownBlock = some k -> bump w F 0 k = 0) /\ (∀ k,yv.ownBlock = some k -> bump w F 0 k = 0) /\ bump w F 0 g = 0 /\ (∀ k,nv'.ownBlock = some k -> bump w F 0 k = 0) /\ (∀ k,dv'.ownBlock = some k -> bump w F 0 k = 0) /\ (∀ k,k < B -> bump w F 0 k = 0):=by
 have hz : ∀ k,(∀ hk : k < w.heap.size,F k = 0) -> bump w F 0 k = 0:=fun k hk => by
  by_cases h1 : k < w.heap.size
  ·rw [bump_old h1]; exact hk h1
  ·exact bump_new h1
 obtain ⟨xs,hp⟩:=h.prow
 refine ⟨⟨hc.os,hc.tape,hc.output,hc.size,fun k hk hf => hc.kept k hk (fun e => hf (by rw [e]; exact h.fg)) (fun e => hf (h.fn k e)) (fun e => hf (h.fd k e))⟩,xs,?_,?_,fun k e => hz k fun _ => h.fp k e,fun k e => hz k fun _ => h.fy k e,hz g fun _ => h.fg,fun k e => hz k fun hk => (ha k e).elim (h.fn k) (fun h2 => by omega),fun k e => hz k fun hk => (hb k e).elim (h.fd k) (fun h2 => by omega),fun k e => hz k fun _ => h.fb k e⟩
 ·exact own_fr hp fun k e => hc.kept k (hp.lt k e).2 (fun e2 => own_ne hp h.here (by decide) (by rw [e,e2])) (fun e2 => own_far hp h.nrow (by decide) k e e2) (fun e2 => own_far hp h.drow (by decide) k e e2)
 ·refine h.yrow.kept fun k e => ?_
  obtain ⟨cur,hk⟩:=h.ne e
  refine hc.kept k (blk_lt hk) (fun e2 => types_ne hk h.here (by decide) e2) (fun e2 => ?_) (fun e2 => ?_)
  ·obtain ⟨c2,h2⟩:=own_type h.nrow e2
   exact types_ne hk h2 (by decide) rfl
  ·obtain ⟨c2,h2⟩:=own_type h.drow e2
   exact types_ne hk h2 (by decide) rfl
theorem GM.three {w V : World} {F : Nat -> Nat} {B g m n : Nat} {X P : Nat -> Nat} {nv dv pv yv pv' : Value} {xs xs' : List Value} (hx : w.heap[g]? = some (.cells #[nv,dv,pv,yv] 40 (0,0))) (hb : B <= g) (hn : w.ownsRow B 34 1 nv m (ptrs m X)) (hd : w.ownsRow B 50 1 dv m (ptrs m P)) (hp : w.ownsRow B 54 12 pv n xs) (hy : FRow w B yv 0 [])
  (fp : ∀ k,pv.ownBlock = some k -> F k = 0) (fy : ∀ k,yv.ownBlock = some k -> F k = 0) (fg : F g = 0) (fn : ∀ k,nv.ownBlock = some k -> F k = 0) (fd : ∀ k,dv.ownBlock = some k -> F k = 0) (fb : ∀ k,k < B -> F k = 0) (hle : B <= w.heap.size)
  (hc : Ch w V g pv pv) (hg : V.heap[g]? = some (.cells #[nv,dv,pv',yv] 40 (0,0))) (hp' : V.ownsRow B 54 12 pv' m xs') (ha : ∀ k,pv'.ownBlock = some k -> pv.ownBlock = some k ∨ w.heap.size <= k) :
  Fr 0 F w V /\ GM V (bump w F 0) B g m X P [] nv dv pv' yv:=by
 have hz : ∀ k,(∀ hk : k < w.heap.size,F k = 0) -> bump w F 0 k = 0:=fun k hk => by
  by_cases h1 : k < w.heap.size
  ·rw [bump_old h1]; exact hk h1
  ·exact bump_new h1
 refine ⟨⟨hc.os,hc.tape,hc.output,hc.size,fun k hk hf => hc.kept k hk (fun e => hf (by rw [e]; exact fg)) (fun e => hf (fp k e)) (fun e => hf (fp k e))⟩,hg,hb,?_,?_,⟨_,hp'⟩,?_,hz g fun _ => fg,fun k e => hz k fun _ => fn k e,fun k e => hz k fun _ => fd k e,fun k e => hz k fun hk => (ha k e).elim (fp k) (fun h2 => by omega),fun k e => hz k fun _ => fy k e,fun k e => hz k fun _ => fb k e,Nat.le_trans hle hc.size⟩
 ·exact own_fr hn fun k e => hc.kept k (hn.lt k e).2 (fun e2 => own_ne hn hx (by decide) (by rw [e,e2])) (fun e2 => own_far hn hp (by decide) k e e2) (fun e2 => own_far hn hp (by decide) k e e2)
 ·exact own_fr hd fun k e => hc.kept k (hd.lt k e).2 (fun e2 => own_ne hd hx (by decide) (by rw [e,e2])) (fun e2 => own_far hd hp (by decide) k e e2) (fun e2 => own_far hd hp (by decide) k e e2)
 ·refine hy.kept fun k e => ?_
  have hk : ∃ cur,w.heap[k]? = some (.cells cur 28 (0,0)):=by
   rcases hy.lies with ⟨e2,_⟩ | ⟨g2,off,cap,cur,e2,_,hg,_⟩
   ·rw [e2] at e; simp [Value.ownBlock] at e
   ·rw [e2] at e
    simp only [Value.ownBlock,Option.some.injEq] at e
    subst e
    exact ⟨cur,hg⟩
  obtain ⟨cur,hk⟩:=hk
  have hne : pv.ownBlock ≠ some k:=fun e2 => by
   obtain ⟨c2,h2⟩:=own_type hp e2
   exact types_ne hk h2 (by decide) rfl
  exact hc.kept k (blk_lt hk) (fun e2 => types_ne hk hx (by decide) e2) hne hne
def put (X : Nat -> Nat) (j x : Nat) : Nat -> Nat:=fun k => if k = j then x else X k
theorem ptrs_put (X : Nat -> Nat) (j x : Nat) : ptrs (j + 1) (put X j x) = ptrs j X ++ [.pointer (some ⟨x,0,none⟩)]:=by
 rw [ptrs_succ]
 congr 1
 ·unfold ptrs
  refine List.map_congr_left fun i hi => ?_
  have : i < j:=List.mem_range.1 hi
  unfold put; rw [if_neg (by omega)]
 ·unfold put; rw [if_pos rfl]
set_option maxHeartbeats 16000000 in
theorem begun_any {w : World} {many : Nat} (hm : many <= 7) :
  Calls Tryz.prog 12 #[.int .i64 (many : Int)] w fun e w' => ∃ g F X P,e = .returned (.pointer (some ⟨g,0,none⟩)) /\ Below w.heap.size w w' /\ GrW w' F w.heap.size g many X P (nd0 many) []:=by
 obtain ⟨i1,hi1,hz1,hs1,hy1⟩:=info_parts info34
 obtain ⟨i2,hi2,hz2,hs2,hy2⟩:=info_parts info50
 obtain ⟨i3,hi3,hz3,hs3,hy3⟩:=info_parts info54
 obtain ⟨B,hB⟩ : ∃ xx,xx = w.heap.size:=⟨_,rfl⟩
 obtain ⟨w1,hw1⟩ : ∃ xx,xx = w.alloc (.cells #[.slice none 0 0,.slice none 0 0,.slice none 0 0,.slice none 0 0] 40):=⟨_,rfl⟩
 obtain ⟨g,eg⟩ : ∃ xx,xx = w.heap.size:=⟨_,rfl⟩
 have hb1 : Below w.heap.size w w1:=by rw [hw1]; exact box_below w _
 have hk1 : w1.heap[g]? = some (.cells #[.slice none 0 0,.slice none 0 0,.slice none 0 0,.slice none 0 0] 40 (0,0)):=by rw [hw1,eg]; exact new_block w _
 have HG1 : Hid (GM w1 (fun _ => 0) B g 0 (fun _ => 0) (fun _ => 0) [] (.slice none 0 0) (.slice none 0 0) (.slice none 0 0) (.slice none 0 0)):=hJQ ⟨hk1,by omega,World.ownsRow_nil _ _ _ _,World.ownsRow_nil _ _ _ _,⟨[],World.ownsRow_nil _ _ _ _⟩,FRow.nil _ _,rfl,fun _ _ => rfl,fun _ _ => rfl,fun _ _ => rfl,fun _ _ => rfl,fun _ _ => rfl,by rw [hB]; exact hb1.size⟩
 have HB1 : Hid (Below B w w1):=hJQ (by rw [hB]; exact hb1)
 have HW1:=hJQ hw1
 have EG:=hJQ eg
 have HM:=hJQ hm
 rw [<- hB]
 clear hB hw1 eg hb1 hk1
 go_enter Tryz.func12,Tryz.ntmps12
 go_upto_region 2 with fail
 rw [<- HW1.out,<- EG.out]
 go_wp2_with fail
 go_loopw [11] (fun k wr => ∃ j : Nat,j <= many /\ k = .int .i64 j /\ Hid (Below B w wr) /\ Hid (∃ F X P nv dv pv yv,GM wr F B g j X P [] nv dv pv yv /\ ∀ i,i < j -> NodeL wr F many i (X i) (P i) (nd0 many i))) (fun k _ => many - (intOf k).toNat)
 case atStart => exact ⟨0,Nat.zero_le _,rfl,HB1,hJQ ⟨_,_,_,_,_,_,_,HG1.out,fun i hi => absurd hi (Nat.not_lt_zero i)⟩⟩
 case round =>
  obtain ⟨j,hj,rfl,HBR,HGR⟩:=hrel
  obtain ⟨F,X,P,nv,dv,pv,yv,hgm,hnl⟩:=HGR.out
  by_cases hlt : j < many
  ·have hki : (j : Int) < (many : Int):=by omega
   have hwk : IntKind.i64.wrap ((j : Int) + 1) = (j : Int) + 1:=by rw [IntKind.wrap_i64]; omega
   have HNEW:=hJQ (Gq.new_any 1100 1100 wr (by decide) (.inr rfl))
   have HGM:=hJQ hgm
   have HNL:=hJQ hnl
   clear hgm hnl HGR
   go_wp2_with fail
   refine HNEW.out.mono ?_
   rintro e wa ⟨p,rfl,hpd,hba⟩
   have HOP:=hJQ (opened_live (F:=F) (i:=j) hlt HM.out hba hpd rfl new_ss.2.1 new_ss.1 new_ss.2.2)
   clear hpd hba
   go_wp2_with fail
   refine HOP.out.mono ?_
   rintro e w2 ⟨x,rfl,hfr,hnj⟩
   have HG2:=hJQ (HGM.out.keep (j + 1) hfr.size fun k hk h0 => hfr.kept k hk (by omega))
   have HND : Hid (∀ i,i < j + 1 -> NodeL w2 (bump wr F (j + 1)) many i (put X j x i) (put P j p i) (nd0 many i)):=hJQ (fun i hi => by
    unfold put
    by_cases e : i = j
    ·subst e; rw [if_pos rfl,if_pos rfl]; exact hnj
    ·rw [if_neg e,if_neg e]; exact (HNL.out i (by omega)).other hfr (by omega))
   have HBR2 : Hid (Below B w w2):=hJQ (HBR.out.trans ⟨hfr.os,hfr.tape,hfr.output,hfr.size,fun k hk => hfr.kept k (Nat.lt_of_lt_of_le hk HGM.out.le) (by have:=HGM.out.fb k hk; omega)⟩)
   obtain ⟨F2,hF2⟩ : ∃ k,bump wr F (j + 1) = k:=⟨_,rfl⟩
   rw [hF2] at HG2 HND
   clear hfr hnj HOP HNEW hF2
   obtain ⟨V0,hV0⟩ : ∃ U,U = w2.drew:=⟨_,rfl⟩
   have hbd : Below w2.heap.size w2 V0:=by rw [hV0]; exact (Below.refl _ _).drew
   have HX0:=hJQ (blk_below HG2.out.here hbd)
   have HN0:=hJQ (own_below HG2.out.nrow hbd)
   have HD0:=hJQ (own_below HG2.out.drow hbd)
   have HT0 : Hid (Ch w2 V0 g nv dv):=hJQ ⟨hbd.os,hbd.tape,hbd.output,hbd.size,fun k hk _ _ _ => hbd.block k hk⟩
   have HBS : Hid (B <= w2.heap.size):=hJQ HG2.out.le
   have HV0:=hJQ hV0
   clear hV0 hbd
   go_upto_region 11 with fail
   go_cut [11] from 11 to 62 (fun v wx => v = .int .i64 (j : Int) /\ ∃ ga ca gb cb,Hid (wx.heap[g]? = some (.cells #[Value.slice (some ⟨ga,0,none⟩) (j + 1) ca,Value.slice (some ⟨gb,0,none⟩) (j + 1) cb,pv,yv] 40 (0,0))) /\ Hid (wx.ownsRow B 34 1 (Value.slice (some ⟨ga,0,none⟩) (j + 1) ca) (j + 1) (ptrs j X ++ [.pointer (some ⟨x,0,none⟩)])) /\ Hid (wx.ownsRow B 50 1 (Value.slice (some ⟨gb,0,none⟩) (j + 1) cb) (j + 1) (ptrs j P ++ [.pointer (some ⟨p,0,none⟩)])) /\ Hid (Ch w2 wx g nv dv) /\ Hid (∀ k,(Value.slice (some ⟨ga,0,none⟩) (j + 1) ca).ownBlock = some k -> nv.ownBlock = some k ∨ w2.heap.size <= k) /\ Hid (∀ k,(Value.slice (some ⟨gb,0,none⟩) (j + 1) cb).ownBlock = some k -> dv.ownBlock = some k ∨ w2.heap.size <= k))
   case first =>
    refine till_region (m:=18) (S:=fun V => V.cell? ⟨g,0,none⟩ = some nv /\ V.cell? ⟨g,1,none⟩ = some dv) (by kernel_rfl) ?_
    rw [<- HV0.out]
    have hHeld : V0.cell? ⟨g,0,none⟩ = some nv /\ V0.cell? ⟨g,1,none⟩ = some dv:=⟨cell_of HX0.out (j:=0) rfl,cell_of HX0.out (j:=1) rfl⟩
    refine ta 0 30 (.pointer (some ⟨g,0,none⟩)) (fun _ => hHeld) ?_
    refine ta 1 31 (.pointer (some ⟨g,0,none⟩)) (fun _ => hHeld) ?_
    refine ta 2 32 (.pointer (some ⟨g,0,none⟩)) (fun _ => hHeld) ?_
    refine ta 3 33 (.pointer (some ⟨g,0,none⟩)) (fun _ => hHeld) ?_
    refine ta 4 34 (.pointer (some ⟨g,0,none⟩)) (fun _ => hHeld) ?_
    simp only [lz,ls]
    refine till_take 5 35 (nv) rfl rfl (by kernel_rfl) (by kernel_rfl) (by kernel_rfl) (fun _ _ _ h => h) (by kernel_rfl) rfl (by kernel_rfl) (.inl ⟨by rfl,fun w' hw' => by obtain ⟨s0,s1⟩:=hw'; go_simp⟩) hHeld ?_
    refine ta 6 36 (.pointer (some ⟨x,0,none⟩)) (fun _ => hHeld) ?_
    refine ta 9 39 (.pointer (some ⟨g,0,none⟩)) (fun _ => hHeld) ?_
    refine ta 10 40 (.pointer (some ⟨g,0,none⟩)) (fun _ => hHeld) ?_
    refine ta 11 41 (.pointer (some ⟨g,1,none⟩)) (fun _ => hHeld) ?_
    simp only [lz,ls]
    refine till_take 12 42 (dv) rfl rfl (by kernel_rfl) (by kernel_rfl) (by kernel_rfl) (fun _ _ _ h => h) (by kernel_rfl) rfl (by kernel_rfl) (.inl ⟨by rfl,fun w' hw' => by obtain ⟨s0,s1⟩:=hw'; go_simp⟩) hHeld ?_
    refine ta 13 43 (.pointer (some ⟨p,0,none⟩)) (fun _ => hHeld) ?_
    simp only [lz,ls]
    refine till_ready (is:=[7,14]) (by kernel_rfl) (by simp) ?_
    refine Nexts.cons rfl (fun K hK => ?_) (Nexts.cons rfl (fun K hK => ?_) (Nexts.nil))
    ·go_simp
     obtain ⟨V1,hV⟩ : ∃ U,U = V0.alloc (.cells #[.pointer (some ⟨x,0,none⟩)] 34):=⟨_,rfl⟩
     obtain ⟨b1,eb⟩ : ∃ k,k = V0.heap.size:=⟨_,rfl⟩
     have hb : Below V0.heap.size V0 V1:=by rw [hV]; exact box_below _ _
     have HA1 : Hid (V1.heap[b1]? = some (.cells #[.pointer (some ⟨x,0,none⟩)] 34 (0,0))):=hJQ (by rw [hV,eb]; exact new_block _ _)
     rw [<- hV,<- eb]
     have HX1:=hJQ (blk_below HX0.out hb)
     have HN1:=hJQ (own_below HN0.out hb)
     have HD1:=hJQ (own_below HD0.out hb)
     have HT1:=hJQ (HT0.out.below hb)
     clear hV eb hb
     have hHeld2:=(show V1.cell? ⟨g,0,none⟩ = some nv /\ V1.cell? ⟨g,1,none⟩ = some dv from ⟨cell_of HX1.out (j:=0) rfl,cell_of HX1.out (j:=1) rfl⟩)
     refine hK.out _ _ (fun _ => hHeld2) ?_
     clear hK K hHeld
     have hHeld:=hHeld2
     clear hHeld2
     try simp only [Act.put,lp,lz,ls]
     refine till_ready (is:=[8,14]) (by kernel_rfl) (by simp) ?_
     refine Nexts.cons rfl (fun K hK => ?_) (Nexts.cons rfl (fun K hK => ?_) (Nexts.nil))
     ·refine step_append_lies (w:=V1) (by rfl) _ _ 35 (by rfl) B 34 i1 _ 1 8 Tryz.underlying35 hi1 hz1 hs1 hy1 rfl (by decide) nv j (ptrs j X) (by rfl) HN1.out ⟨b1,0,none⟩ 1 1 [.pointer (some ⟨x,0,none⟩)] (by rfl) rfl (World.news_of_block HA1.out) (by intro u hu; simp at hu; subst hu; rfl) (by decide) (by unfold maxLen; omega) (by omega) (Nat.le_trans HBS.out HT1.out.size) V1.heap.size rfl ?_
      intro ga ca V2 hown hgrow hat _
      have HOA : Hid (∀ k,(Value.slice (some ⟨ga,0,none⟩) (j + 1) ca).ownBlock = some k -> (nv).ownBlock = some k ∨ w2.heap.size <= k):=hJQ (fun k e => by
       simp only [Value.ownBlock,Option.some.injEq] at e
       subst e
       exact hat.imp id (fun e2 => by rw [e2]; exact HT1.out.size))
      have HN2:=hJQ hown
      have HX2:=hJQ ((hgrow.block g (blk_lt HX1.out) (fun e => own_ne HN1.out HX1.out (by decide) e.symm)).trans HX1.out)
      have HD2:=hJQ (own_keep HD1.out hgrow (fun k e e2 => own_far HD1.out HN1.out (by decide) k e e2))
      have HT2:=hJQ (HT1.out.grow hgrow (fun k e _ => .inl e))
      clear hown hgrow hat
      have hHeld2:=(show V2.cell? ⟨g,0,none⟩ = some nv /\ V2.cell? ⟨g,1,none⟩ = some dv from ⟨cell_of HX2.out (j:=0) rfl,cell_of HX2.out (j:=1) rfl⟩)
      refine hK.out _ _ (fun _ => hHeld2) ?_
      clear hK K hHeld
      have hHeld:=hHeld2
      clear hHeld2
      refine stages_put 38 rfl ?_
      simp only [lz,ls]
      refine till_ready (is:=[14]) (by kernel_rfl) (by simp) ?_
      refine Nexts.cons rfl (fun K hK => ?_) (Nexts.nil)
      go_simp
      obtain ⟨V3,hV⟩ : ∃ U,U = V2.alloc (.cells #[.pointer (some ⟨p,0,none⟩)] 50):=⟨_,rfl⟩
      obtain ⟨b2,eb⟩ : ∃ k,k = V2.heap.size:=⟨_,rfl⟩
      have hb : Below V2.heap.size V2 V3:=by rw [hV]; exact box_below _ _
      have HB3 : Hid (V3.heap[b2]? = some (.cells #[.pointer (some ⟨p,0,none⟩)] 50 (0,0))):=hJQ (by rw [hV,eb]; exact new_block _ _)
      rw [<- hV,<- eb]
      have HX3:=hJQ (blk_below HX2.out hb)
      have HN3:=hJQ (own_below HN2.out hb)
      have HD3:=hJQ (own_below HD2.out hb)
      have HT3:=hJQ (HT2.out.below hb)
      clear hV eb hb
      have hHeld2:=(show V3.cell? ⟨g,0,none⟩ = some nv /\ V3.cell? ⟨g,1,none⟩ = some dv from ⟨cell_of HX3.out (j:=0) rfl,cell_of HX3.out (j:=1) rfl⟩)
      refine hK.out _ _ (fun _ => hHeld2) ?_
      clear hK K hHeld
      have hHeld:=hHeld2
      clear hHeld2
      try simp only [Act.put,lp,lz,ls]
      refine till_ready (is:=[15]) (by kernel_rfl) (by simp) ?_
      refine Nexts.cons rfl (fun K hK => ?_) (Nexts.nil)
      refine step_append_lies (w:=V3) (by rfl) _ _ 36 (by rfl) B 50 i2 _ 1 8 Tryz.underlying36 hi2 hz2 hs2 hy2 rfl (by decide) dv j (ptrs j P) (by rfl) HD3.out ⟨b2,0,none⟩ 1 1 [.pointer (some ⟨p,0,none⟩)] (by rfl) rfl (World.news_of_block HB3.out) (by intro u hu; simp at hu; subst hu; rfl) (by decide) (by unfold maxLen; omega) (by omega) (Nat.le_trans HBS.out HT3.out.size) V3.heap.size rfl ?_
      intro gb cb V4 hown hgrow hat _
      have HOB : Hid (∀ k,(Value.slice (some ⟨gb,0,none⟩) (j + 1) cb).ownBlock = some k -> (dv).ownBlock = some k ∨ w2.heap.size <= k):=hJQ (fun k e => by
       simp only [Value.ownBlock,Option.some.injEq] at e
       subst e
       exact hat.imp id (fun e2 => by rw [e2]; exact HT3.out.size))
      have HD4:=hJQ hown
      have HX4:=hJQ ((hgrow.block g (blk_lt HX3.out) (fun e => own_ne HD3.out HX3.out (by decide) e.symm)).trans HX3.out)
      have HN4:=hJQ (own_keep HN3.out hgrow (fun k e e2 => own_far HN3.out HD3.out (by decide) k e e2))
      have HT4:=hJQ (HT3.out.grow hgrow (fun k e _ => .inr e))
      clear hown hgrow hat
      have hHeld2:=(show V4.cell? ⟨g,0,none⟩ = some nv /\ V4.cell? ⟨g,1,none⟩ = some dv from ⟨cell_of HX4.out (j:=0) rfl,cell_of HX4.out (j:=1) rfl⟩)
      refine hK.out _ _ (fun _ => hHeld2) ?_
      clear hK K hHeld
      have hHeld:=hHeld2
      clear hHeld2
      refine stages_put 45 rfl ?_
      refine ta 16 46 (.pointer (some ⟨g,0,none⟩)) (fun _ => hHeld) ?_
      refine ta 17 47 (.pointer (some ⟨g,0,none⟩)) (fun _ => hHeld) ?_
      simp only [lz,ls]
      refine till_ready (is:=[18]) (by kernel_rfl) (by simp) ?_
      refine Nexts.cons rfl (fun K hK => ?_) (Nexts.nil)
      have gx:=cell_of HX4.out (j:=0) rfl
      have gf:=frozen_of_row V4 g 0 _ _ HX4.out
      go_simp
      obtain ⟨V5,hV⟩ : ∃ U,U = V4.setCell ⟨g,0,none⟩ (.slice (some ⟨ga,0,none⟩) (j + 1) ca):=⟨_,rfl⟩
      rw [<- hV]
      obtain ⟨q1,q2⟩:=seti HX4.out 0 (.slice (some ⟨ga,0,none⟩) (j + 1) ca)
      rw [<- hV] at q1 q2
      have HX5 : Hid (V5.heap[g]? = some (.cells #[.slice (some ⟨ga,0,none⟩) (j + 1) ca,dv,pv,yv] 40 (0,0))):=hJQ q2
      have HN5:=hJQ (own_wr HN4.out q1 HX4.out (by decide))
      have HD5:=hJQ (own_wr HD4.out q1 HX4.out (by decide))
      have HT5:=hJQ (HT4.out.set q1)
      clear gx gf hV q1 q2
      refine hK.out _ _ (till_off (by kernel_rfl)) ?_
      clear hK K hHeld
      try simp only [Act.put,lp,lz,ls]
      refine ta 19 48 (.pointer (some ⟨g,0,none⟩)) (till_off (by kernel_rfl)) ?_
      refine ta 20 49 (.pointer (some ⟨g,1,none⟩)) (till_off (by kernel_rfl)) ?_
      simp only [lz,ls]
      refine till_ready (is:=[21]) (by kernel_rfl) (by simp) ?_
      refine Nexts.cons rfl (fun K hK => ?_) (Nexts.nil)
      have gx:=cell_of HX5.out (j:=1) rfl
      have gf:=frozen_of_row V5 g 1 _ _ HX5.out
      go_simp
      obtain ⟨V6,hV⟩ : ∃ U,U = V5.setCell ⟨g,1,none⟩ (.slice (some ⟨gb,0,none⟩) (j + 1) cb):=⟨_,rfl⟩
      rw [<- hV]
      obtain ⟨q1,q2⟩:=seti HX5.out 1 (.slice (some ⟨gb,0,none⟩) (j + 1) cb)
      rw [<- hV] at q1 q2
      have HX6 : Hid (V6.heap[g]? = some (.cells #[.slice (some ⟨ga,0,none⟩) (j + 1) ca,.slice (some ⟨gb,0,none⟩) (j + 1) cb,pv,yv] 40 (0,0))):=hJQ q2
      have HN6:=hJQ (own_wr HN5.out q1 HX5.out (by decide))
      have HD6:=hJQ (own_wr HD5.out q1 HX5.out (by decide))
      have HT6:=hJQ (HT5.out.set q1)
      clear gx gf hV q1 q2
      refine hK.out _ _ (till_off (by kernel_rfl)) ?_
      clear hK K
      try simp only [Act.put,lp,lz,ls]
      refine till_done (by kernel_rfl) ?_ _
      go_wp2_with fail
      go_meet
      case rel => exact ⟨rfl,_,_,_,_,HX6,HN6,HD6,HT6,HOA,HOB⟩
     ·go_simp
      obtain ⟨V2,hV⟩ : ∃ U,U = V1.alloc (.cells #[.pointer (some ⟨p,0,none⟩)] 50):=⟨_,rfl⟩
      obtain ⟨b2,eb⟩ : ∃ k,k = V1.heap.size:=⟨_,rfl⟩
      have hb : Below V1.heap.size V1 V2:=by rw [hV]; exact box_below _ _
      have HB2 : Hid (V2.heap[b2]? = some (.cells #[.pointer (some ⟨p,0,none⟩)] 50 (0,0))):=hJQ (by rw [hV,eb]; exact new_block _ _)
      rw [<- hV,<- eb]
      have HX2:=hJQ (blk_below HX1.out hb)
      have HN2:=hJQ (own_below HN1.out hb)
      have HD2:=hJQ (own_below HD1.out hb)
      have HT2:=hJQ (HT1.out.below hb)
      have HA2:=hJQ (blk_below HA1.out hb)
      clear hV eb hb
      have hHeld2:=(show V2.cell? ⟨g,0,none⟩ = some nv /\ V2.cell? ⟨g,1,none⟩ = some dv from ⟨cell_of HX2.out (j:=0) rfl,cell_of HX2.out (j:=1) rfl⟩)
      refine hK.out _ _ (fun _ => hHeld2) ?_
      clear hK K hHeld
      have hHeld:=hHeld2
      clear hHeld2
      try simp only [Act.put,lp,lz,ls]
      refine till_ready (is:=[8]) (by kernel_rfl) (by simp) ?_
      refine Nexts.cons rfl (fun K hK => ?_) (Nexts.nil)
      refine step_append_lies (w:=V2) (by rfl) _ _ 35 (by rfl) B 34 i1 _ 1 8 Tryz.underlying35 hi1 hz1 hs1 hy1 rfl (by decide) nv j (ptrs j X) (by rfl) HN2.out ⟨b1,0,none⟩ 1 1 [.pointer (some ⟨x,0,none⟩)] (by rfl) rfl (World.news_of_block HA2.out) (by intro u hu; simp at hu; subst hu; rfl) (by decide) (by unfold maxLen; omega) (by omega) (Nat.le_trans HBS.out HT2.out.size) V2.heap.size rfl ?_
      intro ga ca V3 hown hgrow hat _
      have HOA : Hid (∀ k,(Value.slice (some ⟨ga,0,none⟩) (j + 1) ca).ownBlock = some k -> (nv).ownBlock = some k ∨ w2.heap.size <= k):=hJQ (fun k e => by
       simp only [Value.ownBlock,Option.some.injEq] at e
       subst e
       exact hat.imp id (fun e2 => by rw [e2]; exact HT2.out.size))
      have HN3:=hJQ hown
      have HX3:=hJQ ((hgrow.block g (blk_lt HX2.out) (fun e => own_ne HN2.out HX2.out (by decide) e.symm)).trans HX2.out)
      have HD3:=hJQ (own_keep HD2.out hgrow (fun k e e2 => own_far HD2.out HN2.out (by decide) k e e2))
      have HT3:=hJQ (HT2.out.grow hgrow (fun k e _ => .inl e))
      have HB3:=hJQ ((hgrow.block b2 (blk_lt HB2.out) (fun e => own_ne HN2.out HB2.out (by decide) e.symm)).trans HB2.out)
      clear hown hgrow hat
      have hHeld2:=(show V3.cell? ⟨g,0,none⟩ = some nv /\ V3.cell? ⟨g,1,none⟩ = some dv from ⟨cell_of HX3.out (j:=0) rfl,cell_of HX3.out (j:=1) rfl⟩)
      refine hK.out _ _ (fun _ => hHeld2) ?_
      clear hK K hHeld
      have hHeld:=hHeld2
      clear hHeld2
      refine stages_put 38 rfl ?_
      simp only [lz,ls]
      refine till_ready (is:=[15]) (by kernel_rfl) (by simp) ?_
      refine Nexts.cons rfl (fun K hK => ?_) (Nexts.nil)
      refine step_append_lies (w:=V3) (by rfl) _ _ 36 (by rfl) B 50 i2 _ 1 8 Tryz.underlying36 hi2 hz2 hs2 hy2 rfl (by decide) dv j (ptrs j P) (by rfl) HD3.out ⟨b2,0,none⟩ 1 1 [.pointer (some ⟨p,0,none⟩)] (by rfl) rfl (World.news_of_block HB3.out) (by intro u hu; simp at hu; subst hu; rfl) (by decide) (by unfold maxLen; omega) (by omega) (Nat.le_trans HBS.out HT3.out.size) V3.heap.size rfl ?_
      intro gb cb V4 hown hgrow hat _
      have HOB : Hid (∀ k,(Value.slice (some ⟨gb,0,none⟩) (j + 1) cb).ownBlock = some k -> (dv).ownBlock = some k ∨ w2.heap.size <= k):=hJQ (fun k e => by
       simp only [Value.ownBlock,Option.some.injEq] at e
       subst e
       exact hat.imp id (fun e2 => by rw [e2]; exact HT3.out.size))
      have HD4:=hJQ hown
      have HX4:=hJQ ((hgrow.block g (blk_lt HX3.out) (fun e => own_ne HD3.out HX3.out (by decide) e.symm)).trans HX3.out)
      have HN4:=hJQ (own_keep HN3.out hgrow (fun k e e2 => own_far HN3.out HD3.out (by decide) k e e2))
      have HT4:=hJQ (HT3.out.grow hgrow (fun k e _ => .inr e))
      clear hown hgrow hat
      have hHeld2:=(show V4.cell? ⟨g,0,none⟩ = some nv /\ V4.cell? ⟨g,1,none⟩ = some dv from ⟨cell_of HX4.out (j:=0) rfl,cell_of HX4.out (j:=1) rfl⟩)
      refine hK.out _ _ (fun _ => hHeld2) ?_
      clear hK K hHeld
      have hHeld:=hHeld2
      clear hHeld2
      refine stages_put 45 rfl ?_
      refine ta 16 46 (.pointer (some ⟨g,0,none⟩)) (fun _ => hHeld) ?_
      refine ta 17 47 (.pointer (some ⟨g,0,none⟩)) (fun _ => hHeld) ?_
      simp only [lz,ls]
      refine till_ready (is:=[18]) (by kernel_rfl) (by simp) ?_
      refine Nexts.cons rfl (fun K hK => ?_) (Nexts.nil)
      have gx:=cell_of HX4.out (j:=0) rfl
      have gf:=frozen_of_row V4 g 0 _ _ HX4.out
      go_simp
      obtain ⟨V5,hV⟩ : ∃ U,U = V4.setCell ⟨g,0,none⟩ (.slice (some ⟨ga,0,none⟩) (j + 1) ca):=⟨_,rfl⟩
      rw [<- hV]
      obtain ⟨q1,q2⟩:=seti HX4.out 0 (.slice (some ⟨ga,0,none⟩) (j + 1) ca)
      rw [<- hV] at q1 q2
      have HX5 : Hid (V5.heap[g]? = some (.cells #[.slice (some ⟨ga,0,none⟩) (j + 1) ca,dv,pv,yv] 40 (0,0))):=hJQ q2
      have HN5:=hJQ (own_wr HN4.out q1 HX4.out (by decide))
      have HD5:=hJQ (own_wr HD4.out q1 HX4.out (by decide))
      have HT5:=hJQ (HT4.out.set q1)
      clear gx gf hV q1 q2
      refine hK.out _ _ (till_off (by kernel_rfl)) ?_
      clear hK K hHeld
      try simp only [Act.put,lp,lz,ls]
      refine ta 19 48 (.pointer (some ⟨g,0,none⟩)) (till_off (by kernel_rfl)) ?_
      refine ta 20 49 (.pointer (some ⟨g,1,none⟩)) (till_off (by kernel_rfl)) ?_
      simp only [lz,ls]
      refine till_ready (is:=[21]) (by kernel_rfl) (by simp) ?_
      refine Nexts.cons rfl (fun K hK => ?_) (Nexts.nil)
      have gx:=cell_of HX5.out (j:=1) rfl
      have gf:=frozen_of_row V5 g 1 _ _ HX5.out
      go_simp
      obtain ⟨V6,hV⟩ : ∃ U,U = V5.setCell ⟨g,1,none⟩ (.slice (some ⟨gb,0,none⟩) (j + 1) cb):=⟨_,rfl⟩
      rw [<- hV]
      obtain ⟨q1,q2⟩:=seti HX5.out 1 (.slice (some ⟨gb,0,none⟩) (j + 1) cb)
      rw [<- hV] at q1 q2
      have HX6 : Hid (V6.heap[g]? = some (.cells #[.slice (some ⟨ga,0,none⟩) (j + 1) ca,.slice (some ⟨gb,0,none⟩) (j + 1) cb,pv,yv] 40 (0,0))):=hJQ q2
      have HN6:=hJQ (own_wr HN5.out q1 HX5.out (by decide))
      have HD6:=hJQ (own_wr HD5.out q1 HX5.out (by decide))
      have HT6:=hJQ (HT5.out.set q1)
      clear gx gf hV q1 q2
      refine hK.out _ _ (till_off (by kernel_rfl)) ?_
      clear hK K
      try simp only [Act.put,lp,lz,ls]
      refine till_done (by kernel_rfl) ?_ _
      go_wp2_with fail
      go_meet
      case rel => exact ⟨rfl,_,_,_,_,HX6,HN6,HD6,HT6,HOA,HOB⟩
    ·go_simp
     obtain ⟨V1,hV⟩ : ∃ U,U = V0.alloc (.cells #[.pointer (some ⟨p,0,none⟩)] 50):=⟨_,rfl⟩
     obtain ⟨b2,eb⟩ : ∃ k,k = V0.heap.size:=⟨_,rfl⟩
     have hb : Below V0.heap.size V0 V1:=by rw [hV]; exact box_below _ _
     have HB1 : Hid (V1.heap[b2]? = some (.cells #[.pointer (some ⟨p,0,none⟩)] 50 (0,0))):=hJQ (by rw [hV,eb]; exact new_block _ _)
     rw [<- hV,<- eb]
     have HX1:=hJQ (blk_below HX0.out hb)
     have HN1:=hJQ (own_below HN0.out hb)
     have HD1:=hJQ (own_below HD0.out hb)
     have HT1:=hJQ (HT0.out.below hb)
     clear hV eb hb
     have hHeld2:=(show V1.cell? ⟨g,0,none⟩ = some nv /\ V1.cell? ⟨g,1,none⟩ = some dv from ⟨cell_of HX1.out (j:=0) rfl,cell_of HX1.out (j:=1) rfl⟩)
     refine hK.out _ _ (fun _ => hHeld2) ?_
     clear hK K hHeld
     have hHeld:=hHeld2
     clear hHeld2
     try simp only [Act.put,lp,lz,ls]
     refine till_ready (is:=[7]) (by kernel_rfl) (by simp) ?_
     refine Nexts.cons rfl (fun K hK => ?_) (Nexts.nil)
     go_simp
     obtain ⟨V2,hV⟩ : ∃ U,U = V1.alloc (.cells #[.pointer (some ⟨x,0,none⟩)] 34):=⟨_,rfl⟩
     obtain ⟨b1,eb⟩ : ∃ k,k = V1.heap.size:=⟨_,rfl⟩
     have hb : Below V1.heap.size V1 V2:=by rw [hV]; exact box_below _ _
     have HA2 : Hid (V2.heap[b1]? = some (.cells #[.pointer (some ⟨x,0,none⟩)] 34 (0,0))):=hJQ (by rw [hV,eb]; exact new_block _ _)
     rw [<- hV,<- eb]
     have HX2:=hJQ (blk_below HX1.out hb)
     have HN2:=hJQ (own_below HN1.out hb)
     have HD2:=hJQ (own_below HD1.out hb)
     have HT2:=hJQ (HT1.out.below hb)
     have HB2:=hJQ (blk_below HB1.out hb)
     clear hV eb hb
     have hHeld2:=(show V2.cell? ⟨g,0,none⟩ = some nv /\ V2.cell? ⟨g,1,none⟩ = some dv from ⟨cell_of HX2.out (j:=0) rfl,cell_of HX2.out (j:=1) rfl⟩)
     refine hK.out _ _ (fun _ => hHeld2) ?_
     clear hK K hHeld
     have hHeld:=hHeld2
     clear hHeld2
     try simp only [Act.put,lp,lz,ls]
     refine till_ready (is:=[8]) (by kernel_rfl) (by simp) ?_
     refine Nexts.cons rfl (fun K hK => ?_) (Nexts.nil)
     refine step_append_lies (w:=V2) (by rfl) _ _ 35 (by rfl) B 34 i1 _ 1 8 Tryz.underlying35 hi1 hz1 hs1 hy1 rfl (by decide) nv j (ptrs j X) (by rfl) HN2.out ⟨b1,0,none⟩ 1 1 [.pointer (some ⟨x,0,none⟩)] (by rfl) rfl (World.news_of_block HA2.out) (by intro u hu; simp at hu; subst hu; rfl) (by decide) (by unfold maxLen; omega) (by omega) (Nat.le_trans HBS.out HT2.out.size) V2.heap.size rfl ?_
     intro ga ca V3 hown hgrow hat _
     have HOA : Hid (∀ k,(Value.slice (some ⟨ga,0,none⟩) (j + 1) ca).ownBlock = some k -> (nv).ownBlock = some k ∨ w2.heap.size <= k):=hJQ (fun k e => by
      simp only [Value.ownBlock,Option.some.injEq] at e
      subst e
      exact hat.imp id (fun e2 => by rw [e2]; exact HT2.out.size))
     have HN3:=hJQ hown
     have HX3:=hJQ ((hgrow.block g (blk_lt HX2.out) (fun e => own_ne HN2.out HX2.out (by decide) e.symm)).trans HX2.out)
     have HD3:=hJQ (own_keep HD2.out hgrow (fun k e e2 => own_far HD2.out HN2.out (by decide) k e e2))
     have HT3:=hJQ (HT2.out.grow hgrow (fun k e _ => .inl e))
     have HB3:=hJQ ((hgrow.block b2 (blk_lt HB2.out) (fun e => own_ne HN2.out HB2.out (by decide) e.symm)).trans HB2.out)
     clear hown hgrow hat
     have hHeld2:=(show V3.cell? ⟨g,0,none⟩ = some nv /\ V3.cell? ⟨g,1,none⟩ = some dv from ⟨cell_of HX3.out (j:=0) rfl,cell_of HX3.out (j:=1) rfl⟩)
     refine hK.out _ _ (fun _ => hHeld2) ?_
     clear hK K hHeld
     have hHeld:=hHeld2
     clear hHeld2
     refine stages_put 38 rfl ?_
     simp only [lz,ls]
     refine till_ready (is:=[15]) (by kernel_rfl) (by simp) ?_
     refine Nexts.cons rfl (fun K hK => ?_) (Nexts.nil)
     refine step_append_lies (w:=V3) (by rfl) _ _ 36 (by rfl) B 50 i2 _ 1 8 Tryz.underlying36 hi2 hz2 hs2 hy2 rfl (by decide) dv j (ptrs j P) (by rfl) HD3.out ⟨b2,0,none⟩ 1 1 [.pointer (some ⟨p,0,none⟩)] (by rfl) rfl (World.news_of_block HB3.out) (by intro u hu; simp at hu; subst hu; rfl) (by decide) (by unfold maxLen; omega) (by omega) (Nat.le_trans HBS.out HT3.out.size) V3.heap.size rfl ?_
     intro gb cb V4 hown hgrow hat _
     have HOB : Hid (∀ k,(Value.slice (some ⟨gb,0,none⟩) (j + 1) cb).ownBlock = some k -> (dv).ownBlock = some k ∨ w2.heap.size <= k):=hJQ (fun k e => by
      simp only [Value.ownBlock,Option.some.injEq] at e
      subst e
      exact hat.imp id (fun e2 => by rw [e2]; exact HT3.out.size))
     have HD4:=hJQ hown
     have HX4:=hJQ ((hgrow.block g (blk_lt HX3.out) (fun e => own_ne HD3.out HX3.out (by decide) e.symm)).trans HX3.out)
     have HN4:=hJQ (own_keep HN3.out hgrow (fun k e e2 => own_far HN3.out HD3.out (by decide) k e e2))
     have HT4:=hJQ (HT3.out.grow hgrow (fun k e _ => .inr e))
     clear hown hgrow hat
     have hHeld2:=(show V4.cell? ⟨g,0,none⟩ = some nv /\ V4.cell? ⟨g,1,none⟩ = some dv from ⟨cell_of HX4.out (j:=0) rfl,cell_of HX4.out (j:=1) rfl⟩)
     refine hK.out _ _ (fun _ => hHeld2) ?_
     clear hK K hHeld
     have hHeld:=hHeld2
     clear hHeld2
     refine stages_put 45 rfl ?_
     refine ta 16 46 (.pointer (some ⟨g,0,none⟩)) (fun _ => hHeld) ?_
     refine ta 17 47 (.pointer (some ⟨g,0,none⟩)) (fun _ => hHeld) ?_
     simp only [lz,ls]
     refine till_ready (is:=[18]) (by kernel_rfl) (by simp) ?_
     refine Nexts.cons rfl (fun K hK => ?_) (Nexts.nil)
     have gx:=cell_of HX4.out (j:=0) rfl
     have gf:=frozen_of_row V4 g 0 _ _ HX4.out
     go_simp
     obtain ⟨V5,hV⟩ : ∃ U,U = V4.setCell ⟨g,0,none⟩ (.slice (some ⟨ga,0,none⟩) (j + 1) ca):=⟨_,rfl⟩
     rw [<- hV]
     obtain ⟨q1,q2⟩:=seti HX4.out 0 (.slice (some ⟨ga,0,none⟩) (j + 1) ca)
     rw [<- hV] at q1 q2
     have HX5 : Hid (V5.heap[g]? = some (.cells #[.slice (some ⟨ga,0,none⟩) (j + 1) ca,dv,pv,yv] 40 (0,0))):=hJQ q2
     have HN5:=hJQ (own_wr HN4.out q1 HX4.out (by decide))
     have HD5:=hJQ (own_wr HD4.out q1 HX4.out (by decide))
     have HT5:=hJQ (HT4.out.set q1)
     clear gx gf hV q1 q2
     refine hK.out _ _ (till_off (by kernel_rfl)) ?_
     clear hK K hHeld
     try simp only [Act.put,lp,lz,ls]
     refine ta 19 48 (.pointer (some ⟨g,0,none⟩)) (till_off (by kernel_rfl)) ?_
     refine ta 20 49 (.pointer (some ⟨g,1,none⟩)) (till_off (by kernel_rfl)) ?_
     simp only [lz,ls]
     refine till_ready (is:=[21]) (by kernel_rfl) (by simp) ?_
     refine Nexts.cons rfl (fun K hK => ?_) (Nexts.nil)
     have gx:=cell_of HX5.out (j:=1) rfl
     have gf:=frozen_of_row V5 g 1 _ _ HX5.out
     go_simp
     obtain ⟨V6,hV⟩ : ∃ U,U = V5.setCell ⟨g,1,none⟩ (.slice (some ⟨gb,0,none⟩) (j + 1) cb):=⟨_,rfl⟩
     rw [<- hV]
     obtain ⟨q1,q2⟩:=seti HX5.out 1 (.slice (some ⟨gb,0,none⟩) (j + 1) cb)
     rw [<- hV] at q1 q2
     have HX6 : Hid (V6.heap[g]? = some (.cells #[.slice (some ⟨ga,0,none⟩) (j + 1) ca,.slice (some ⟨gb,0,none⟩) (j + 1) cb,pv,yv] 40 (0,0))):=hJQ q2
     have HN6:=hJQ (own_wr HN5.out q1 HX5.out (by decide))
     have HD6:=hJQ (own_wr HD5.out q1 HX5.out (by decide))
     have HT6:=hJQ (HT5.out.set q1)
     clear gx gf hV q1 q2
     refine hK.out _ _ (till_off (by kernel_rfl)) ?_
     clear hK K
     try simp only [Act.put,lp,lz,ls]
     refine till_done (by kernel_rfl) ?_ _
     go_wp2_with fail
     go_meet
     case rel => exact ⟨rfl,_,_,_,_,HX6,HN6,HD6,HT6,HOA,HOB⟩
   case rest =>
    obtain ⟨rfl,ga,ca,gb,cb,HX6,HN6,HD6,HT6,HOA,HOB⟩:=hcut
    obtain ⟨hfr6,xs6,hpr6,hyr6,fp6,fy6,fg6,fn6,fd6,fb6⟩:=GM.two HG2.out HT6.out HOA.out HOB.out
    have HFR6:=hJQ hfr6
    have HPR:=hJQ hpr6
    have HYR:=hJQ hyr6
    have HFP:=hJQ fp6
    have HFY:=hJQ fy6
    have HFG:=hJQ fg6
    have HFN:=hJQ fn6
    have HFD:=hJQ fd6
    have HFB:=hJQ fb6
    have HBG:=hJQ HG2.out.base
    have HLE : Hid (B <= wc.heap.size):=hJQ (Nat.le_trans HBS.out HT6.out.size)
    obtain ⟨U0,hU0⟩ : ∃ U,U = wc.drew:=⟨_,rfl⟩
    have hbd : Below wc.heap.size wc U0:=by rw [hU0]; exact (Below.refl _ _).drew
    have HX0:=hJQ (blk_below HX6.out hbd)
    have HP0:=hJQ (own_below hpr6 hbd)
    have HU0 : Hid (Ch wc U0 g pv pv):=hJQ ⟨hbd.os,hbd.tape,hbd.output,hbd.size,fun k hk _ _ _ => hbd.block k hk⟩
    have HW0:=hJQ hU0
    have HJN:=hJQ (jnew_any (j : Int) (many : Int) U0)
    clear hfr6 hpr6 hyr6 fp6 fy6 fg6 fn6 fd6 fb6 hU0 hbd
    go_upto_region 12 with fail
    refine till_region (m:=12) (S:=fun V => V.cell? ⟨g,2,none⟩ = some pv) (by kernel_rfl) ?_
    rw [<- HW0.out]
    have hHeld : U0.cell? ⟨g,2,none⟩ = some pv:=cell_of HX0.out (j:=2) rfl
    refine ta 0 50 (.pointer (some ⟨g,0,none⟩)) (fun _ => hHeld) ?_
    refine ta 1 51 (.pointer (some ⟨g,0,none⟩)) (fun _ => hHeld) ?_
    refine ta 2 52 (.pointer (some ⟨g,0,none⟩)) (fun _ => hHeld) ?_
    refine ta 3 53 (.pointer (some ⟨g,2,none⟩)) (fun _ => hHeld) ?_
    simp only [lz,ls]
    refine till_take 4 54 (pv) rfl rfl (by kernel_rfl) (by kernel_rfl) (by kernel_rfl) (fun _ _ _ h => h) (by kernel_rfl) rfl (by kernel_rfl) (.inl ⟨by rfl,fun w' hw' => by obtain s0:=hw'; go_simp⟩) hHeld ?_
    refine ta 5 55 (.int .i64 (j : Int)) (fun _ => hHeld) ?_
    refine ta 6 56 (.int .i64 (many : Int)) (fun _ => hHeld) ?_
    simp only [lz,ls]
    refine till_ready (is:=[7]) (by kernel_rfl) (by simp) ?_
    refine Nexts.cons rfl (fun K hK => ?_) (Nexts.nil)
    go_simp
    refine HJN.out.mono ?_
    rintro e U1 ⟨rfl,hbj⟩
    have HX1:=hJQ (blk_below HX0.out hbj)
    have HP1:=hJQ (own_below HP0.out hbj)
    have HU1:=hJQ (HU0.out.below hbj)
    clear hbj
    have hHeld2:=(show U1.cell? ⟨g,2,none⟩ = some pv from cell_of HX1.out (j:=2) rfl)
    refine hK.out _ _ (fun _ => hHeld2) ?_
    clear hK K hHeld
    have hHeld:=hHeld2
    clear hHeld2
    try simp only [Act.put,lp,lz,ls]
    refine till_ready (is:=[8]) (by kernel_rfl) (by simp) ?_
    refine Nexts.cons rfl (fun K hK => ?_) (Nexts.nil)
    go_simp
    obtain ⟨U2,hV⟩ : ∃ U,U = U1.alloc (.cells #[.int .i64 (j : Int),.int .i64 (many : Int),.int .i64 0,.int .i64 0,.slice none 0 0,.int .i64 0,.int .i64 0,.slice none 0 0,.slice none 0 0,.int .i64 0,.slice none 0 0,.slice none 0 0] 54):=⟨_,rfl⟩
    obtain ⟨b3,eb⟩ : ∃ k,k = U1.heap.size:=⟨_,rfl⟩
    have hb : Below U1.heap.size U1 U2:=by rw [hV]; exact box_below _ _
    have HJ2 : Hid (U2.heap[b3]? = some (.cells #[.int .i64 (j : Int),.int .i64 (many : Int),.int .i64 0,.int .i64 0,.slice none 0 0,.int .i64 0,.int .i64 0,.slice none 0 0,.slice none 0 0,.int .i64 0,.slice none 0 0,.slice none 0 0] 54 (0,0))):=hJQ (by rw [hV,eb]; exact new_block _ _)
    rw [<- hV,<- eb]
    have HX2:=hJQ (blk_below HX1.out hb)
    have HP2:=hJQ (own_below HP1.out hb)
    have HU2:=hJQ (HU1.out.below hb)
    clear hV eb hb
    have hHeld2:=(show U2.cell? ⟨g,2,none⟩ = some pv from cell_of HX2.out (j:=2) rfl)
    refine hK.out _ _ (fun _ => hHeld2) ?_
    clear hK K hHeld
    have hHeld:=hHeld2
    clear hHeld2
    try simp only [Act.put,lp,lz,ls]
    refine till_ready (is:=[9]) (by kernel_rfl) (by simp) ?_
    refine Nexts.cons rfl (fun K hK => ?_) (Nexts.nil)
    refine step_append_lies (w:=U2) (by rfl) _ _ 37 (by rfl) B 54 i3 _ 12 176 Tryz.underlying37 hi3 hz3 hs3 hy3 rfl (by decide) pv j xs6 (by rfl) HP2.out ⟨b3,0,none⟩ 1 1 [.int .i64 (j : Int),.int .i64 (many : Int),.int .i64 0,.int .i64 0,.slice none 0 0,.int .i64 0,.int .i64 0,.slice none 0 0,.slice none 0 0,.int .i64 0,.slice none 0 0,.slice none 0 0] (by rfl) rfl (World.news_of_block HJ2.out) (by intro u hu; simp at hu; rcases hu with rfl | rfl | rfl | rfl | rfl | rfl | rfl | rfl | rfl | rfl | rfl | rfl <;> rfl) (by decide) (by unfold maxLen; omega) (by omega) (Nat.le_trans HLE.out HU2.out.size) U2.heap.size rfl ?_
    intro gp cp U3 hown hgrow hat _
    have HOP : Hid (∀ k,(Value.slice (some ⟨gp,0,none⟩) (j + 1) cp).ownBlock = some k -> pv.ownBlock = some k ∨ wc.heap.size <= k):=hJQ (fun k e => by
     simp only [Value.ownBlock,Option.some.injEq] at e
     subst e
     exact hat.imp id (fun e2 => by rw [e2]; exact HU2.out.size))
    have HP3:=hJQ hown
    have HX3:=hJQ ((hgrow.block g (blk_lt HX2.out) (fun e => own_ne HP2.out HX2.out (by decide) e.symm)).trans HX2.out)
    have HU3:=hJQ (HU2.out.grow hgrow (fun k e _ => .inl e))
    clear hown hgrow hat
    have hHeld2:=(show U3.cell? ⟨g,2,none⟩ = some pv from cell_of HX3.out (j:=2) rfl)
    refine hK.out _ _ (fun _ => hHeld2) ?_
    clear hK K hHeld
    have hHeld:=hHeld2
    clear hHeld2
    refine stages_put 59 rfl ?_
    refine ta 10 60 (.pointer (some ⟨g,0,none⟩)) (fun _ => hHeld) ?_
    refine ta 11 61 (.pointer (some ⟨g,2,none⟩)) (fun _ => hHeld) ?_
    simp only [lz,ls]
    refine till_ready (is:=[12]) (by kernel_rfl) (by simp) ?_
    refine Nexts.cons rfl (fun K hK => ?_) (Nexts.nil)
    have gx:=cell_of HX3.out (j:=2) rfl
    have gf:=frozen_of_row U3 g 2 _ _ HX3.out
    go_simp
    obtain ⟨U4,hV⟩ : ∃ U,U = U3.setCell ⟨g,2,none⟩ (.slice (some ⟨gp,0,none⟩) (j + 1) cp):=⟨_,rfl⟩
    rw [<- hV]
    obtain ⟨q1,q2⟩:=seti HX3.out 2 (.slice (some ⟨gp,0,none⟩) (j + 1) cp)
    rw [<- hV] at q1 q2
    have HP4:=hJQ (own_wr HP3.out q1 HX3.out (by decide))
    have HU4:=hJQ (HU3.out.set q1)
    have HX4 : Hid (U4.heap[g]? = some (.cells #[.slice (some ⟨ga,0,none⟩) (j + 1) ca,.slice (some ⟨gb,0,none⟩) (j + 1) cb,.slice (some ⟨gp,0,none⟩) (j + 1) cp,yv] 40 (0,0))):=hJQ q2
    clear gx gf hV q1 q2
    refine hK.out _ _ (till_off (by kernel_rfl)) ?_
    clear hK K hHeld
    try simp only [Act.put,lp,lz,ls]
    refine till_done (by kernel_rfl) ?_ _
    have HFIN : Hid (∃ F X P nv dv pv yv,GM U4 F B g (j + 1) X P [] nv dv pv yv /\ ∀ i,i < j + 1 -> NodeL U4 F many i (X i) (P i) (nd0 many i)):=hJQ (by
     obtain ⟨k1,k2⟩:=GM.three HX6.out HBG.out (by rw [ptrs_put]; exact HN6.out) (by rw [ptrs_put]; exact HD6.out) HPR.out HYR.out HFP.out HFY.out HFG.out HFN.out HFD.out HFB.out HLE.out HU4.out HX4.out HP4.out HOP.out
     exact ⟨_,_,_,_,_,_,_,k2,fun i hi => ((HND.out i hi).other HFR6.out (by omega)).other k1 (by omega)⟩)
    have HBF : Hid (Below B w U4):=hJQ (HBR2.out.trans ⟨HU4.out.os.trans HFR6.out.os,HU4.out.tape.trans HFR6.out.tape,HU4.out.output.trans HFR6.out.output,Nat.le_trans HFR6.out.size HU4.out.size,fun k hk => by
     have hk2:=Nat.lt_of_lt_of_le hk HBS.out
     have hkg : k ≠ g:=fun e => by have:=HBG.out; omega
     rw [HU4.out.kept k (Nat.lt_of_lt_of_le hk2 HFR6.out.size) hkg (fun e => by have:=(HPR.out.lt k e).1; omega) (fun e => by have:=(HPR.out.lt k e).1; omega)]
     exact HT6.out.kept k hk2 hkg (fun e => by have:=(HG2.out.nrow.lt k e).1; omega) (fun e => by have:=(HG2.out.drow.lt k e).1; omega)⟩)
    go_wp2_with fail
    go_roundw
    case rel => exact ⟨j + 1,hlt,by go_num,HBF,HFIN⟩
    case measure => simp [intOf]; omega
  ·obtain rfl : j = many:=by omega
   have hki : ¬ (j : Int) < (j : Int):=by omega
   go_wp2_with fail
   go_ret
   obtain ⟨F,X,P,nv,dv,pv,yv,hgm,hnl⟩:=HGR.out
   exact ⟨g,rfl,HBR.out,F,X,P,⟨⟨nv,dv,pv,yv,hgm⟩,hnl⟩⟩
open Go.ChangeShapes Go.WideShapes Go.ChangeAt Go.RowKit Go.Proofs.Rk
open Pq (Fld FReads errL bytL fcs)
open Gq (Bz Mine PL PDisk Kp Kl Lg Dk)

/-! ### The plain group,reckoned -/
def takeK (n : Nd) (f t : Nat) (m : Ms) : Nd:=if t = n.self /\ f ≠ n.self /\ f < n.many then n.takeM f m else n
theorem take_eq (n : Nd) (f t : Nat) {m : Ms} (h : MsOk m) : n.take f t (enM m) = takeK n f t m:=by
 unfold Nd.take takeK
 rw [de_en h]
 simp only
 by_cases h1 : t = n.self /\ f ≠ n.self /\ f < n.many
 ·rw [if_pos h1,if_pos ⟨by omega,by omega,by omega,by omega⟩]
  simp
 ·rw [if_neg h1,if_neg (fun h2 => h1 ⟨by omega,by omega,by omega⟩)]
def flowK : Nat -> (Nat -> Nd) -> List Wy -> (Nat -> Nd) × List Wy
 | 0,N,Y => (N,Y)
 | _ + 1,N,[] => (N,[])
 | k + 1,N,y :: Y => flowK k (upd N y.2.1 { takeK (N y.2.1) y.1 y.2.1 y.2.2 with out:=[] }) (gathW Y y.2.1 (takeK (N y.2.1) y.1 y.2.1 y.2.2).out)
def NOk (many : Nat) (N : Nat -> Nd) : Prop:=∀ i,i < many -> NdOk (N i) /\ (N i).self = i /\ (N i).many = many
theorem upd_upd (N : Nat -> Nd) (i : Nat) (a b : Nd) : upd (upd N i a) i b = upd N i b:=by
 funext k; unfold upd; split <;> rfl
theorem NdOk.out {n : Nd} (h : NdOk n) (o : List (Nat × Ms)) : NdOk { n with out:=o }:=by
 obtain ⟨a,b,c,d,e,f⟩:=h
 exact ⟨a,b,c,d,e,f⟩
theorem NOk.upd {many : Nat} {N : Nat -> Nd} (h : NOk many N) {i : Nat} {n : Nd} (h1 : NdOk n) (h2 : n.self = (N i).self) (h3 : n.many = (N i).many) : NOk many (upd N i n):=fun j hj => by
 unfold Go.Proofs.YtlppinfjdnhlbaaGreatDoor.upd
 by_cases e : j = i
 ·subst e; rw [if_pos rfl]; exact ⟨h1,h2.trans (h j hj).2.1,h3.trans (h j hj).2.2⟩
 ·rw [if_neg e]; exact h j hj
theorem flow_eq {many : Nat} (hm : many <= 7) : ∀ (k : Nat) (N : Nat -> Nd) (Y : List Wy),GOk many N Y -> NOk many N -> flowS k N Y = flowK k N Y /\ GOk many (flowK k N Y).1 (flowK k N Y).2 /\ NOk many (flowK k N Y).1
 | 0,N,Y,h,hn => ⟨rfl,h,hn⟩
 | k + 1,N,[],h,hn => ⟨rfl,h,hn⟩
 | k + 1,N,y :: Y,h,hn => by
  obtain ⟨hms,hf,ht⟩:=h.ms y (by simp)
  obtain ⟨h1,h2,h3⟩:=hn _ ht
  have he:=take_eq (N y.2.1) y.1 y.2.1 hms
  have ho : GOk many N Y:=⟨h.out,by have:=h.len; simp at this; omega,fun z hz => h.ms z (by simp [hz])⟩
  have hid:=take_id (N y.2.1) y.1 y.2.1 (enM y.2.2)
  have hlen : ((N y.2.1).take y.1 y.2.1 (enM y.2.2)).out.length <= 1000:=by
   have:=take_len (n:=N y.2.1) (f:=y.1) (t:=y.2.1) (b:=enM y.2.2)
   rw [h.out _ ht,h3] at this
   simp at this
   omega
  have hp:=ho.call (i:=y.2.1) (take_out (fun o ho => by rw [h.out _ ht] at ho; cases ho) h1 y.1 y.2.1 (enM y.2.2)) (hid.2.trans h3) hlen
  have hg:=hp.gather ht
  rw [upd_self,upd_upd] at hg
  have hk:=take_ok h1 y.1 y.2.1 (enM y.2.2)
  have hN:=hn.upd (i:=y.2.1) (hk.out []) hid.1 hid.2
  show flowS k (oneW N y Y).1 (oneW N y Y).2 = _ /\ _
  unfold oneW
  rw [upd_upd]
  simp only
  rw [he] at hg hN ⊢
  exact flow_eq hm k _ _ hg hN
def al0 : Nat -> Nd:=nd0 3
def al1 : Nat -> Nd:=upd al0 1 ((al0 1).lead 1)
def al2 : (Nat -> Nd) × List Wy:=flowK 3000 (upd al1 1 { al1 1 with out:=[] }) (gathW [] 1 (al1 1).out)
def al3 : Nat -> Nd:=upd al2.1 1 ((al2.1 1).offer ⟨#[97]⟩)
def al4 : (Nat -> Nd) × List Wy:=flowK 3000 (upd al3 1 { al3 1 with out:=[] }) (gathW al2.2 1 (al3 1).out)
theorem al_lead : (al0 1).leadOk 1:=by decide +kernel
theorem al_offer : (al2.1 1).offerOk ⟨#[97]⟩ = true:=by decide +kernel
theorem al_end : (al4.1 1).rg.isSome = true /\ (al4.1 1).com = 1 /\ (al4.1 0).com = 1 /\ (al4.1 2).log.length = 1:=by decide +kernel
theorem al0_ok : GOk 3 al0 [] /\ NOk 3 al0:=⟨⟨fun _ _ => rfl,by simp,by simp⟩,fun i hi => ⟨new_ok hi (by decide),rfl,rfl⟩⟩
theorem al1_ok : GPre 3 1 al1 [] /\ NOk 3 al1:=by
 obtain ⟨h1,h2⟩:=al0_ok
 obtain ⟨k1,k2,k3⟩:=h2 1 (by decide)
 have hl:=lead_len (n:=al0 1) (v:=1)
 rw [k3,h1.out 1 (by decide)] at hl
 simp at hl
 exact ⟨h1.call (lead_out (fun o ho => by rw [h1.out 1 (by decide)] at ho; cases ho) k1 1) ((lead_id _ _).2.trans k3) (by omega),h2.upd (lead_ok k1 1) (lead_id _ _).1 (lead_id _ _).2⟩
theorem al2_ok : flowS 3000 (upd al1 1 { al1 1 with out:=[] }) (gathW [] 1 (al1 1).out) = al2 /\ GOk 3 al2.1 al2.2 /\ NOk 3 al2.1:=by
 obtain ⟨h1,h2⟩:=al1_ok
 exact flow_eq (by decide) _ _ _ (h1.gather (by decide)) (h2.upd ((h2 1 (by decide)).1.out []) rfl rfl)
theorem al3_ok : GPre 3 1 al3 al2.2 /\ NOk 3 al3:=by
 obtain ⟨_,h1,h2⟩:=al2_ok
 obtain ⟨k1,k2,k3⟩:=h2 1 (by decide)
 have hl:=offer_len (n:=al2.1 1) (b:=⟨#[97]⟩)
 rw [k3,h1.out 1 (by decide)] at hl
 simp at hl
 exact ⟨h1.call (offer_out (fun o ho => by rw [h1.out 1 (by decide)] at ho; cases ho) k1 _) ((offer_id _ _).2.trans k3) (by omega),h2.upd (offer_ok k1 _) (offer_id _ _).1 (offer_id _ _).2⟩
theorem al4_ok : flowS 3000 (upd al3 1 { al3 1 with out:=[] }) (gathW al2.2 1 (al3 1).out) = al4 /\ GOk 3 al4.1 al4.2 /\ NOk 3 al4.1:=by
 obtain ⟨h1,h2⟩:=al3_ok
 exact flow_eq (by decide) _ _ _ (h1.gather (by decide)) (h2.upd ((h2 1 (by decide)).1.out []) rfl rfl)
/-! ### The program's -/
theorem GrW.three {w : World} {F : Nat -> Nat} {B g : Nat} {X P : Nat -> Nat} {N : Nat -> Nd} {Y : List Wy} (h : GrW w F B g 3 X P N Y) : ∃ nb c,w.cell? ⟨g,0,none⟩ = some (.slice (some ⟨nb,0,none⟩) 3 c) /\ w.cell? ⟨nb,0,none⟩ = some (.pointer (some ⟨X 0,0,none⟩)) /\ w.cell? ⟨nb,1,none⟩ = some (.pointer (some ⟨X 1,0,none⟩)) /\ w.cell? ⟨nb,2,none⟩ = some (.pointer (some ⟨X 2,0,none⟩)):=by
 obtain ⟨nv,dv,pv,yv,hm⟩:=h.mem
 obtain ⟨nb,c,e,h0⟩:=hm.member (i:=0) (by decide)
 have h4:=hm.nrow
 rw [e] at h4
 refine ⟨nb,c,?_,h0,own_cell h4 1 _ (ptrs_get (by decide)),own_cell h4 2 _ (ptrs_get (by decide))⟩
 rw [<- e]
 exact cell_of hm.here (j:=0) rfl
set_option maxHeartbeats 16000000 in
theorem alive_any (w : World) : Calls Tryz.prog 11 #[] w fun e w' => e = .returned (.bool true) /\ Below w.heap.size w w':=by
 have HBE : Hid (Calls Tryz.prog 12 #[.int .i64 3] w fun e w' => ∃ g F X P,e = .returned (.pointer (some ⟨g,0,none⟩)) /\ Below w.heap.size w w' /\ GrW w' F w.heap.size g 3 X P al0 []):=hJQ (begun_any (w:=w) (many:=3) (by decide))
 obtain ⟨B,hB⟩ : ∃ k,w.heap.size = k:=⟨_,rfl⟩
 rw [hB] at HBE ⊢
 clear hB
 go_enter Tryz.func11,Tryz.ntmps11
 go_wp2_with fail
 refine HBE.out.mono ?_
 rintro e w1 ⟨g,F1,X,P,rfl,hb1,hg1⟩
 have HB1:=hJQ hb1
 have HG1:=hJQ hg1
 obtain ⟨nb,c,c0,c1,c2,c3⟩:=hg1.three
 have HLE : Hid (Calls Tryz.prog 41 #[.pointer (some ⟨X 1,0,none⟩),.int .i64 1] w1 fun e w' => e = .returned (.bool true) /\ Fr (1 + 1) F1 w1 w' /\ NodeL w' (bump w1 F1 (1 + 1)) 3 1 (X 1) (P 1) ((al0 1).lead 1)):=hJQ (by
  have h:=lead_live (hg1.nds 1 (by decide)) (by show (0 : Nat) <= 600000; decide) 1
  rw [decide_eq_true al_lead] at h
  exact h)
 obtain ⟨x0,hx0⟩ : ∃ k,X 0 = k:=⟨_,rfl⟩
 obtain ⟨x1,hx1⟩ : ∃ k,X 1 = k:=⟨_,rfl⟩
 obtain ⟨x2,hx2⟩ : ∃ k,X 2 = k:=⟨_,rfl⟩
 rw [hx0] at c1
 rw [hx1] at c2 HLE
 rw [hx2] at c3
 have HX0:=hJQ hx0
 have HX1:=hJQ hx1
 have HX2:=hJQ hx2
 clear hb1 hg1 HBE hx0 hx1 hx2 c1 c3
 go_wp2_with fail
 refine HLE.out.mono ?_
 rintro e w2 ⟨rfl,hfr,hn⟩
 have hg2:=HG1.out.node hfr (by rw [HX1.out]; exact hn)
 have HB2:=hJQ (HB1.out.trans (HG1.out.out_below hfr))
 have HFL : Hid (Calls Tryz.prog 42 #[.pointer (some ⟨g,0,none⟩),.int .i64 1] w2 fun e w' => e = .returned (.tuple #[]) /\ Below B w2 w' /\ ∃ F',GrW w' F' B g 3 X P al2.1 al2.2):=hJQ (by
  refine (flow_any hg2 (i:=1) (by decide) (by decide) al1_ok.1).mono ?_
  rintro e w' ⟨h1,h2,F',h3,_⟩
  refine ⟨h1,h2,F',?_⟩
  have e2:=al2_ok.1
  rw [<- e2]
  exact h3)
 clear hfr hn hg2 c0 c2 HLE
 go_wp2_with fail
 refine HFL.out.mono ?_
 rintro e w3 ⟨rfl,hb3,F3,hg3⟩
 have HB3:=hJQ (HB2.out.trans hb3)
 have HG3:=hJQ hg3
 obtain ⟨nb3,cc3,c0,c1,c2,c3⟩:=hg3.three
 have HOF : Hid (Calls Tryz.prog 15 #[.pointer (some ⟨x1,0,none⟩),.string ⟨#[97]⟩] w3 fun e w' => e = .returned (.bool true) /\ Fr (1 + 1) F3 w3 w' /\ NodeL w' (bump w3 F3 (1 + 1)) 3 1 (X 1) (P 1) ((al2.1 1).offer ⟨#[97]⟩)):=hJQ (by
  have h:=offer_live (hg3.nds 1 (by decide)) (by rw [al2_ok.2.1.out 1 (by decide)]; decide) ⟨#[97]⟩
  rw [al_offer,HX1.out] at h
  rw [HX1.out]
  exact h)
 rw [HX1.out] at c2
 clear hb3 hg3 HFL c1 c3
 go_wp2_with fail
 refine HOF.out.mono ?_
 rintro e w4 ⟨rfl,hfr,hn⟩
 have hg4:=HG3.out.node hfr hn
 have HB4:=hJQ (HB3.out.trans (HG3.out.out_below hfr))
 have HFL : Hid (Calls Tryz.prog 42 #[.pointer (some ⟨g,0,none⟩),.int .i64 1] w4 fun e w' => e = .returned (.tuple #[]) /\ Below B w4 w' /\ ∃ F',GrW w' F' B g 3 X P al4.1 al4.2):=hJQ (by
  refine (flow_any hg4 (i:=1) (by decide) (by decide) al3_ok.1).mono ?_
  rintro e w' ⟨h1,h2,F',h3,_⟩
  refine ⟨h1,h2,F',?_⟩
  have e2:=al4_ok.1
  rw [<- e2]
  exact h3)
 clear hfr hn hg4 c0 c2 HOF
 go_wp2_with fail
 refine HFL.out.mono ?_
 rintro e w5 ⟨rfl,hb5,F5,hg5⟩
 have HB5:=hJQ (HB4.out.trans hb5)
 obtain ⟨nb5,cc5,c0,c1,c2,c3⟩:=hg5.three
 obtain ⟨q1,q2,q3,q4⟩:=al_end
 have HLS : Hid (Calls Tryz.prog 17 #[.pointer (some ⟨x1,0,none⟩)] w5 fun e w' => e = .returned (.bool true) /\ w5 = w'):=hJQ (by
  have h:=leads_live (hg5.nds 1 (by decide))
  rw [q1,HX1.out] at h
  exact h)
 have HC1 : Hid (Calls Tryz.prog 38 #[.pointer (some ⟨x1,0,none⟩)] w5 fun e w' => e = .returned (.int .i64 1) /\ w5 = w'):=hJQ (by
  have h:=commit_live (hg5.nds 1 (by decide))
  rw [q2,HX1.out] at h
  exact h)
 have HC0 : Hid (Calls Tryz.prog 38 #[.pointer (some ⟨x0,0,none⟩)] w5 fun e w' => e = .returned (.int .i64 1) /\ w5 = w'):=hJQ (by
  have h:=commit_live (hg5.nds 0 (by decide))
  rw [q3,HX0.out] at h
  exact h)
 have HLG : Hid (Calls Tryz.prog 16 #[.pointer (some ⟨x2,0,none⟩)] w5 fun e w' => ∃ v,e = .returned v /\ (∃ A c,v = .slice A 1 c) /\ Below w5.heap.size w5 w'):=hJQ (by
  have h:=log_live (hg5.nds 2 (by decide))
  rw [q4,HX2.out] at h
  refine h.mono ?_
  rintro e w' ⟨v,rfl,h2,h3⟩
  obtain ⟨A,c,e,_⟩:=own_form h2
  exact ⟨v,rfl,⟨A,c,e⟩,h3⟩)
 rw [HX0.out] at c1
 rw [HX1.out] at c2
 rw [HX2.out] at c3
 have HBL : Hid (B <= w5.heap.size):=hJQ hg5.bound
 clear hb5 hg5 HFL q1 q2 q3 q4
 go_wp2_with fail
 refine HLS.out.mono ?_
 rintro e w6 ⟨rfl,rfl⟩
 go_wp2_with fail
 refine HC1.out.mono ?_
 rintro e w6 ⟨rfl,rfl⟩
 go_wp2_with fail
 refine HC0.out.mono ?_
 rintro e w6 ⟨rfl,rfl⟩
 go_wp2_with fail
 refine HLG.out.mono ?_
 rintro e w6 ⟨v,rfl,⟨A,c,rfl⟩,hb6⟩
 have HB6:=hJQ (HB5.out.trans (hb6.mono HBL.out))
 clear hb6
 go_wp2_with fail
 go_ret
 exact ⟨rfl,HB6.out⟩
end Go.Proofs.YtlppinfjdnhlbaaGreatDoor
namespace Go.Proofs.YtlppinfjdnhlbaaGreatDoor.Gq
set_option maxRecDepth 100000
open Go.ChangeShapes Go.WideShapes Go.ChangeAt Go.RowKit Go.Proofs.Rk

structure Opr where
 k : Int
 n : Int
 t : Int
 b : List Int
def op0 : Opr:=⟨0,0,0,[]⟩
def PReads (w : World) (B : Nat) (ad : Option Addr) (len : Nat) (os : List Opr) : Prop :=
 os.length = len /\ (0 < len -> ∃ b off,ad = some ⟨b,off,none⟩ /\ b < B /\ ∀ i,i < len ->
  w.cell? ⟨b,off + i * 4,none⟩ = some (.int .i64 (os.getD i op0).k) /\ w.cell? ⟨b,off + i * 4 + 1,none⟩ = some (.int .i64 (os.getD i op0).n) /\ w.cell? ⟨b,off + i * 4 + 2,none⟩ = some (.int .i64 (os.getD i op0).t) /\
  (∃ A l c,w.cell? ⟨b,off + i * 4 + 3,none⟩ = some (.slice A l c) /\ Reads w A l (os.getD i op0).b /\ Under B A l) /\ (os.getD i op0).n <= 9223372036854775807)
theorem PReads.kept {w w' : World} {B : Nat} {ad : Option Addr} {len : Nat} {os : List Opr} (h : PReads w B ad len os) (hb : Below B w w') : PReads w' B ad len os:=by
 refine ⟨h.1,fun hl => ?_⟩
 obtain ⟨b,off,e,hlt,hc⟩:=h.2 hl
 refine ⟨b,off,e,hlt,fun i hi => ?_⟩
 obtain ⟨h0,h1,h2,⟨A,l,c,h3,h4,h5⟩,h6⟩:=hc i hi
 have k : ∀ o u,w.cell? ⟨b,o,none⟩ = some u -> w'.cell? ⟨b,o,none⟩ = some u:=fun o u hx => (hb.cell (p:=⟨b,o,none⟩) hlt).trans hx
 exact ⟨k _ _ h0,k _ _ h1,k _ _ h2,⟨A,l,c,k _ _ h3,h4.keptAt h5 hb,h5⟩,h6⟩

structure Lives (n k : Nat) (D : Dk) : Prop where
 dead : D.dead = false
 arm : D.armed = 0
 len : D.firm.length = n
 wait : D.wait.length <= k
theorem lives_new (n : Nat) : Lives n 0 (newD n):=⟨rfl,rfl,newD_len n,Nat.zero_le _⟩
theorem lives_write {n k : Nat} {D : Dk} (h : Lives n k D) (x : Int) (b : List Int) : Lives n (k + 1) (doD D 0 x 0 b).1:=by
 have h1:=do_len D 0 x 0 b
 have h2:=do_wait D 0 x 0 b
 have h3:=h.len
 have h4:=h.wait
 refine ⟨?_,?_,by omega,by omega⟩
 all_goals
  unfold doD
  rw [if_neg (by decide),if_neg (by decide),if_neg (by decide),if_neg (by simp [h.dead]),if_neg (by decide)]
  split
  ·first | exact h.dead | exact h.arm
  ·have ha : (putD D x.toNat b).armed = 0:=h.arm
   rw [if_neg (by decide)]
   have e : dies (putD D x.toNat b) = putD D x.toNat b:=by unfold dies; rw [if_neg (by rw [ha]; decide)]
   simp only [e]
   first | exact h.dead | exact h.arm
theorem Lives.more {n k k' : Nat} {D : Dk} (h : Lives n k D) (hk : k <= k') : Lives n k' D:=⟨h.dead,h.arm,h.len,Nat.le_trans h.wait hk⟩
end Go.Proofs.YtlppinfjdnhlbaaGreatDoor.Gq
namespace Go.Proofs.YtlppinfjdnhlbaaGreatDoor
set_option maxRecDepth 100000
open Go.ChangeShapes Go.WideShapes Go.ChangeAt Go.RowKit Go.Proofs.Rk
open Pq (Fld FReads errL bytL fcs)
open Gq (Bz Mine PL PDisk Kp Kl Lg Dk Opr op0 PReads Lives lives_new lives_write)

set_option maxHeartbeats 16000000 in
theorem opens_no (A : Option Addr) (n c : Nat) (l : List Opr) (sf mn : Int) (w : World) (hR : PReads w w.heap.size A n l) (hn : n <= 100) (hno : ¬ (isG mn = true /\ 0 <= sf /\ sf < mn)) :
  Calls Tryz.prog 7 #[.slice A n c,.int .i64 sf,.int .i64 mn] w fun e w' => e = .returned (.bool true) /\ Below w.heap.size w w':=by
 have HR:=hJQ hR
 have HN1:=hJQ (Gq.new_any 1100 1100 w (by decide) (.inr rfl))
 have hn1 : ¬ (100 : Int) < (n : Int):=by omega
 clear hR
 have HNO:=hJQ hno
 have HQ : Hid (∀ w : World,Calls Tryz.prog 35 #[.int .i64 mn] w fun e w' => e = .returned (.int .i64 (quo mn)) /\ w = w'):=hJQ (fun w => rquorum_any mn w)
 obtain ⟨qq,hqq⟩ : ∃ k,quo mn = k:=⟨_,rfl⟩
 rw [hqq] at HQ
 have hcase : ¬ (0 : Int) < qq ∨ ((0 : Int) < qq /\ sf < 0) ∨ ((0 : Int) < qq /\ ¬ sf < 0 /\ ¬ sf < mn):=by
  by_cases h1 : (0 : Int) < qq
  ·by_cases h2 : sf < 0
   ·exact .inr (.inl ⟨h1,h2⟩)
   ·refine .inr (.inr ⟨h1,h2,fun h3 => hno ⟨?_,by omega,h3⟩⟩)
    cases hg : isG mn with
    | true => rfl
    | false =>
     rw [<- hqq] at h1
     unfold quo at h1
     rw [hg] at h1
     simp at h1
  ·exact .inl h1
 clear hno hqq
 go_enter Tryz.func7,Tryz.ntmps7
 go_wp2_with fail
 refine HN1.out.mono ?_
 rintro e w1 ⟨p,rfl,hp1,hb1⟩
 have HN2:=hJQ (Gq.new_any 1099 1099 w1 (by decide) (.inr rfl))
 have HP1:=hJQ hp1
 have HB1:=hJQ hb1
 clear hp1 hb1
 go_wp2_with fail
 refine HN2.out.mono ?_
 rintro e w2 ⟨p2,rfl,hp2,hb2⟩
 have HP2:=hJQ (HP1.out.kept hb2)
 have HB2:=hJQ (HB1.out.trans (hb2.mono HB1.out.size))
 have HON:=hJQ (open_no (hp2.mono (Nat.zero_le _) rfl : PDisk w2 ⟨0,fun k => k < w1.heap.size⟩ p2 (Gq.newD 1099)) rfl (sf:=0) (mn:=1) (fun h => absurd h.2.2.2 (by rw [Gq.newD_len]; decide)) (by rw [Gq.newD_len]; decide))
 clear hp2 hb2
 go_wp2_with fail
 refine HON.out.mono ?_
 rintro e w2' ⟨rfl,rfl⟩
 have HO2:=hJQ (open_no (HP2.out.mono (Nat.zero_le _) rfl : PDisk w2 ⟨0,fun k => k < w.heap.size⟩ p (Gq.newD 1100)) rfl (sf:=sf) (mn:=mn) (fun h => HNO.out ⟨h.1,h.2.1,h.2.2.1⟩) (by rw [Gq.newD_len]; decide))
 go_wp2_with fail
 refine HO2.out.mono ?_
 rintro e w2' ⟨rfl,rfl⟩
 go_wp2_with fail
 refine (HQ.out w2).mono ?_
 rintro e w2' ⟨rfl,rfl⟩
 have HP4:=HP2
 have HK4 : Hid (Kp (Bz.new w) w w2):=hJQ (Kp.of_below HB2.out (Nat.le_refl _))
 rcases hcase with h1 | ⟨h1,h2⟩ | ⟨h1,h2,h3⟩
 ·go_wp2_with fail
  go_loopw [82] (fun vk wr => ∃ (k : Nat) (D : Dk),k <= n /\ vk = .int .i64 k /\ Lives 1100 k D /\ PDisk wr (Bz.new w) p D /\ Kp (Bz.new w) w wr) (fun vk _ => n - (intOf vk).toNat)
  case atStart => exact ⟨0,_,Nat.zero_le _,rfl,lives_new 1100,HP4.out,HK4.out⟩
  case round =>
   obtain ⟨k,D,hk,rfl,hli,hpd,hkl⟩:=hrel
   have HLI:=hJQ hli
   have HPD:=hJQ hpd
   have HKL:=hJQ hkl
   clear hli hpd hkl
   by_cases hlt : k < n
   ·obtain ⟨b,off,rfl,hbw,hc⟩:=(HR.out.kept HKL.out.below).2 (by omega)
    obtain ⟨h0,h1,h2,⟨A4,l4,c4,h3,hr4,hu4⟩,-⟩:=hc k hlt
    obtain ⟨o,ho⟩ : ∃ o,o = l.getD k op0:=⟨_,rfl⟩
    rw [<- ho] at h0 h1 h2 hr4
    obtain ⟨bo,hbo'⟩ : ∃ bo,bo = wr.heap.size:=⟨_,rfl⟩
    obtain ⟨wo,hwo⟩ : ∃ wo,wo = wr.alloc (.cells #[.int .i64 o.k,.int .i64 o.n,.int .i64 o.t,.slice A4 l4 c4] 84):=⟨_,rfl⟩
    have hbo : Below wr.heap.size wr wo:=by rw [hwo]; exact box_below wr _
    have hbo2 : wo.heap[bo]? = some (.cells #[.int .i64 o.k,.int .i64 o.n,.int .i64 o.t,.slice A4 l4 c4] 84 (0,0)):=by rw [hwo,hbo']; exact new_block wr _
    have HBO2:=hJQ hbo2
    have HPO:=hJQ (HPD.out.kept hbo)
    have HKO:=hJQ (HKL.out.trans (Kp.of_below hbo HKL.out.below.size))
    have HWR:=hJQ (Gq.write_any (Bz.new w) p D o.n A4 l4 c4 o.b wo HPO.out (fun w' hk' => (hr4.kept hbo).keptAt hu4 hk'.below) (by have:=HLI.out.wait; omega))
    have HLN:=hJQ (lives_write HLI.out o.n o.b)
    have HWO:=hJQ hwo
    have HBE:=hJQ hbo'
    have hk0 : (0 : Int) <= (k : Int):=by omega
    have hk1 : (k : Int) < (n : Int):=by omega
    clear hc ho hbo' hwo hbo hbo2 hr4 hu4 hbw
    go_upto_region 13 with fail
    rw [<- HWO.out,<- HBE.out]
    have o0:=cell_of HBO2.out (j:=0) rfl
    have o1:=cell_of HBO2.out (j:=1) rfl
    have o3:=cell_of HBO2.out (j:=3) rfl
    by_cases hk00 : o.k = 0
    ·go_wp2_with fail
     refine HWR.out.mono ?_
     rintro e w5 ⟨rfl,hp5,hk5⟩
     have HP5:=hJQ hp5
     have HK5:=hJQ (HKO.out.trans hk5)
     clear hp5 hk5 o0 o1 o3 h0 h1 h2 h3
     go_wp2_with fail
     go_roundw
     case rel => exact ⟨k + 1,_,by omega,by go_num,HLN.out,HP5.out,HK5.out⟩
     case measure => simp [intOf]; omega
    ·have hb0 : (o.k == 0) = false:=by simpa using hk00
     clear h0 h1 h2 h3
     go_wp2_with fail
     go_roundw
     case rel => exact ⟨k + 1,D,by omega,by go_num,HLI.out.more (by omega),HPO.out,HKO.out⟩
     case measure => simp [intOf]; omega
   ·obtain rfl : k = n:=by omega
    have hk1 : ¬ (k : Int) < (k : Int):=by omega
    have HO3:=hJQ (open_no (HPD.out.mono (Nat.zero_le _) rfl : PDisk wr ⟨0,fun k => k < w.heap.size⟩ p D) HLI.out.dead (sf:=sf) (mn:=mn) (fun h => HNO.out ⟨h.1,h.2.1,h.2.2.1⟩) (by rw [HLI.out.len]; decide))
    go_wp2_with fail
    refine HO3.out.mono ?_
    rintro e wr' ⟨rfl,rfl⟩
    go_wp2_with fail
    refine (alive_any wr).mono ?_
    rintro e w3 ⟨rfl,hb3⟩
    have HB3:=hJQ (HKL.out.below.trans (hb3.mono HKL.out.below.size))
    clear hb3
    go_wp2_with fail
    go_ret
    exact ⟨rfl,HB3.out⟩
 ·go_wp2_with fail
  go_loopw [82] (fun vk wr => ∃ (k : Nat) (D : Dk),k <= n /\ vk = .int .i64 k /\ Lives 1100 k D /\ PDisk wr (Bz.new w) p D /\ Kp (Bz.new w) w wr) (fun vk _ => n - (intOf vk).toNat)
  case atStart => exact ⟨0,_,Nat.zero_le _,rfl,lives_new 1100,HP4.out,HK4.out⟩
  case round =>
   obtain ⟨k,D,hk,rfl,hli,hpd,hkl⟩:=hrel
   have HLI:=hJQ hli
   have HPD:=hJQ hpd
   have HKL:=hJQ hkl
   clear hli hpd hkl
   by_cases hlt : k < n
   ·obtain ⟨b,off,rfl,hbw,hc⟩:=(HR.out.kept HKL.out.below).2 (by omega)
    obtain ⟨h0,h1,h2,⟨A4,l4,c4,h3,hr4,hu4⟩,-⟩:=hc k hlt
    obtain ⟨o,ho⟩ : ∃ o,o = l.getD k op0:=⟨_,rfl⟩
    rw [<- ho] at h0 h1 h2 hr4
    obtain ⟨bo,hbo'⟩ : ∃ bo,bo = wr.heap.size:=⟨_,rfl⟩
    obtain ⟨wo,hwo⟩ : ∃ wo,wo = wr.alloc (.cells #[.int .i64 o.k,.int .i64 o.n,.int .i64 o.t,.slice A4 l4 c4] 84):=⟨_,rfl⟩
    have hbo : Below wr.heap.size wr wo:=by rw [hwo]; exact box_below wr _
    have hbo2 : wo.heap[bo]? = some (.cells #[.int .i64 o.k,.int .i64 o.n,.int .i64 o.t,.slice A4 l4 c4] 84 (0,0)):=by rw [hwo,hbo']; exact new_block wr _
    have HBO2:=hJQ hbo2
    have HPO:=hJQ (HPD.out.kept hbo)
    have HKO:=hJQ (HKL.out.trans (Kp.of_below hbo HKL.out.below.size))
    have HWR:=hJQ (Gq.write_any (Bz.new w) p D o.n A4 l4 c4 o.b wo HPO.out (fun w' hk' => (hr4.kept hbo).keptAt hu4 hk'.below) (by have:=HLI.out.wait; omega))
    have HLN:=hJQ (lives_write HLI.out o.n o.b)
    have HWO:=hJQ hwo
    have HBE:=hJQ hbo'
    have hk0 : (0 : Int) <= (k : Int):=by omega
    have hk1 : (k : Int) < (n : Int):=by omega
    clear hc ho hbo' hwo hbo hbo2 hr4 hu4 hbw
    go_upto_region 13 with fail
    rw [<- HWO.out,<- HBE.out]
    have o0:=cell_of HBO2.out (j:=0) rfl
    have o1:=cell_of HBO2.out (j:=1) rfl
    have o3:=cell_of HBO2.out (j:=3) rfl
    by_cases hk00 : o.k = 0
    ·go_wp2_with fail
     refine HWR.out.mono ?_
     rintro e w5 ⟨rfl,hp5,hk5⟩
     have HP5:=hJQ hp5
     have HK5:=hJQ (HKO.out.trans hk5)
     clear hp5 hk5 o0 o1 o3 h0 h1 h2 h3
     go_wp2_with fail
     go_roundw
     case rel => exact ⟨k + 1,_,by omega,by go_num,HLN.out,HP5.out,HK5.out⟩
     case measure => simp [intOf]; omega
    ·have hb0 : (o.k == 0) = false:=by simpa using hk00
     clear h0 h1 h2 h3
     go_wp2_with fail
     go_roundw
     case rel => exact ⟨k + 1,D,by omega,by go_num,HLI.out.more (by omega),HPO.out,HKO.out⟩
     case measure => simp [intOf]; omega
   ·obtain rfl : k = n:=by omega
    have hk1 : ¬ (k : Int) < (k : Int):=by omega
    have HO3:=hJQ (open_no (HPD.out.mono (Nat.zero_le _) rfl : PDisk wr ⟨0,fun k => k < w.heap.size⟩ p D) HLI.out.dead (sf:=sf) (mn:=mn) (fun h => HNO.out ⟨h.1,h.2.1,h.2.2.1⟩) (by rw [HLI.out.len]; decide))
    go_wp2_with fail
    refine HO3.out.mono ?_
    rintro e wr' ⟨rfl,rfl⟩
    go_wp2_with fail
    refine (alive_any wr).mono ?_
    rintro e w3 ⟨rfl,hb3⟩
    have HB3:=hJQ (HKL.out.below.trans (hb3.mono HKL.out.below.size))
    clear hb3
    go_wp2_with fail
    go_ret
    exact ⟨rfl,HB3.out⟩
 ·go_wp2_with fail
  go_loopw [82] (fun vk wr => ∃ (k : Nat) (D : Dk),k <= n /\ vk = .int .i64 k /\ Lives 1100 k D /\ PDisk wr (Bz.new w) p D /\ Kp (Bz.new w) w wr) (fun vk _ => n - (intOf vk).toNat)
  case atStart => exact ⟨0,_,Nat.zero_le _,rfl,lives_new 1100,HP4.out,HK4.out⟩
  case round =>
   obtain ⟨k,D,hk,rfl,hli,hpd,hkl⟩:=hrel
   have HLI:=hJQ hli
   have HPD:=hJQ hpd
   have HKL:=hJQ hkl
   clear hli hpd hkl
   by_cases hlt : k < n
   ·obtain ⟨b,off,rfl,hbw,hc⟩:=(HR.out.kept HKL.out.below).2 (by omega)
    obtain ⟨h0,h1,h2,⟨A4,l4,c4,h3,hr4,hu4⟩,-⟩:=hc k hlt
    obtain ⟨o,ho⟩ : ∃ o,o = l.getD k op0:=⟨_,rfl⟩
    rw [<- ho] at h0 h1 h2 hr4
    obtain ⟨bo,hbo'⟩ : ∃ bo,bo = wr.heap.size:=⟨_,rfl⟩
    obtain ⟨wo,hwo⟩ : ∃ wo,wo = wr.alloc (.cells #[.int .i64 o.k,.int .i64 o.n,.int .i64 o.t,.slice A4 l4 c4] 84):=⟨_,rfl⟩
    have hbo : Below wr.heap.size wr wo:=by rw [hwo]; exact box_below wr _
    have hbo2 : wo.heap[bo]? = some (.cells #[.int .i64 o.k,.int .i64 o.n,.int .i64 o.t,.slice A4 l4 c4] 84 (0,0)):=by rw [hwo,hbo']; exact new_block wr _
    have HBO2:=hJQ hbo2
    have HPO:=hJQ (HPD.out.kept hbo)
    have HKO:=hJQ (HKL.out.trans (Kp.of_below hbo HKL.out.below.size))
    have HWR:=hJQ (Gq.write_any (Bz.new w) p D o.n A4 l4 c4 o.b wo HPO.out (fun w' hk' => (hr4.kept hbo).keptAt hu4 hk'.below) (by have:=HLI.out.wait; omega))
    have HLN:=hJQ (lives_write HLI.out o.n o.b)
    have HWO:=hJQ hwo
    have HBE:=hJQ hbo'
    have hk0 : (0 : Int) <= (k : Int):=by omega
    have hk1 : (k : Int) < (n : Int):=by omega
    clear hc ho hbo' hwo hbo hbo2 hr4 hu4 hbw
    go_upto_region 13 with fail
    rw [<- HWO.out,<- HBE.out]
    have o0:=cell_of HBO2.out (j:=0) rfl
    have o1:=cell_of HBO2.out (j:=1) rfl
    have o3:=cell_of HBO2.out (j:=3) rfl
    by_cases hk00 : o.k = 0
    ·go_wp2_with fail
     refine HWR.out.mono ?_
     rintro e w5 ⟨rfl,hp5,hk5⟩
     have HP5:=hJQ hp5
     have HK5:=hJQ (HKO.out.trans hk5)
     clear hp5 hk5 o0 o1 o3 h0 h1 h2 h3
     go_wp2_with fail
     go_roundw
     case rel => exact ⟨k + 1,_,by omega,by go_num,HLN.out,HP5.out,HK5.out⟩
     case measure => simp [intOf]; omega
    ·have hb0 : (o.k == 0) = false:=by simpa using hk00
     clear h0 h1 h2 h3
     go_wp2_with fail
     go_roundw
     case rel => exact ⟨k + 1,D,by omega,by go_num,HLI.out.more (by omega),HPO.out,HKO.out⟩
     case measure => simp [intOf]; omega
   ·obtain rfl : k = n:=by omega
    have hk1 : ¬ (k : Int) < (k : Int):=by omega
    have HO3:=hJQ (open_no (HPD.out.mono (Nat.zero_le _) rfl : PDisk wr ⟨0,fun k => k < w.heap.size⟩ p D) HLI.out.dead (sf:=sf) (mn:=mn) (fun h => HNO.out ⟨h.1,h.2.1,h.2.2.1⟩) (by rw [HLI.out.len]; decide))
    go_wp2_with fail
    refine HO3.out.mono ?_
    rintro e wr' ⟨rfl,rfl⟩
    go_wp2_with fail
    refine (alive_any wr).mono ?_
    rintro e w3 ⟨rfl,hb3⟩
    have HB3:=hJQ (HKL.out.below.trans (hb3.mono HKL.out.below.size))
    clear hb3
    go_wp2_with fail
    go_ret
    exact ⟨rfl,HB3.out⟩
set_option maxHeartbeats 16000000 in
theorem opens_yes (A : Option Addr) (n c : Nat) (l : List Opr) (self many : Nat) (w : World) (hR : PReads w w.heap.size A n l) (hn : n <= 100) (hm : many <= 7) (hs : self < many) :
  Calls Tryz.prog 7 #[.slice A n c,.int .i64 (self : Int),.int .i64 (many : Int)] w fun e w' => e = .returned (.bool true) /\ Below w.heap.size w w':=by
 have HR:=hJQ hR
 have HN1:=hJQ (Gq.new_any 1100 1100 w (by decide) (.inr rfl))
 have hn1 : ¬ (100 : Int) < (n : Int):=by omega
 clear hR
 have HQ : Hid (∀ w : World,Calls Tryz.prog 35 #[.int .i64 (many : Int)] w fun e w' => e = .returned (.int .i64 (quo (many : Int))) /\ w = w'):=hJQ (fun w => rquorum_any (many : Int) w)
 have HM:=hJQ hm
 have HS:=hJQ hs
 have hq0 : (0 : Int) < quo (many : Int):=by
  have hg : isG (many : Int) = true:=by simp [isG]; omega
  have:=(quo_two hg).2.2.1
  omega
 obtain ⟨qq,hqq⟩ : ∃ k,quo (many : Int) = k:=⟨_,rfl⟩
 rw [hqq] at HQ hq0
 have h2 : ¬ (self : Int) < 0:=by omega
 have h3 : (self : Int) < (many : Int):=by omega
 clear hqq hm hs
 go_enter Tryz.func7,Tryz.ntmps7
 go_wp2_with fail
 refine HN1.out.mono ?_
 rintro e w1 ⟨p,rfl,hp1,hb1⟩
 have HN2:=hJQ (Gq.new_any 1099 1099 w1 (by decide) (.inr rfl))
 have HP1:=hJQ hp1
 have HB1:=hJQ hb1
 clear hp1 hb1
 go_wp2_with fail
 refine HN2.out.mono ?_
 rintro e w2 ⟨p2,rfl,hp2,hb2⟩
 have HP2:=hJQ (HP1.out.kept hb2)
 have HB2:=hJQ (HB1.out.trans (hb2.mono HB1.out.size))
 have HON:=hJQ (open_no (hp2.mono (Nat.zero_le _) rfl : PDisk w2 ⟨0,fun k => k < w1.heap.size⟩ p2 (Gq.newD 1099)) rfl (sf:=0) (mn:=1) (fun h => absurd h.2.2.2 (by rw [Gq.newD_len]; decide)) (by rw [Gq.newD_len]; decide))
 clear hp2 hb2
 go_wp2_with fail
 refine HON.out.mono ?_
 rintro e w2' ⟨rfl,rfl⟩
 have HO2:=hJQ (open_yes (HP2.out.mono (Nat.zero_le _) rfl : PDisk w2 ⟨0,fun k => k < w.heap.size⟩ p (Gq.newD 1100)) rfl HM.out HS.out (by rw [Gq.newD_len]; decide) (by rw [Gq.newD_len]; decide))
 go_wp2_with fail
 refine HO2.out.mono ?_
 rintro e w4 ⟨hb4,hor⟩
 have hor2 : ∃ x4,e = .returned (.tuple #[.pointer (some ⟨x4,0,none⟩),.int .i64 0]):=by
  rcases hor with ⟨_,hno⟩ | ⟨m,l,L,x,st,q,lv,he,_⟩
  ·exact absurd new_ss.2.1 (hno _ _ _)
  ·exact ⟨x,he⟩
 obtain ⟨x4,rfl⟩:=hor2
 have HP4:=hJQ (HP2.out.kept hb4)
 have HK4 : Hid (Kp (Bz.new w) w w4):=hJQ (Kp.of_below (HB2.out.trans (hb4.mono HB2.out.size)) (Nat.le_refl _))
 clear hor hb4 HO2
 go_wp2_with fail
 refine (HQ.out w4).mono ?_
 rintro e w4' ⟨rfl,rfl⟩
 go_wp2_with fail
 go_loopw [82] (fun vk wr => ∃ (k : Nat) (D : Dk),k <= n /\ vk = .int .i64 k /\ Lives 1100 k D /\ PDisk wr (Bz.new w) p D /\ Kp (Bz.new w) w wr) (fun vk _ => n - (intOf vk).toNat)
 case atStart => exact ⟨0,_,Nat.zero_le _,rfl,lives_new 1100,HP4.out,HK4.out⟩
 case round =>
  obtain ⟨k,D,hk,rfl,hli,hpd,hkl⟩:=hrel
  have HLI:=hJQ hli
  have HPD:=hJQ hpd
  have HKL:=hJQ hkl
  clear hli hpd hkl
  by_cases hlt : k < n
  ·obtain ⟨b,off,rfl,hbw,hc⟩:=(HR.out.kept HKL.out.below).2 (by omega)
   obtain ⟨h0,h1,h2,⟨A4,l4,c4,h3,hr4,hu4⟩,-⟩:=hc k hlt
   obtain ⟨o,ho⟩ : ∃ o,o = l.getD k op0:=⟨_,rfl⟩
   rw [<- ho] at h0 h1 h2 hr4
   obtain ⟨bo,hbo'⟩ : ∃ bo,bo = wr.heap.size:=⟨_,rfl⟩
   obtain ⟨wo,hwo⟩ : ∃ wo,wo = wr.alloc (.cells #[.int .i64 o.k,.int .i64 o.n,.int .i64 o.t,.slice A4 l4 c4] 84):=⟨_,rfl⟩
   have hbo : Below wr.heap.size wr wo:=by rw [hwo]; exact box_below wr _
   have hbo2 : wo.heap[bo]? = some (.cells #[.int .i64 o.k,.int .i64 o.n,.int .i64 o.t,.slice A4 l4 c4] 84 (0,0)):=by rw [hwo,hbo']; exact new_block wr _
   have HBO2:=hJQ hbo2
   have HPO:=hJQ (HPD.out.kept hbo)
   have HKO:=hJQ (HKL.out.trans (Kp.of_below hbo HKL.out.below.size))
   have HWR:=hJQ (Gq.write_any (Bz.new w) p D o.n A4 l4 c4 o.b wo HPO.out (fun w' hk' => (hr4.kept hbo).keptAt hu4 hk'.below) (by have:=HLI.out.wait; omega))
   have HLN:=hJQ (lives_write HLI.out o.n o.b)
   have HWO:=hJQ hwo
   have HBE:=hJQ hbo'
   have hk0 : (0 : Int) <= (k : Int):=by omega
   have hk1 : (k : Int) < (n : Int):=by omega
   clear hc ho hbo' hwo hbo hbo2 hr4 hu4 hbw
   go_upto_region 13 with fail
   rw [<- HWO.out,<- HBE.out]
   have o0:=cell_of HBO2.out (j:=0) rfl
   have o1:=cell_of HBO2.out (j:=1) rfl
   have o3:=cell_of HBO2.out (j:=3) rfl
   by_cases hk00 : o.k = 0
   ·go_wp2_with fail
    refine HWR.out.mono ?_
    rintro e w5 ⟨rfl,hp5,hk5⟩
    have HP5:=hJQ hp5
    have HK5:=hJQ (HKO.out.trans hk5)
    clear hp5 hk5 o0 o1 o3 h0 h1 h2 h3
    go_wp2_with fail
    go_roundw
    case rel => exact ⟨k + 1,_,by omega,by go_num,HLN.out,HP5.out,HK5.out⟩
    case measure => simp [intOf]; omega
   ·have hb0 : (o.k == 0) = false:=by simpa using hk00
    clear h0 h1 h2 h3
    go_wp2_with fail
    go_roundw
    case rel => exact ⟨k + 1,D,by omega,by go_num,HLI.out.more (by omega),HPO.out,HKO.out⟩
    case measure => simp [intOf]; omega
  ·obtain rfl : k = n:=by omega
   have hk1 : ¬ (k : Int) < (k : Int):=by omega
   have HO3:=hJQ (open_yes (HPD.out.mono (Nat.zero_le _) rfl : PDisk wr ⟨0,fun k => k < w.heap.size⟩ p D) HLI.out.dead HM.out HS.out (by rw [HLI.out.len]; decide) (by rw [HLI.out.len]; decide))
   go_wp2_with fail
   refine HO3.out.mono ?_
   rintro e w5 ⟨hb5,hor⟩
   have HB5:=hJQ (HKL.out.below.trans (hb5.mono HKL.out.below.size))
   rcases hor with ⟨rfl,-⟩ | ⟨m,r,L,x,st,q,lv,rfl,hla,-,-,-,-,hnd⟩
   ·clear hb5
    go_wp2_with fail
    refine (alive_any w5).mono ?_
    rintro e w6 ⟨rfl,hb6⟩
    have HB6:=hJQ (HB5.out.trans (hb6.mono HB5.out.size))
    clear hb6
    go_wp2_with fail
    go_ret
    exact ⟨rfl,HB6.out⟩
   ·have hls:=last_ok (fun s hs => (hla.2.1 s hs).2) hla.2.2.1
    have HLS:=hJQ hls
    have HVW:=hJQ (nviews_any hnd)
    have HND:=hJQ hnd
    have hpn : L.nm <= L.pr:=hls.np
    clear hb5 hla hnd hls
    go_wp2_with fail
    refine HVW.out.mono ?_
    rintro e w6 ⟨rfl,hb6⟩
    have HB6:=hJQ (HB5.out.trans (hb6.mono HB5.out.size))
    have HND6:=hJQ (HND.out.below hb6)
    clear hb6
    go_wp2_with fail
    refine (alive_any w6).mono ?_
    rintro e w7 ⟨rfl,hb7⟩
    have HB7:=hJQ (HB6.out.trans (hb7.mono HB6.out.size))
    have HND7:=hJQ (HND6.out.below hb7)
    have HLG:=hJQ (nlog_any HND7.out (by show L.log.length <= _; have:=HLS.out.log.1; omega))
    clear hb7
    go_wp2_with fail
    refine HLG.out.mono ?_
    rintro e w8 ⟨v8,rfl,ho8,hb8⟩
    obtain ⟨A8,c8,rfl,-,-,-⟩:=own_form ho8
    have HB8:=hJQ (HB7.out.trans (hb8.mono HB7.out.size))
    have HND8:=hJQ (HND7.out.below hb8)
    have HRI:=hJQ (rright_any (c:=c8) (Rd.of_own ho8 (fun _ _ => rfl) (by decide)) (by show L.log.length <= _; have:=HLS.out.log.1; omega))
    rw [show rgtB L.log = true from rgtB_iff.2 HLS.out.log] at HRI
    clear ho8 hb8
    go_wp2_with fail
    refine HRI.out.mono ?_
    rintro e w9 ⟨rfl,hb9⟩
    have HB9:=hJQ (HB8.out.trans (hb9.mono HB8.out.size))
    have HND9:=hJQ (HND8.out.below hb9)
    have HLE:=hJQ (nleads_any HND9.out)
    have HCO:=hJQ (ncommit_any HND9.out)
    have HOU:=hJQ (nout_any HND9.out)
    clear hb9
    go_wp2_with fail
    refine HLE.out.mono ?_
    rintro e w9' ⟨rfl,rfl⟩
    go_wp2_with fail
    refine HCO.out.mono ?_
    rintro e w9' ⟨rfl,rfl⟩
    go_wp2_with fail
    refine HOU.out.mono ?_
    rintro e w10 ⟨he,hkn,-,-⟩
    obtain rfl : e = .returned (.slice none 0 0):=by rw [he]; split <;> rfl
    have HB10 : Hid (Below w.heap.size w w10):=hJQ (HB9.out.trans ⟨hkn.os,hkn.tape,hkn.output,hkn.size,fun k hk => by
     have hk9:=Nat.lt_of_lt_of_le hk HB9.out.size
     have e2:=Array.getElem?_eq_getElem hk9
     rw [e2]
     exact hkn.kept k _ e2 (.inl hk)⟩)
    clear he hkn
    go_wp2_with fail
    go_ret
    exact ⟨rfl,HB10.out⟩
set_option maxHeartbeats 16000000 in
theorem opens_long (A : Option Addr) (n c : Nat) (sf mn : Int) (w : World) (hn : 100 < n) :
  Calls Tryz.prog 7 #[.slice A n c,.int .i64 sf,.int .i64 mn] w fun e w' => e = .returned (.bool true) /\ Below w.heap.size w w':=by
 have HN1:=hJQ (Gq.new_any 1100 1100 w (by decide) (.inr rfl))
 have hn1 : (100 : Int) < (n : Int):=by omega
 clear hn
 go_enter Tryz.func7,Tryz.ntmps7
 go_wp2_with fail
 refine HN1.out.mono ?_
 rintro e w1 ⟨p,rfl,hp1,hb1⟩
 have HN2:=hJQ (Gq.new_any 1099 1099 w1 (by decide) (.inr rfl))
 have HB1:=hJQ hb1
 clear hp1 hb1
 go_wp2_with fail
 refine HN2.out.mono ?_
 rintro e w2 ⟨p2,rfl,hp2,hb2⟩
 have HB2:=hJQ (HB1.out.trans (hb2.mono HB1.out.size))
 clear hp2 hb2
 go_wp2_with fail
 refine (alive_any w2).mono ?_
 rintro e w3 ⟨rfl,hb3⟩
 have HB3:=hJQ (HB2.out.trans (hb3.mono HB2.out.size))
 clear hb3
 go_wp2_with fail
 go_ret
 exact ⟨rfl,HB3.out⟩
theorem law_opens (A : Option Addr) (n c : Nat) (l : List Opr) (sf mn : Int) (w : World) (hR : PReads w w.heap.size A n l) :
  Calls Tryz.prog 7 #[.slice A n c,.int .i64 sf,.int .i64 mn] w fun e w' => e = .returned (.bool true) /\ Below w.heap.size w w':=by
 by_cases h1 : 100 < n
 ·exact opens_long A n c sf mn w h1
 ·by_cases h2 : isG mn = true /\ 0 <= sf /\ sf < mn
  ·obtain ⟨g,h3,h4⟩:=h2
   have h5 : mn <= 7:=by simp [isG] at g; omega
   have h6:=opens_yes A n c l sf.toNat mn.toNat w hR (by omega) (by omega) (by omega)
   rw [show ((sf.toNat : Nat) : Int) = sf by omega,show ((mn.toNat : Nat) : Int) = mn by omega] at h6
   exact h6
  ·exact opens_no A n c l sf mn w hR (by omega) h2
end Go.Proofs.YtlppinfjdnhlbaaGreatDoor
