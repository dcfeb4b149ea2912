/-
 The messages on their way: a slice that may begin,or end,inside its array. Condition: not too many.
 A group in memory: its members,their disks,and the messages on their way. No condition.
 What a member sends is on its way. Condition: the group is one.
 All messages are taken,one behind the other. Condition: the group is one.
 Operations of a region may be taken first where what they read stands until a later operation of the region,which waits for them. No condition.
-/
import Derived.Test.YtlppinfjdnhlbaaGreatDoorHd
import Derived.Test.YtlppinfjdnhlbaaGreatDoorOCar
import Derived.Deep.Upon
import Derived.Test.YtlppinfjdnhlbaaGreatDoorOOk
namespace Go.Proofs.YtlppinfjdnhlbaaGreatDoor
set_option maxRecDepth 100000
open Go.ChangeShapes Go.WideShapes Go.ChangeAt Go.RowKit Go.Proofs.Rk

structure FRow (w : World) (B : Nat) (v : Value) (n : Nat) (xs : List Value) : Prop where
 len : xs.length = n * 3
 lies : (v = .slice none 0 0 /\ n = 0) ∨ ∃ g off cap cur,v = .slice (some ⟨g,off,none⟩) n cap /\ B <= g /\ w.heap[g]? = some (.cells cur 28 (0,0)) /\ n <= cap /\ cap <= maxLen /\ off + cap * 3 <= cur.size /\ (cur.toList.drop off).take (n * 3) = xs
theorem FRow.nil (w : World) (B : Nat) : FRow w B (.slice none 0 0) 0 []:=⟨rfl,.inl ⟨rfl,rfl⟩⟩
theorem FRow.of_own {w : World} {B n : Nat} {v : Value} {xs : List Value} (h : w.ownsRow B 28 3 v n xs) : FRow w B v n xs:=by
 refine ⟨h.1,?_⟩
 rcases h.2 with h2 | ⟨g,cap,cur,e,hb,hg,hn,hc,hs,ht⟩
 ·exact .inl h2
 ·exact .inr ⟨g,0,cap,cur,e,hb,hg,hn,hc,by omega,by rw [List.drop_zero]; exact ht⟩
theorem FRow.form {w : World} {B n : Nat} {v : Value} {xs : List Value} (h : FRow w B v n xs) : ∃ A c,v = .slice A n c /\ n <= c:=by
 rcases h.lies with ⟨rfl,rfl⟩ | ⟨g,off,cap,cur,rfl,_,_,hn,_⟩
 ·exact ⟨none,0,rfl,Nat.le_refl _⟩
 ·exact ⟨_,_,rfl,hn⟩
theorem FRow.kept {w w' : World} {B n : Nat} {v : Value} {xs : List Value} (h : FRow w B v n xs) (hk : ∀ g,v.ownBlock = some g -> w'.heap[g]? = w.heap[g]?) : FRow w' B v n xs:=by
 refine ⟨h.len,?_⟩
 rcases h.lies with h2 | ⟨g,off,cap,cur,e,hb,hg,rest⟩
 ·exact .inl h2
 ·exact .inr ⟨g,off,cap,cur,e,hb,(hk g (by rw [e]; rfl)).trans hg,rest⟩
theorem FRow.lt {w : World} {B n g : Nat} {v : Value} {xs : List Value} (h : FRow w B v n xs) (e : v.ownBlock = some g) : B <= g /\ g < w.heap.size:=by
 rcases h.lies with ⟨rfl,_⟩ | ⟨g2,off,cap,cur,rfl,hb,hg,_⟩
 ·simp [Value.ownBlock] at e
 ·simp only [Value.ownBlock,Option.some.injEq] at e
  subst e
  exact ⟨hb,blk_lt hg⟩
theorem FRow.cell {w : World} {B n g off c : Nat} {xs : List Value} (h : FRow w B (.slice (some ⟨g,off,none⟩) n c) n xs) {j : Nat} {u : Value} (hj : xs[j]? = some u) : w.cell? ⟨g,off + j,none⟩ = some u:=by
 rcases h.lies with ⟨e,_⟩ | ⟨g2,off2,cap,cur,e,hb,hg,hn,hc,hs,ht⟩
 ·injection e with e; cases e
 ·injection e with e1 e2 e3
  injection e1 with e1
  injection e1 with e4 e5 _
  subst e4; subst e5
  rw [cell_of_row w g (off + j) _ _ _ hg]
  rw [<- ht,List.getElem?_take] at hj
  split at hj
  ·rw [List.getElem?_drop] at hj
   rw [<- Array.getElem?_toList]; exact hj
  ·cases hj
theorem FRow.some {w : World} {B n : Nat} {v : Value} {xs : List Value} (h : FRow w B v n xs) (hn : 0 < n) : ∃ g off c,v = .slice (some ⟨g,off,none⟩) n c:=by
 rcases h.lies with ⟨_,rfl⟩ | ⟨g,off,cap,cur,e,_⟩
 ·omega
 ·exact ⟨g,off,cap,e⟩
theorem run_append_way {w : World} {B n c : Nat} {A : Option Addr} {xs : List Value} (h : FRow w B (.slice A n c) n xs) (ty : TypeId) (ad : Addr) (c1 : Nat) (news : List Value) (hl : news.length = 3) (hnews : ∀ j u,news[j]? = some u -> w.cell? (ad.add j) = some u) (h1 : ∀ u ∈ news,u.oneCell' = true) (hs : n <= 100000) (hB : B <= w.heap.size) :
  ∃ v' w',(Builtin.append_ #[38,38] ty #[.slice A n c,.slice (some ad) 1 c1]).run Tryz.prog w = .ok v' w' /\ FRow w' B v' (n + 1) (xs ++ news) /\ w.grownBy w' (Value.slice A n c).ownBlock /\ (∀ g,v'.ownBlock = some g -> (Value.slice A n c).ownBlock = some g ∨ w.heap.size <= g):=by
 obtain ⟨i0,hi,hz0,hz1,hz2⟩:=info_parts infoP
 have hmx : n + 1 <= maxLen:=by unfold maxLen; omega
 have hlen:=h.len
 rcases h.lies with ⟨e,e0⟩ | ⟨g,off,cap,cur,e,hb,hg,hn,hc,hsz,ht⟩
 ·injection e with e1 e2 e3
  subst e1; subst e2; subst e3
  have hx : xs = []:=List.length_eq_zero_iff.1 (by rw [hlen])
  subst hx
  have ho : w.ownsRow B 28 3 (.slice none 0 0) 0 []:=own_none2 _ _ _ _
  obtain ⟨g,cap,w',r1,r2,r3,r4,r5⟩:=run_append_lies (P:=Tryz.prog) w 38 ty B 28 i0 _ 3 32 Tryz.underlying38 hi hz0 hz1 hz2 rfl (by decide) (.slice none 0 0) 0 [] ho ad 1 c1 news (by rw [hl]) hnews h1 (by decide) hmx (by decide) hB w.heap.size rfl
  exact ⟨_,w',r1,.of_own r2,r3,fun g2 e2 => by
   simp only [Value.ownBlock,Option.some.injEq] at e2
   subst e2
   exact r4.imp id (fun e => by omega)⟩
 ·injection e with e1 e2 e3
  subst e1; subst e3
  by_cases hroom : n + 1 <= c
  ·have hcell : ∀ j,j < news.length -> (w.cell? ⟨g,off + n * i0.size + j,none⟩).isSome = true:=fun j hj => by
    rw [hz1,cell_of_row w g _ _ _ _ hg]
    have : off + n * 3 + j < cur.size:=by omega
    rw [Array.getElem?_eq_getElem this]; rfl
   have hfr : ∀ j,j < news.length -> w.frozen? ⟨g,off + n * i0.size + j,none⟩ = false:=fun j _ => frozen_of_row w g _ _ _ hg
   have hrun:=run_append_room_cells (P:=Tryz.prog) (w:=w) 38 ty 28 i0 Tryz.underlying38 hi g off n c ad 1 c1 news (by rw [hl,hz1]) hnews h1 hroom hcell hfr
   rw [hz1] at hrun
   obtain ⟨cur',hk',hrow'⟩ : ∃ cur',(w.setCells g (off + n * 3) news).heap[g]? = some (.cells cur' 28 (0,0)) /\ cur'.size = cur.size /\ ∀ k,cur'[k]? = if off + n * 3 <= k /\ k < off + n * 3 + 3 then news[k - (off + n * 3)]? else cur[k]?:=by
    match news,hl with
    | [a,b,c0],_ =>
     have k1:=seti hg (off + n * 3) a
     have k2:=seti k1.2 (off + n * 3 + 1) b
     have k3:=seti k2.2 (off + n * 3 + 1 + 1) c0
     refine ⟨_,k3.2,by simp,fun k => ?_⟩
     have hk1 : off + n * 3 + 1 + 1 < cur.size:=by omega
     simp only [Array.getElem?_setIfInBounds,Array.size_setIfInBounds]
     by_cases e0 : off + n * 3 + 1 + 1 = k
     ·subst e0
      rw [if_pos rfl,if_pos (by omega),if_pos (by omega)]
      rw [show off + n * 3 + 1 + 1 - (off + n * 3) = 2 by omega]; rfl
     ·rw [if_neg e0]
      by_cases e1 : off + n * 3 + 1 = k
      ·subst e1
       rw [if_pos rfl,if_pos (by omega),if_pos (by omega)]
       rw [show off + n * 3 + 1 - (off + n * 3) = 1 by omega]; rfl
      ·rw [if_neg e1]
       by_cases e2 : off + n * 3 = k
       ·subst e2
        rw [if_pos rfl,if_pos (by omega),if_pos (by omega)]
        rw [show off + n * 3 - (off + n * 3) = 0 by omega]; rfl
       ·rw [if_neg e2,if_neg (by omega)]
   refine ⟨_,_,hrun,⟨by rw [List.length_append,hlen,hl]; omega,.inr ⟨g,off,c,cur',rfl,hb,hk',hroom,hc,by rw [hrow'.1]; exact hsz,?_⟩⟩,?_,fun g2 e2 => .inl e2⟩
   ·apply List.ext_getElem?
    intro k
    rw [List.getElem?_take]
    by_cases hk : k < (n + 1) * 3
    ·rw [if_pos hk,List.getElem?_drop,Array.getElem?_toList,hrow'.2]
     by_cases h2 : k < n * 3
     ·rw [if_neg (by omega),List.getElem?_append_left (by rw [hlen]; exact h2),<- ht,List.getElem?_take,if_pos h2,List.getElem?_drop,Array.getElem?_toList]
     ·rw [if_pos (by omega),List.getElem?_append_right (by rw [hlen]; omega),hlen]
      congr 1; omega
    ·rw [if_neg hk,List.getElem?_eq_none (by rw [List.length_append,hlen,hl]; omega)]
   ·match news,hl with
    | [a,b,c0],_ => exact ((((Wr.refl g w).set (off + n * 3) a).set (off + n * 3 + 1) b).set (off + n * 3 + 1 + 1) c0).gb
  ·obtain ⟨v',w',hrun,r1,r2⟩:=run_append_arg_grows (P:=Tryz.prog) w 38 ty 28 i0 _ 3 32 Tryz.underlying38 hi hz0 hz1 hz2 rfl (by decide) ⟨g,off,none⟩ n c xs hlen (fun j u hu => by
    rw [Go.WideShapes.add_plain]
    exact h.cell hu) ad 1 c1 news (by rw [hl]) hnews (by omega) hmx (by omega)
   refine ⟨v',w',hrun,.of_own (own_base r1 hB),⟨r2.os,r2.tape,r2.output,r2.size,fun k hk _ => r2.block k hk (by simp)⟩,fun g2 e2 => .inr (own_ge r1 g2 e2)⟩
theorem way_tail {w : World} {B n c : Nat} {A : Option Addr} {xs : List Value} (h : FRow w B (.slice A n c) n xs) (hn : 0 < n) (hs : n <= 100000) :
  ∃ A' c',(∀ W : World,(Instr.slice 38 (.slice A n c) (some (.int .i64 1)) none none).run Tryz.prog W = .ok (.slice A' (n - 1) c') W) /\ FRow w B (.slice A' (n - 1) c') (n - 1) (xs.drop 3) /\ (Value.slice A' (n - 1) c').ownBlock = (Value.slice A n c).ownBlock:=by
 obtain ⟨i0,hi,hz0,hz1,hz2⟩:=info_parts infoP
 have hlen:=h.len
 rcases h.lies with ⟨e,e0⟩ | ⟨g,off,cap,cur,e,hb,hg,hnc,hc,hsz,ht⟩
 ·omega
 ·injection e with e1 e2 e3
  subst e1; subst e3
  have he : Tryz.prog.elem 38 = 28:=by kernel_rfl
  have hrun : ∀ W : World,(Instr.slice 38 (.slice (some ⟨g,off,none⟩) n c) (some (.int .i64 1)) none none).run Tryz.prog W = .ok (.slice (if c = 1 then some ⟨g,off,none⟩ else some ⟨g,off + 3,none⟩) (n - 1) (c - 1)) W:=fun W => by
   rw [run_slice_l (P:=Tryz.prog) (w:=W) 38 (some ⟨g,off,none⟩) n c Tryz.underlying38 .i64 1 (by omega) (by omega)]
   simp [he,sizeOf,typeInfo,hi,hz1,sliced,Go.WideShapes.add_plain]
  refine ⟨_,_,hrun,⟨by rw [List.length_drop,hlen]; omega,?_⟩,?_⟩
  ·by_cases hc1 : c = 1
   ·rw [if_pos hc1]
    refine .inr ⟨g,off,c - 1,cur,rfl,hb,hg,by omega,by omega,by omega,?_⟩
    have e4 : n - 1 = 0:=by omega
    rw [e4,Nat.zero_mul,List.take_zero,List.drop_eq_nil_of_le (by rw [hlen]; omega)]
   ·rw [if_neg hc1]
    refine .inr ⟨g,off + 3,c - 1,cur,rfl,hb,hg,by omega,by omega,by omega,?_⟩
    rw [<- ht,<- List.drop_drop,List.drop_take]
    congr 1; omega
  ·by_cases hc1 : c = 1
   ·rw [if_pos hc1]; rfl
   ·rw [if_neg hc1]; rfl
open Go.ChangeShapes Go.WideShapes Go.ChangeAt Go.RowKit Go.Proofs.Rk

def ptrs (many : Nat) (X : Nat -> Nat) : List Value:=(List.range many).map fun i => .pointer (some ⟨X i,0,none⟩)
theorem ptrs_get {many : Nat} {X : Nat -> Nat} {i : Nat} (h : i < many) : (ptrs many X)[i]? = some (.pointer (some ⟨X i,0,none⟩)):=by simp [ptrs,h]
theorem ptrs_succ (many : Nat) (X : Nat -> Nat) : ptrs (many + 1) X = ptrs many X ++ [.pointer (some ⟨X many,0,none⟩)]:=by simp [ptrs,List.range_succ]
abbrev Wy:=Nat × Nat × Ms
def wayC (y : Wy) : List Value:=[.int .i64 (y.1 : Int),.int .i64 (y.2.1 : Int),.string (strOfNums (enM y.2.2))]
structure GM (w : World) (F : Nat -> Nat) (B g many : Nat) (X P : Nat -> Nat) (Y : List Wy) (nv dv pv yv : Value) : Prop where
 here : w.heap[g]? = some (.cells #[nv,dv,pv,yv] 40 (0,0))
 base : B <= g
 nrow : w.ownsRow B 34 1 nv many (ptrs many X)
 drow : w.ownsRow B 50 1 dv many (ptrs many P)
 prow : ∃ xs,w.ownsRow B 54 12 pv many xs
 yrow : FRow w B yv Y.length (Y.flatMap wayC)
 fg : F g = 0
 fn : ∀ k,nv.ownBlock = some k -> F k = 0
 fd : ∀ k,dv.ownBlock = some k -> F k = 0
 fp : ∀ k,pv.ownBlock = some k -> F k = 0
 fy : ∀ k,yv.ownBlock = some k -> F k = 0
 fb : ∀ k,k < B -> F k = 0
 le : B <= w.heap.size
theorem own_fr {w w' : World} {B e sz n : Nat} {v : Value} {xs : List Value} (h : w.ownsRow B e sz v n xs) (hk : ∀ k,v.ownBlock = some k -> w'.heap[k]? = w.heap[k]?) : w'.ownsRow B e sz v n xs:=by
 refine ⟨h.1,?_⟩
 rcases h.2 with hn | ⟨g,cap,cur,e,hbg,hg,rest⟩
 ·exact .inl hn
 ·exact .inr ⟨g,cap,cur,e,hbg,(hk g (by rw [e]; rfl)).trans hg,rest⟩
section
variable {w w' : World} {F : Nat -> Nat} {B g many : Nat} {X P : Nat -> Nat} {Y : List Wy} {nv dv pv yv : Value}
theorem GM.keep (h : GM w F B g many X P Y nv dv pv yv) (i : Nat) (hs : w.heap.size <= w'.heap.size) (hk : ∀ k,k < w.heap.size -> F k = 0 -> w'.heap[k]? = w.heap[k]?) : GM w' (bump w F i) B g many X P Y nv dv pv yv:=by
 obtain ⟨xs,hp⟩:=h.prow
 have hb : ∀ k,k < w.heap.size -> F k = 0 -> bump w F i k = 0:=fun k h1 h2 => by rw [bump_old h1]; exact h2
 refine ⟨(hk g (blk_lt h.here) h.fg).trans h.here,h.base,own_fr h.nrow fun k e => hk k (h.nrow.lt k e).2 (h.fn k e),own_fr h.drow fun k e => hk k (h.drow.lt k e).2 (h.fd k e),⟨xs,own_fr hp fun k e => hk k (hp.lt k e).2 (h.fp k e)⟩,h.yrow.kept fun k e => hk k (h.yrow.lt e).2 (h.fy k e),hb g (blk_lt h.here) h.fg,fun k e => hb k (h.nrow.lt k e).2 (h.fn k e),fun k e => hb k (h.drow.lt k e).2 (h.fd k e),fun k e => hb k (hp.lt k e).2 (h.fp k e),fun k e => hb k (h.yrow.lt e).2 (h.fy k e),fun k e => hb k (Nat.lt_of_lt_of_le e h.le) (h.fb k e),Nat.le_trans h.le hs⟩
end
def upd (N : Nat -> Nd) (i : Nat) (n : Nd) : Nat -> Nd:=fun k => if k = i then n else N k
structure GrW (w : World) (F : Nat -> Nat) (B g many : Nat) (X P : Nat -> Nat) (N : Nat -> Nd) (Y : List Wy) : Prop where
 mem : ∃ nv dv pv yv,GM w F B g many X P Y nv dv pv yv
 nds : ∀ i,i < many -> NodeL w F many i (X i) (P i) (N i)
section
variable {w w' : World} {F : Nat -> Nat} {B g many : Nat} {X P : Nat -> Nat} {N : Nat -> Nd} {Y : List Wy}
theorem GrW.node (h : GrW w F B g many X P N Y) {i : Nat} {n : Nd} (hf : Fr (i + 1) F w w') (hn : NodeL w' (bump w F (i + 1)) many i (X i) (P i) n) : GrW w' (bump w F (i + 1)) B g many X P (upd N i n) Y:=by
 obtain ⟨nv,dv,pv,yv,hm⟩:=h.mem
 refine ⟨⟨nv,dv,pv,yv,hm.keep _ hf.size fun k hk h0 => hf.kept k hk (by omega)⟩,fun j hj => ?_⟩
 unfold upd
 by_cases e : j = i
 ·subst e; rw [if_pos rfl]; exact hn
 ·rw [if_neg e]; exact (h.nds j hj).other hf (by omega)
theorem GrW.fresh (h : GrW w F B g many X P N Y) (hb : Below w.heap.size w w') : GrW w' (bump w F 0) B g many X P N Y:=by
 obtain ⟨nv,dv,pv,yv,hm⟩:=h.mem
 exact ⟨⟨nv,dv,pv,yv,hm.keep _ hb.size fun k hk _ => hb.block k hk⟩,fun j hj => (h.nds j hj).other (Fr.of_below hb) (by omega)⟩
theorem GrW.out_below (h : GrW w F B g many X P N Y) {i : Nat} (hf : Fr (i + 1) F w w') : Below B w w':=by
 obtain ⟨nv,dv,pv,yv,hm⟩:=h.mem
 exact ⟨hf.os,hf.tape,hf.output,hf.size,fun k hk => hf.kept k (Nat.lt_of_lt_of_le hk hm.le) (by have:=hm.fb k hk; omega)⟩
theorem GrW.below_of (h : GrW w F B g many X P N Y) (hb : Below w.heap.size w w') : Below B w w':=by
 obtain ⟨nv,dv,pv,yv,hm⟩:=h.mem
 exact hb.mono hm.le
theorem GrW.bound (h : GrW w F B g many X P N Y) : B <= w.heap.size:=by
 obtain ⟨nv,dv,pv,yv,hm⟩:=h.mem
 exact hm.le
theorem GM.member {nv dv pv yv : Value} (hm : GM w F B g many X P Y nv dv pv yv) {i : Nat} (hi : i < many) : ∃ nb c,nv = .slice (some ⟨nb,0,none⟩) many c /\ w.cell? ⟨nb,i,none⟩ = some (.pointer (some ⟨X i,0,none⟩)):=by
 obtain ⟨A,c,e,_,_,h3⟩:=own_form hm.nrow
 obtain ⟨nb,rfl⟩:=h3 (by omega)
 refine ⟨nb,c,e,?_⟩
 have h4:=hm.nrow
 rw [e] at h4
 exact own_cell h4 i _ (ptrs_get hi)
end
def gathW (Y : List Wy) (i : Nat) (out : List (Nat × Ms)) : List Wy:=Y ++ (out.map fun o => (i,o.1,o.2)).take (400 - Y.length)
theorem gath_zero (Y : List Wy) (i : Nat) (out : List (Nat × Ms)) : gathW Y i (out.take 0) = Y:=by simp [gathW]
theorem gath_more {Y : List Wy} {i k : Nat} {out : List (Nat × Ms)} {o : Nat × Ms} (h : out[k]? = some o) (hY : Y.length <= 400) (hlt : (gathW Y i (out.take k)).length < 400) : gathW Y i (out.take (k + 1)) = gathW Y i (out.take k) ++ [(i,o.1,o.2)]:=by
 obtain ⟨hk,ho⟩:=List.getElem?_eq_some_iff.1 h
 unfold gathW at hlt ⊢
 rw [List.length_append,List.length_take,List.length_map,List.length_take] at hlt
 rw [List.take_succ_eq_append_getElem hk,ho,List.map_append,List.append_assoc]
 congr 1
 rw [List.take_append,List.length_map,List.length_take]
 congr 1
 rw [List.map_singleton,List.take_of_length_le (by simp; omega)]
theorem gath_full {Y : List Wy} {i k : Nat} {out : List (Nat × Ms)} (hk : k < out.length) (_ : Y.length <= 400) (hge : ¬ (gathW Y i (out.take k)).length < 400) : gathW Y i (out.take (k + 1)) = gathW Y i (out.take k):=by
 unfold gathW at hge ⊢
 rw [List.length_append,List.length_take,List.length_map,List.length_take] at hge
 rw [List.take_succ_eq_append_getElem hk,List.map_append,List.take_append,List.length_map,List.length_take]
 rw [show 400 - Y.length - min k out.length = 0 by omega,List.take_zero,List.append_nil]
theorem gath_len {Y : List Wy} {i : Nat} {out : List (Nat × Ms)} (hY : Y.length <= 400) : (gathW Y i out).length <= 400:=by
 unfold gathW
 rw [List.length_append,List.length_take]; omega
theorem step_append_way {ops : Array Oper} {o : Oper} {a : Act} {w : World} {K : Act -> World -> Prop} {Q : Exit -> Act -> World -> Prop} {E : Prop} (hgd : o.guard = none) (s x : Operand)
  (ho : o.op = .call { callee:=.builtin .append,args:=#[s,x],argTypes:=#[38,38] }) {B n c : Nat} {A : Option Addr} {xs : List Value} (hs : a.eval s = .slice A n c) (h : FRow w B (.slice A n c) n xs)
  (ad : Addr) (c1 : Nat) (news : List Value) (hx : a.eval x = .slice (some ad) 1 c1) (hl : news.length = 3) (hnews : ∀ j u,news[j]? = some u -> w.cell? (ad.add j) = some u) (h1 : ∀ u ∈ news,u.oneCell' = true) (hsm : n <= 100000) (hB : B <= w.heap.size)
  (hK : ∀ A' c' w',FRow w' B (.slice A' (n + 1) c') (n + 1) (xs ++ news) -> w.grownBy w' (Value.slice A n c).ownBlock -> (∀ g,(Value.slice A' (n + 1) c').ownBlock = some g -> (Value.slice A n c).ownBlock = some g ∨ w.heap.size <= g) -> K (a.put o.dst (.slice A' (n + 1) c')) w') :
  if Region.wanted o (yielded ops a.tmps) = true then Oper.wp Tryz.prog o a w K Q else E:=by
 have hw : Region.wanted o (yielded ops a.tmps) = true:=by simp [Region.wanted,hgd]
 rw [if_pos hw]
 obtain ⟨v',w',hrun,r1,r2,r3⟩:=run_append_way h o.type ad c1 news hl hnews h1 hsm hB
 obtain ⟨A',c',rfl,_⟩:=r1.form
 unfold Oper.wp
 simp [execOp,ho,resolve,invoke,builtin,hs,hx,hrun,Result.andThen]
 exact hK _ _ _ r1 r2 r3
theorem GM.ne {w : World} {F : Nat -> Nat} {B g many : Nat} {X P : Nat -> Nat} {Y : List Wy} {nv dv pv yv : Value} (h : GM w F B g many X P Y nv dv pv yv) {k : Nat} (e : yv.ownBlock = some k) : ∃ cur,w.heap[k]? = some (.cells cur 28 (0,0)):=by
 rcases h.yrow.lies with ⟨e2,_⟩ | ⟨g2,off,cap,cur,e2,_,hg,_⟩
 ·rw [e2] at e; simp [Value.ownBlock] at e
 ·rw [e2] at e
  simp only [Value.ownBlock,Option.some.injEq] at e
  subst e
  exact ⟨cur,hg⟩
theorem own_type {w : World} {B e sz n k : Nat} {v : Value} {xs : List Value} (h : w.ownsRow B e sz v n xs) (hk : v.ownBlock = some k) : ∃ cur,w.heap[k]? = some (.cells cur e (0,0)):=by
 rcases h.2 with ⟨rfl,_⟩ | ⟨g,cap,cur,rfl,_,hg,_⟩
 ·simp [Value.ownBlock] at hk
 ·simp only [Value.ownBlock,Option.some.injEq] at hk
  subst hk
  exact ⟨cur,hg⟩
theorem types_ne {w : World} {k l : Nat} {a b : Array Value} {s t : TypeId} (h1 : w.heap[k]? = some (.cells a s (0,0))) (h2 : w.heap[l]? = some (.cells b t (0,0))) (hne : s ≠ t) : k ≠ l:=fun e => by
 subst e
 rw [h1] at h2
 injection h2 with h2
 injection h2 with _ h3 _
 exact hne h3
theorem GrW.sent {w2 w4 w6 : World} {F : Nat -> Nat} {B g many : Nat} {X P : Nat -> Nat} {N : Nat -> Nd} {Y Y' : List Wy} {nv dv pv yv v' : Value} {M : Nat} (h : GM w2 F B g many X P Y nv dv pv yv) (hn : ∀ i,i < many -> NodeL w2 F many i (X i) (P i) (N i)) (hb : Below w2.heap.size w2 w4) (hgr : w4.grownBy w6 yv.ownBlock)
  (hM : M = Y'.length) (hy : FRow w6 B v' M (Y'.flatMap wayC)) (hz : ∀ k,v'.ownBlock = some k -> yv.ownBlock = some k ∨ w2.heap.size <= k) :
  GrW (w6.setCell ⟨g,3,none⟩ v') (bump w2 F 0) B g many X P N Y' /\ Below B w2 (w6.setCell ⟨g,3,none⟩ v'):=by
 subst hM
 have hs24:=hb.size
 have hs46:=hgr.size
 have h6 : ∀ k,k < w2.heap.size -> yv.ownBlock ≠ some k -> w6.heap[k]? = w2.heap[k]?:=fun k hk hne => by
  rw [hgr.block k (by omega) (fun e => hne e.symm),hb.block k hk]
 have hgne : yv.ownBlock ≠ some g:=fun e => by
  obtain ⟨cur,hc⟩:=h.ne e
  exact types_ne h.here hc (by decide) rfl
 have hg6 : w6.heap[g]? = some (.cells #[nv,dv,pv,yv] 40 (0,0)):=(h6 g (blk_lt h.here) hgne).trans h.here
 obtain ⟨k1,k2⟩:=seti hg6 3 v'
 obtain ⟨W,hW⟩ : ∃ W,w6.setCell ⟨g,3,none⟩ v' = W:=⟨_,rfl⟩
 rw [hW] at k1 k2 ⊢
 have hsW : W.heap.size = w6.heap.size:=by rw [<- hW]; simp
 have h7 : ∀ k,k < w2.heap.size -> yv.ownBlock ≠ some k -> k ≠ g -> W.heap[k]? = w2.heap[k]?:=fun k hk hne hg => (k1.rest k hg).trans (h6 k hk hne)
 have hfr : Fr 0 F w2 W:=⟨k1.below.os.trans (hgr.os.trans hb.os),k1.below.tape.trans (hgr.tape.trans hb.tape),k1.below.output.trans (hgr.output.trans hb.output),by omega,fun k hk hf => h7 k hk (fun e => hf (h.fy k e)) (fun e => hf (by rw [e]; exact h.fg))⟩
 have hrow : ∀ {e sz n : Nat} {v : Value} {xs : List Value},e ≠ 28 -> e ≠ 40 -> w2.ownsRow B e sz v n xs -> W.ownsRow B e sz v n xs:=fun he1 he2 ho => own_fr ho fun k e => by
  obtain ⟨cur,hc⟩:=own_type ho e
  refine h7 k (blk_lt hc) (fun e2 => ?_) (types_ne hc h.here he2)
  obtain ⟨cur2,hc2⟩:=h.ne e2
  exact types_ne hc hc2 he1 rfl
 obtain ⟨xs,hp⟩:=h.prow
 have hold : ∀ k,k < w2.heap.size -> F k = 0 -> bump w2 F 0 k = 0:=fun k h1 h2 => by rw [bump_old h1]; exact h2
 refine ⟨⟨⟨nv,dv,pv,v',?_⟩,fun i hi => (hn i hi).other hfr (by omega)⟩,?_⟩
 ·refine ⟨k2,h.base,hrow (by decide) (by decide) h.nrow,hrow (by decide) (by decide) h.drow,⟨xs,hrow (by decide) (by decide) hp⟩,hy.kept fun k e => k1.rest k (fun e2 => ?_),hold g (blk_lt h.here) h.fg,fun k e => hold k (h.nrow.lt k e).2 (h.fn k e),fun k e => hold k (h.drow.lt k e).2 (h.fd k e),fun k e => hold k (hp.lt k e).2 (h.fp k e),fun k e => ?_,fun k e => hold k (Nat.lt_of_lt_of_le e h.le) (h.fb k e),by have:=h.le; omega⟩
  ·subst e2
   rcases hz k e with e3 | e3
   ·exact hgne e3
   ·have:=blk_lt h.here; omega
  ·rcases hz k e with e3 | e3
   ·exact hold k (h.yrow.lt e3).2 (h.fy k e3)
   ·exact bump_new (by omega)
 ·exact ⟨hfr.os,hfr.tape,hfr.output,hfr.size,fun k hk => by
   have h9:=h.le
   have h10:=h.base
   refine h7 k (by omega) (fun e => ?_) (by omega)
   have:=(h.yrow.lt e).1
   omega⟩
open Go.ChangeShapes Go.WideShapes Go.ChangeAt Go.RowKit Go.Proofs.Rk
open Pq (Fld FReads errL bytL fcs)
open Gq (Bz Mine PL PDisk Kp Kl Lg Dk)

set_option maxHeartbeats 16000000 in
theorem gather_any {w : World} {F : Nat -> Nat} {B g many : Nat} {X P : Nat -> Nat} {N : Nat -> Nd} {Y : List Wy} {i : Nat} (h : GrW w F B g many X P N Y) (hi : i < many) (_ : many <= 7) (hY : Y.length <= 400) (ho : (N i).out.length <= 1000) :
  Calls Tryz.prog 18 #[.pointer (some ⟨g,0,none⟩),.int .i64 (i : Int)] w fun e w' => e = .returned (.tuple #[]) /\ Below B w w' /\ ∃ F',GrW w' F' B g many X P (upd N i { N i with out:=[] }) (gathW Y i (N i).out):=by
 obtain ⟨nv,dv,pv,yv,hmm⟩:=h.mem
 obtain ⟨nb,nc,env,hni⟩:=hmm.member hi
 subst env
 have g0:=cell_of hmm.here (j:=0) rfl
 have HOUT:=hJQ (out_live (h.nds i hi))
 obtain ⟨outs,houts⟩ : ∃ k,(N i).out = k:=⟨_,rfl⟩
 rw [houts] at HOUT ho ⊢
 obtain ⟨NO,hNO⟩ : ∃ k,outs.length = k:=⟨_,rfl⟩
 rw [hNO] at HOUT ho
 have hii : (i : Int) < (many : Int):=by omega
 have hi0 : ¬ (i : Int) < 0:=by omega
 have HH:=hJQ h
 have HY:=hJQ hY
 obtain ⟨N1,hN1⟩ : ∃ k,upd N i { N i with out:=[] } = k:=⟨_,rfl⟩
 rw [hN1]
 have HN1:=hJQ hN1
 have HNO:=hJQ hNO
 have HO:=hJQ ho
 clear h hY ho hmm houts hNO hN1
 go_enter Tryz.func18,Tryz.ntmps18
 go_wp2_with fail
 refine HOUT.out.mono ?_
 rintro e w1 ⟨ov,rfl,hfr,hnl,hrow,hown⟩
 obtain ⟨A1,c1,rfl,-,-,-⟩:=own_form hrow
 have HG1:=hJQ (HH.out.node hfr hnl)
 have HB1:=hJQ (HH.out.out_below hfr)
 have HROW:=hJQ hrow
 have HOWN:=hJQ hown
 obtain ⟨F1,hF1⟩ : ∃ k,bump w F (i + 1) = k:=⟨_,rfl⟩
 rw [hF1] at HG1 HOWN
 rw [HN1.out] at HG1
 clear g0 hni hfr hnl hrow hown hF1
 go_wp2_with fail
 go_loopw [15] (fun k wr => ∃ j : Nat,j <= NO /\ k = .int .i64 j /\ Hid (Below B w wr) /\ Hid (wr.ownsRow 0 28 3 (.slice A1 NO c1) NO (outs.flatMap (pkt i))) /\ Hid (∃ F',GrW wr F' B g many X P N1 (gathW Y i (outs.take j)) /\ ∀ k,(Value.slice A1 NO c1).ownBlock = some k -> F' k = i + 1)) (fun k _ => NO - (intOf k).toNat)
 case atStart => exact ⟨0,Nat.zero_le _,rfl,HB1,HROW,hJQ ⟨F1,by rw [gath_zero]; exact HG1.out,HOWN.out⟩⟩
 case round =>
  obtain ⟨j,hj,rfl,HBR,HRR,HGR⟩:=hrel
  obtain ⟨Fr0,hgr,hfr0⟩:=HGR.out
  by_cases hlt : j < NO
  ·have hki : (j : Int) < (NO : Int):=by omega
   have hwk : IntKind.i64.wrap ((j : Int) + 1) = (j : Int) + 1:=by rw [IntKind.wrap_i64]; have:=HO.out; omega
   have hrd : Rd (pkt i) 3 wr A1 NO outs:=Rd.of_own HRR.out (fun _ _ => rfl) (by decide)
   obtain ⟨b0,off,y,hAx,hx,hcc⟩:=hrd.at hlt
   subst hAx
   obtain ⟨t,mm⟩:=y
   obtain ⟨sx,hsx⟩ : ∃ k,strOfNums (enM mm) = k:=⟨_,rfl⟩
   have c0 : wr.cell? ⟨b0,off + j * 3,none⟩ = some (.int .i64 (i : Int)):=hcc 0 _ rfl
   have c1c : wr.cell? ⟨b0,off + j * 3 + 1,none⟩ = some (.int .i64 (t : Int)):=hcc 1 _ rfl
   have c2 : wr.cell? ⟨b0,off + j * 3 + 2,none⟩ = some (.string sx):=by rw [<- hsx]; exact hcc 2 _ rfl
   obtain ⟨w2,hw2⟩ : ∃ xx,xx = wr.alloc (.cells #[.int .i64 (i : Int),.int .i64 (t : Int),.string sx] 28):=⟨_,rfl⟩
   obtain ⟨r,er⟩ : ∃ xx,xx = wr.heap.size:=⟨_,rfl⟩
   have hb2 : Below wr.heap.size wr w2:=by rw [hw2]; exact box_below wr _
   have hk2 : w2.heap[r]? = some (.cells #[.int .i64 (i : Int),.int .i64 (t : Int),.string sx] 28 (0,0)):=by rw [hw2,er]; exact new_block wr _
   have hg2:=hgr.fresh hb2
   obtain ⟨nv2,dv2,pv2,yv2,hmr⟩:=hgr.mem
   have hm2:=hmr.keep 0 hb2.size (fun k hk _ => hb2.block k hk)
   have hyr : ∀ k,yv2.ownBlock = some k -> k ≠ r:=fun k e => by have:=(hmr.yrow.lt e).2; omega
   obtain ⟨A5,c5,eyv,-⟩:=hm2.yrow.form
   subst eyv
   obtain ⟨NY,hNY⟩ : ∃ k,(gathW Y i (outs.take j)).length = k:=⟨_,rfl⟩
   have hNY4 : NY <= 400:=by rw [<- hNY]; exact gath_len HY.out
   have hx2:=hm2.here
   have hy2:=hm2.yrow
   rw [hNY] at hx2 hy2 hm2 hyr
   have g3:=cell_of hx2 (j:=3) rfl
   have HX2:=hJQ hx2
   have HY2:=hJQ hy2
   have HM2:=hJQ hm2
   have HYR:=hJQ hyr
   have HG2:=hJQ hg2
   have HK2:=hJQ hk2
   have HBR2 : Hid (Below B w w2):=hJQ (HBR.out.trans (hgr.below_of hb2))
   have HRR2:=hJQ (own_below HRR.out hb2)
   have HFR2 : Hid (∀ k,(Value.slice (some ⟨b0,off,none⟩) NO c1).ownBlock = some k -> bump wr Fr0 0 k = i + 1):=hJQ (fun k e => by
    have:=HRR.out.lt k e
    rw [bump_old this.2]; exact hfr0 k e)
   have HW2:=hJQ hw2
   have ER:=hJQ er
   have HXO:=hJQ hx
   have HSX:=hJQ hsx
   have HNYE:=hJQ hNY
   have HNY : Hid (NY <= 400):=hJQ hNY4
   have HBB:=hJQ hg2.bound
   clear hgr hfr0 hrd hx hcc hsx hw2 er hb2 hk2 hg2 hmr hm2 hyr hx2 hy2 hNY hNY4
   by_cases h4 : NY < 400
   ·have h4d : decide ((NY : Int) < 400) = true:=by simp; omega
    have h4e : decide (NY < 400) = true:=by simp; omega
    obtain ⟨wd,hwd⟩ : ∃ xx,xx = w2.drew:=⟨_,rfl⟩
    have hbd : Below w2.heap.size w2 wd:=by rw [hwd]; exact (Below.refl _ _).drew
    obtain ⟨w4,hw4⟩ : ∃ xx,xx = wd.alloc (.cells #[.int .i64 (i : Int),.int .i64 (t : Int),.string sx] 28):=⟨_,rfl⟩
    obtain ⟨nb,enb⟩ : ∃ xx,xx = wd.heap.size:=⟨_,rfl⟩
    have hb4 : Below wd.heap.size wd w4:=by rw [hw4]; exact box_below wd _
    have hn4 : w4.heap[nb]? = some (.cells #[.int .i64 (i : Int),.int .i64 (t : Int),.string sx] 28 (0,0)):=by rw [hw4,enb]; exact new_block wd _
    have hb24:=hbd.trans (hb4.mono hbd.size)
    have hr4:=blk_below HK2.out hb24
    have hxd:=blk_below HX2.out hbd
    have hx4:=blk_below HX2.out hb24
    have hrd2:=blk_below HK2.out hbd
    have HY4 : Hid (FRow w4 B (.slice A5 NY c5) NY ((gathW Y i (outs.take j)).flatMap wayC)):=hJQ (HY2.out.kept fun k e => hb24.block k (HY2.out.lt e).2)
    have HB4 : Hid (B <= w4.heap.size):=hJQ (Nat.le_trans HBB.out hb24.size)
    have HSR : Hid (∀ V : World,V.heap[r]? = w4.heap[r]? -> V.cell? ⟨r,0,none⟩ = some (.int .i64 (i : Int)) /\ V.cell? ⟨r,1,none⟩ = some (.int .i64 (t : Int)) /\ V.cell? ⟨r,2,none⟩ = some (.string sx)):=hJQ (fun V e => by rw [hr4] at e; exact ⟨cell_of e (j:=0) rfl,cell_of e (j:=1) rfl,cell_of e (j:=2) rfl⟩)
    have hHs : w2.cell? ⟨r,0,none⟩ = some (.int .i64 (i : Int)) /\ w2.cell? ⟨r,1,none⟩ = some (.int .i64 (t : Int)) /\ w2.cell? ⟨r,2,none⟩ = some (.string sx):=⟨cell_of HK2.out (j:=0) rfl,cell_of HK2.out (j:=1) rfl,cell_of HK2.out (j:=2) rfl⟩
    have HD : Hid (wd.cell? ⟨r,0,none⟩ = some (.int .i64 (i : Int)) /\ wd.cell? ⟨r,1,none⟩ = some (.int .i64 (t : Int)) /\ wd.cell? ⟨r,2,none⟩ = some (.string sx)):=hJQ ⟨cell_of hrd2 (j:=0) rfl,cell_of hrd2 (j:=1) rfl,cell_of hrd2 (j:=2) rfl⟩
    have HS4 : Hid (w4.cell? ⟨r,0,none⟩ = some (.int .i64 (i : Int)) /\ w4.cell? ⟨r,1,none⟩ = some (.int .i64 (t : Int)) /\ w4.cell? ⟨r,2,none⟩ = some (.string sx)):=hJQ (HSR.out w4 rfl)
    have hne5 : (Value.slice A5 NY c5).ownBlock ≠ some r:=fun e => HYR.out r e rfl
    have HS6 : Hid (∀ V : World,w4.grownBy V (Value.slice A5 NY c5).ownBlock -> V.cell? ⟨r,0,none⟩ = some (.int .i64 (i : Int)) /\ V.cell? ⟨r,1,none⟩ = some (.int .i64 (t : Int)) /\ V.cell? ⟨r,2,none⟩ = some (.string sx)):=hJQ (fun V hV => HSR.out V (hV.block r (blk_lt hr4) (fun e => hne5 e.symm)))
    have hgne : (Value.slice A5 NY c5).ownBlock ≠ some g:=fun e => by
     have hm9:=HM2.out
     have hfy:=hm9.ne (k:=g) e
     obtain ⟨cur,hc⟩:=hfy
     exact types_ne hm9.here hc (by decide) rfl
    have HG6 : Hid (∀ V : World,w4.grownBy V (Value.slice A5 NY c5).ownBlock -> V.heap[g]? = some (.cells #[nv2,dv2,pv2,.slice A5 NY c5] 40 (0,0))):=hJQ (fun V hV => (hV.block g (blk_lt hx4) (fun e => hgne e.symm)).trans hx4)
    have hgr0 : g ≠ r:=types_ne HX2.out HK2.out (by decide)
    have HS7 : Hid (∀ (V : World) (A6 : Option Addr) (c6 : Nat),V.heap[g]? = some (.cells #[nv2,dv2,pv2,.slice A5 NY c5] 40 (0,0)) -> w4.grownBy V (Value.slice A5 NY c5).ownBlock -> ∀ U,U = V.setCell ⟨g,3,none⟩ (.slice A6 (NY + 1) c6) -> U.cell? ⟨r,0,none⟩ = some (.int .i64 (i : Int)) /\ U.cell? ⟨r,1,none⟩ = some (.int .i64 (t : Int)) /\ U.cell? ⟨r,2,none⟩ = some (.string sx)):=hJQ (fun V A6 c6 hg hV U hU => by
     obtain ⟨q1,q2⟩:=seti hg 3 (.slice A6 (NY + 1) c6)
     rw [hU]
     exact HSR.out _ ((q1.rest r (fun e => hgr0 e.symm)).trans (hV.block r (blk_lt hr4) (fun e => hne5 e.symm))))
    have HEND : Hid (∀ (V : World) (A6 : Option Addr) (c6 : Nat),FRow V B (.slice A6 (NY + 1) c6) (NY + 1) ((gathW Y i (outs.take j)).flatMap wayC ++ [.int .i64 (i : Int),.int .i64 (t : Int),.string sx]) -> w4.grownBy V (Value.slice A5 NY c5).ownBlock -> (∀ k,(Value.slice A6 (NY + 1) c6).ownBlock = some k -> (Value.slice A5 NY c5).ownBlock = some k ∨ w4.heap.size <= k) -> GrW (V.setCell ⟨g,3,none⟩ (.slice A6 (NY + 1) c6)) (bump w2 (bump wr Fr0 0) 0) B g many X P N1 (gathW Y i (outs.take (j + 1))) /\ Below B w2 (V.setCell ⟨g,3,none⟩ (.slice A6 (NY + 1) c6)) /\ (V.setCell ⟨g,3,none⟩ (.slice A6 (NY + 1) c6)).ownsRow 0 28 3 (.slice (some ⟨b0,off,none⟩) NO c1) NO (outs.flatMap (pkt i)) /\ ∀ k,(Value.slice (some ⟨b0,off,none⟩) NO c1).ownBlock = some k -> bump w2 (bump wr Fr0 0) 0 k = i + 1):=hJQ (fun V A6 c6 hy hV hz => by
     have hmore:=gath_more (Y:=Y) (i:=i) HXO.out HY.out (by rw [HNYE.out]; exact h4)
     have hM : NY + 1 = (gathW Y i (outs.take j) ++ [(i,t,mm)]).length:=by rw [List.length_append,HNYE.out]; rfl
     have hfl : (gathW Y i (outs.take j) ++ [(i,t,mm)]).flatMap wayC = (gathW Y i (outs.take j)).flatMap wayC ++ [.int .i64 (i : Int),.int .i64 (t : Int),.string sx]:=by rw [List.flatMap_append,<- HSX.out]; rfl
     obtain ⟨q1,q2⟩:=GrW.sent (Y':=gathW Y i (outs.take j) ++ [(i,t,mm)]) HM2.out HG2.out.nds hb24 hV hM (by rw [hfl]; exact hy) (fun k e => (hz k e).imp id (fun e2 => Nat.le_trans hb24.size e2))
     rw [hmore]
     refine ⟨q1,q2,own_fr HRR2.out fun k e => ?_,fun k e => ?_⟩
     ·have hf:=HFR2.out k e
      obtain ⟨s1,s2⟩:=HRR2.out.lt k e
      have hk0 : k ≠ g:=fun e2 => by
       have:=HM2.out.fg
       rw [<- e2,hf] at this; omega
      have hk1 : (Value.slice A5 NY c5).ownBlock ≠ some k:=fun e2 => by
       have:=HM2.out.fy k e2
       rw [hf] at this; omega
      rw [heap_setCell_other _ _ _ _ hk0,hV.block k (Nat.lt_of_lt_of_le s2 hb24.size) (fun e => hk1 e.symm),hb24.block k s2]
     ·rw [bump_old (HRR2.out.lt k e).2]; exact HFR2.out k e)
    have HW4:=hJQ hw4
    have HNB:=hJQ enb
    have HN4:=hJQ hn4
    have HWD:=hJQ hwd
    have g3d:=cell_of hxd (j:=3) rfl
    have g3e:=cell_of hx4 (j:=3) rfl
    clear hwd hbd hw4 enb hb4 hn4 hb24 hr4 hxd hx4 hrd2 HSR hne5 hgne hgr0 h4
    go_upto_region 3 with fail
    rw [<- HW2.out,<- ER.out]
    clear c0 c1c c2
    go_upto_region 4 with fail
    clear g3
    refine wp_region_held_drew (S:=fun V => V.cell? ⟨r,0,none⟩ = some (.int .i64 (i : Int)) /\ V.cell? ⟨r,1,none⟩ = some (.int .i64 (t : Int)) /\ V.cell? ⟨r,2,none⟩ = some (.string sx)) (by kernel_rfl) hHs (fun hHeld => ?_)
    clear hHeld hHs
    have hHeld:=HD.out
    rw [<- HWD.out]
    refine tk 0 25 (.pointer (some ⟨g,0,none⟩)) hHeld ?_
    refine tk 1 26 (.pointer (some ⟨g,0,none⟩)) hHeld ?_
    refine tk 2 27 (.pointer (some ⟨g,0,none⟩)) hHeld ?_
    refine tk 3 28 (.pointer (some ⟨g,3,none⟩)) hHeld ?_
    refine tm 5 30 (.agg #[.int .i64 (i : Int),.int .i64 (t : Int),.string sx]) hHeld ?_
    simp only [lz,ls]
    refine wpAnyH_ready (rs:=[4,6]) (by kernel_rfl) (by simp) ?_
    refine AllReadyH.cons rfl (fun K hK => ?_) (AllReadyH.cons rfl (fun K hK => ?_) (AllReadyH.nil))
    ·go_simp
     refine hK.out _ _ (hHeld) (fun hHeld => ?_)
     clear hK K
     try simp only [Act.put,lp,lz,ls]
     refine r1 6 (fun K hK => ?_) rfl
     go_simp
     rw [<- HW4.out,<- HNB.out]
     refine hK.out _ _ (HS4.out) (fun hHeld => ?_)
     clear hK K
     try simp only [Act.put,lp,lz,ls]
     refine r1 7 (fun K hK => ?_) rfl
     refine step_append_way (w:=w4) (by rfl) _ _ (by rfl) (B:=B) (A:=A5) (n:=NY) (c:=c5) (by rfl) HY4.out ⟨nb,0,none⟩ 1 [.int .i64 (i : Int),.int .i64 (t : Int),.string sx] (by rfl) rfl (World.news_of_block HN4.out) (by intro u hu; simp at hu; rcases hu with rfl | rfl | rfl <;> rfl) (by have:=HNY.out; omega) HB4.out ?_
     intro A6 c6 w6 hy6 hg6 hz6
     have hs6:=HS6.out w6 hg6
     have hx6:=HG6.out w6 hg6
     have HY6:=hJQ hy6
     have HGR6:=hJQ hg6
     have HZ6:=hJQ hz6
     have g3:=cell_of hx6 (j:=3) rfl
     have gf3:=frozen_of_row w6 g 3 _ _ hx6
     have HX6:=hJQ hx6
     clear hy6 hg6 hz6 hx6
     refine hK.out _ _ (hs6) (fun hHeld => ?_)
     clear hK K
     try simp only [Act.put,List.setIfInBounds_toArray]
     refine tk 8 33 (.pointer (some ⟨g,0,none⟩)) hHeld ?_
     refine tk 9 34 (.pointer (some ⟨g,3,none⟩)) hHeld ?_
     simp only [lz,ls]
     refine r1 10 (fun K hK => ?_) rfl
     go_simp
     obtain ⟨w7,hw7⟩ : ∃ U,U = w6.setCell ⟨g,3,none⟩ (.slice A6 (NY + 1) c6):=⟨_,rfl⟩
     rw [<- hw7]
     have hs7:=HS7.out w6 A6 c6 HX6.out HGR6.out w7 hw7
     have hfin:=HEND.out w6 A6 c6 HY6.out HGR6.out HZ6.out
     rw [<- hw7] at hfin
     have HFIN:=hJQ hfin
     clear hw7 hfin
     refine hK.out _ _ (hs7) (fun hHeld => ?_)
     clear hK K
     try simp only [Act.put,lp,lz,ls]
     refine wpAnyH_done (by kernel_rfl) ?_ _
     clear hHeld g3d g3e g3 gf3 hs6 hs7
     go_wp2_with fail
     go_roundw
     case rel => exact ⟨j + 1,hlt,by go_num,hJQ (HBR2.out.trans HFIN.out.2.1),hJQ HFIN.out.2.2.1,hJQ ⟨_,HFIN.out.1,HFIN.out.2.2.2⟩⟩
     case measure => simp [intOf]; omega
    ·go_simp
     rw [<- HW4.out,<- HNB.out]
     refine hK.out _ _ (HS4.out) (fun hHeld => ?_)
     clear hK K
     try simp only [Act.put,lp,lz,ls]
     refine r1 4 (fun K hK => ?_) rfl
     go_simp
     refine hK.out _ _ (hHeld) (fun hHeld => ?_)
     clear hK K
     try simp only [Act.put,lp,lz,ls]
     refine r1 7 (fun K hK => ?_) rfl
     refine step_append_way (w:=w4) (by rfl) _ _ (by rfl) (B:=B) (A:=A5) (n:=NY) (c:=c5) (by rfl) HY4.out ⟨nb,0,none⟩ 1 [.int .i64 (i : Int),.int .i64 (t : Int),.string sx] (by rfl) rfl (World.news_of_block HN4.out) (by intro u hu; simp at hu; rcases hu with rfl | rfl | rfl <;> rfl) (by have:=HNY.out; omega) HB4.out ?_
     intro A6 c6 w6 hy6 hg6 hz6
     have hs6:=HS6.out w6 hg6
     have hx6:=HG6.out w6 hg6
     have HY6:=hJQ hy6
     have HGR6:=hJQ hg6
     have HZ6:=hJQ hz6
     have g3:=cell_of hx6 (j:=3) rfl
     have gf3:=frozen_of_row w6 g 3 _ _ hx6
     have HX6:=hJQ hx6
     clear hy6 hg6 hz6 hx6
     refine hK.out _ _ (hs6) (fun hHeld => ?_)
     clear hK K
     try simp only [Act.put,List.setIfInBounds_toArray]
     refine tk 8 33 (.pointer (some ⟨g,0,none⟩)) hHeld ?_
     refine tk 9 34 (.pointer (some ⟨g,3,none⟩)) hHeld ?_
     simp only [lz,ls]
     refine r1 10 (fun K hK => ?_) rfl
     go_simp
     obtain ⟨w7,hw7⟩ : ∃ U,U = w6.setCell ⟨g,3,none⟩ (.slice A6 (NY + 1) c6):=⟨_,rfl⟩
     rw [<- hw7]
     have hs7:=HS7.out w6 A6 c6 HX6.out HGR6.out w7 hw7
     have hfin:=HEND.out w6 A6 c6 HY6.out HGR6.out HZ6.out
     rw [<- hw7] at hfin
     have HFIN:=hJQ hfin
     clear hw7 hfin
     refine hK.out _ _ (hs7) (fun hHeld => ?_)
     clear hK K
     try simp only [Act.put,lp,lz,ls]
     refine wpAnyH_done (by kernel_rfl) ?_ _
     clear hHeld g3d g3e g3 gf3 hs6 hs7
     go_wp2_with fail
     go_roundw
     case rel => exact ⟨j + 1,hlt,by go_num,hJQ (HBR2.out.trans HFIN.out.2.1),hJQ HFIN.out.2.2.1,hJQ ⟨_,HFIN.out.1,HFIN.out.2.2.2⟩⟩
     case measure => simp [intOf]; omega
   ·have h4d : decide ((NY : Int) < 400) = false:=by simp; omega
    have h4e : decide (NY < 400) = false:=by simp; omega
    have HSAME : Hid (gathW Y i (outs.take (j + 1)) = gathW Y i (outs.take j)):=hJQ (gath_full (by rw [HNO.out]; exact hlt) HY.out (by rw [HNYE.out]; exact h4))
    clear h4
    go_upto_region 3 with fail
    rw [<- HW2.out,<- ER.out]
    clear c0 c1c c2
    go_wp2_with fail
    go_roundw
    case rel => exact ⟨j + 1,hlt,by go_num,HBR2,HRR2,hJQ ⟨_,by rw [HSAME.out]; exact HG2.out,HFR2.out⟩⟩
    case measure => simp [intOf]; omega
  ·obtain rfl : j = NO:=by omega
   have hki : ¬ (j : Int) < (j : Int):=by omega
   have HTK : Hid (outs.take j = outs):=hJQ (List.take_of_length_le (by rw [HNO.out]; exact Nat.le_refl _))
   clear hgr hfr0
   go_wp2_with fail
   go_end0
   exact ⟨rfl,HBR.out,by obtain ⟨F',h1,_⟩:=HGR.out; exact ⟨F',by rw [HTK.out] at h1; exact h1⟩⟩
open Go.ChangeShapes Go.WideShapes Go.ChangeAt Go.RowKit Go.Proofs.Rk
open Pq (Fld FReads errL bytL fcs)
open Gq (Bz Mine PL PDisk Kp Kl Lg Dk)

structure GOk (many : Nat) (N : Nat -> Nd) (Y : List Wy) : Prop where
 out : ∀ i,i < many -> (N i).out = []
 len : Y.length <= 400
 ms : ∀ y ∈ Y,MsOk y.2.2 /\ y.1 < many /\ y.2.1 < many
structure GPre (many i : Nat) (N : Nat -> Nd) (Y : List Wy) : Prop where
 out : ∀ j,j < many -> j ≠ i -> (N j).out = []
 mine : OutOk (N i)
 mn : (N i).many = many
 short : (N i).out.length <= 1000
 len : Y.length <= 400
 ms : ∀ y ∈ Y,MsOk y.2.2 /\ y.1 < many /\ y.2.1 < many
theorem GPre.gather {many i : Nat} {N : Nat -> Nd} {Y : List Wy} (h : GPre many i N Y) (hi : i < many) : GOk many (upd N i { N i with out:=[] }) (gathW Y i (N i).out):=by
 refine ⟨fun j hj => ?_,gath_len h.len,fun y hy => ?_⟩
 ·unfold upd
  by_cases e : j = i
  ·rw [if_pos e]
  ·rw [if_neg e]; exact h.out j hj e
 ·unfold gathW at hy
  rcases List.mem_append.1 hy with hy | hy
  ·exact h.ms y hy
  ·obtain ⟨o,ho,rfl⟩:=List.mem_map.1 (List.mem_of_mem_take hy)
   obtain ⟨k1,k2⟩:=h.mine o ho
   exact ⟨k1,hi,by rw [<- h.mn]; exact k2⟩
theorem GOk.call {many i : Nat} {N : Nat -> Nd} {Y : List Wy} {n : Nd} (h : GOk many N Y) (h1 : OutOk n) (h2 : n.many = many) (h3 : n.out.length <= 1000) : GPre many i (upd N i n) Y :=
 ⟨fun j hj e => by unfold upd; rw [if_neg e]; exact h.out j hj,by unfold upd; rw [if_pos rfl]; exact h1,by unfold upd; rw [if_pos rfl]; exact h2,by unfold upd; rw [if_pos rfl]; exact h3,h.len,h.ms⟩
noncomputable def oneW (N : Nat -> Nd) (y : Wy) (Y : List Wy) : (Nat -> Nd) × List Wy :=
 (upd (upd N y.2.1 ((N y.2.1).take y.1 y.2.1 (enM y.2.2))) y.2.1 { (N y.2.1).take y.1 y.2.1 (enM y.2.2) with out:=[] },gathW Y y.2.1 ((N y.2.1).take y.1 y.2.1 (enM y.2.2)).out)
noncomputable def flowS : Nat -> (Nat -> Nd) -> List Wy -> (Nat -> Nd) × List Wy
 | 0,N,Y => (N,Y)
 | _ + 1,N,[] => (N,[])
 | k + 1,N,y :: Y => flowS k (oneW N y Y).1 (oneW N y Y).2
theorem upd_self (N : Nat -> Nd) (i : Nat) (n : Nd) : upd N i n i = n:=if_pos rfl
theorem sb_enM (m : Ms) : Pq.sb (strOfNums (enM m)) = enM m:=Pq.sb_str (Pq.bytL_bys _)
theorem flow_nil (k : Nat) (N : Nat -> Nd) : flowS k N [] = (N,[]):=by cases k <;> rfl
set_option maxHeartbeats 16000000 in
theorem flow_any {w : World} {F : Nat -> Nat} {B g many : Nat} {X P : Nat -> Nat} {N : Nat -> Nd} {Y : List Wy} {i : Nat} (h : GrW w F B g many X P N Y) (hi : i < many) (hm : many <= 7) (hp : GPre many i N Y) :
  Calls Tryz.prog 42 #[.pointer (some ⟨g,0,none⟩),.int .i64 (i : Int)] w fun e w' => e = .returned (.tuple #[]) /\ Below B w w' /\ ∃ F',GrW w' F' B g many X P (flowS 3000 (upd N i { N i with out:=[] }) (gathW Y i (N i).out)).1 (flowS 3000 (upd N i { N i with out:=[] }) (gathW Y i (N i).out)).2 /\ GOk many (flowS 3000 (upd N i { N i with out:=[] }) (gathW Y i (N i).out)).1 (flowS 3000 (upd N i { N i with out:=[] }) (gathW Y i (N i).out)).2:=by
 have HGA:=hJQ (gather_any h hi hm hp.len hp.short)
 have HO1:=hJQ (hp.gather hi)
 obtain ⟨N1,hN1⟩ : ∃ k,upd N i { N i with out:=[] } = k:=⟨_,rfl⟩
 obtain ⟨Y1,hY1⟩ : ∃ k,gathW Y i (N i).out = k:=⟨_,rfl⟩
 rw [hN1,hY1] at HGA HO1 ⊢
 obtain ⟨R,hR⟩ : ∃ k,flowS 3000 N1 Y1 = k:=⟨_,rfl⟩
 rw [hR]
 have HR0:=hJQ hR
 have HM7:=hJQ hm
 clear h hi hm hp hN1 hY1 hR
 go_enter Tryz.func42,Tryz.ntmps42
 go_wp2_with fail
 refine HGA.out.mono ?_
 rintro e w1 ⟨rfl,hb1,F1,hg1⟩
 have HB1:=hJQ hb1
 have HG1:=hJQ hg1
 clear hb1 hg1
 go_wp2_with fail
 go_loopw [4] (fun c wr => ∃ (k : Nat) (N2 : Nat -> Nd) (Y2 : List Wy) (F2 : Nat -> Nat),k <= 3000 /\ c = .int .i64 k /\ Hid (Below B w wr) /\ Hid (GrW wr F2 B g many X P N2 Y2) /\ Hid (GOk many N2 Y2) /\ Hid (flowS (3000 - k) N2 Y2 = R)) (fun c _ => 3000 - (intOf c).toNat)
 case atStart => exact ⟨0,N1,Y1,F1,by omega,rfl,HB1,HG1,HO1,HR0⟩
 case round =>
  obtain ⟨k,N2,Y2,F2,hk,rfl,HBR,HGR,HOK,HFR⟩:=hrel
  obtain ⟨nv,dv,pv,yv,hmm⟩:=HGR.out.mem
  obtain ⟨A5,c5,rfl,-⟩:=hmm.yrow.form
  obtain ⟨NY,hNY⟩ : ∃ a,Y2.length = a:=⟨_,rfl⟩
  have hxr:=hmm.here
  rw [hNY] at hxr
  have g3:=cell_of hxr (j:=3) rfl
  by_cases hlt : k < 3000
  ·have hki : (k : Int) < 3000:=by omega
   have hwk : IntKind.i64.wrap ((k : Int) + 1) = (k : Int) + 1:=by rw [IntKind.wrap_i64]; omega
   cases hY2 : Y2 with
   | nil =>
    rw [hY2] at hNY
    obtain rfl : 0 = NY:=hNY
    have HE : Hid ((N2,([] : List Wy)) = R):=hJQ (by have h9:=HFR.out; rw [hY2,flow_nil] at h9; exact h9)
    rw [hY2] at HGR HOK
    clear hmm hxr hY2
    go_wp2_with fail
    go_end0
    exact ⟨rfl,HBR.out,F2,by rw [<- HE.out]; exact HGR.out,by rw [<- HE.out]; exact HOK.out⟩
   | cons y Y3 =>
    obtain ⟨f,t,m⟩:=y
    rw [hY2] at HGR HOK HFR hNY hmm
    have hNY1 : NY = Y3.length + 1:=by rw [<- hNY]; rfl
    have hNY0 : (0 : Int) < (NY : Int):=by omega
    have hNYn : 0 < NY:=by omega
    have hyl : NY <= 400:=by rw [<- hNY]; exact HOK.out.len
    obtain ⟨hms,hfm,htm⟩:=HOK.out.ms (f,t,m) (by simp)
    simp only at hms hfm htm
    obtain ⟨yb,yo,yc,eyv⟩:=hmm.yrow.some (by rw [hNY]; exact hNYn)
    rw [hNY] at eyv
    injection eyv with eA eN eC
    subst eA
    subst eC
    clear eN
    have hfr:=hmm.yrow
    rw [hNY] at hfr
    obtain ⟨sx,hsx⟩ : ∃ a,strOfNums (enM m) = a:=⟨_,rfl⟩
    obtain ⟨ti,hti0⟩ : ∃ a : Int,(t : Int) = a:=⟨_,rfl⟩
    have c0 : wr.cell? ⟨yb,yo,none⟩ = some (.int .i64 (f : Int)):=hfr.cell (j:=0) rfl
    have c1 : wr.cell? ⟨yb,yo + 1,none⟩ = some (.int .i64 ti):=by rw [<- hti0]; exact hfr.cell (j:=1) rfl
    have c2 : wr.cell? ⟨yb,yo + 2,none⟩ = some (.string sx):=by rw [<- hsx]; exact hfr.cell (j:=2) rfl
    obtain ⟨w2,hw2⟩ : ∃ xx,xx = wr.alloc (.cells #[.int .i64 (f : Int),.int .i64 ti,.string sx] 28):=⟨_,rfl⟩
    obtain ⟨r,er⟩ : ∃ xx,xx = wr.heap.size:=⟨_,rfl⟩
    have hb2 : Below wr.heap.size wr w2:=by rw [hw2]; exact box_below wr _
    have hk2 : w2.heap[r]? = some (.cells #[.int .i64 (f : Int),.int .i64 ti,.string sx] 28 (0,0)):=by rw [hw2,er]; exact new_block wr _
    have hm2:=hmm.keep 0 hb2.size (fun k hk _ => hb2.block k hk)
    have hg2:=HGR.out.fresh hb2
    have hx2:=hm2.here
    rw [hNY] at hx2
    have hfr2:=hm2.yrow
    rw [hNY] at hfr2
    obtain ⟨A6,c6,hsl,hfr6,hob⟩:=way_tail hfr2 hNYn (by omega)
    have hd3 : ((f,t,m) :: Y3).flatMap wayC = [.int .i64 (f : Int),.int .i64 (t : Int),.string (strOfNums (enM m))] ++ Y3.flatMap wayC:=rfl
    have hfr6' : FRow w2 B (.slice A6 (NY - 1) c6) (NY - 1) (Y3.flatMap wayC):=by
     rw [hd3] at hfr6; exact hfr6
    obtain ⟨N3,hN3⟩ : ∃ a,NY - 1 = a:=⟨_,rfl⟩
    rw [hN3] at hsl hfr6' hob
    rw [hNY] at hm2
    obtain ⟨hg3,hb3⟩:=GrW.sent (Y':=Y3) hm2 hg2.nds (Below.refl _ _) ⟨rfl,rfl,rfl,Nat.le_refl _,fun _ _ _ => rfl⟩ (by omega) hfr6' (fun k e => .inl (by rw [<- hob]; exact e))
    obtain ⟨w3,hw3⟩ : ∃ xx,xx = w2.setCell ⟨g,3,none⟩ (.slice A6 N3 c6):=⟨_,rfl⟩
    rw [<- hw3] at hg3 hb3
    obtain ⟨q1,q2⟩:=seti hx2 3 (.slice A6 N3 c6)
    rw [<- hw3] at q1 q2
    have hrne : r ≠ g:=types_ne hk2 hx2 (by decide)
    have hr3:=q1.blk hrne hk2
    obtain ⟨nv3,dv3,pv3,yv3,hmm3⟩:=hg3.mem
    obtain ⟨nb,nc,env,hnt⟩:=hmm3.member htm
    subst env
    obtain ⟨w4,hw4⟩ : ∃ xx,xx = w3.drew:=⟨_,rfl⟩
    have hb4 : Below w3.heap.size w3 w4:=by rw [hw4]; exact (Below.refl _ _).drew
    obtain ⟨w5,hw5⟩ : ∃ xx,xx = w4.drew:=⟨_,rfl⟩
    have hb5 : Below w4.heap.size w4 w5:=by rw [hw5]; exact (Below.refl _ _).drew
    have hb35:=hb4.trans (hb5.mono hb4.size)
    obtain ⟨F3,hF3⟩ : ∃ a,bump w2 (bump wr F2 0) 0 = a:=⟨_,rfl⟩
    rw [hF3] at hg3 hmm3
    have hg5:=hg3.fresh hb35
    have hFr5 : bump w3 F3 0 r = 0:=by
     rw [bump_old (blk_lt hr3),<- hF3,bump_old (blk_lt hk2)]
     exact bump_new (by omega)
    have hmm5:=hmm3.keep 0 hb35.size (fun k hk _ => hb35.block k hk)
    have hx3:=hmm3.here
    have hx4:=blk_below hx3 hb4
    have hx5:=hmm5.here
    have hr4:=blk_below hr3 hb4
    have hr5:=blk_below hr4 hb5
    obtain ⟨nb2,nc2,e2,hnt5⟩:=hmm5.member htm
    injection e2 with e2 _ _
    injection e2 with e2
    injection e2 with e2 _ _
    subst e2
    obtain ⟨nb2,nc2,e2,hnt4⟩:=(hmm3.keep 0 hb4.size (fun k hk _ => hb4.block k hk)).member htm
    injection e2 with e2 _ _
    injection e2 with e2
    injection e2 with e2 _ _
    subst e2
    have hnode:=hg5.nds t htm
    have hout0 : (N2 t).out = []:=HOK.out.out t htm
    have hta:=take_live hnode (by rw [hout0]; simp) (pf:=(f : Int)) (pt:=(t : Int)) (bd:=strOfNums (enM m)) (by rw [Gq.str_size]; have:=ms_bytes hms; unfold maxLen; omega)
    rw [sb_enM,hsx,hti0] at hta
    have HTA:=hJQ hta
    have HG5:=hJQ hg5
    have HB5 : Hid (Below B w w5):=hJQ ((HBR.out.trans (HGR.out.below_of hb2)).trans (hb3.trans (hg3.below_of hb35)))
    have HTI:=hJQ hti0
    have HTM:=hJQ htm
    have HSX:=hJQ hsx
    have HNB : Hid (∀ W : World,Fr (t + 1) (bump w3 F3 0) w5 W -> W.heap[g]? = w5.heap[g]? /\ W.heap[nb]? = w5.heap[nb]? /\ W.heap[r]? = w5.heap[r]?):=hJQ (fun W hW => ⟨hW.kept g (blk_lt hx5) (by rw [hmm5.fg]; omega),by
     have hl:=hmm5.nrow.lt nb rfl
     exact hW.kept nb hl.2 (by rw [hmm5.fn nb rfl]; omega),hW.kept r (blk_lt hr5) (by rw [hFr5]; omega)⟩)
    have HS6 : Hid (∀ W : World,Fr (t + 1) (bump w3 F3 0) w5 W -> W.cell? ⟨g,0,none⟩ = some (.slice (some ⟨nb,0,none⟩) many nc) /\ W.cell? ⟨nb,t,none⟩ = some (.pointer (some ⟨X t,0,none⟩)) /\ W.cell? ⟨r,0,none⟩ = some (.int .i64 (f : Int)) /\ W.cell? ⟨r,1,none⟩ = some (.int .i64 ti) /\ W.cell? ⟨r,2,none⟩ = some (.string sx)):=hJQ (fun W hW => by
     obtain ⟨e1,e2,e3⟩:=HNB.out W hW
     have e1':=e1.trans hx5
     have e3':=e3.trans hr5
     refine ⟨cell_of e1' (j:=0) rfl,?_,cell_of e3' (j:=0) rfl,cell_of e3' (j:=1) rfl,cell_of e3' (j:=2) rfl⟩
     obtain ⟨cur,hc⟩:=own_type hmm5.nrow (k:=nb) rfl
     have h1:=hnt5
     rw [cell_of_row w5 nb t _ _ _ hc] at h1
     rw [cell_of_row W nb t _ _ _ (e2.trans hc)]
     exact h1)
    have HR5F : Hid (∀ W : World,Fr (t + 1) (bump w3 F3 0) w5 W -> W.heap[r]? = some (.cells #[.int .i64 (f : Int),.int .i64 ti,.string sx] 28 (0,0))):=hJQ (fun W hW => (HNB.out W hW).2.2.trans hr5)
    have HPRE : Hid (GPre many t (upd N2 t ((N2 t).take (f : Int) ti (enM m))) Y3):=hJQ (by
     have hid2:=take_id (N2 t) (f : Int) (t : Int) (enM m)
     have hnm:=hnode.self
     have h3:=take_len (n:=N2 t) (f:=(f : Int)) (t:=(t : Int)) (b:=enM m)
     rw [hout0] at h3
     rw [<- hti0]
     refine GOk.call ⟨HOK.out.out,by have:=HOK.out.len; simp at this; omega,fun y hy => HOK.out.ms y (by simp [hy])⟩ (take_out (by intro o ho; rw [hout0] at ho; cases ho) hnode.ok _ _ _) (hid2.2.trans hnm.2) ?_
     have h4 : (N2 t).many <= 7:=hnode.ok.many
     simp at h3
     omega)
    have HOK7 : Hid (GOk many (oneW N2 (f,t,m) Y3).1 (oneW N2 (f,t,m) Y3).2):=hJQ (by
     have h9:=HPRE.out.gather htm
     rw [upd_self,<- hti0] at h9
     exact h9)
    have HFL : Hid (flowS (3000 - (k + 1)) (oneW N2 (f,t,m) Y3).1 (oneW N2 (f,t,m) Y3).2 = R):=hJQ (by
     have h9:=HFR.out
     rw [show 3000 - k = (3000 - (k + 1)) + 1 by omega] at h9
     exact h9)
    have hH6 : w3.cell? ⟨r,1,none⟩ = some (.int .i64 ti) /\ w3.cell? ⟨g,0,none⟩ = some (.slice (some ⟨nb,0,none⟩) many nc):=⟨cell_of hr3 (j:=1) rfl,cell_of hx3 (j:=0) rfl⟩
    have HD6 : Hid (w4.cell? ⟨r,1,none⟩ = some (.int .i64 ti) /\ w4.cell? ⟨g,0,none⟩ = some (.slice (some ⟨nb,0,none⟩) many nc)):=hJQ ⟨cell_of hr4 (j:=1) rfl,cell_of hx4 (j:=0) rfl⟩
    have hH7 : w4.cell? ⟨g,0,none⟩ = some (.slice (some ⟨nb,0,none⟩) many nc) /\ w4.cell? ⟨nb,t,none⟩ = some (.pointer (some ⟨X t,0,none⟩)) /\ w4.cell? ⟨r,0,none⟩ = some (.int .i64 (f : Int)) /\ w4.cell? ⟨r,1,none⟩ = some (.int .i64 ti) /\ w4.cell? ⟨r,2,none⟩ = some (.string sx):=⟨cell_of hx4 (j:=0) rfl,hnt4,cell_of hr4 (j:=0) rfl,cell_of hr4 (j:=1) rfl,cell_of hr4 (j:=2) rfl⟩
    have HD7 : Hid (w5.cell? ⟨g,0,none⟩ = some (.slice (some ⟨nb,0,none⟩) many nc) /\ w5.cell? ⟨nb,t,none⟩ = some (.pointer (some ⟨X t,0,none⟩)) /\ w5.cell? ⟨r,0,none⟩ = some (.int .i64 (f : Int)) /\ w5.cell? ⟨r,1,none⟩ = some (.int .i64 ti) /\ w5.cell? ⟨r,2,none⟩ = some (.string sx)):=hJQ ⟨cell_of hx5 (j:=0) rfl,hnt5,cell_of hr5 (j:=0) rfl,cell_of hr5 (j:=1) rfl,cell_of hr5 (j:=2) rfl⟩
    have g3b:=cell_of hx2 (j:=3) rfl
    have gf3:=frozen_of_row w2 g 3 _ _ hx2
    have hti : decide (0 <= ti) = true:=by simp; omega
    have hti2 : decide (ti < (many : Int)) = true:=by simp; omega
    have hti3 : ti < (many : Int):=by omega
    have hti4 : 0 <= ti:=by omega
    have hti5 : ti.toNat = t:=by omega
    have HW2:=hJQ hw2
    have ER:=hJQ er
    have HW3:=hJQ hw3
    have HWD4:=hJQ hw4
    have HWD5:=hJQ hw5
    clear hmm hxr hNY hms hfm htm hfr hsx hti0 hw2 er hb2 hk2 hm2 hg2 hx2 hfr2 hfr6 hob hd3 hfr6' hN3 hg3 hb3 hw3 q1 q2 hrne hr3 hmm3 hnt hw4 hb4 hw5 hb5 hb35 hF3 hg5 hFr5 hmm5 hx3 hx4 hx5 hr4 hr5 hnt5 hnt4 hnode hout0 hta hY2 hNY1 HNB
    go_upto_region 5 with fail
    rw [<- HW2.out,<- ER.out]
    clear c0 c1 c2 g3
    go_upto_region 6 with fail
    rw [<- HW3.out]
    clear g3b gf3 hsl
    refine wp_region_held_drew (S:=fun V => V.cell? ⟨r,1,none⟩ = some (.int .i64 ti) /\ V.cell? ⟨g,0,none⟩ = some (.slice (some ⟨nb,0,none⟩) many nc)) (by kernel_rfl) hH6 (fun hHeld => ?_)
    clear hHeld hH6
    have hHeld:=HD6.out
    rw [<- HWD4.out]
    refine tk 0 35 (.pointer (some ⟨r,1,none⟩)) hHeld ?_
    refine tm 1 36 (.int .i64 ti) hHeld ?_
    refine tk 2 37 (.bool true) hHeld ?_
    refine tk 3 38 (.bool true) hHeld ?_
    refine tk 4 39 (.pointer (some ⟨r,1,none⟩)) hHeld ?_
    simp only [lz,ls]
    refine tm 5 40 (.int .i64 ti) hHeld ?_
    refine tk 6 41 (.pointer (some ⟨g,0,none⟩)) hHeld ?_
    refine tk 7 42 (.pointer (some ⟨g,0,none⟩)) hHeld ?_
    refine tk 8 43 (.pointer (some ⟨g,0,none⟩)) hHeld ?_
    refine tm 9 44 (.slice (some ⟨nb,0,none⟩) many nc) hHeld ?_
    simp only [lz,ls]
    refine tk 10 45 (.int .i64 (many : Int)) hHeld ?_
    refine tk 11 46 (.bool true) hHeld ?_
    refine tk 12 47 (.bool true) hHeld ?_
    simp only [lz,ls]
    refine wpAnyH_done (by kernel_rfl) ?_ _
    clear hHeld
    go_upto_region 7 with fail
    refine wp_region_held_drew (S:=fun V => V.cell? ⟨g,0,none⟩ = some (.slice (some ⟨nb,0,none⟩) many nc) /\ V.cell? ⟨nb,t,none⟩ = some (.pointer (some ⟨X t,0,none⟩)) /\ V.cell? ⟨r,0,none⟩ = some (.int .i64 (f : Int)) /\ V.cell? ⟨r,1,none⟩ = some (.int .i64 ti) /\ V.cell? ⟨r,2,none⟩ = some (.string sx)) (by kernel_rfl) hH7 (fun hHeld => ?_)
    clear hHeld hH7
    have hHeld:=HD7.out
    rw [<- HWD5.out]
    refine tk 0 48 (.pointer (some ⟨g,0,none⟩)) hHeld ?_
    refine tk 1 49 (.pointer (some ⟨g,0,none⟩)) hHeld ?_
    refine tk 2 50 (.pointer (some ⟨g,0,none⟩)) hHeld ?_
    refine tm 3 51 (.slice (some ⟨nb,0,none⟩) many nc) hHeld ?_
    refine tk 4 52 (.pointer (some ⟨r,1,none⟩)) hHeld ?_
    simp only [lz,ls]
    refine tm 5 53 (.int .i64 ti) hHeld ?_
    refine tk 6 54 (.pointer (some ⟨nb,t,none⟩)) hHeld ?_
    refine tm 7 55 (.pointer (some ⟨X t,0,none⟩)) hHeld ?_
    refine tm 8 56 (.agg #[.int .i64 (f : Int),.int .i64 ti,.string sx]) hHeld ?_
    simp only [lz,ls]
    refine r1 9 (fun K hK => ?_) rfl
    go_simp
    refine HTA.out.mono ?_
    rintro e w6 ⟨rfl,hfr6,hn6⟩
    have hg6:=HG5.out.node hfr6 hn6
    have hs6:=HS6.out w6 hfr6
    have HB6:=hJQ (HB5.out.trans (HG5.out.out_below hfr6))
    have HR6:=hJQ (HR5F.out w6 hfr6)
    have HG6:=hJQ hg6
    clear hfr6 hn6 hg6
    go_wp2_with fail
    refine hK.out _ _ (hs6) (fun hHeld => ?_)
    clear hK K
    try simp only [Act.put,lp,lz,ls]
    refine wpAnyH_done (by kernel_rfl) ?_ _
    clear hHeld hs6
    have r1:=cell_of HR6.out (j:=1) rfl
    have HGA:=hJQ (gather_any HG6.out HTM.out HM7.out HPRE.out.len HPRE.out.short)
    rw [HTI.out] at HGA
    clear hti hti2 hti3 hti4 hti5
    go_wp2_with fail
    refine HGA.out.mono ?_
    rintro e w7 ⟨rfl,hb7,F7,hg7⟩
    have HB7:=hJQ (HB6.out.trans hb7)
    have HG7:=hJQ hg7
    clear hb7 hg7 r1
    go_wp2_with fail
    go_roundw
    case rel => exact ⟨k + 1,_,_,_,by omega,by go_num,HB7,hJQ (by have h9:=HG7.out; rw [upd_self,<- HTI.out] at h9; exact h9),hJQ HOK7.out,hJQ HFL.out⟩
    case measure => simp [intOf]; omega
  ·obtain rfl : k = 3000:=by omega
   have hki : ¬ (3000 : Int) < 3000:=by omega
   have HE : Hid ((N2,Y2) = R):=hJQ (by have h9:=HFR.out; rw [show 3000 - 3000 = 0 from rfl] at h9; exact h9)
   clear hmm hxr hNY
   go_wp2_with fail
   go_end0
   exact ⟨rfl,HBR.out,by rw [<- HE.out]; exact ⟨F2,HGR.out⟩,by rw [<- HE.out]; exact HOK.out⟩
open Go.ChangeShapes Go.WideShapes Go.ChangeAt Go.RowKit Go.Proofs.Rk

section
variable {P : Program} {ops : Array Oper} {Q : Exit -> Act -> World -> Prop} {md : Region.Mode} {R : Array Bool -> World -> Prop} {S : World -> Prop}
def Stages (P : Program) (md : Region.Mode) (ops : Array Oper) (Q : Exit -> Act -> World -> Prop) (R : Array Bool -> World -> Prop) : Nat -> Array Bool -> Act -> World -> Prop
 | 0,up,a,w => Region.ready md ops up = [] /\ Q .normal a w
 | n + 1,up,a,w => (Region.ready md ops up = [] -> Q .normal a w) /\ ∀ i ∈ Region.ready md ops up,wpOp P ops Q i (fun a' w' => R (up.setIfInBounds i true) w' /\ Stages P md ops Q R n (up.setIfInBounds i true) a' w') a w
theorem Stages.any : ∀ (n : Nat) (up : Array Bool) (a : Act) (w : World),Stages P md ops Q R n up a w -> wpAny P md ops Q n up a w
 | 0,_,_,_,h => h
 | n + 1,_,_,_,h => ⟨h.1,fun i hi => wpOp_mono (fun a' w' h' => Stages.any n _ a' w' h'.2) (h.2 i hi)⟩
theorem Stages.first {A : Array Bool -> Prop} {i : Nat} {oi : Oper} {v : Value} (hi : ops[i]? = some oi) (hsel : ∀ (j : Nat) (o : Oper) cs b,ops[j]? = some o -> o.op ≠ .select cs b)
  (hQ : ∀ c a w,Q (.panic c) (a.put oi.dst v) w -> Q (.panic c) a w)
  (hA : ∀ up j,up.getD i true = false -> j ≠ i -> j ∈ Region.ready md ops up -> A up -> A (up.setIfInBounds j true)) (hS : ∀ up w,A up -> R up w -> S w) (hR : ∀ up w,R (up.setIfInBounds i true) w ↔ R up w) :
  ∀ (n : Nat) (up : Array Bool) (a : Act) (w : World),
   (∀ j oj,ops[j]? = some oj -> j ≠ i -> up.getD j true = false -> (∀ e ∈ oj.after,Region.binds md e = true -> e.on ≠ i) -> oi.apart ops oj = true) ->
   i ∈ Region.ready md ops up -> YieldsIf P ops S oi v a -> A up -> R up w -> Stages P md ops Q R n (up.setIfInBounds i true) (a.put oi.dst v) w -> Stages P md ops Q R (n + 1) up a w:=by
 intro n
 induction n with
 | zero =>
  intro up a w _ hr hy hAu hRu H
  refine ⟨fun h => (by rw [h] at hr; cases hr),fun j hj => ?_⟩
  by_cases e : j = i
  ·subst e; exact hy.wpOp hi (hS _ _ hAu hRu) ⟨(hR _ _).2 hRu,H⟩
  ·have h1:=ready_mono hj e
   rw [H.1] at h1
   cases h1
 | succ n ih =>
  intro up a w hfree hr hy hAu hRu H
  have hun:=(mem_ready.1 hr).1
  refine ⟨fun h => (by rw [h] at hr; cases hr),fun j hj => ?_⟩
  by_cases e : j = i
  ·subst e; exact hy.wpOp hi (hS _ _ hAu hRu) ⟨(hR _ _).2 hRu,H⟩
  ·obtain ⟨hju,oj,hoj,hall⟩:=mem_ready.1 hj
   have hnot : ∀ d ∈ oj.after,Region.binds md d = true -> d.on ≠ i:=fun d hd hb e2 => by
    have h1:=hall d hd hb
    rw [e2] at h1
    rcases Nat.lt_or_ge i up.size with h' | h'
    ·simp [h'] at hun h1; rw [hun] at h1; cases h1
    ·simp [Array.getElem?_eq_none h'] at h1
   have h2:=wpOp_putIf hoj (hfree j oj hoj e hju hnot) (fun cs b => hsel i oi cs b hi) (fun cs b => hsel j oj cs b hoj) hQ hy (H.2 j (ready_mono hj e))
   refine wpOp_mono (fun a' w' h3 => ?_) h2
   have hun2 : (up.setIfInBounds j true).getD i true = false:=by rw [getD_set_ne true e]; exact hun
   have hA2:=hA up j hun e hj hAu
   have hfree2 : ∀ k ok,ops[k]? = some ok -> k ≠ i -> (up.setIfInBounds j true).getD k true = false -> (∀ d ∈ ok.after,Region.binds md d = true -> d.on ≠ i) -> oi.apart ops ok = true:=fun k ok hk hki hku hno => by
    refine hfree k ok hk hki ?_ hno
    by_cases e3 : j = k
    ·subst e3; exact hju
    ·rw [getD_set_ne true e3] at hku; exact hku
   have hR2 : R (up.setIfInBounds j true) w':=by
    have h4:=h3.2.1
    rw [<- Array.setIfInBounds_comm _ _ e] at h4
    exact (hR _ _).1 h4
   have hrest:=h3.2.2
   exact ⟨hR2,ih _ a' w' hfree2 (ready_mono hr (Ne.symm e)) h3.1 hA2 hR2 (by rw [Array.setIfInBounds_comm _ _ e]; exact hrest)⟩
/-! ### The moves -/
def Till (m : Nat) (S : World -> Prop) : Array Bool -> World -> Prop:=fun up w => up.getD m false = false -> S w
def waitsFor (md : Region.Mode) (ops : Array Oper) (m i : Nat) : Bool:=match ops[m]? with
 | none => false
 | some o => o.after.any fun e => Region.binds md e && e.on == i
theorem getD_put {up : Array Bool} {i m : Nat} (h : i ≠ m) (b : Bool) : (up.setIfInBounds i true).getD m b = up.getD m b:=getD_set_ne b h
theorem till_take {m : Nat} {n : Nat} {up : Array Bool} {l : List Value} {ds : List Deferred} {w : World} (i d : Nat) (v : Value) {o : Oper} (hi : ops[i]? = some o) (hd : o.dst = some d)
  (hs : Region.noSelect ops = true) (hf : Region.free md ops up i = true) (hr : (Region.ready md ops up).contains i = true) (hQ : ∀ c a w,Q (.panic c) (a.put o.dst v) w -> Q (.panic c) a w)
  (hw : waitsFor md ops m i = true) (hne : (i == m) = false) (hm : up.getD m false = false) (hy : YieldsIf P ops S o v (Act.mk l.toArray ds)) (hS : S w)
  (h : Stages P md ops Q (Till m S) n (up.setIfInBounds i true) (Act.mk (l.set d v).toArray ds) w) : Stages P md ops Q (Till m S) (n + 1) up (Act.mk l.toArray ds) w:=by
 have hne : i ≠ m:=by simpa using hne
 refine Stages.first (A:=fun up => up.getD m false = false) hi (Region.noSelect_spec hs) hQ (fun up j hun e hj hA => ?_) (fun up w hA hR => hR hA) (fun up w => ?_) n up _ w (Region.free_spec hi hf) (by simpa using hr) hy hm (fun _ => hS) ?_
 ·show (up.setIfInBounds j true).getD m false = false
  by_cases hjm : j = m
  ·subst hjm
   obtain ⟨_,oj,hoj,hall⟩:=mem_ready.1 hj
   unfold waitsFor at hw
   rw [hoj] at hw
   obtain ⟨e2,he,h2⟩:=Array.any_eq_true'.1 hw
   simp only [Bool.and_eq_true,beq_iff_eq] at h2
   have h1:=hall e2 he h2.1
   rw [h2.2] at h1
   rcases Nat.lt_or_ge i up.size with h' | h'
   ·simp [h'] at hun h1; rw [hun] at h1; cases h1
   ·simp [Array.getElem?_eq_none h'] at h1
  ·rw [getD_put hjm]; exact hA
 ·unfold Till; rw [getD_put hne]
 ·rw [hd]; simpa [Act.put] using h
theorem till_any {m : Nat} {n : Nat} {up : Array Bool} {l : List Value} {ds : List Deferred} {w : World} (i d : Nat) (v : Value) {o : Oper} (hi : ops[i]? = some o) (hd : o.dst = some d)
  (hs : Region.noSelect ops = true) (hf : Region.free md ops up i = true) (hr : (Region.ready md ops up).contains i = true) (hQ : ∀ c a w,Q (.panic c) (a.put o.dst v) w -> Q (.panic c) a w)
  (hne : (i == m) = false) (hy : YieldsIf P ops (fun _ => True) o v (Act.mk l.toArray ds)) (hR : Till m S up w)
  (h : Stages P md ops Q (Till m S) n (up.setIfInBounds i true) (Act.mk (l.set d v).toArray ds) w) : Stages P md ops Q (Till m S) (n + 1) up (Act.mk l.toArray ds) w:=by
 have hne : i ≠ m:=by simpa using hne
 refine Stages.first (A:=fun _ => True) (S:=fun _ => True) hi (Region.noSelect_spec hs) hQ (fun _ _ _ _ _ _ => trivial) (fun _ _ _ _ => trivial) (fun up w => ?_) n up _ w (Region.free_spec hi hf) (by simpa using hr) hy trivial hR ?_
 ·unfold Till; rw [getD_put hne]
 ·rw [hd]; simpa [Act.put] using h
theorem till_off {m : Nat} {up : Array Bool} {w : World} (h : up.getD m false = true) : Till m S up w:=fun e => by rw [h] at e; cases e
def Nexts (P : Program) (md : Region.Mode) (ops : Array Oper) (Q : Exit -> Act -> World -> Prop) (R : Array Bool -> World -> Prop) (n : Nat) (up : Array Bool) (a : Act) (w : World) (is : List Nat) : Prop :=
 ∀ i ∈ is,wpOp P ops Q i (fun a' w' => R (up.setIfInBounds i true) w' /\ Stages P md ops Q R n (up.setIfInBounds i true) a' w') a w
theorem Nexts.nil {n : Nat} {up : Array Bool} {a : Act} {w : World} : Nexts P md ops Q R n up a w []:=fun _ h => absurd h List.not_mem_nil
theorem Nexts.cons {n : Nat} {up : Array Bool} {a : Act} {w : World} {i : Nat} {o : Oper} {is : List Nat} (ho : ops[i]? = some o)
  (h : ∀ K : Act -> World -> Prop,Hid (∀ a w,R (up.setIfInBounds i true) w -> Stages P md ops Q R n (up.setIfInBounds i true) a w -> K a w) -> if Region.wanted o (yielded ops a.tmps) = true then Oper.wp P o a w K Q else K (a.put o.dst undef) w)
  (ht : Nexts P md ops Q R n up a w is) : Nexts P md ops Q R n up a w (i :: is):=by
 intro j hj
 rcases List.mem_cons.1 hj with e | hj
 ·subst e
  exact wpOp_step ho fun K hK => h K (hJQ fun a w h1 h2 => hK a w ⟨h1,h2⟩)
 ·exact ht j hj
theorem till_ready {m : Nat} {is : List Nat} {n : Nat} {up : Array Bool} {a : Act} {w : World} (hr : Region.ready md ops up = is) (hne : is ≠ []) (h : Nexts P md ops Q (Till m S) n up a w is) : Stages P md ops Q (Till m S) (n + 1) up a w :=
 ⟨fun h0 => absurd (hr ▸ h0) hne,hr ▸ h⟩
theorem stages_put {n : Nat} {up : Array Bool} {l : List Value} {ds : List Deferred} {w : World} (d : Nat) {v : Value} {od : Option Nat} (hd : od = some d) (h : Stages P md ops Q R n up (Act.mk (l.set d v).toArray ds) w) : Stages P md ops Q R n up ((Act.mk l.toArray ds).put od v) w:=by
 subst hd
 simpa [Act.put] using h
theorem till_done {m : Nat} {up : Array Bool} {a : Act} {w : World} (hr : Region.ready md ops up = []) (h : Q .normal a w) : ∀ n,Stages P md ops Q (Till m S) n up a w
 | 0 => ⟨hr,h⟩
 | _ + 1 => ⟨fun _ => h,by rw [hr]; simp⟩
theorem till_region {m id : Nat} {a : Act} {w : World} (hm : P.follows .mixedOrders = true) (h : Stages P .any ops Q (Till m S) ops.size (Array.replicate ops.size false) a w.drew) : (Code.region id ops true).wp P Q a w:=wp_region_any hm (Stages.any _ _ _ _ h)
end
theorem ta {ops : Array Oper} {Q : Exit -> Act -> World -> Prop} {S : World -> Prop} {m n : Nat} {up : Array Bool} {l : List Value} {ds : List Deferred} {w : World} (i d : Nat) (v : Value) {o : Oper} (hR : Till m S up w) (h : Stages Tryz.prog .any ops Q (Till m S) n (up.setIfInBounds i true) (Act.mk (l.set d v).toArray ds) w) (hi : ops[i]? = some o:=by rfl) (hd : o.dst = some d:=by rfl)
  (hs : Region.noSelect ops = true:=by kernel_rfl) (hf : Region.free .any ops up i = true:=by kernel_rfl) (hr : (Region.ready .any ops up).contains i = true:=by kernel_rfl) (hQ : ∀ c a w,Q (.panic c) (a.put o.dst v) w -> Q (.panic c) a w:=by exact fun _ _ _ h => h) (hne : (i == m) = false:=by rfl)
  (hw : Region.wanted o (yielded ops (Act.mk l.toArray ds).tmps) = true:=by rfl) (hy : ∀ w,True -> (execOp (Act.mk l.toArray ds).eval o).run Tryz.prog w = .ok (.value v) w:=by intro w' _; go_simp) : Stages Tryz.prog .any ops Q (Till m S) (n + 1) up (Act.mk l.toArray ds) w:=till_any i d v hi hd hs hf hr hQ hne (.inl ⟨hw,hy⟩) hR h
end Go.Proofs.YtlppinfjdnhlbaaGreatDoor
