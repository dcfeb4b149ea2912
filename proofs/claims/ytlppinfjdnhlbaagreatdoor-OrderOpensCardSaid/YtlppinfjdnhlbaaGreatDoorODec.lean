/-
 What the loop over a message's entries keeps. No condition.
 A region inside a round of a range over a function may be walked by the plain laws,where it defers nothing. No condition.
 What Decode returns of a text: the message that it is,or none. Condition: the text is no longer than memory bears.
-/
import Derived.Test.YtlppinfjdnhlbaaGreatDoorHd
import Derived.Test.YtlppinfjdnhlbaaGreatDoorOConv
import Derived.Test.YtlppinfjdnhlbaaGreatDoorOColl
import Derived.Test.YtlppinfjdnhlbaaGreatDoorOToE
import Derived.Test.YtlppinfjdnhlbaaGreatDoorOIs
import Derived.Test.YtlppinfjdnhlbaaGreatDoorQRSome
namespace Go.Proofs.YtlppinfjdnhlbaaGreatDoor
set_option maxRecDepth 100000
open Go.ChangeShapes Go.WideShapes Go.ChangeAt Go.RowKit Go.Proofs.Rk
open Pq (Fld FReads Reads fcs ams errL bytL sm dc Sm Bys byts)

theorem ens_len : ∀ (m : Nat) {g : List Fld},g.length = m * 3 -> (ens g).length = m
 | 0,g,h => by
  have : g = []:=List.eq_nil_of_length_eq_zero (by omega)
  subst this; rfl
 | m + 1,g,h => by
  match g,h with
  | a :: b :: c :: r,h =>
   show (ens r).length + 1 = m + 1
   rw [ens_len m (g:=r) (by simp only [List.length_cons] at h; omega)]
  | [],h => simp at h
  | [a],h => simp at h; omega
  | [a,b],h => simp at h; omega
theorem ens_at : ∀ (p : Nat) (g : List Fld),p < (ens g).length -> (ens g)[p]? = some ⟨(g.getD (p * 3) Pq.z0).n,(g.getD (p * 3 + 1) Pq.z0).n,(g.getD (p * 3 + 2) Pq.z0).s⟩
 | 0,g,h => by
  match g,h with
  | a :: b :: c :: r,h => rfl
 | p + 1,g,h => by
  match g,h with
  | a :: b :: c :: r,h =>
   have ih:=ens_at p r (by simpa [ens] using h)
   show (ens r)[p]? = _
   rw [ih]
   congr 1
   simp only [show (p + 1) * 3 = p * 3 + 3 by omega,show p * 3 + 3 + 1 = (p * 3 + 1) + 3 by omega,show p * 3 + 3 + 2 = (p * 3 + 2) + 3 by omega]
   rfl
theorem own_stay {w w' : World} {base size n : Nat} {e : TypeId} {v : Value} {xs : List Value} {row : Option Nat} (h : w.ownsRow base e size v n xs) (hg : w.grownBy w' row) (hr : ∀ r,row = some r -> ∃ o : Obj,w.heap[r]? = some o /\ ∀ cur,o ≠ .cells cur e (0,0)) : w'.ownsRow base e size v n xs:=by
 refine h.kept hg ?_
 rcases h.2 with ⟨rfl,_⟩ | ⟨g,cap,cur,rfl,_,hgb,_⟩
 ·exact .inl rfl
 ·refine .inr fun e' => ?_
  obtain ⟨o,ho,hne⟩:=hr g (by rw [<- e']; rfl)
  rw [hgb] at ho
  cases ho
  exact hne _ rfl
def DI (w11 : World) (q : Nat) (k0 k1 k2 k3 : Int) (es : List En) (pre : List Value) (W : World) : Prop :=
 w11.grownBy W (some q) /\ ∃ v,W.heap[q]? = some (.cells #[.int .i64 k0,.int .i64 k1,.int .i64 k2,.int .i64 k3,v] 69 (0,0)) /\ W.ownsRow w11.heap.size 45 3 v pre.length ((es.take pre.length).flatMap ecell)
theorem di_own {w11 : World} {q : Nat} {k0 k1 k2 k3 : Int} {es : List En} (hq : q < w11.heap.size) : OwnFrom w11.heap.size (DI w11 q k0 k1 k2 k3 es):=by
 rintro pre X Y row ⟨hg0,v,hb,ho⟩ hg hr
 refine ⟨hg0.andThen hg (fun j hj => .inl (hr j hj).1),v,(hg.block q (blk_lt hb) (fun e => by have:=(hr q e.symm).1; omega)).trans hb,own_stay ho hg (fun r e => ?_)⟩
 obtain ⟨_,o,h1,h2⟩:=hr r e
 exact ⟨o,h1,fun cur e => by subst e; simp [Obj.isCells] at h2⟩
theorem keeps_below {B : Nat} {W X : World} (h : Below W.heap.size W X) : KeepsFrom B W X:=⟨h.size,fun k _ _ hk _ => (h.block k (blk_lt hk)).trans hk⟩
theorem keeps_own {B base e sz n : Nat} {W X : World} {v : Value} {xs : List Value} (h : W.ownsRow base e sz v n xs) (hg : W.grownBy X v.ownBlock) : KeepsFrom B W X :=
 ⟨hg.size,fun k o _ hk hc => (hg.block k (blk_lt hk) (fun e' => by
  rcases h.2 with ⟨rfl,_⟩ | ⟨g,cap,cur,rfl,_,hgb,_⟩
  ·simp [Value.ownBlock] at e'
  ·simp only [Value.ownBlock,Option.some.injEq] at e'
   subst e'
   rw [hgb] at hk
   cases hk
   simp [Obj.isCells] at hc)).trans hk⟩
theorem di_next {w11 W W5 W6 : World} {q : Nat} {k0 k1 k2 k3 : Int} {es : List En} {pre : List Value} {x : Value} {e : En} {v v' : Value} {a : Act} (hq : q < w11.heap.size) (hg0 : w11.grownBy W (some q)) (hb : W.heap[q]? = some (.cells #[.int .i64 k0,.int .i64 k1,.int .i64 k2,.int .i64 k3,v] 69 (0,0))) (ho : W.ownsRow w11.heap.size 45 3 v pre.length ((es.take pre.length).flatMap ecell))
  (he : es[pre.length]? = some e) (h5 : Below W.heap.size W W5) (h6 : W6.ownsRow w11.heap.size 45 3 v' (pre.length + 1) ((es.take pre.length).flatMap ecell ++ ecell e)) (hg : (W5.alloc (.cells (ecell e).toArray 45)).grownBy W6 v.ownBlock) :
  goesOn w11.heap.size (DI w11 q k0 k1 k2 k3 es) (pre ++ [x]) W .normal a (W6.setCell ⟨q,4,none⟩ v'):=by
 have hA : Below W.heap.size W (W5.alloc (.cells (ecell e).toArray 45)):=h5.trans ((box_below W5 _).mono h5.size)
 have ho2:=own_below ho hA
 have hqv : v.ownBlock ≠ some q:=fun e' => by have:=own_ge ho q e'; omega
 have hq6 : W6.heap[q]? = some (.cells #[.int .i64 k0,.int .i64 k1,.int .i64 k2,.int .i64 k3,v] 69 (0,0)):=(hg.block q (Nat.lt_of_lt_of_le (blk_lt hb) hA.size) (fun e' => hqv e'.symm)).trans ((hA.block q (blk_lt hb)).trans hb)
 have hX:=heap_setCell_same W6 q 4 _ _ v' hq6
 refine ⟨rfl,((keeps_below hA).trans (keeps_own ho2 hg)).trans ((KeepsOthers.setCell _ _ _).from _),⟨hg.os.trans (hA.os.trans hg0.os),hg.tape.trans (hA.tape.trans hg0.tape),hg.output.trans (hA.output.trans hg0.output),?_,fun k hk hkq => ?_⟩,v',?_,?_⟩
 ·have:=hg.size; have:=hA.size; have:=hg0.size; simp; omega
 ·rw [Go.Deep.blk_setCell_other W6 _ _ k (fun e' => hkq (by rw [e']))]
  have h1:=hg0.block k hk hkq
  have hkW : k < W.heap.size:=Nat.lt_of_lt_of_le hk hg0.size
  refine (hg.block k (Nat.lt_of_lt_of_le hkW hA.size) (fun e' => ?_)).trans ((hA.block k hkW).trans h1)
  have:=own_ge ho k e'.symm
  omega
 ·exact hX
 ·rw [List.length_append,List.length_singleton]
  have hl:=(List.getElem?_eq_some_iff.1 he).1
  have ht : es.take (pre.length + 1) = es.take pre.length ++ [e]:=by
   rw [List.take_succ_eq_append_getElem hl]
   congr 2
   exact (List.getElem?_eq_some_iff.1 he).2
  rw [ht,List.flatMap_append]
  simp only [List.flatMap_cons,List.flatMap_nil,List.append_nil]
  refine h6.kept (row:=some q) ⟨rfl,rfl,rfl,by simp,fun k _ hk => Go.Deep.blk_setCell_other W6 _ _ k (fun e' => hk (by rw [e']))⟩ (.inr fun e' => ?_)
  have:=own_ge h6 q e'
  omega
theorem di_q6 {w11 W W5 W6 : World} {q : Nat} {k0 k1 k2 k3 : Int} {n : Nat} {xs : List Value} {e : En} {v : Value} (hq : q < w11.heap.size) (hb : W.heap[q]? = some (.cells #[.int .i64 k0,.int .i64 k1,.int .i64 k2,.int .i64 k3,v] 69 (0,0))) (ho : W.ownsRow w11.heap.size 45 3 v n xs)
  (h5 : Below W.heap.size W W5) (hg : (W5.alloc (.cells (ecell e).toArray 45)).grownBy W6 v.ownBlock) : W6.heap[q]? = some (.cells #[.int .i64 k0,.int .i64 k1,.int .i64 k2,.int .i64 k3,v] 69 (0,0)):=by
 have hA : Below W.heap.size W (W5.alloc (.cells (ecell e).toArray 45)):=h5.trans ((box_below W5 _).mono h5.size)
 have hqv : v.ownBlock ≠ some q:=fun e' => by have:=own_ge ho q e'; omega
 exact (hg.block q (Nat.lt_of_lt_of_le (blk_lt hb) hA.size) (fun e' => hqv e'.symm)).trans ((hA.block q (blk_lt hb)).trans hb)
theorem entry_run {w : World} {x : En} : ∀ j u,(ecell x)[j]? = some u -> (w.alloc (.cells (ecell x).toArray 45)).cell? ((⟨w.heap.size,0,none⟩ : Addr).add j) = some u:=fun j u hu => by
 rw [Go.WideShapes.add_plain,Nat.zero_add,cell_of_row _ _ _ _ _ _ (new_block w (.cells (ecell x).toArray 45)),List.getElem?_toArray]
 exact hu
theorem dec_end {w W W6 : World} {r Dd : Nat} {a0 a1 a2 a3 a4 x0 x1 x2 x3 x4 : Value} (hB : Below w.heap.size w W) (hr : W.heap[r]? = some (.cells #[a0,a1,a2,a3,a4] 69 (0,0))) (hwr : w.heap.size <= r) (hK : W.heap[Dd]? = some (.deferred (some []))) (hD : w.heap.size <= Dd) (h6 : W6 = ((((W.setCell ⟨r,0,none⟩ x0).setCell ⟨r,1,none⟩ x1).setCell ⟨r,2,none⟩ x2).setCell ⟨r,3,none⟩ x3).setCell ⟨r,4,none⟩ x4) :
  W6.heap[Dd]? = some (.deferred (some [])) /\ (W6.putObj Dd (.deferred none)).heap[r]? = some (.cells #[x0,x1,x2,x3,x4] 69 (0,0)) /\ Below w.heap.size w (W6.putObj Dd (.deferred none)) /\
   ∀ (base e size n : Nat) (v : Value) (xs : List Value),W.ownsRow base e size v n xs -> e ≠ 69 -> (W6.putObj Dd (.deferred none)).ownsRow base e size v n xs:=by
 obtain ⟨hw,hk⟩:=setl5 hr x0 x1 x2 x3 x4
 rw [<- h6] at hw hk
 have hne : Dd ≠ r:=fun e => by rw [e,hr] at hK; cases hK
 have hK6:=(hw.rest Dd hne).trans hK
 have hg2:=grownBy_putObj' W6 Dd (.deferred none)
 have hb6:=hw.new hB hwr
 refine ⟨hK6,(World.putObj_heap_other hne.symm).trans hk,hb6.grown hg2 hb6.size (fun k e => by cases e; exact hD),fun base e size n v xs ho hne2 => ?_⟩
 refine own_stay (own_stay ho hw.gb (fun r' e' => ⟨_,by cases e'; exact hr,fun cur e'' => by injection e'' with _ h2; exact hne2 h2.symm⟩)) hg2 (fun r' e' => by
  cases e'
  exact ⟨_,hK6,fun cur e => (by cases e)⟩)
theorem fld_in64 {m : Ms} (h : errL (fldM m) = 0) : In64 m.l /\ m.n <= 9223372036854775807:=by
 constructor
 ·intro e he
  have h1:=errL_mem h ⟨2,e.n,⟨#[]⟩⟩ (List.mem_append_right _ (List.mem_flatMap.2 ⟨e,he,by simp [enF]⟩))
  have h2:=(k2 h1 rfl).2
  simp only at h2
  omega
 ·have h1:=errL_mem h ⟨2,m.n,⟨#[]⟩⟩ (List.mem_append_left _ (by simp [hdM]))
  have h2:=(k2 h1 rfl).2
  simp only at h2
  omega
open Go.ChangeShapes Go.WideShapes Go.ChangeAt Go.RowKit Go.Proofs.Rk

theorem rowsIn_wide {n : Nat} {P : Program} {row : String} {args : Array Value} {w : World} {R : Value -> World -> Prop} (l : Nat) (h : Rows P row args w R) : RowsIn (Fence.wide.inRound l) n P row args w R:=fun c cs _ =>
 let ⟨v,w',r,s⟩:=h c cs
 ⟨v,w',r,stepsIn_wide.2 s⟩
theorem opIn_of {l n : Nat} {P : Program} {o : Oper} {a : Act} {w : World} {K K' : Act -> World -> Prop} {Q : Exit -> Act -> World -> Prop} (hd : ∀ c,o.op ≠ .defer c) (hK : ∀ a w,K a w -> K' a w) (h : o.wp P a w K Q) : o.wpIn (Fence.wide.inRound l) n P a w K' Q:=by
 refine ⟨fun _ _ => trivial,?_⟩
 unfold Oper.wp at h
 rw [show (Fence.wide.inRound l).round = some l from rfl,Oper.semAt_some l _ _ hd]
 cases hr : (execOp a.eval o).run P w with
 | ok nx w' =>
  rw [hr] at h
  cases nx with
  | value v => exact hK _ _ h
  | skip => exact hK _ _ h
  | defer d => exact hK _ _ h
  | enter f args =>
   refine ⟨(fun e => by cases e),(CallsIn.inRound l (callsIn_wide.2 h)).mono fun e w'' hh => ?_⟩
   cases e with
   | returned v => exact hK _ _ hh
   | panicked c => exact hh
   | outgrown => exact hh
  | row r args => exact ⟨(fun e => by cases e),(rowsIn_wide l h).mono fun v w'' hh => hK _ _ hh⟩
  | _ => exact h.elim
 | halt t w' =>
  rw [hr] at h
  cases t with
  | panic v => exact h
  | _ => exact h.elim
theorem anyIn_of {l n : Nat} {P : Program} {md : Region.Mode} {ops : Array Oper} {Q : Exit -> Act -> World -> Prop} (hd : ∀ (i : Nat) (o : Oper),ops[i]? = some o -> ∀ c,o.op ≠ .defer c) (hL : ¬ LetsOut Q) : ∀ (fuel : Nat) (listed : Array Bool) (a : Act) (w : World),wpAny P md ops Q fuel listed a w -> wpAnyIn (Fence.wide.inRound l) n P md ops Q fuel listed a w
 | 0,_,_,_,h => h
 | fuel + 1,listed,a,w,h => ⟨h.1,fun i hi => by
  have h1:=h.2 i hi
  unfold wpOp at h1
  unfold wpOpIn
  cases ho : ops[i]? with
  | none => rw [ho] at h1; exact anyIn_of hd hL fuel _ a w h1
  | some o =>
   rw [ho] at h1
   simp only at h1 ⊢
   by_cases hw : Region.wanted o (yielded ops a.tmps) = true
   ·rw [if_pos hw] at h1 ⊢
    rcases h1 with h1 | ⟨_,h1⟩
    ·exact opIn_of (hd i o ho) (fun a' w' hh => anyIn_of hd hL fuel _ a' w' hh) h1
    ·exact absurd h1 hL
   ·rw [if_neg hw] at h1 ⊢
    exact ⟨fun _ _ => trivial,anyIn_of hd hL fuel _ _ _ h1⟩⟩
def noDefer (ops : Array Oper) : Bool:=ops.all fun o => match o.op with | .defer _ => false | _ => true
theorem noDefer_spec {ops : Array Oper} (h : noDefer ops = true) (i : Nat) (o : Oper) (ho : ops[i]? = some o) : ∀ c,o.op ≠ .defer c:=by
 intro c e
 obtain ⟨hi,rfl⟩:=Array.getElem?_eq_some_iff.1 ho
 have h1:=(Array.all_eq_true.1 h) i hi
 rw [e] at h1
 simp at h1
theorem regionIn_held {l n id : Nat} {P : Program} {ops : Array Oper} {S : World -> Prop} {Q : Exit -> Act -> World -> Prop} {a : Act} {w : World} (hm : P.follows .mixedOrders = true) (hd : ∀ (i : Nat) (o : Oper),ops[i]? = some o -> ∀ c,o.op ≠ .defer c) (hL : ¬ LetsOut Q)
  (hS : S w.drew) (h : S w.drew -> wpAnyH P .any ops Q S ops.size (Array.replicate ops.size false) a w.drew) : (Code.region id ops true).wpIn (Fence.wide.inRound l) n P Q a w :=
 wpIn_region_any hm (anyIn_of hd hL _ _ _ _ (wpAny_of_held _ _ _ _ (h hS)))
theorem take_op {ops : Array Oper} {Q : Exit -> Act -> World -> Prop} {S : World -> Prop} {fuel : Nat} {listed : Array Bool} {l : List Value} {ds : List Deferred} {w : World} (i d : Nat) (v : Value) {o : Oper} (hi : ops[i]? = some o) (hd : o.dst = some d)
  (hs : Region.noSelect ops = true) (hf : Region.free .any ops listed i = true) (hr : (Region.ready .any ops listed).contains i = true) (hQ : ∀ c a w,Q (.panic c) (a.put o.dst v) w -> Q (.panic c) a w)
  (hy : YieldsIf Tryz.prog ops S o v (Act.mk l.toArray ds)) (hS : S w) (h : wpAnyH Tryz.prog .any ops Q S fuel (listed.setIfInBounds i true) (Act.mk (l.set d v).toArray ds) w) : wpAnyH Tryz.prog .any ops Q S (fuel + 1) listed (Act.mk l.toArray ds) w:=by
 refine wpAnyH_take hi hs hf hr hQ hy hS ?_
 rw [hd]
 simpa [Act.put] using h
theorem tk {ops : Array Oper} {Q : Exit -> Act -> World -> Prop} {S : World -> Prop} {fuel : Nat} {listed : Array Bool} {l : List Value} {ds : List Deferred} {w : World} (i d : Nat) (v : Value) {o : Oper} (hS : S w) (h : wpAnyH Tryz.prog .any ops Q S fuel (listed.setIfInBounds i true) (Act.mk (l.set d v).toArray ds) w) (hi : ops[i]? = some o:=by rfl) (hd : o.dst = some d:=by rfl)
  (hs : Region.noSelect ops = true:=by kernel_rfl) (hf : Region.free .any ops listed i = true:=by kernel_rfl) (hr : (Region.ready .any ops listed).contains i = true:=by kernel_rfl) (hQ : ∀ c a w,Q (.panic c) (a.put o.dst v) w -> Q (.panic c) a w:=by exact fun _ _ _ h => h)
  (hw : Region.wanted o (yielded ops (Act.mk l.toArray ds).tmps) = true:=by rfl) (hy : ∀ w,S w -> (execOp (Act.mk l.toArray ds).eval o).run Tryz.prog w = .ok (.value v) w:=by intro w' _; go_simp) : wpAnyH Tryz.prog .any ops Q S (fuel + 1) listed (Act.mk l.toArray ds) w:=take_op i d v hi hd hs hf hr hQ (.inl ⟨hw,hy⟩) hS h
theorem tm {ops : Array Oper} {Q : Exit -> Act -> World -> Prop} {S : World -> Prop} {fuel : Nat} {listed : Array Bool} {l : List Value} {ds : List Deferred} {w : World} (i d : Nat) (v : Value) {o : Oper} (hS : S w) (h : wpAnyH Tryz.prog .any ops Q S fuel (listed.setIfInBounds i true) (Act.mk (l.set d v).toArray ds) w) (hi : ops[i]? = some o:=by rfl) (hd : o.dst = some d:=by rfl)
  (hs : Region.noSelect ops = true:=by kernel_rfl) (hf : Region.free .any ops listed i = true:=by kernel_rfl) (hr : (Region.ready .any ops listed).contains i = true:=by kernel_rfl) (hQ : ∀ c a w,Q (.panic c) (a.put o.dst v) w -> Q (.panic c) a w:=by exact fun _ _ _ h => h)
  (hw : Region.wanted o (yielded ops (Act.mk l.toArray ds).tmps) = true:=by rfl) (hy : ∀ w,S w -> (execOp (Act.mk l.toArray ds).eval o).run Tryz.prog w = .ok (.value v) w:=by intro w' hw'; (try dsimp only at hw'); go_simp) : wpAnyH Tryz.prog .any ops Q S (fuel + 1) listed (Act.mk l.toArray ds) w:=take_op i d v hi hd hs hf hr hQ (.inl ⟨hw,hy⟩) hS h
theorem r1 {P : Program} {ops : Array Oper} {Q : Exit -> Act -> World -> Prop} {S : World -> Prop} {fuel : Nat} {listed : Array Bool} {a : Act} {w : World} (i : Nat) {o : Oper} (h : ∀ K' : Act -> World -> Prop,Shut (∀ a w,S w -> (S w -> wpAnyH P .any ops Q S fuel (listed.setIfInBounds i true) a w) -> K' a w) -> if Region.wanted o (yielded ops a.tmps) = true then Oper.wp P o a w K' Q else K' (a.put o.dst undef) w) (ho : ops[i]? = some o:=by rfl) (hr : Region.ready .any ops listed = [i]:=by kernel_rfl) : wpAnyH P .any ops Q S (fuel + 1) listed a w:=wpAnyH_ready hr (by simp) (AllReadyH.cons ho h AllReadyH.nil)
theorem tu {ops : Array Oper} {Q : Exit -> Act -> World -> Prop} {S : World -> Prop} {fuel : Nat} {listed : Array Bool} {l : List Value} {ds : List Deferred} {w : World} (i d : Nat) {o : Oper} (hS : S w) (h : wpAnyH Tryz.prog .any ops Q S fuel (listed.setIfInBounds i true) (Act.mk (l.set d undef).toArray ds) w) (hi : ops[i]? = some o:=by rfl) (hd : o.dst = some d:=by rfl)
  (hs : Region.noSelect ops = true:=by kernel_rfl) (hf : Region.free .any ops listed i = true:=by kernel_rfl) (hr : (Region.ready .any ops listed).contains i = true:=by kernel_rfl) (hQ : ∀ c a w,Q (.panic c) (a.put o.dst undef) w -> Q (.panic c) a w:=by exact fun _ _ _ h => h)
  (hw : Region.wanted o (yielded ops (Act.mk l.toArray ds).tmps) = false:=by rfl) : wpAnyH Tryz.prog .any ops Q S (fuel + 1) listed (Act.mk l.toArray ds) w:=take_op i d undef hi hd hs hf hr hQ (.inr ⟨hw,rfl⟩) hS h
theorem lp {l : List Value} {i : Nat} {v : Value} : l.toArray.setIfInBounds i v = (l.set i v).toArray:=by simp
theorem lz {α : Type} {a b : α} {l : List α} : (a :: l).set 0 b = b :: l:=rfl
theorem ls {α : Type} {a b : α} {n : Nat} {l : List α} : (a :: l).set (n + 1) b = a :: l.set n b:=rfl
open Go.ChangeShapes Go.WideShapes Go.ChangeAt Go.RowKit Go.Proofs.Rk
open Pq (Fld FReads Reads fcs ams errL bytL sm dc Sm Bys byts)

attribute [local go_sem] Oper.semAt_some
theorem dc_bad_ne {ks b : List Int} {e : Int} (h : dc ks b = .bad e) : e ≠ 0:=by
 unfold dc at h
 cases hs : sm ks b with
 | bad e2 => rw [hs] at h; simp only at h; injection h with h; subst h; exact Pq.sm_bad_ne hs
 | good l n =>
  rw [hs] at h
  simp only at h
  split at h
  ·injection h with h; subst h; decide
  ·cases h
def OdPost (w : World) (R : Option Ms) (e : Ending) (w' : World) : Prop:=Below w.heap.size w w' /\ match R with
 | none => e = .returned (.tuple #[.agg #[.int .i64 0,.int .i64 0,.int .i64 0,.int .i64 0,.slice none 0 0],.int .i64 130])
 | some m => ∃ A c,e = .returned (.tuple #[.agg #[.int .i64 m.k,.int .i64 m.v,.int .i64 m.m,.int .i64 m.n,.slice A m.l.length c],.int .i64 0]) /\ w'.ownsRow w.heap.size 45 3 (.slice A m.l.length c) m.l.length (m.l.flatMap ecell)
theorem res_dec {fn : Func} {p q : Tmp} (h : fn.results = #[.cell p 69,.tmp q]) (tmps : Array Value) (w : World) (b : Nat) (x0 x1 x2 x3 x4 y : Value) (hp : tmps.getD p undef = .pointer (some ⟨b,0,none⟩)) (hq : tmps.getD q undef = y)
  (h4 : w.heap[b]? = some (.cells #[x0,x1,x2,x3,x4] 69 (0,0))) :
  (results fn tmps).run Tryz.prog w = .ok (.tuple #[.agg #[x0,x1,x2,x3,x4],y]) w:=by
 have hp' : tmps[p]?.getD undef = .pointer (some ⟨b,0,none⟩):=by simpa using hp
 have hq' : tmps[q]?.getD undef = y:=by simpa using hq
 have c0:=cell_of h4 (j:=0) rfl
 have c1:=cell_of h4 (j:=1) rfl
 have c2:=cell_of h4 (j:=2) rfl
 have c3:=cell_of h4 (j:=3) rfl
 have c4:=cell_of h4 (j:=4) rfl
 simp [results,h,hp',hq',asAddr,go_sem,c0,c1,c2,c3,c4]
set_option maxHeartbeats 16000000 in
theorem odecode_any (s : ByteArray) (w : World) (hs : s.size <= maxLen) : Calls Tryz.prog 30 #[.string s] w (OdPost w (deM (Pq.sb s))):=by
 obtain ⟨w1,hw1⟩ : ∃ xx,xx = w.alloc (.cells #[.int .i64 0,.int .i64 0,.int .i64 0,.int .i64 0,.slice none 0 0] 69):=⟨_,rfl⟩
 obtain ⟨r,er⟩ : ∃ xx,xx = w.heap.size:=⟨_,rfl⟩
 have hbw1 : Below w.heap.size w w1:=by rw [hw1]; exact box_below w _
 have hkr : w1.heap[r]? = some (.cells #[.int .i64 0,.int .i64 0,.int .i64 0,.int .i64 0,.slice none 0 0] 69 (0,0)):=by rw [hw1,er]; exact new_block w _
 obtain ⟨w2,g2,m2,hcv,hb2,hr2,hm2,hm2'⟩:=conv_all s w1 hs
 obtain ⟨sz,hsz⟩ : ∃ z,s.size = z:=⟨_,rfl⟩
 rw [hsz] at hcv hr2 hm2
 obtain ⟨zs,hzs⟩ : ∃ z,Pq.sb s = z:=⟨_,rfl⟩
 have HBY : Hid (Bys zs):=hJQ (by rw [<- hzs]; exact conv_bys s)
 rw [hzs] at hr2
 rw [hzs]
 obtain ⟨R,hR⟩ : ∃ R,deM zs = R:=⟨_,rfl⟩
 rw [hR]
 have HRR:=hJQ hR
 have HR2:=hJQ hr2
 have HC2:=hJQ (And.intro hm2 hm2')
 have HB1:=hJQ hbw1
 have HB2 : Hid (Below w1.heap.size w1 w2):=hJQ hb2
 have HRB:=hJQ hkr
 have HW1:=hJQ hw1
 have ER:=hJQ er
 have HO:=hJQ (ofmsg_any 0 0 0 0 none 0 0 w2)
 clear hw1 er hbw1 hkr hb2 hr2 hm2 hm2' hsz hzs hR
 refine (callsIn_wide (n:=3)).1 ?_
 refine callsIn_of_wp_marks Tryz.func30 rfl trivial ?_ rfl
 simp only [Tryz.ntmps30,List.size_toArray,List.length_cons,List.length_nil,Nat.reduceAdd,Nat.reduceSub,Array.replicate_succ,Array.replicate_zero,List.push_toArray,List.append_toArray,List.nil_append,List.cons_append]
 refine wpIn_wide.2 ?_
 go_upto_region 1 with fail
 rw [<- HW1.out,<- ER.out]
 go_wp2_with fail
 refine HO.out.mono ?_
 rintro e w3 ⟨b3,rfl,hk3,hg3,hb3⟩
 have HKC:=hJQ (Pq.kinds_any (some ⟨b3,0,none⟩) 5 5 _ w3 (of_fields hk3 (by decide)) (by decide))
 have HX23 : Hid (Below w2.heap.size w2 w3):=hJQ hb3
 have HB3 : Hid (Below w1.heap.size w1 w3):=hJQ (HB2.out.trans (hb3.mono HB2.out.size))
 have HR3:=hJQ (HR2.out.kept hb3)
 clear hcv hk3 hg3 hb3
 go_wp2_with fail
 refine HKC.out.mono ?_
 rintro e w4 ⟨rfl,hk4,hb4⟩
 have HSM:=hJQ (Pq.some_any (some ⟨w3.heap.size,0,none⟩) (some ⟨g2,0,none⟩) 5 5 sz m2 _ zs w4 hk4 (HR3.out.kept hb4) HBY.out (by decide) HC2.out.1 HC2.out.2)
 have HX24 : Hid (Below w2.heap.size w2 w4):=hJQ (HX23.out.trans (hb4.mono HX23.out.size))
 have HB4 : Hid (Below w1.heap.size w1 w4):=hJQ (HB3.out.trans (hb4.mono HB3.out.size))
 clear hk4 hb4
 go_wp2_with fail
 refine HSM.out.mono ?_
 rintro e w5 ⟨A5,c5,rfl,⟨hf5,hc5,hn5⟩,hb5⟩
 have HB5 : Hid (Below w1.heap.size w1 w5):=hJQ (HB4.out.trans (hb5.mono HB4.out.size))
 have HX25 : Hid (Below w2.heap.size w2 w5):=hJQ (HX24.out.trans (hb5.mono HX24.out.size))
 clear hb5
 have hkk : ([⟨1,0,⟨#[]⟩⟩,⟨2,0,⟨#[]⟩⟩,⟨2,0,⟨#[]⟩⟩,⟨2,0,⟨#[]⟩⟩,⟨1,((0 : Nat) : Int),⟨#[]⟩⟩] : List Fld).map (·.k) = hk5:=rfl
 rw [hkk] at hf5 hc5 ⊢
 have HC5:=hJQ hc5
 have HN5:=hJQ hn5
 clear hkk hc5 hn5
 cases hsm : sm hk5 zs with
 | bad er =>
  rw [hsm] at hf5
  simp only [Pq.Sm.e,Pq.Sm.l,Pq.Sm.n,List.length_nil] at hf5 ⊢
  have hne : (er == 0) = false:=by simpa using Pq.sm_bad_ne hsm
  have hne2 : (er != 0) = true:=by simpa using Pq.sm_bad_ne hsm
  have HN : Hid (R = none):=hJQ (by rw [<- HRR.out]; unfold deM rdM; rw [hsm])
  have hr5:=blk_below HRB.out HB5.out
  have z0:=cell_of hr5 (j:=0) rfl
  have z1:=cell_of hr5 (j:=1) rfl
  have z2:=cell_of hr5 (j:=2) rfl
  have z3:=cell_of hr5 (j:=3) rfl
  have z4:=cell_of hr5 (j:=4) rfl
  have f0:=frozen_of_row w5 r 0 _ _ hr5
  have f1:=frozen_of_row w5 r 1 _ _ hr5
  have f2:=frozen_of_row w5 r 2 _ _ hr5
  have f3:=frozen_of_row w5 r 3 _ _ hr5
  have f4:=frozen_of_row w5 r 4 _ _ hr5
  obtain ⟨w6,hw6⟩ : ∃ xx,xx = (((((w5.setCell ⟨r,0,none⟩ (.int .i64 0)).setCell ⟨r,1,none⟩ (.int .i64 0)).setCell ⟨r,2,none⟩ (.int .i64 0)).setCell ⟨r,3,none⟩ (.int .i64 0)).setCell ⟨r,4,none⟩ (.slice none 0 0)):=⟨_,rfl⟩
  obtain ⟨hwrw6,hkw6⟩:=setl5 hr5 (.int .i64 0) (.int .i64 0) (.int .i64 0) (.int .i64 0) (.slice none 0 0)
  rw [<- hw6] at hwrw6 hkw6
  have HE : Hid (OdPost w R (.returned (.tuple #[.agg #[.int .i64 0,.int .i64 0,.int .i64 0,.int .i64 0,.slice none 0 0],.int .i64 130])) w6):=hJQ (by
   rw [HN.out]
   exact ⟨(HB1.out.trans (HB5.out.mono HB1.out.size)).trans (hwrw6.below.mono (by rw [ER.out]; exact Nat.le_refl _)),rfl⟩)
  have H6:=hJQ hkw6
  have HW6:=hJQ hw6
  clear hf5 hsm hw6 hwrw6 hkw6 hr5
  go_wp2_with fail
  rw [<- HW6.out]
  exact ⟨_,res_dec Tryz.results30 _ _ r _ _ _ _ _ (.int .i64 130) (by simp) (by simp) H6.out,HE.out⟩
 | good f m =>
  rw [hsm] at hf5
  simp only [Pq.Sm.e,Pq.Sm.l,Pq.Sm.n] at hf5 ⊢
  have hsg:=Pq.sm_good HBY.out hsm
  have hf5l : f.length = 5:=hsg.2.2.2
  have hml : m <= sz:=by rw [<- HR2.out.1]; exact hsg.1
  have HSM5:=hJQ hsm
  rw [hf5l] at hf5 ⊢
  obtain ⟨b0,o0,rfl,hcell⟩:=hf5.2 (by omega)
  have a0:=(hcell 0 (by omega)).2.1
  obtain ⟨k0,hk0⟩ : ∃ k,(f.getD 0 f0).n = k:=⟨_,rfl⟩
  have hk0' : (f.getD 0 Pq.z0).n = k0:=hk0
  rw [hk0'] at a0
  have a1:=(hcell 1 (by omega)).2.1
  obtain ⟨k1,hk1⟩ : ∃ k,(f.getD 1 f0).n = k:=⟨_,rfl⟩
  have hk1' : (f.getD 1 Pq.z0).n = k1:=hk1
  rw [hk1'] at a1
  have a2:=(hcell 2 (by omega)).2.1
  obtain ⟨k2,hk2⟩ : ∃ k,(f.getD 2 f0).n = k:=⟨_,rfl⟩
  have hk2' : (f.getD 2 Pq.z0).n = k2:=hk2
  rw [hk2'] at a2
  have a3:=(hcell 3 (by omega)).2.1
  obtain ⟨k3,hk3⟩ : ∃ k,(f.getD 3 f0).n = k:=⟨_,rfl⟩
  have hk3' : (f.getD 3 Pq.z0).n = k3:=hk3
  rw [hk3'] at a3
  have a4:=(hcell 4 (by omega)).2.1
  obtain ⟨k4,hk4⟩ : ∃ k,(f.getD 4 f0).n = k:=⟨_,rfl⟩
  have hk4' : (f.getD 4 Pq.z0).n = k4:=hk4
  rw [hk4'] at a4
  have hm4:=errL_mem hsg.2.1 (f.getD 4 f0) (by rw [List.getD_eq_getElem?_getD,List.getElem?_eq_getElem (by omega)]; exact List.getElem_mem _)
  have hkd:=congrArg (fun l => l.getD 4 0) (sm_kinds HBY.out hsm)
  have hk41 : (f.getD 4 f0).k = 1:=by
   have h9 : (f.map (·.k)).getD 4 0 = 1:=hkd
   rw [List.getD_eq_getElem?_getD,List.getElem?_map,List.getElem?_eq_getElem (by omega)] at h9
   rw [List.getD_eq_getElem?_getD,List.getElem?_eq_getElem (by omega)]
   exact h9
  obtain ⟨-,hq0,hq1⟩:=Go.Proofs.YtlppinfjdnhlbaaGreatDoor.k1 hm4 hk41
  rw [hk4] at hq0 hq1
  obtain ⟨M,rfl⟩ : ∃ M : Nat,k4 = (M : Int):=⟨k4.toNat,by omega⟩
  have HRD : Hid (rdM zs = match dc (repL M pk3) (zs.drop m) with
   | .bad _ => none
   | .good g _ => some ⟨k0,k1,k2,k3,ens g⟩):=hJQ (by
   unfold rdM
   rw [hsm]
   simp only [hk0,hk1,hk2,hk3,hk4,Int.toNat_natCast]
   cases dc (repL M pk3) (zs.drop m) <;> rfl)
  have hlt0:=Pq.cell_lt a0
  have HSF : Hid (∀ W,Below w5.heap.size w5 W -> W.cell? ⟨b0,o0 + 1,none⟩ = some (.int .i64 k0) /\ W.cell? ⟨b0,o0 + 3 + 1,none⟩ = some (.int .i64 k1) /\ W.cell? ⟨b0,o0 + 6 + 1,none⟩ = some (.int .i64 k2) /\ W.cell? ⟨b0,o0 + 9 + 1,none⟩ = some (.int .i64 k3) /\ Below w5.heap.size w5 W):=hJQ (fun W hW => ⟨(hW.cell (p:=⟨b0,_,none⟩) hlt0).trans a0,(hW.cell (p:=⟨b0,_,none⟩) hlt0).trans a1,(hW.cell (p:=⟨b0,_,none⟩) hlt0).trans a2,(hW.cell (p:=⟨b0,_,none⟩) hlt0).trans a3,hW⟩)
  have HSF4 : Hid (∀ W,Below w5.heap.size w5 W -> W.cell? ⟨b0,o0 + 12 + 1,none⟩ = some (.int .i64 (M : Int)) /\ Below w5.heap.size w5 W):=hJQ (fun W hW => ⟨(hW.cell (p:=⟨b0,_,none⟩) hlt0).trans a4,hW⟩)
  have HSA : Hid (∀ W o,(W.cell? ⟨b0,o0 + 1,none⟩ = some (.int .i64 k0) /\ W.cell? ⟨b0,o0 + 3 + 1,none⟩ = some (.int .i64 k1) /\ W.cell? ⟨b0,o0 + 6 + 1,none⟩ = some (.int .i64 k2) /\ W.cell? ⟨b0,o0 + 9 + 1,none⟩ = some (.int .i64 k3) /\ Below w5.heap.size w5 W) -> ((W.alloc o).cell? ⟨b0,o0 + 1,none⟩ = some (.int .i64 k0) /\ (W.alloc o).cell? ⟨b0,o0 + 3 + 1,none⟩ = some (.int .i64 k1) /\ (W.alloc o).cell? ⟨b0,o0 + 6 + 1,none⟩ = some (.int .i64 k2) /\ (W.alloc o).cell? ⟨b0,o0 + 9 + 1,none⟩ = some (.int .i64 k3) /\ Below w5.heap.size w5 (W.alloc o))):=hJQ (fun W o hS => by
   obtain ⟨-,-,-,-,hW⟩:=hS
   exact HSF.out _ (hW.trans ((box_below W o).mono hW.size)))
  obtain ⟨w6,hw6⟩ : ∃ w6,w6 = (w5.alloc (.cells #[.int .i64 k0,.int .i64 k1,.int .i64 k2,.int .i64 k3,.slice none 0 0] 69)).drew:=⟨_,rfl⟩
  obtain ⟨q,eq⟩ : ∃ q,q = w5.heap.size:=⟨_,rfl⟩
  have hq6 : w6.heap[q]? = some (.cells #[.int .i64 k0,.int .i64 k1,.int .i64 k2,.int .i64 k3,.slice none 0 0] 69 (0,0)):=by rw [hw6,eq]; exact new_block w5 _
  have HB56 : Hid (Below w5.heap.size w5 w6):=hJQ (by rw [hw6]; exact (box_below w5 _).drew)
  have HQ6:=hJQ hq6
  have HW6:=hJQ hw6
  have EQ:=hJQ eq
  have HM255 : Hid (M <= 255):=hJQ (by omega)
  have HML:=hJQ hml
  have HOE:=hJQ (ofentry_any ⟨0,0,⟨#[]⟩⟩ w6)
  clear hsg hf5l hml hcell a0 a1 a2 a3 a4 hk0 hk1 hk2 hk3 hk4 hk0' hk1' hk2' hk3' hk4' hm4 hkd hk41 hq0 hq1 hlt0 hw6 eq hq6 hf5 hsm
  go_upto_region 5 with fail
  go_region_held3 (fun W => W.cell? ⟨b0,o0 + 1,none⟩ = some (.int .i64 k0) /\ W.cell? ⟨b0,o0 + 3 + 1,none⟩ = some (.int .i64 k1) /\ W.cell? ⟨b0,o0 + 6 + 1,none⟩ = some (.int .i64 k2) /\ W.cell? ⟨b0,o0 + 9 + 1,none⟩ = some (.int .i64 k3) /\ Below w5.heap.size w5 W)
   (first
    | exact HSF.out _ (Below.refl _ _).drew
    | exact HSF.out _ (box_below _ _).drew
    | (with_reducible assumption)
    | (with_reducible exact HSA.out _ _ (by with_reducible assumption)))
   (fail)
  rename_i hHeld
  clear hHeld
  rw [<- HW6.out,<- EQ.out]
  go_wp2_with fail
  refine HOE.out.mono ?_
  rintro e w7 ⟨b7,rfl,hk7,hg7,hb7⟩
  have HK7:=hJQ (Pq.kinds_any (some ⟨b7,0,none⟩) 3 3 _ w7 (of_fields hk7 (by decide)) (by decide))
  have HB57 : Hid (Below w5.heap.size w5 w7):=hJQ (HB56.out.trans (hb7.mono HB56.out.size))
  have HQ7:=hJQ (blk_below HQ6.out hb7)
  clear hk7 hg7 hb7
  go_wp2_with fail
  refine HK7.out.mono ?_
  rintro e w8 ⟨rfl,hk8,hb8⟩
  have HB58 : Hid (Below w5.heap.size w5 w8):=hJQ (HB57.out.trans (hb8.mono HB57.out.size))
  have HQ8:=hJQ (blk_below HQ7.out hb8)
  have hkp : (enF ⟨0,0,⟨#[]⟩⟩).map (·.k) = pk3:=rfl
  rw [hkp] at hk8
  obtain ⟨Z,zc,hsl,hZ,hz1,hz2⟩:=Pq.sub_from ((HR2.out.kept HX25.out).kept HB58.out) HC2.out.1 m HML.out
  obtain ⟨qq,hqq⟩ : ∃ q,q = sz - m:=⟨_,rfl⟩
  rw [<- hqq] at hsl hZ hz1
  obtain ⟨T,hT⟩ : ∃ T,T = M * 3:=⟨_,rfl⟩
  obtain ⟨D,hD⟩ : ∃ D,dc (repL M pk3) (zs.drop m) = D:=⟨_,rfl⟩
  obtain ⟨N,hN⟩ : ∃ N,N = D.l.length:=⟨_,rfl⟩
  obtain ⟨ERR,hER⟩ : ∃ ERR,ERR = D.e:=⟨_,rfl⟩
  rw [hD] at HRD
  have hzl : m <= sz:=HML.out
  have hm0 : (0 : Int) <= (m : Int):=by omega
  have hmz : (m : Int) <= (sz : Int):=by omega
  have HS8 : Hid (∀ W,Below w8.heap.size w8 W -> W.cell? ⟨b0,o0 + 12 + 1,none⟩ = some (.int .i64 (M : Int)) /\ Below w8.heap.size w8 W):=hJQ (fun W hW => ⟨(HSF4.out W (HB58.out.trans (hW.mono HB58.out.size))).1,hW⟩)
  have HRP : Hid (∀ W,(W.cell? ⟨b0,o0 + 12 + 1,none⟩ = some (.int .i64 (M : Int)) /\ Below w8.heap.size w8 W) -> Calls Tryz.prog 74 #[.slice (some ⟨w7.heap.size,0,none⟩) 3 3,.int .i64 (M : Int)] W fun e w' => ∃ A c',e = .returned (.slice A T c') /\ Reads .i64 w' A T (repL M pk3) /\ (w'.cell? ⟨b0,o0 + 12 + 1,none⟩ = some (.int .i64 (M : Int)) /\ Below w8.heap.size w8 w')):=hJQ (fun W hS => by
   refine (repeat_any (hk8.kept hS.2) HM255.out).mono ?_
   rintro e w' ⟨A,c',rfl,h1,h2⟩
   rw [hT]
   exact ⟨A,c',rfl,h1,HS8.out _ (hS.2.trans (h2.mono hS.2.size))⟩)
  have HDC : Hid (∀ W A c',(W.cell? ⟨b0,o0 + 12 + 1,none⟩ = some (.int .i64 (M : Int)) /\ Below w8.heap.size w8 W) -> Reads .i64 W A T (repL M pk3) -> Calls Tryz.prog 73 #[.slice A T c',.slice Z qq zc] W fun e w' => ∃ A2 c2,e = .returned (.tuple #[.slice A2 N c2,.int .i64 ERR]) /\ (FReads w' A2 N D.l /\ N <= c2 /\ ∀ b off,A2 = some ⟨b,off,none⟩ -> w8.heap.size <= b) /\ (w'.cell? ⟨b0,o0 + 12 + 1,none⟩ = some (.int .i64 (M : Int)) /\ Below w8.heap.size w8 w')):=hJQ (fun W A c' hS hg => by
   have h:=Pq.decode_any A Z T c' qq zc (repL M pk3) (zs.drop m) W hg (hZ.kept hS.2) (Pq.bys_drop m HBY.out) (by rw [hT]; have:=HM255.out; omega) hz1 (Nat.le_trans hz2 HC2.out.2)
   rw [hD] at h
   refine h.mono ?_
   rintro e w' ⟨A2,c2,rfl,h1,h2⟩
   rw [hN,hER]
   exact ⟨A2,c2,rfl,⟨h1.1,h1.2.1,fun b off e => Nat.le_trans hS.2.size (h1.2.2 b off e)⟩,HS8.out _ (hS.2.trans (h2.mono hS.2.size))⟩)
  have HT:=hJQ hT
  have HDD:=hJQ hD
  have HNN:=hJQ hN
  have HERR:=hJQ hER
  clear hkp hk8 hb8 hZ hz1 hz2 hqq hT hD hN hER hzl
  go_upto_region 7 with fail
  go_region_held3 (fun W => W.cell? ⟨b0,o0 + 12 + 1,none⟩ = some (.int .i64 (M : Int)) /\ Below w8.heap.size w8 W)
   (first
    | exact HS8.out _ (Below.refl _ _).drew
    | (with_reducible assumption))
   (first
    | (go_at_call 74; (with_reducible refine (HRP.out _ (by with_reducible assumption)).mono ?_); rintro e w9 ⟨A9,c9,rfl,hk9,hS9⟩)
    | (go_at_call 73; (with_reducible refine (HDC.out _ _ _ (by with_reducible assumption) (by with_reducible assumption)).mono ?_); rintro e w10 ⟨A10,c10,rfl,hk10,hS10⟩))
  have HB8:=hJQ hS10.2
  have HK10:=hJQ hk10
  have hcd:=hk10.2.1
  clear hk9 hS9 hk10 hS10
  go_wp2_with fail
  obtain ⟨mm,hmm⟩ : ∃ mm,(ens D.l).length = mm:=⟨_,rfl⟩
  have hN : N = mm * 3 /\ mm <= 255:=by
   rw [<- hmm,HNN.out]
   cases hd : D with
   | bad er => exact ⟨rfl,Nat.zero_le _⟩
   | good g n2 =>
    have h2:=HDD.out
    rw [hd] at h2
    have h3:=(Pq.dc_good (Pq.bys_drop m HBY.out) h2).2.2
    rw [repL_length] at h3
    have h4:=ens_len M (g:=g) h3
    have h5:=HM255.out
    exact ⟨by show g.length = (ens g).length * 3; rw [h4]; exact h3,by show (ens g).length <= 255; rw [h4]; exact h5⟩
  obtain ⟨hN3,hmm2⟩:=hN
  have hwit : ∃ b o,(0 < mm -> A10 = some ⟨b,o,none⟩) /\ (0 < mm -> ∀ i,i < N -> w10.cell? ⟨b,o + i * 3,none⟩ = some (.int .i64 (D.l.getD i Pq.z0).k) /\ w10.cell? ⟨b,o + i * 3 + 1,none⟩ = some (.int .i64 (D.l.getD i Pq.z0).n) /\ w10.cell? ⟨b,o + i * 3 + 2,none⟩ = some (.string (D.l.getD i Pq.z0).s)):=by
   by_cases h0 : 0 < mm
   ·obtain ⟨b,o,e1,e2⟩:=HK10.out.1.2 (by omega)
    exact ⟨b,o,fun _ => e1,fun _ => e2⟩
   ·exact ⟨0,0,fun h => absurd h h0,fun h => absurd h h0⟩
  obtain ⟨bA,oA,hbA,hcA⟩:=hwit
  have HCA : Hid (∀ p,p < mm -> bA < w10.heap.size /\ bA ≠ q /\ w10.cell? ⟨bA,oA + p * 9 + 1,none⟩ = some (.int .i64 (D.l.getD (p * 3) Pq.z0).n) /\ w10.cell? ⟨bA,oA + p * 9 + 3 + 1,none⟩ = some (.int .i64 (D.l.getD (p * 3 + 1) Pq.z0).n) /\ w10.cell? ⟨bA,oA + p * 9 + 6 + 2,none⟩ = some (.string (D.l.getD (p * 3 + 2) Pq.z0).s)):=hJQ (fun p hp => by
   have h0 : 0 < mm:=by omega
   have h1:=(hcA h0 (p * 3) (by omega)).2.1
   have h2:=(hcA h0 (p * 3 + 1) (by omega)).2.1
   have h3:=(hcA h0 (p * 3 + 2) (by omega)).2.2
   have h4:=HK10.out.2.2 bA oA (hbA h0)
   have h5 : q < w8.heap.size:=blk_lt HQ8.out
   rw [show oA + p * 3 * 3 + 1 = oA + p * 9 + 1 by omega] at h1
   rw [show oA + (p * 3 + 1) * 3 + 1 = oA + p * 9 + 3 + 1 by omega] at h2
   rw [show oA + (p * 3 + 2) * 3 + 2 = oA + p * 9 + 6 + 2 by omega] at h3
   exact ⟨cell_lt h1,by omega,h1,h2,h3⟩)
  have HBA:=hJQ hbA
  have HMM2:=hJQ hmm2
  have HN3:=hJQ hN3
  have HES:=hJQ hmm
  obtain ⟨es,hes⟩ : ∃ es,ens D.l = es:=⟨_,rfl⟩
  have HEE : Hid (∀ p,p < mm -> es[p]? = some ⟨(D.l.getD (p * 3) Pq.z0).n,(D.l.getD (p * 3 + 1) Pq.z0).n,(D.l.getD (p * 3 + 2) Pq.z0).s⟩):=hJQ (fun p hp => by rw [<- hes]; exact ens_at p D.l (by rw [HES.out]; exact hp))
  have HEL : Hid (es.length = mm):=hJQ (by rw [<- hes]; exact HES.out)
  have HED:=hJQ hes
  clear hbA hcA hmm2 hmm hes
  refine (chunk_any A10 N c10 w10).mono ?_
  rintro e w11 ⟨rfl,hw11⟩
  have hB1011 : Below w10.heap.size w10 w11:=by rw [hw11]; exact box2 _ _ _
  have hs11 : w11.heap.size = w10.heap.size + 2:=by rw [hw11]; simp
  have hx1 : Bx w10.heap.size (w10.heap.size + 1) A10 (mm * 3) c10 w11:=by
   rw [hw11,<- hN3]
   have h2:=new_block (w10.alloc (.cells #[.slice A10 N c10] 129)) (.cells #[.int .i64 3] 3)
   refine ⟨blk_alloc (new_block _ _) _,?_⟩
   have e : (w10.alloc (.cells #[.slice A10 N c10] 129)).heap.size = w10.heap.size + 1:=by simp
   rw [e] at h2
   exact h2
  have HX1:=hJQ hx1
  have HS11:=hJQ hs11
  have HB1011:=hJQ hB1011
  have HQ11 : Hid (w11.heap[q]? = some (.cells #[.int .i64 k0,.int .i64 k1,.int .i64 k2,.int .i64 k3,.slice none 0 0] 69 (0,0))):=hJQ (blk_below (blk_below HQ8.out HB8.out) hB1011)
  have HQL : Hid (q < w10.heap.size):=hJQ (blk_lt (blk_below HQ8.out HB8.out))
  have HW11:=hJQ hw11
  clear hw11 hs11 hB1011 hx1 hN3
  go_wp2_with fail
  obtain ⟨i0,hi,hz0,hz1,hz2⟩:=info_parts infoE
  obtain ⟨b1,hb1⟩ : ∃ b1,b1 = w10.heap.size:=⟨_,rfl⟩
  obtain ⟨b2,hb2⟩ : ∃ b2,b2 = w10.heap.size + 1:=⟨_,rfl⟩
  try rw [<- hb2]
  try rw [<- hb1]
  have HBB1:=hJQ hb1
  have HBB2:=hJQ hb2
  clear hb1 hb2
  refine wpIn_wide.1 (range_on (n:=3) (gf:=121) (lb:=#[.pointer (some ⟨b1,0,none⟩),.pointer (some ⟨b2,0,none⟩)]) (encs:=fun x => #[x]) rfl (enters_of Tryz.func121 (by kernel_rfl) rfl) (fun _ => rfl) (R:=RC bA oA mm) (fun pre x _ X Y row h _ _ => h) (S:=fun xs => xs = cks bA oA mm) (I:=DI w11 q k0 k1 k2 k3 es) (di_own (by have:=HQL.out; have:=HS11.out; omega)) ⟨World.grownBy.refl _ _,.slice none 0 0,HQ11.out,by simpa using World.ownsRow_nil w11 w11.heap.size 45 3⟩ ?seq (fun x => { tmps:=#[Value.string s,undef,Value.pointer (some ⟨r,0,none⟩),Value.int IntKind.i64 0,Value.slice (some ⟨g2,0,none⟩) sz m2,Value.slice (some ⟨b0,o0,none⟩) 5 c5,Value.int IntKind.i64 (m : Int),Value.int IntKind.i64 ERR,Value.pointer (some ⟨q,0,none⟩),Value.slice (some ⟨w7.heap.size,0,none⟩) 3 3,Value.slice A10 N c10,x,Value.string s,Value.slice (some ⟨g2,0,none⟩) sz m2,Value.tuple #[Value.slice (some ⟨b0,o0,none⟩) 5 c5,Value.int IntKind.i64 (m : Int),Value.int IntKind.i64 0],Value.agg #[Value.int IntKind.i64 0,Value.int IntKind.i64 0,Value.int IntKind.i64 0,Value.int IntKind.i64 0,Value.slice none 0 0],Value.slice (some ⟨b3,0,none⟩) 5 5,Value.slice (some ⟨w3.heap.size,0,none⟩) 5 5,Value.slice (some ⟨g2,0,none⟩) sz m2,Value.tuple #[Value.slice (some ⟨b0,o0,none⟩) 5 c5,Value.int IntKind.i64 (m : Int),Value.int IntKind.i64 0],Value.slice (some ⟨b0,o0,none⟩) 5 c5,Value.int IntKind.i64 (m : Int),Value.int IntKind.i64 0,Value.int IntKind.i64 0,Value.bool false,undef,Value.slice (some ⟨b0,o0,none⟩) 5 c5,Value.pointer (some ⟨b0,o0,none⟩),Value.pointer (some ⟨b0,o0 + 1,none⟩),Value.int IntKind.i64 k0,Value.slice (some ⟨b0,o0,none⟩) 5 c5,Value.pointer (some ⟨b0,o0 + 3,none⟩),Value.pointer (some ⟨b0,o0 + 3 + 1,none⟩),Value.int IntKind.i64 k1,Value.slice (some ⟨b0,o0,none⟩) 5 c5,Value.pointer (some ⟨b0,o0 + 6,none⟩),Value.pointer (some ⟨b0,o0 + 6 + 1,none⟩),Value.int IntKind.i64 k2,Value.slice (some ⟨b0,o0,none⟩) 5 c5,Value.pointer (some ⟨b0,o0 + 9,none⟩),Value.pointer (some ⟨b0,o0 + 9 + 1,none⟩),Value.int IntKind.i64 k3,Value.agg #[Value.int IntKind.i64 k0,Value.int IntKind.i64 k1,Value.int IntKind.i64 k2,Value.int IntKind.i64 k3,Value.slice none 0 0],Value.agg #[Value.int IntKind.i64 0,Value.int IntKind.i64 0,Value.string (⟨#[]⟩ : ByteArray)],Value.slice (some ⟨b7,0,none⟩) (enF (⟨0,0,⟨#[]⟩⟩ : En)).length (enF (⟨0,0,⟨#[]⟩⟩ : En)).length,Value.slice (some ⟨w7.heap.size,0,none⟩) 3 3,Value.tuple #[Value.slice A10 N c10,Value.int IntKind.i64 ERR],Value.slice (some ⟨w7.heap.size,0,none⟩) 3 3,Value.slice (some ⟨b0,o0,none⟩) 5 c5,Value.pointer (some ⟨b0,o0 + 12,none⟩),Value.pointer (some ⟨b0,o0 + 12 + 1,none⟩),Value.int IntKind.i64 (M : Int),Value.slice A9 T c9,Value.slice (some ⟨g2,0,none⟩) sz m2,Value.int IntKind.i64 (m : Int),Value.slice Z qq zc,Value.tuple #[Value.slice A10 N c10,Value.int IntKind.i64 ERR],Value.slice A10 N c10,Value.int IntKind.i64 ERR,Value.slice A10 N c10,Value.slice (some ⟨w7.heap.size,0,none⟩) 3 3,Value.int IntKind.i64 3,Value.func (Fn.func 121) #[] #[Value.pointer (some ⟨b1,0,none⟩),Value.pointer (some ⟨b2,0,none⟩)],x,undef,undef,undef,undef,undef,undef,undef,undef,undef,undef,undef,undef,undef,undef,undef,undef],defers:=[] }) ?assign ?body ?done)
  case assign =>
   intro l x W K hK
   gi_wp2
   exact hK
  case seq =>
   intro l J hJ hJI hY W hb h0
   exact citer_in 2 l b1 b2 (by omega) A10 bA oA mm c10 HMM2.out HBA.out (by rw [<- HN3.out]; exact hcd) J (fun pre X h => by
    have h1:=(hJI pre X h).1
    rw [HBB1.out,HBB2.out]
    have h2:=HQL.out
    have h3:=HS11.out
    exact ⟨HX1.out.1.kept h1 (fun e => by cases e; omega),HX1.out.2.kept h1 (fun e => by cases e; omega)⟩) hJ hY W h0
  case body =>
   rintro l pre x W ⟨hg0,v,hvq,hown⟩ ⟨hx1,hlt⟩
   obtain ⟨hb1,hb2,hc1,hc2,hc3⟩:=HCA.out pre.length hlt
   obtain ⟨x1,hx1'⟩ : ∃ x,(D.l.getD (pre.length * 3) Pq.z0).n = x:=⟨_,rfl⟩
   obtain ⟨x2,hx2'⟩ : ∃ x,(D.l.getD (pre.length * 3 + 1) Pq.z0).n = x:=⟨_,rfl⟩
   obtain ⟨x3,hx3'⟩ : ∃ x,(D.l.getD (pre.length * 3 + 2) Pq.z0).s = x:=⟨_,rfl⟩
   have hep:=HEE.out pre.length hlt
   rw [hx1'] at hc1 hep
   rw [hx2'] at hc2 hep
   rw [hx3'] at hc3 hep
   have hWA : W.heap[bA]? = w10.heap[bA]?:=by
    have h2:=HS11.out
    exact (hg0.block bA (by omega) (fun e => hb2 (by cases e; rfl))).trans (HB1011.out.block bA hb1)
   have hcW : ∀ o',W.cell? ⟨bA,o',none⟩ = w10.cell? ⟨bA,o',none⟩:=fun o' => by simp only [World.cell?,hWA]
   subst hx1
   obtain ⟨av,cv,rfl,-,-,-⟩:=own_form hown
   obtain ⟨P,hP⟩ : ∃ P,P = oA + pre.length * 9:=⟨_,rfl⟩
   have HTE : Hid (Calls Tryz.prog 76 #[.slice (some ⟨bA,P,none⟩) 3 3] W.drew fun e w' => e = .returned (.agg #[.int .i64 x1,.int .i64 x2,.string x3]) /\ Below W.heap.size W w'):=hJQ (by
    have:=toentry_any (c:=3) (w:=W.drew) (b:=bA) (off:=P) (x:=x1) (y:=x2) (s:=x3) (by rw [hP]; exact (hcW _).trans hc1) (by rw [hP]; exact (hcW _).trans hc2) (by rw [hP]; exact (hcW _).trans hc3)
    exact this.mono fun e w' h => ⟨h.1,(Below.refl _ _).drew.trans (h.2.mono (Nat.le_refl _))⟩)
   have HVQ:=hJQ hvq
   have HOW:=hJQ hown
   have HSZ : Hid (w11.heap.size <= W.heap.size):=hJQ hg0.size
   have HDN:=hJQ (fun W5 W6 v' (h5 : Below W.heap.size W W5) h6 hg => di_next (a:=⟨#[],[]⟩) (x:=ck bA oA pre.length) (W6:=W6) (v':=v') (by have:=HQL.out; have:=HS11.out; omega : q < w11.heap.size) hg0 hvq hown hep h5 h6 hg)
   have HQ6:=hJQ (fun W5 W6 (h5 : Below W.heap.size W W5) hg => di_q6 (e:=⟨x1,x2,x3⟩) (W6:=W6) (by have:=HQL.out; have:=HS11.out; omega : q < w11.heap.size) hvq hown h5 hg)
   have c4:=cell_of hvq (j:=4) rfl
   have hck : ck bA oA pre.length = .slice (some ⟨bA,P,none⟩) 3 3:=by rw [hP]; rfl
   rw [hck]
   clear hg0 hvq hown hep hWA hcW hc1 hc2 hc3 hb1 hb2 hx1' hx2' hx3' hP
   gi_wp2
   refine regionIn_held (S:=fun _ => True) (by kernel_rfl) (noDefer_spec (by kernel_rfl)) (fun ⟨_,_,hh⟩ => by simp [Exit.inBlock,goesOn] at hh) trivial (fun _ => ?_)
   refine take_op 0 64 (.pointer (some ⟨q,4,none⟩)) rfl rfl (by kernel_rfl) (by kernel_rfl) (by kernel_rfl) (fun _ _ _ h => h) (.inl ⟨by rfl,fun w' hw' => by go_simp⟩) trivial ?_
   simp only [lz,ls]
   refine take_op 2 66 (.slice (some ⟨bA,P,none⟩) 3 3) rfl rfl (by kernel_rfl) (by kernel_rfl) (by kernel_rfl) (fun _ _ _ h => h) (.inl ⟨by rfl,fun w' hw' => by go_simp⟩) trivial ?_
   simp only [lz,ls]
   refine wpAnyH_ready (rs:=[1,3]) (by kernel_rfl) (by simp) ?_
   refine AllReadyH.cons rfl (fun K hK => ?_) (AllReadyH.cons rfl (fun K hK => ?_) (AllReadyH.nil))
   ·go_simp
    refine hK.out _ _ trivial (fun _ => ?_)
    clear hK K
    try simp only [Act.put,lp,lz,ls]
    refine r1 3 (fun K hK => ?_) rfl
    go_simp
    refine HTE.out.mono ?_
    rintro e W5 ⟨rfl,h5⟩
    have HB5:=hJQ h5
    have c5:=cell_of (blk_below HVQ.out h5) (j:=4) rfl
    have cA:=cell_of (blk_alloc (blk_below HVQ.out h5) (.cells #[.int .i64 x1,.int .i64 x2,.string x3] 45)) (j:=4) rfl
    have hoA:=own_below HOW.out (h5.trans ((box_below W5 (.cells #[.int .i64 x1,.int .i64 x2,.string x3] 45)).mono h5.size))
    have hszA : w11.heap.size <= (W5.alloc (.cells #[.int .i64 x1,.int .i64 x2,.string x3] 45)).heap.size:=Nat.le_trans HSZ.out (Nat.le_trans h5.size (by simp))
    clear h5
    go_wp2_with fail
    refine hK.out _ _ trivial (fun _ => ?_)
    clear hK K
    try simp only [Act.put,lp,lz,ls]
    refine r1 4 (fun K hK => ?_) rfl
    go_simp
    refine hK.out _ _ trivial (fun _ => ?_)
    clear hK K
    try simp only [Act.put,lp,lz,ls]
    refine r1 5 (fun K hK => ?_) rfl
    refine step_append_lies (w:=W5.alloc (.cells #[.int .i64 x1,.int .i64 x2,.string x3] 45)) (by rfl) _ _ 32 (by rfl) w11.heap.size 45 i0 _ 3 32 Tryz.underlying32 hi hz0 hz1 hz2 rfl (by decide) (.slice av pre.length cv) pre.length ((es.take pre.length).flatMap ecell) (by rfl) hoA ⟨W5.heap.size,0,none⟩ 1 1 (ecell ⟨x1,x2,x3⟩) (by rfl) rfl entry_run (ecell_one _) (by decide) (by unfold maxLen; have:=HMM2.out; omega) (by have:=HMM2.out; omega) hszA (W5.alloc (.cells #[.int .i64 x1,.int .i64 x2,.string x3] 45)).heap.size rfl ?_
    intro g6 cap W6 h6 hg6 _ _
    have HX6:=hJQ (HDN.out W5 W6 _ HB5.out h6 hg6)
    have hq6:=HQ6.out W5 W6 HB5.out hg6
    have c6:=cell_of hq6 (j:=4) rfl
    have f6:=frozen_of_row _ _ 4 _ _ hq6
    clear h6 hg6 hq6
    refine hK.out _ _ trivial (fun _ => ?_)
    clear hK K
    try simp only [Act.put,List.setIfInBounds_toArray]
    refine take_op 6 70 (.pointer (some ⟨q,4,none⟩)) rfl rfl (by kernel_rfl) (by kernel_rfl) (by kernel_rfl) (fun _ _ _ h => h) (.inl ⟨by rfl,fun w' hw' => by go_simp⟩) trivial ?_
    simp only [lz,ls]
    refine r1 7 (fun K hK => ?_) rfl
    go_simp
    refine hK.out _ _ trivial (fun _ => ?_)
    clear hK K
    try simp only [Act.put,lp,lz,ls]
    refine wpAnyH_done (by kernel_rfl) ?_ _
    have hx:=HX6.out
    rw [hck] at hx
    exact hx
   ·go_simp
    refine HTE.out.mono ?_
    rintro e W5 ⟨rfl,h5⟩
    have HB5:=hJQ h5
    have c5:=cell_of (blk_below HVQ.out h5) (j:=4) rfl
    have cA:=cell_of (blk_alloc (blk_below HVQ.out h5) (.cells #[.int .i64 x1,.int .i64 x2,.string x3] 45)) (j:=4) rfl
    have hoA:=own_below HOW.out (h5.trans ((box_below W5 (.cells #[.int .i64 x1,.int .i64 x2,.string x3] 45)).mono h5.size))
    have hszA : w11.heap.size <= (W5.alloc (.cells #[.int .i64 x1,.int .i64 x2,.string x3] 45)).heap.size:=Nat.le_trans HSZ.out (Nat.le_trans h5.size (by simp))
    clear h5
    go_wp2_with fail
    refine hK.out _ _ trivial (fun _ => ?_)
    clear hK K
    try simp only [Act.put,lp,lz,ls]
    refine wpAnyH_ready (rs:=[1,4]) (by kernel_rfl) (by simp) ?_
    refine AllReadyH.cons rfl (fun K hK => ?_) (AllReadyH.cons rfl (fun K hK => ?_) (AllReadyH.nil))
    ·go_simp
     refine hK.out _ _ trivial (fun _ => ?_)
     clear hK K
     try simp only [Act.put,lp,lz,ls]
     refine r1 4 (fun K hK => ?_) rfl
     go_simp
     refine hK.out _ _ trivial (fun _ => ?_)
     clear hK K
     try simp only [Act.put,lp,lz,ls]
     refine r1 5 (fun K hK => ?_) rfl
     refine step_append_lies (w:=W5.alloc (.cells #[.int .i64 x1,.int .i64 x2,.string x3] 45)) (by rfl) _ _ 32 (by rfl) w11.heap.size 45 i0 _ 3 32 Tryz.underlying32 hi hz0 hz1 hz2 rfl (by decide) (.slice av pre.length cv) pre.length ((es.take pre.length).flatMap ecell) (by rfl) hoA ⟨W5.heap.size,0,none⟩ 1 1 (ecell ⟨x1,x2,x3⟩) (by rfl) rfl entry_run (ecell_one _) (by decide) (by unfold maxLen; have:=HMM2.out; omega) (by have:=HMM2.out; omega) hszA (W5.alloc (.cells #[.int .i64 x1,.int .i64 x2,.string x3] 45)).heap.size rfl ?_
     intro g6 cap W6 h6 hg6 _ _
     have HX6:=hJQ (HDN.out W5 W6 _ HB5.out h6 hg6)
     have hq6:=HQ6.out W5 W6 HB5.out hg6
     have c6:=cell_of hq6 (j:=4) rfl
     have f6:=frozen_of_row _ _ 4 _ _ hq6
     clear h6 hg6 hq6
     refine hK.out _ _ trivial (fun _ => ?_)
     clear hK K
     try simp only [Act.put,List.setIfInBounds_toArray]
     refine take_op 6 70 (.pointer (some ⟨q,4,none⟩)) rfl rfl (by kernel_rfl) (by kernel_rfl) (by kernel_rfl) (fun _ _ _ h => h) (.inl ⟨by rfl,fun w' hw' => by go_simp⟩) trivial ?_
     simp only [lz,ls]
     refine r1 7 (fun K hK => ?_) rfl
     go_simp
     refine hK.out _ _ trivial (fun _ => ?_)
     clear hK K
     try simp only [Act.put,lp,lz,ls]
     refine wpAnyH_done (by kernel_rfl) ?_ _
     have hx:=HX6.out
     rw [hck] at hx
     exact hx
    ·go_simp
     refine hK.out _ _ trivial (fun _ => ?_)
     clear hK K
     try simp only [Act.put,lp,lz,ls]
     refine r1 1 (fun K hK => ?_) rfl
     go_simp
     refine hK.out _ _ trivial (fun _ => ?_)
     clear hK K
     try simp only [Act.put,lp,lz,ls]
     refine r1 5 (fun K hK => ?_) rfl
     refine step_append_lies (w:=W5.alloc (.cells #[.int .i64 x1,.int .i64 x2,.string x3] 45)) (by rfl) _ _ 32 (by rfl) w11.heap.size 45 i0 _ 3 32 Tryz.underlying32 hi hz0 hz1 hz2 rfl (by decide) (.slice av pre.length cv) pre.length ((es.take pre.length).flatMap ecell) (by rfl) hoA ⟨W5.heap.size,0,none⟩ 1 1 (ecell ⟨x1,x2,x3⟩) (by rfl) rfl entry_run (ecell_one _) (by decide) (by unfold maxLen; have:=HMM2.out; omega) (by have:=HMM2.out; omega) hszA (W5.alloc (.cells #[.int .i64 x1,.int .i64 x2,.string x3] 45)).heap.size rfl ?_
     intro g6 cap W6 h6 hg6 _ _
     have HX6:=hJQ (HDN.out W5 W6 _ HB5.out h6 hg6)
     have hq6:=HQ6.out W5 W6 HB5.out hg6
     have c6:=cell_of hq6 (j:=4) rfl
     have f6:=frozen_of_row _ _ 4 _ _ hq6
     clear h6 hg6 hq6
     refine hK.out _ _ trivial (fun _ => ?_)
     clear hK K
     try simp only [Act.put,List.setIfInBounds_toArray]
     refine take_op 6 70 (.pointer (some ⟨q,4,none⟩)) rfl rfl (by kernel_rfl) (by kernel_rfl) (by kernel_rfl) (fun _ _ _ h => h) (.inl ⟨by rfl,fun w' hw' => by go_simp⟩) trivial ?_
     simp only [lz,ls]
     refine r1 7 (fun K hK => ?_) rfl
     go_simp
     refine hK.out _ _ trivial (fun _ => ?_)
     clear hK K
     try simp only [Act.put,lp,lz,ls]
     refine wpAnyH_done (by kernel_rfl) ?_ _
     have hx:=HX6.out
     rw [hck] at hx
     exact hx
  case done =>
   rintro Dd xs W hD hS ⟨hg0,v,hvq,hown⟩ hK
   have hxl : xs.length = mm:=by rw [hS]; simp [cks]
   have htk : es.take xs.length = es:=by rw [hxl,<- HEL.out]; exact List.take_length
   rw [htk,hxl] at hown
   obtain ⟨A6,c6,hv6,-,-,hA6⟩:=own_form hown
   have hA0 : A6 = none -> c6 = 0:=fun e => by
    rcases hown.2 with ⟨e2,_⟩ | ⟨g,cap,cur,e2,_⟩
    ·rw [hv6] at e2
     injection e2 with _ _ e3
    ·rw [hv6,e] at e2
     cases e2
   subst hv6
   have hrl : r < w1.heap.size:=blk_lt HRB.out
   have hb111 : Below w1.heap.size w1 w11:=((HB5.out.trans (HB58.out.mono HB5.out.size)).trans (HB8.out.mono (Nat.le_trans HB5.out.size HB58.out.size))).trans (HB1011.out.mono (Nat.le_trans HB5.out.size (Nat.le_trans HB58.out.size HB8.out.size)))
   have hr11:=blk_below HRB.out hb111
   have hqr : r ≠ q:=by have:=EQ.out; have:=HB5.out.size; omega
   have hrW:=(hg0.block r (blk_lt hr11) (fun e => hqr (by cases e; rfl))).trans hr11
   have hwW : Below w.heap.size w W:=by
    have h1:=HB1.out.trans (hb111.mono HB1.out.size)
    refine ⟨hg0.os.trans h1.os,hg0.tape.trans h1.tape,hg0.output.trans h1.output,Nat.le_trans h1.size hg0.size,fun k hk => ?_⟩
    refine (hg0.block k (Nat.lt_of_lt_of_le hk h1.size) (fun e => ?_)).trans (h1.block k hk)
    have:=EQ.out
    have:=HB5.out.size
    have:=HB1.out.size
    cases e
    omega
   have HBW:=hJQ hwW
   have HRW:=hJQ hrW
   have HQW:=hJQ hvq
   have HOW:=hJQ hown
   have HKD:=hJQ hK
   have HBASE : Hid (w.heap.size <= w11.heap.size):=hJQ (by have:=hb111.size; have:=HB1.out.size; omega)
   have HDD2 : Hid (w.heap.size <= Dd):=hJQ (by have:=hb111.size; have:=HB1.out.size; omega)
   have HA0:=hJQ hA0
   clear hxl htk hrl hb111 hr11 hqr hrW hwW hvq hown hK hA0 hA6 hg0 hD hS
   cases hD2 : D with
   | bad er =>
    have hne : ¬ ERR = 0:=by
     have h1:=HDD.out
     rw [hD2] at h1
     have h2 : ERR = er:=by rw [HERR.out,hD2]; rfl
     rw [h2]
     exact dc_bad_ne h1
    have HRN : Hid (R = none):=hJQ (by
     rw [<- HRR.out]
     unfold deM
     rw [HRD.out,hD2])
    have HQ:=HRW.out
    have hnb : (ERR != 0) = true:=by simpa using hne
    clear hne hD2
    have z0:=cell_of HQ (j:=0) rfl
    have z1:=cell_of HQ (j:=1) rfl
    have z2:=cell_of HQ (j:=2) rfl
    have z3:=cell_of HQ (j:=3) rfl
    have z4:=cell_of HQ (j:=4) rfl
    have rf0:=frozen_of_row W r 0 _ _ HQ
    have rf1:=frozen_of_row W r 1 _ _ HQ
    have rf2:=frozen_of_row W r 2 _ _ HQ
    have rf3:=frozen_of_row W r 3 _ _ HQ
    have rf4:=frozen_of_row W r 4 _ _ HQ
    clear HQ
    obtain ⟨W6,hW6⟩ : ∃ W6,W6 = ((((W.setCell ⟨r,0,none⟩ (.int .i64 0)).setCell ⟨r,1,none⟩ (.int .i64 0)).setCell ⟨r,2,none⟩ (.int .i64 0)).setCell ⟨r,3,none⟩ (.int .i64 0)).setCell ⟨r,4,none⟩ (.slice none 0 0):=⟨_,rfl⟩
    obtain ⟨hk6,hr6,hb6,ho6⟩:=dec_end HBW.out HRW.out (Nat.le_of_eq ER.out.symm) HKD.out HDD2.out hW6
    have HK6:=hJQ hk6
    have HR6:=hJQ hr6
    have HB6:=hJQ hb6
    have HO6:=hJQ ho6
    have HW6:=hJQ hW6
    clear hk6 hr6 hb6 ho6 hW6
    go_wp2_with fail
    rw [<- HW6.out]
    refine ⟨by simp,.inl ⟨_,_,rfl,run_takeDeferred (w:=W6) HK6.out,?_⟩⟩
    exact ⟨_,res_dec Tryz.results30 _ _ r _ _ _ _ _ (.int .i64 130) (by simp) (by simp) HR6.out,(by rw [HRN.out]; exact ⟨HB6.out,rfl⟩)⟩
   | good g n2 =>
    have he0 : ERR = 0:=by rw [HERR.out,hD2]; rfl
    have hrd : rdM zs = some ⟨k0,k1,k2,k3,es⟩:=by rw [HRD.out,<- HED.out,hD2]; rfl
    have hfe:=(rd_some HBY.out hrd).1
    obtain ⟨hIn,h63⟩:=fld_in64 hfe
    have HIS:=hJQ (ismsg_any (w:=W) (c:=c6) (Rd.of_own (HOW.out) (fun _ _ => rfl) (by omega)) HA0.out (by have:=HMM2.out; omega) hIn k0 k1 k2 k3 h63)
    obtain ⟨b,hb⟩ : ∃ b,msB ⟨k0,k1,k2,k3,es⟩ = b:=⟨_,rfl⟩
    rw [hb] at HIS
    have HBB:=hJQ hb
    have HRD2:=hJQ hrd
    subst he0
    have hq:=HQW.out
    have y0:=cell_of hq (j:=0) rfl
    have y1:=cell_of hq (j:=1) rfl
    have y2:=cell_of hq (j:=2) rfl
    have y3:=cell_of hq (j:=3) rfl
    have y4:=cell_of hq (j:=4) rfl
    clear hD2 hrd hfe hIn h63 hb hq
    go_wp2_with fail
    refine HIS.out.mono ?_
    rintro e w12 ⟨rfl,hb12⟩
    have HB12:=hJQ (HBW.out.trans (hb12.mono HBW.out.size))
    have HR12:=hJQ (blk_below HRW.out hb12)
    have HQ12:=hJQ (blk_below HQW.out hb12)
    have HK12:=hJQ ((hb12.block Dd (blk_lt HKD.out)).trans HKD.out)
    have HO12:=hJQ (own_below HOW.out hb12)
    have HQ:=HR12.out
    have z0:=cell_of HQ (j:=0) rfl
    have z1:=cell_of HQ (j:=1) rfl
    have z2:=cell_of HQ (j:=2) rfl
    have z3:=cell_of HQ (j:=3) rfl
    have z4:=cell_of HQ (j:=4) rfl
    have rf0:=frozen_of_row w12 r 0 _ _ HQ
    have rf1:=frozen_of_row w12 r 1 _ _ HQ
    have rf2:=frozen_of_row w12 r 2 _ _ HQ
    have rf3:=frozen_of_row w12 r 3 _ _ HQ
    have rf4:=frozen_of_row w12 r 4 _ _ HQ
    clear HQ
    clear hb12 y0 y1 y2 y3 y4
    cases b with
    | false =>
     have HRN : Hid (R = none):=hJQ (by
      rw [<- HRR.out]
      unfold deM
      rw [HRD2.out]
      exact if_neg (fun hm => by have h1:=HBB.out; rw [msB_yes hm] at h1; cases h1))
     obtain ⟨W6,hW6⟩ : ∃ W6,W6 = ((((w12.setCell ⟨r,0,none⟩ (.int .i64 0)).setCell ⟨r,1,none⟩ (.int .i64 0)).setCell ⟨r,2,none⟩ (.int .i64 0)).setCell ⟨r,3,none⟩ (.int .i64 0)).setCell ⟨r,4,none⟩ (.slice none 0 0):=⟨_,rfl⟩
     obtain ⟨hk6,hr6,hb6,ho6⟩:=dec_end HB12.out HR12.out (Nat.le_of_eq ER.out.symm) HK12.out HDD2.out hW6
     have HK6:=hJQ hk6
     have HR6:=hJQ hr6
     have HB6:=hJQ hb6
     have HO6:=hJQ ho6
     have HW6:=hJQ hW6
     clear hk6 hr6 hb6 ho6 hW6
     go_wp2_with fail
     rw [<- HW6.out]
     refine ⟨by simp,.inl ⟨_,_,rfl,run_takeDeferred (w:=W6) HK6.out,?_⟩⟩
     exact ⟨_,res_dec Tryz.results30 _ _ r _ _ _ _ _ (.int .i64 130) (by simp) (by simp) HR6.out,(by rw [HRN.out]; exact ⟨HB6.out,rfl⟩)⟩
    | true =>
     have HRN : Hid (R = some ⟨k0,k1,k2,k3,es⟩):=hJQ (by
      rw [<- HRR.out]
      unfold deM
      rw [HRD2.out]
      refine if_pos ?_
      by_cases hm : MsOk ⟨k0,k1,k2,k3,es⟩
      ·exact hm
      ·have h1:=HBB.out
       rw [msB_no hm] at h1
       cases h1)
     have hq:=HQ12.out
     have y0:=cell_of hq (j:=0) rfl
     have y1:=cell_of hq (j:=1) rfl
     have y2:=cell_of hq (j:=2) rfl
     have y3:=cell_of hq (j:=3) rfl
     have y4:=cell_of hq (j:=4) rfl
     clear hq
     obtain ⟨W6,hW6⟩ : ∃ W6,W6 = ((((w12.setCell ⟨r,0,none⟩ (.int .i64 k0)).setCell ⟨r,1,none⟩ (.int .i64 k1)).setCell ⟨r,2,none⟩ (.int .i64 k2)).setCell ⟨r,3,none⟩ (.int .i64 k3)).setCell ⟨r,4,none⟩ (.slice A6 mm c6):=⟨_,rfl⟩
     obtain ⟨hk6,hr6,hb6,ho6⟩:=dec_end HB12.out HR12.out (Nat.le_of_eq ER.out.symm) HK12.out HDD2.out hW6
     have HK6:=hJQ hk6
     have HR6:=hJQ hr6
     have HB6:=hJQ hb6
     have HO6:=hJQ ho6
     have HW6:=hJQ hW6
     clear hk6 hr6 hb6 ho6 hW6
     go_wp2_with fail
     rw [<- HW6.out]
     refine ⟨by simp,.inl ⟨_,_,rfl,run_takeDeferred (w:=W6) HK6.out,?_⟩⟩
     exact ⟨_,res_dec Tryz.results30 _ _ r _ _ _ _ _ (.int .i64 0) (by simp) (by simp) HR6.out,(by
          rw [HRN.out]
          refine ⟨HB6.out,A6,c6,?_,?_⟩
          ·show _ = Ending.returned (.tuple #[.agg #[.int .i64 k0,.int .i64 k1,.int .i64 k2,.int .i64 k3,.slice A6 es.length c6],.int .i64 0])
           rw [HEL.out]
          ·show World.ownsRow _ _ _ _ (.slice A6 es.length c6) es.length _
           rw [HEL.out]
           exact own_base (HO6.out _ _ _ _ _ _ HO12.out (by decide)) HBASE.out)⟩
end Go.Proofs.YtlppinfjdnhlbaaGreatDoor
