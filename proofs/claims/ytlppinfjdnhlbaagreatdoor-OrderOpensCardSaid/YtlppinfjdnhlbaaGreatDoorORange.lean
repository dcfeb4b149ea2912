/-
 A range over a function whose body goes on or returns,where the body is told what the iterator knows of what it hands over. No condition.
 A range over a function whose body always goes on,where the body is told what the iterator knows of the world in which it hands an element over. No condition.
-/
import Derived.RangeFuncNested
import Derived.RangeFuncBound
import Derived.RangeFuncCalls
import Derived.RangeFuncLeaves
import Derived.RangeFuncBox
namespace Go.Proofs.YtlppinfjdnhlbaaGreatDoor.Gq
set_option maxRecDepth 100000
open Go.RowKit

def goesOr {α : Type} (B : Nat) (I X : List α -> World -> Prop) (xs : List α) (W : World) : Exit -> Act -> World -> Prop
 | .normal,_,W' => KeepsFrom B W W' /\ I xs W'
 | .ret,_,W' => KeepsFrom B W W' /\ X xs W'
 | _,_,_ => False
theorem grown_below {X Y : World} (h : Below X.heap.size X Y) : X.grownBy Y none:=⟨h.os,h.tape,h.output,h.size,fun k hk _ => h.block k hk⟩
theorem range_two {P : Program} {α : Type} {n : Nat} {g : Operand} {ps : Array Tmp} {assign body : Code} {Q : Exit -> Act -> World -> Prop} {a : Act} {w : World} {gf : Nat} {lb : Array Value}
  (hg : a.eval g = .func (.func gf) #[] lb) (eg : ∀ args w,(callFunc gf args).run P w = .ok (.enter gf args) w) {encs : α -> Array Value} (hps : ∀ x,(encs x).size = ps.size)
  {R : List α -> α -> Prop} {S : List α -> Prop} {I X : List α -> World -> Prop} (hI : OwnFrom w.heap.size I) (hX : OwnFrom w.heap.size X) (h0 : I [] w)
  (hseq : ∀ (l : Nat) (J JX : List α -> World -> Prop),(∀ pre Y Z,J pre Y -> Below Y.heap.size Y Z -> J pre Z) -> (∀ pre Y,J pre Y -> I pre Y) ->
   (∀ pre x Y,J pre Y -> R pre x -> YieldAt Fence.wide (n - 1 - 1) P l (encs x) Y fun e Z => (e = .returned (.bool true) /\ J (pre ++ [x]) Z) ∨ (e = .returned (.bool false) /\ JX (pre ++ [x]) Z)) ->
   ∀ W,Below w.heap.size w W -> J [] W -> CallsIn Fence.wide (n - 1) P gf (#[.func (.yield l) #[] #[]] ++ lb) W fun e Y => (∃ v,e = .returned v) /\ ((∃ xs,S xs /\ J xs Y) ∨ ∃ xs,JX xs Y))
  (a₁ : α -> Act)
  (hassign : ∀ (l : Nat) (x : α) (W : World) (K : Act -> World -> Prop),K (a₁ x) W ->
   assign.wpIn (Fence.wide.inRound l) (n - 1 - 1) P (Exit.then K (fun _ _ _ => False)) { tmps:=(ps.zip (encs x)).foldl (fun t (p,v) => t.setIfInBounds p v) a.tmps,defers:=[] } W)
  (hbody : ∀ (l : Nat) (pre : List α) (x : α) (W : World),I pre W -> R pre x -> body.wpIn (Fence.wide.inRound l) (n - 1 - 1) P (goesOr w.heap.size I X (pre ++ [x]) W) (a₁ x) W)
  (hdone : ∀ (D : Nat) (xs : List α) (W : World),w.heap.size <= D -> S xs -> I xs W -> W.heap[D]? = some (.deferred (some [])) -> Q .normal { a with defers:={ target:=.collected D,args:=#[] } :: a.defers } W)
  (hstop : ∀ (D : Nat) (xs : List α) (W : World),w.heap.size <= D -> X xs W -> W.heap[D]? = some (.deferred (some [])) -> Code.ret.wpIn Fence.wide n P Q { a with defers:={ target:=.collected D,args:=#[] } :: a.defers } W) :
  (Code.rangeFunc g ps assign body).wpIn Fence.wide n P Q a w:=by
 refine wpIn_rangeFunc fun fn hfn => ?_
 obtain ⟨D,hD⟩ : ∃ D,D = w.heap.size:=⟨_,rfl⟩
 obtain ⟨rc,hrc⟩ : ∃ rc : LoopState -> Option Code -> Loop,rc = fun st pe => { state:=st,pending:=pe,fn,tmps:=a.tmps,params:=ps,assign,body,defers:=D }:=⟨_,rfl⟩
 obtain ⟨w1,hw1⟩ : ∃ w1,w1 = (w.alloc (.deferred (some []))).alloc (.loop (rc .ready none)):=⟨_,rfl⟩
 have hl1 : w1.heap[D + 1]? = some (.loop (rc .ready none)):=by
  have h:=World.alloc_heap_new (w.alloc (.deferred (some []))) (.loop (rc .ready none))
  rw [World.size_alloc,<- hw1,<- hD] at h
  exact h
 have hk1 : w1.heap[D]? = some (.deferred (some [])):=by
  rw [hw1,hD]; exact (Below.heap_alloc _ _ _ (by simp)).trans (World.alloc_heap_new w _)
 have hi1 : I [] w1:=by rw [hw1]; exact hI.alloc _ (hI.alloc _ h0)
 have hb1 : Below w.heap.size w w1:=by rw [hw1]; exact ((Below.refl _ w).alloc (Nat.le_refl _) _).alloc (by simp) _
 have hent : (Instr.enterLoop fn a.tmps ps assign body none).run P w = .ok (D + 1,[{ target:=.collected D,args:=#[] }]) w1:=by
  rw [hw1,hrc,hD]; exact run_enterLoop_outer _ _ _ _ _
 refine ⟨D + 1,[{ target:=.collected D,args:=#[] }],w1,{ target:=.fn (.func gf) lb,args:=#[.func (.yield (D + 1)) #[] #[]] },w1,gf,#[.func (.yield (D + 1)) #[] #[]] ++ lb,w1,hent,?_,fun _ _ => trivial,?_,(fun h => by cases h),?_⟩
 ·simp only [resolve,hg]
  simp [go_sem]
 ·simp [invoke,go_sem,eg]
 ·refine (hseq (D + 1) (fun pre Y => I pre Y /\ Y.heap[D + 1]? = some (.loop (rc .ready none)) /\ Y.heap[D]? = some (.deferred (some [])))
   (fun pre Y => X pre Y /\ Y.heap[D + 1]? = some (.loop (rc .done (some .ret))) /\ Y.heap[D]? = some (.deferred (some []))) ?_ (fun _ _ h => h.1) ?_ w1 hb1 ⟨hi1,hl1,hk1⟩).mono ?_
  ·rintro pre Y Z ⟨hi,hl,hk⟩ hb
   exact ⟨hI pre Y Z none hi (grown_below hb) (fun r e => by cases e),(hb.block _ (Array.getElem?_eq_some_iff.1 hl).1).trans hl,(hb.block _ (Array.getElem?_eq_some_iff.1 hk).1).trans hk⟩
  ·rintro pre x Y ⟨hi,hl,hk⟩ hr
   have hlt:=(Array.getElem?_eq_some_iff.1 hl).1
   have hy:=run_yield (P:=P) (args:=encs x) hl (by rw [hrc]; exact hps x)
   rw [hrc] at hy
   obtain ⟨Y2,hY2⟩ : ∃ Y2,Y2 = Y.putObj (D + 1) (.loop (rc .busy none)):=⟨_,rfl⟩
   have hbr : (Instr.beginRound (D + 1)).run P Y = .ok () Y2:=by rw [hY2,run_beginRound hl (by rw [hrc]),hrc]
   have hl2 : Y2.heap[D + 1]? = some (.loop (rc .busy none)):=by rw [hY2]; exact World.putObj_heap_same hlt
   have hk2 : Y2.heap[D]? = some (.deferred (some [])):=by rw [hY2]; exact (World.putObj_heap_other (by omega)).trans hk
   have hi2 : I pre Y2:=by rw [hY2]; exact hI.putObj _ hi (by omega) hl rfl
   refine ⟨fn,_,assign,body,hy,roundIn_of_wpIn hfn (hassign _ x Y _ ⟨Y2,hbr,wpIn_mono (hbody _ pre x Y2 hi2 hr) ?_⟩)⟩
   intro e a3 Y3 hp
   have fin : ∀ (jump : Option Code),KeepsFrom w.heap.size Y2 Y3 -> (Instr.endRound (D + 1) jump).run P Y3 = .ok (.bool jump.isNone) (Y3.putObj (D + 1) (.loop (rc (if jump.isNone then .ready else .done) jump))) /\ Y3.heap[D + 1]? = some (.loop (rc .busy none)) /\ Y3.heap[D]? = some (.deferred (some [])):=fun jump hk3 => by
    have hl3:=hk3.same _ _ (by omega) hl2 rfl
    have:=run_endRound (P:=P) jump hl3
    rw [hrc] at this hl3 ⊢
    exact ⟨this,hl3,hk3.same _ _ (by omega) hk2 rfl⟩
   cases e with
   | normal =>
    obtain ⟨hkf,hi3⟩:=hp
    obtain ⟨her,hl3,hk3⟩:=fin none hkf
    exact ⟨_,_,her,.inl ⟨rfl,hI.putObj _ hi3 (by omega) hl3 rfl,World.putObj_heap_same (Array.getElem?_eq_some_iff.1 hl3).1,(World.putObj_heap_other (by omega)).trans hk3⟩⟩
   | ret =>
    obtain ⟨hkf,hx3⟩:=hp
    obtain ⟨her,hl3,hk3⟩:=fin (some .ret) hkf
    exact ⟨_,_,her,.inr ⟨rfl,hX.putObj _ hx3 (by omega) hl3 rfl,World.putObj_heap_same (Array.getElem?_eq_some_iff.1 hl3).1,(World.putObj_heap_other (by omega)).trans hk3⟩⟩
   | exit id => exact hp.elim
   | goto t => exact hp.elim
   | panic ch => exact hp.elim
   | outgrown => exact hp.elim
  ·rintro e Y ⟨⟨v,rfl⟩,(⟨xs,hS,hi,hl,hk⟩ | ⟨xs,hx,hl,hk⟩)⟩
   ·have hen:=run_endLoop (P:=P) hl (by rw [hrc]; simp)
    refine ⟨none,_,(by rw [hrc] at hen; exact hen),?_⟩
    exact hdone D xs _ (by omega) hS (hI.putObj _ hi (by omega) hl rfl) ((World.putObj_heap_other (by omega)).trans hk)
   ·have hen:=run_endLoop (P:=P) hl (by rw [hrc]; simp)
    refine ⟨some .ret,_,(by rw [hrc] at hen; exact hen),?_⟩
    exact hstop D xs _ (by omega) (hX.putObj _ hx (by omega) hl rfl) ((World.putObj_heap_other (by omega)).trans hk)
end Go.Proofs.YtlppinfjdnhlbaaGreatDoor.Gq
namespace Go.Proofs.YtlppinfjdnhlbaaGreatDoor
open Go.RowKit Go.WideShapes

def goesOn {α : Type} (B : Nat) (I : List α -> World -> Prop) (xs : List α) (W : World) (e : Exit) (_ : Act) (W' : World) : Prop:=e = .normal /\ KeepsFrom B W W' /\ I xs W'
theorem grown_of_below {X Y : World} (h : Below X.heap.size X Y) : X.grownBy Y none:=⟨h.os,h.tape,h.output,h.size,fun k hk _ => h.block k hk⟩
theorem range_on {P : Program} {α : Type} {n : Nat} {g : Operand} {ps : Array Tmp} {assign body : Code} {Q : Exit -> Act -> World -> Prop} {a : Act} {w : World} {gf : Nat} {lb : Array Value}
  (hg : a.eval g = .func (.func gf) #[] lb) (eg : ∀ args w,(callFunc gf args).run P w = .ok (.enter gf args) w) {encs : α -> Array Value} (hps : ∀ x,(encs x).size = ps.size)
  {R : List α -> α -> World -> Prop} (hR : ∀ pre x,OwnFrom w.heap.size (fun (_ : Unit) W => R pre x W)) {S : List α -> Prop} {I : List α -> World -> Prop} (hI : OwnFrom w.heap.size I) (h0 : I [] w)
  (hseq : ∀ (l : Nat) (J : List α -> World -> Prop),(∀ pre X Y,J pre X -> Below X.heap.size X Y -> J pre Y) -> (∀ pre X,J pre X -> I pre X) ->
   (∀ pre x X,J pre X -> R pre x X -> YieldAt Fence.wide (n - 1 - 1) P l (encs x) X fun e Y => e = .returned (.bool true) /\ J (pre ++ [x]) Y) ->
   ∀ W,Below w.heap.size w W -> J [] W -> CallsIn Fence.wide (n - 1) P gf (#[.func (.yield l) #[] #[]] ++ lb) W fun e Y => (∃ v,e = .returned v) /\ ∃ xs,S xs /\ J xs Y)
  (a₁ : α -> Act)
  (hassign : ∀ (l : Nat) (x : α) (W : World) (K : Act -> World -> Prop),K (a₁ x) W ->
   assign.wpIn (Fence.wide.inRound l) (n - 1 - 1) P (Exit.then K (fun _ _ _ => False)) { tmps:=(ps.zip (encs x)).foldl (fun t (p,v) => t.setIfInBounds p v) a.tmps,defers:=[] } W)
  (hbody : ∀ (l : Nat) (pre : List α) (x : α) (W : World),I pre W -> R pre x W -> body.wpIn (Fence.wide.inRound l) (n - 1 - 1) P (goesOn w.heap.size I (pre ++ [x]) W) (a₁ x) W)
  (hdone : ∀ (D : Nat) (xs : List α) (W : World),w.heap.size <= D -> S xs -> I xs W -> W.heap[D]? = some (.deferred (some [])) -> Q .normal { a with defers:={ target:=.collected D,args:=#[] } :: a.defers } W) :
  (Code.rangeFunc g ps assign body).wpIn Fence.wide n P Q a w:=by
 refine wpIn_rangeFunc fun fn hfn => ?_
 obtain ⟨D,hD⟩ : ∃ D,D = w.heap.size:=⟨_,rfl⟩
 obtain ⟨rc,hrc⟩ : ∃ rc : LoopState -> Loop,rc = fun st => { state:=st,pending:=none,fn,tmps:=a.tmps,params:=ps,assign,body,defers:=D }:=⟨_,rfl⟩
 obtain ⟨w1,hw1⟩ : ∃ w1,w1 = (w.alloc (.deferred (some []))).alloc (.loop (rc .ready)):=⟨_,rfl⟩
 have hl1 : w1.heap[D + 1]? = some (.loop (rc .ready)):=by
  have h:=World.alloc_heap_new (w.alloc (.deferred (some []))) (.loop (rc .ready))
  rw [World.size_alloc,<- hw1,<- hD] at h
  exact h
 have hk1 : w1.heap[D]? = some (.deferred (some [])):=by
  rw [hw1,hD]; exact (Below.heap_alloc _ _ _ (by simp)).trans (World.alloc_heap_new w _)
 have hi1 : I [] w1:=by rw [hw1]; exact hI.alloc _ (hI.alloc _ h0)
 have hb1 : Below w.heap.size w w1:=by rw [hw1]; exact ((Below.refl _ w).alloc (Nat.le_refl _) _).alloc (by simp) _
 have hent : (Instr.enterLoop fn a.tmps ps assign body none).run P w = .ok (D + 1,[{ target:=.collected D,args:=#[] }]) w1:=by
  rw [hw1,hrc,hD]; exact run_enterLoop_outer _ _ _ _ _
 refine ⟨D + 1,[{ target:=.collected D,args:=#[] }],w1,{ target:=.fn (.func gf) lb,args:=#[.func (.yield (D + 1)) #[] #[]] },w1,gf,#[.func (.yield (D + 1)) #[] #[]] ++ lb,w1,hent,?_,fun _ _ => trivial,?_,(fun h => by cases h),?_⟩
 ·simp only [resolve,hg]
  simp [go_sem]
 ·simp [invoke,go_sem,eg]
 ·refine (hseq (D + 1) (fun pre X => I pre X /\ X.heap[D + 1]? = some (.loop (rc .ready)) /\ X.heap[D]? = some (.deferred (some []))) ?_ (fun _ _ h => h.1) ?_ w1 hb1 ⟨hi1,hl1,hk1⟩).mono ?_
  ·rintro pre X Y ⟨hi,hl,hk⟩ hb
   exact ⟨hI pre X Y none hi (grown_of_below hb) (fun r e => by cases e),(hb.block _ (Array.getElem?_eq_some_iff.1 hl).1).trans hl,(hb.block _ (Array.getElem?_eq_some_iff.1 hk).1).trans hk⟩
  ·rintro pre x X ⟨hi,hl,hk⟩ hr
   have hlt:=(Array.getElem?_eq_some_iff.1 hl).1
   have hy:=run_yield (P:=P) (args:=encs x) hl (by rw [hrc]; exact hps x)
   rw [hrc] at hy
   obtain ⟨X2,hX2⟩ : ∃ X2,X2 = X.putObj (D + 1) (.loop (rc .busy)):=⟨_,rfl⟩
   have hbr : (Instr.beginRound (D + 1)).run P X = .ok () X2:=by rw [hX2,run_beginRound hl (by rw [hrc]),hrc]
   have hl2 : X2.heap[D + 1]? = some (.loop (rc .busy)):=by rw [hX2]; exact World.putObj_heap_same hlt
   have hk2 : X2.heap[D]? = some (.deferred (some [])):=by rw [hX2]; exact (World.putObj_heap_other (by omega)).trans hk
   have hi2 : I pre X2:=by rw [hX2]; exact hI.putObj _ hi (by omega) hl rfl
   have hr2 : R pre x X2:=by rw [hX2]; exact (hR pre x).putObj (s:=()) _ hr (by omega) hl rfl
   refine ⟨fn,_,assign,body,hy,roundIn_of_wpIn hfn (hassign _ x X _ ⟨X2,hbr,wpIn_mono (hbody _ pre x X2 hi2 hr2) ?_⟩)⟩
   rintro e a3 X3 ⟨rfl,hkf,hi3⟩
   have hl3:=hkf.same _ _ (by omega) hl2 rfl
   have hk3:=hkf.same _ _ (by omega) hk2 rfl
   have her:=run_endRound (P:=P) none hl3
   refine ⟨_,_,her,rfl,hI.putObj _ hi3 (by omega) hl3 rfl,?_,(World.putObj_heap_other (by omega)).trans hk3⟩
   rw [hrc]
   exact World.putObj_heap_same (Array.getElem?_eq_some_iff.1 hl3).1
  ·rintro e Y ⟨⟨v,rfl⟩,xs,hS,hi,hl,hk⟩
   have hen:=run_endLoop (P:=P) hl (by rw [hrc]; simp)
   refine ⟨none,_,(by rw [hrc] at hen; exact hen),?_⟩
   exact hdone D xs _ (by omega) hS (hI.putObj _ hi (by omega) hl rfl) ((World.putObj_heap_other (by omega)).trans hk)
end Go.Proofs.YtlppinfjdnhlbaaGreatDoor
