/-
 What a call leaves of others' blocks; rows that are kept by the type of their elements. No condition.
-/
import Derived.Test.YtlppinfjdnhlbaaGreatDoorKRight2
import Derived.Test.YtlppinfjdnhlbaaGreatDoorGOpened
namespace Go.Proofs.YtlppinfjdnhlbaaGreatDoor
set_option maxRecDepth 100000
open Go.ChangeShapes Go.WideShapes Go.ChangeAt Go.RowKit Go.Proofs.Rk
open Gq (Bz Mine PL PDisk Kp Kl Lg Dk)

structure KZ (z : Nat -> Prop) (w w' : World) : Prop where
 os : w'.os = w.os
 tape : w'.tape = w.tape
 output : w'.output = w.output
 size : w.heap.size <= w'.heap.size
 block : ∀ k,z k -> w'.heap[k]? = w.heap[k]?
def Far (t : TypeId) : Prop:=t ≠ 121 /\ t ≠ 152 /\ t ≠ 154 /\ t ≠ 5 /\ t ≠ 219
theorem Kl.cells {z : Nat -> Prop} {w w' : World} {k : Nat} {cs : Array Value} {t : TypeId} {fr : Nat × Nat} (h : Kl ⟨0,z⟩ w w') (hk : w.heap[k]? = some (.cells cs t fr)) (ht : Far t) : w'.heap[k]? = some (.cells cs t fr):=Gq.Kl.tag h k cs t fr hk ht
theorem Kl.own {z : Nat -> Prop} {w w' : World} {base e size n : Nat} {v : Value} {xs : List Value} (h : Kl ⟨0,z⟩ w w') (ho : w.ownsRow base e size v n xs) (ht : Far e) : w'.ownsRow base e size v n xs:=Gq.own_tag ho (fun k cs hk => Gq.Kl.tag h k cs e (0,0) hk ht)
theorem Kl.of_new {z : Nat -> Prop} {w w' : World} (h : Below w.heap.size w w') : Kl ⟨0,z⟩ w w':=Gq.Kl.of_below h (Nat.zero_le _)
theorem Kl.after {z : Nat -> Prop} {a b c : World} (h : Kl ⟨0,z⟩ a b) (k : Below b.heap.size b c) : Kl ⟨0,z⟩ a c:=Gq.Kl.trans h (Kl.of_new k)
theorem far_entry : Far 45:=by unfold Far; decide
theorem far_store : Far 124:=by unfold Far; decide
theorem far_node : Far 105:=by unfold Far; decide
theorem far_packet : Far 28:=by unfold Far; decide
theorem far_reign : Far 111:=by unfold Far; decide
theorem far_message : Far 69:=by unfold Far; decide
structure KT (z : Nat -> Prop) (w w' : World) : Prop where
 os : w'.os = w.os
 tape : w'.tape = w.tape
 output : w'.output = w.output
 size : w.heap.size <= w'.heap.size
 kept : ∀ (k : Nat) (o : Obj),w.heap[k]? = some o -> (z k ∨ ∀ cs t fr,o = Obj.cells cs t fr -> Far t /\ t ≠ 124) -> w'.heap[k]? = some o
theorem KT.trans {z : Nat -> Prop} {a b c : World} (h : KT z a b) (k : KT z b c) : KT z a c:=⟨k.os.trans h.os,k.tape.trans h.tape,k.output.trans h.output,Nat.le_trans h.size k.size,fun j o hj ht => k.kept j o (h.kept j o hj ht) ht⟩
theorem KT.of_kl {z : Nat -> Prop} {w w' : World} (h : Kl ⟨0,z⟩ w w') : KT z w w':=⟨h.below.os,h.below.tape,h.below.output,h.below.size,fun k o hk ht => h.kept k o hk (ht.imp id fun ht cs t fr e => (ht cs t fr e).1)⟩
theorem KT.of_below {z : Nat -> Prop} {w w' : World} (h : Below w.heap.size w w') : KT z w w':=KT.of_kl (Kl.of_new h)
theorem KT.after {z : Nat -> Prop} {a b c : World} (h : KT z a b) (k : Below b.heap.size b c) : KT z a c:=h.trans (KT.of_below k)
theorem KT.cells {z : Nat -> Prop} {w w' : World} {k : Nat} {cs : Array Value} {t : TypeId} {fr : Nat × Nat} (h : KT z w w') (hk : w.heap[k]? = some (.cells cs t fr)) (ht : Far t) (h2 : t ≠ 124) : w'.heap[k]? = some (.cells cs t fr) :=
 h.kept k _ hk (.inr fun cs' t' fr' e => by injection e with _ e _; subst e; exact ⟨ht,h2⟩)
theorem KT.own {z : Nat -> Prop} {w w' : World} {base e size n : Nat} {v : Value} {xs : List Value} (h : KT z w w') (ho : w.ownsRow base e size v n xs) (ht : Far e) (h2 : e ≠ 124) : w'.ownsRow base e size v n xs:=Gq.own_tag ho (fun _ _ hk => KT.cells h hk ht h2)
theorem KT.set {z : Nat -> Prop} {w : World} {st j : Nat} {cs : Array Value} (h : w.heap[st]? = some (.cells cs 124 (0,0))) (hz : ¬ z st) (v : Value) : KT z w (w.setCell ⟨st,j,none⟩ v) :=
 ⟨rfl,rfl,rfl,by simp,fun k o hk ht => by
  rw [Go.Deep.blk_setCell_other w _ _ k (fun e => ?_)]
  ·exact hk
  ·have e' : st = k:=e.symm
   subst e'
   rcases ht with ht | ht
   ·exact hz ht
   ·rw [h] at hk
    injection hk with hk
    exact (ht _ _ _ hk.symm).2 rfl⟩
theorem pl_same {w w' : World} {z : Nat -> Prop} {q p : Nat} {G : Lg} {bv : Value} {D : Dk} (h : PL w ⟨0,z⟩ q p G bv D) (hsz : w.heap.size <= w'.heap.size) (hk : ∀ (k : Nat) (cs : Array Value) (t : TypeId) (fr : Nat × Nat),w.heap[k]? = some (Obj.cells cs t fr) -> ¬ Far t -> w'.heap[k]? = some (Obj.cells cs t fr)) : PL w' ⟨0,z⟩ q p G bv D :=
 ⟨hk _ _ _ _ h.here (by unfold Far; simp),h.base,Gq.own_tag h.row (fun k cs hx => hk _ _ _ _ hx (by unfold Far; simp)),h.disk.tags hsz (fun k cs t fr hx ht => hk _ _ _ _ hx (by unfold Far; rcases ht with rfl | rfl | rfl <;> simp)),h.gok,h.zq,h.zb⟩
theorem pl_set {w : World} {z : Nat -> Prop} {q p st j : Nat} {G : Lg} {bv : Value} {D : Dk} {cs : Array Value} {t : TypeId} (h : PL w ⟨0,z⟩ q p G bv D) (hs : w.heap[st]? = some (.cells cs t (0,0))) (ht : Far t) (v : Value) : PL (w.setCell ⟨st,j,none⟩ v) ⟨0,z⟩ q p G bv D :=
 pl_same h (by simp) (fun k cs' t' fr' hk hn => by
  rw [Go.Deep.blk_setCell_other w _ _ k (fun e => ?_)]
  ·exact hk
  ·have e' : st = k:=e.symm
   subst e'
   rw [hs] at hk
   injection hk with hk
   injection hk with _ e2 _
   exact hn (e2 ▸ ht))
theorem pl_disk {w w' : World} {z : Nat -> Prop} {q p : Nat} {G : Lg} {bv : Value} {D D' : Dk} (h : PL w ⟨0,z⟩ q p G bv D) (hk : Kp ⟨0,z⟩ w w') (hd : PDisk w' ⟨0,z⟩ p D') (hl : D'.firm.length = D.firm.length) : PL w' ⟨0,z⟩ q p G bv D' :=
 ⟨hk.tag q _ _ _ h.here (by decide) (by decide) (by decide),h.base,Gq.own_tag h.row (fun k cs hx => hk.tag k cs 5 (0,0) hx (by decide) (by decide) (by decide)),hd,by rw [hl]; exact h.gok,h.zq,h.zb⟩
end Go.Proofs.YtlppinfjdnhlbaaGreatDoor
