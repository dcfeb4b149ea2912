/-
  What a state has, as the document has it. Condition: the state is good.
-/
import Derived.Test.YtflgemlhocjipaaGreatDoorSChange
import Derived.Test.YtflgemlhocjipaaGreatDoorSDoc1
namespace Go.Proofs.YtflgemlhocjipaaGreatDoor
set_option maxRecDepth 100000
open Go.ChangeShapes Go.WideShapes Go.ChangeAt Go.RowKit Go.Proofs.Zn Go.Proofs.Zt
open Go.Proofs.Zs (St Lst Rep Tx)

theorem gbo_blk {w w' : World} {base e sz n : Nat} {v : Value} {xs : List Value} (ho : w.ownsRow base e sz v n xs) (hg : w.grownBy w' v.ownBlock) {q : Nat} {cs : Array Value} {t : TypeId} {fr : Nat × Nat} (hq : w.heap[q]? = some (.cells cs t fr)) (hne : t ≠ e) : w'.heap[q]? = some (.cells cs t fr) :=
  (hg.block q (blk_lt hq) (fun e' => own_ne ho hq hne e'.symm)).trans hq
def seenD (D : List Lst) (L : Le.Tb) : List Lst := L.filterMap (fun x => if 0 < (Zs.fd D x.i).n then some ⟨x.i, (Zs.fd D x.i).n, (Zs.fd D x.i).r⟩ else none)
structure SeR (w : World) (B sp rb : Nat) (AL : Option Addr) (cl : Nat) (vT : Value) (S : St) (k : Nat) (wr : World) : Prop where
  hb : Below w.heap.size w wr
  st : StW wr B sp S
  all : wr.ownsRow w.heap.size 100 3 (.slice AL S.L.length cl) S.L.length (Lq.lcells S.L)
  tree : wr.ownsRow w.heap.size 132 9 vT S.T.length (ncells S.T)
  rest : ∃ Al cl Av cv l, wr.heap[rb]? = some (.cells #[.int .i64 S.z, vT, .slice Al k cl, .slice Av l.length cv] 31 (0, 0)) ∧ wr.ownsRow w.heap.size 82 3 (.slice Al k cl) k (Lq.lcells (S.L.take k)) ∧
    wr.ownsRow w.heap.size 102 5 (.slice Av l.length cv) l.length (lvcells l) ∧ l.map lvL = seenD S.D (S.L.take k) ∧ ∀ x ∈ l, wr.ownsRow w.heap.size 9 1 (.slice x.A x.m x.k) x.m (scells x.ps) ∧ x.ps.length = x.m
theorem SeR.below {w wr w' : World} {B sp rb cl k : Nat} {AL : Option Addr} {vT : Value} {S : St} (h : SeR w B sp rb AL cl vT S k wr) (hb : Below wr.heap.size wr w') : SeR w B sp rb AL cl vT S k w' := by
  obtain ⟨Al, cl', Av, cv, l, h1, h2, h3, h4, h5⟩ := h.rest
  exact ⟨h.hb.trans (hb.mono h.hb.size), h.st.below hb, own_below h.all hb, own_below h.tree hb, Al, cl', Av, cv, l, blk_below h1 hb, own_below h2 hb, own_below h3 hb, h4, fun x hx => ⟨own_below (h5 x hx).1 hb, (h5 x hx).2⟩⟩
end Go.Proofs.YtflgemlhocjipaaGreatDoor
