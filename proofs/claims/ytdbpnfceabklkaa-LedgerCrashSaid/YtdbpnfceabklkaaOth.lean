/-
  A box that is written into; what it leaves of a ledger. No condition.
-/
import Derived.Test.YtdbpnfceabklkaaRun
import Derived.Test.YtdbpnfceabklkaaRDo2
namespace Go.Proofs.Ytdbpnfceabklkaa
set_option maxRecDepth 100000
open Go.ChangeShapes Go.WideShapes Go.ChangeAt Go.RowKit

/-- One block, of a type that no ledger has, was written into. -/
structure Oth (g : Nat) (w0 w : World) : Prop where
  below : Below g w0 w
  rest : ∀ k, k ≠ g → w.heap[k]? = w0.heap[k]?
  was : ∃ cs t fr, w0.heap[g]? = some (.cells cs t fr) ∧ t ≠ 84 ∧ t ≠ 87 ∧ t ≠ 91 ∧ t ≠ 5 ∧ t ≠ 74 ∧ t ≠ 9
theorem Oth.ne {g : Nat} {w0 w : World} (h : Oth g w0 w) {k t : Nat} {cs : Array Value} {fr : Nat × Nat} (hk : w0.heap[k]? = some (.cells cs t fr)) (ht : t = 84 ∨ t = 87 ∨ t = 91 ∨ t = 5 ∨ t = 74 ∨ t = 9) : w.heap[k]? = some (.cells cs t fr) := by
  obtain ⟨cur, t', fr', hc, h1, h2, h3, h4, h5, h6⟩ := h.was
  refine (h.rest k (fun e => ?_)).trans hk
  subst e
  rw [hk] at hc
  injection hc with hc
  injection hc with _ h0 _
  subst h0
  rcases ht with e | e | e | e | e | e <;> contradiction
theorem Oth.pl {g : Nat} {w0 w : World} (h : Oth g w0 w) {B q p : Nat} {G : Lg} {bv : Value} {D : Dk} (hp : PL w0 B q p G bv D) : PL w B q p G bv D := by
  obtain ⟨h1, h2, h3, ⟨sv, wv, left, hd⟩, h5⟩ := hp
  exact ⟨h.ne h1 (by decide), h2, own_tag h3 (fun k cs hk => h.ne hk (by decide)), ⟨sv, wv, left, ⟨hd.ok, hd.base, h.ne hd.here (by decide), own_tag hd.secs (fun k cs hk => h.ne hk (by decide)), own_tag hd.wrs (fun k cs hk => h.ne hk (by decide)), hd.left_hi, hd.life⟩⟩, h5⟩
theorem Oth.disk {g : Nat} {w0 w : World} (h : Oth g w0 w) {B p : Nat} {D : Dk} (hp : PDisk w0 B p D) : PDisk w B p D := by
  obtain ⟨sv, wv, left, hd⟩ := hp
  exact ⟨sv, wv, left, ⟨hd.ok, hd.base, h.ne hd.here (by decide), own_tag hd.secs (fun k cs hk => h.ne hk (by decide)), own_tag hd.wrs (fun k cs hk => h.ne hk (by decide)), hd.left_hi, hd.life⟩⟩
theorem Oth.kl {g B : Nat} {w wr wr' : World} (h : Oth g wr wr') (hk : Kl B w wr) (hB : B ≤ g) (hg : w.heap.size ≤ g) : Kl B w wr' :=
  ⟨hk.below.trans (h.below.mono hB), fun k o hk' ht => by
    have hlt : k < w.heap.size := (Array.getElem?_eq_some_iff.1 hk').1
    exact (h.rest k (by omega)).trans (hk.kept k o hk' ht)⟩
theorem Oth.run {g : Nat} {wr wr' : World} (h : Oth g wr wr') {w : World} {q p sz n : Nat} {G : Lg} {bv : Value} {D : Dk} {now firm : List (List Int)} (hr : Run w q p sz n G bv D now firm wr) (hg : w.heap.size ≤ g) : Run w q p sz n G bv D now firm wr' :=
  ⟨h.pl hr.pl, hr.al, hr.fr, hr.size, hr.len, hr.wait, h.kl hr.kl hg hg⟩
theorem Oth.str {g B : Nat} {w w' : World} (h : Oth g w w') {A : Option Addr} {n : Nat} {l : List (List Int)} (hs : STr B w A n l) (hB : B ≤ g) : STr B w' A n l := by
  obtain ⟨cur, t', fr', hc, h1, h2, h3, h4, h5, h6⟩ := h.was
  exact hs.other h.rest hc h6 hB
/-- Two cells of a box are set. -/
theorem oth_set2 {w : World} {g t : Nat} {a b : Value} (hg : w.heap[g]? = some (.cells #[a, b] t (0, 0))) (ht : t ≠ 84 ∧ t ≠ 87 ∧ t ≠ 91 ∧ t ≠ 5 ∧ t ≠ 74 ∧ t ≠ 9) (v v' : Value) :
    Oth g w ((w.setCell ⟨g, 0, none⟩ v).setCell ⟨g, 1, none⟩ v') ∧ ((w.setCell ⟨g, 0, none⟩ v).setCell ⟨g, 1, none⟩ v').heap[g]? = some (.cells #[v, v'] t (0, 0)) := by
  have h1 : (w.setCell ⟨g, 0, none⟩ v).heap[g]? = some (.cells #[v, b] t (0, 0)) := heap_setCell_same w g 0 _ t _ hg
  refine ⟨⟨?_, fun k hk => ?_, _, t, _, hg, ht⟩, heap_setCell_same _ g 1 _ t _ h1⟩
  · have b1 : Below g w (w.setCell ⟨g, 0, none⟩ v) := (Below.refl g w).setCell (Nat.le_refl g) v
    exact b1.setCell (Nat.le_refl g) v'
  · exact (Go.Deep.blk_setCell_other _ _ _ k hk).trans (Go.Deep.blk_setCell_other _ _ _ k hk)
end Go.Proofs.Ytdbpnfceabklkaa
