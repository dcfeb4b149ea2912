/-
  Words for memory: a slice that reads as numbers, a slice of fields that reads as fields; that both are kept where older memory is. No condition.
-/
import Derived.Test.YtkoikoegeagkoaaMath
import Derived.Test.YtkoikoegeagkoaaRows
import Derived.WalkKit
import Derived.ProofKit
import Derived.OpenShut
import Derived.Lib.Hide
import Derived.Outline
import Derived.Below
import Derived.OwnWalk
import Derived.Deep.LoopGhost
import Derived.Deep.Draws
import Derived.RegionTactic
namespace Go.Proofs.Ytkoikoegeagkoaa
open Go.ChangeShapes Go.WideShapes Go.ChangeAt Go.RowKit

/-- Memory holds, from an address on, these numbers of a kind. -/
def Reads (K : IntKind) (w : World) (ad : Option Addr) (len : Nat) (zs : List Int) : Prop :=
  zs.length = len ∧ (0 < len → ∃ b off, ad = some ⟨b, off, none⟩ ∧ ∀ i, i < len → w.cell? ⟨b, off + i, none⟩ = some (.int K (zs.getD i 0)))
def z0 : Fld := ⟨0, 0, ⟨#[]⟩⟩
/-- Memory holds, from an address on, these fields, three cells each. -/
def FReads (w : World) (ad : Option Addr) (len : Nat) (fs : List Fld) : Prop :=
  fs.length = len ∧ (0 < len → ∃ b off, ad = some ⟨b, off, none⟩ ∧ ∀ i, i < len →
    w.cell? ⟨b, off + i * 3, none⟩ = some (.int .i64 (fs.getD i z0).k) ∧ w.cell? ⟨b, off + i * 3 + 1, none⟩ = some (.int .i64 (fs.getD i z0).n) ∧ w.cell? ⟨b, off + i * 3 + 2, none⟩ = some (.string (fs.getD i z0).s))

theorem cell_lt {w : World} {b : Nat} {o : Nat} {v : Value} (h : w.cell? ⟨b, o, none⟩ = some v) : b < w.heap.size := by
  rcases Nat.lt_or_ge b w.heap.size with h' | h'
  · exact h'
  · simp [World.cell?, Array.getElem?_eq_none h'] at h
theorem Reads.kept {K : IntKind} {w w' : World} {ad : Option Addr} {len : Nat} {zs : List Int} (hR : Reads K w ad len zs) (hb : Below w.heap.size w w') : Reads K w' ad len zs := by
  refine ⟨hR.1, fun hl => ?_⟩
  obtain ⟨b, off, e, hc⟩ := hR.2 hl
  exact ⟨b, off, e, fun i hi => (hb.cell (p := ⟨b, off + i, none⟩) (cell_lt (hc i hi))).trans (hc i hi)⟩
theorem FReads.kept {w w' : World} {ad : Option Addr} {len : Nat} {fs : List Fld} (hR : FReads w ad len fs) (hb : Below w.heap.size w w') : FReads w' ad len fs := by
  refine ⟨hR.1, fun hl => ?_⟩
  obtain ⟨b, off, e, hc⟩ := hR.2 hl
  refine ⟨b, off, e, fun i hi => ?_⟩
  obtain ⟨h1, h2, h3⟩ := hc i hi
  exact ⟨(hb.cell (p := ⟨b, off + i * 3, none⟩) (cell_lt h1)).trans h1, (hb.cell (p := ⟨b, off + i * 3 + 1, none⟩) (cell_lt h1)).trans h2, (hb.cell (p := ⟨b, off + i * 3 + 2, none⟩) (cell_lt h1)).trans h3⟩
end Go.Proofs.Ytkoikoegeagkoaa
