/-
  A script in memory. No condition.
-/
import Derived.Test.YtdlhjpcofldfnaaPkEq
namespace Go.Proofs.Ytdlhjpcofldfnaa
set_option maxRecDepth 100000
open Go.ChangeShapes Go.WideShapes Go.ChangeAt Go.RowKit

/-- A call of a script. -/
structure Po where
  k : Int
  K : Int
  J : Int
  p : Pk
def po0 : Po := ⟨0, 0, 0, pk0⟩
def PoOk (o : Po) : Prop := I64 o.K ∧ I64 o.J ∧ POk o.p
/-- Memory holds a script. -/
structure SReads (w : World) (A : Option Addr) (n : Nat) (l : List Po) : Prop where
  len : l.length = n
  cells : 0 < n → ∃ b off, A = some ⟨b, off, none⟩ ∧ ∀ i, i < n → w.cell? ⟨b, off + i * 6, none⟩ = some (.int .i64 (l.getD i po0).k) ∧ w.cell? ⟨b, off + i * 6 + 1, none⟩ = some (.int .i64 (l.getD i po0).K) ∧ w.cell? ⟨b, off + i * 6 + 2, none⟩ = some (.int .i64 (l.getD i po0).J) ∧
    w.cell? ⟨b, off + i * 6 + 3, none⟩ = some (.int .i64 (l.getD i po0).p.f) ∧ w.cell? ⟨b, off + i * 6 + 4, none⟩ = some (.int .i64 (l.getD i po0).p.t) ∧ w.cell? ⟨b, off + i * 6 + 5, none⟩ = some (.string (l.getD i po0).p.b)
  ok : ∀ x ∈ l, PoOk x
theorem SReads.kept {w w' : World} {A : Option Addr} {n : Nat} {l : List Po} (h : SReads w A n l) (hb : Below w.heap.size w w') : SReads w' A n l := by
  refine ⟨h.len, fun hn => ?_, h.ok⟩
  obtain ⟨b, off, e, hc⟩ := h.cells hn
  refine ⟨b, off, e, fun i hi => ?_⟩
  obtain ⟨h1, h2, h3, h4, h5, h6⟩ := hc i hi
  have k : ∀ o u, w.cell? ⟨b, o, none⟩ = some u → w'.cell? ⟨b, o, none⟩ = some u := fun o u hx => (hb.cell (p := ⟨b, o, none⟩) (cell_lt hx)).trans hx
  exact ⟨k _ _ h1, k _ _ h2, k _ _ h3, k _ _ h4, k _ _ h5, k _ _ h6⟩
structure OpCells (w : World) (b off : Nat) (o : Po) : Prop where
  c0 : w.cell? ⟨b, off, none⟩ = some (.int .i64 o.k)
  c1 : w.cell? ⟨b, off + 1, none⟩ = some (.int .i64 o.K)
  c2 : w.cell? ⟨b, off + 2, none⟩ = some (.int .i64 o.J)
  c3 : w.cell? ⟨b, off + 3, none⟩ = some (.int .i64 o.p.f)
  c4 : w.cell? ⟨b, off + 4, none⟩ = some (.int .i64 o.p.t)
  c5 : w.cell? ⟨b, off + 5, none⟩ = some (.string o.p.b)
theorem SReads.round {w : World} {A : Option Addr} {n k : Nat} {l : List Po} (h : SReads w A n l) (hk : k < n) : ∃ b off o, A = some ⟨b, off, none⟩ ∧ o ∈ l ∧ l.take (k + 1) = l.take k ++ [o] ∧ PoOk o ∧ OpCells w b (off + k * 6) o := by
  obtain ⟨b, off, rfl, hc⟩ := h.cells (by omega)
  obtain ⟨h0, h1, h2, h3, h4, h5⟩ := hc k hk
  have hk' : k < l.length := by rw [h.len]; exact hk
  rw [getD_eq po0 hk'] at h0 h1 h2 h3 h4 h5
  exact ⟨b, off, _, rfl, List.getElem_mem hk', List.take_succ_eq_append_getElem hk', h.ok _ (List.getElem_mem hk'), ⟨h0, h1, h2, h3, h4, h5⟩⟩
end Go.Proofs.Ytdlhjpcofldfnaa
