/-
  Two messages compared; messages that came in, in memory. No condition.
-/
import Derived.Test.YtdlhjpcofldfnaaAlive
namespace Go.Proofs.Ytdlhjpcofldfnaa
set_option maxRecDepth 100000
open Go.ChangeShapes Go.WideShapes Go.ChangeAt Go.RowKit

theorem toList_inj {a b : ByteArray} (h : a.toList = b.toList) : a = b := by
  rw [ByteArray.toList_eq, ByteArray.toList_eq] at h
  obtain ⟨⟨x⟩⟩ := a
  obtain ⟨⟨y⟩⟩ := b
  have h' : x = y := h
  rw [h']
theorem guard31 : Try.prog.eqGuardType Try.prog.depth 31 = false := by kernel_rfl
/-- Are two messages one and the same? -/
def same31 (x y : Pk) : Bool := x.f == y.f && x.t == y.t && x.b.toList == y.b.toList
theorem same_refl (x : Pk) : same31 x x = true := by simp [same31]
theorem same_iff {x y : Pk} : same31 x y = true ↔ x = y := by
  constructor
  · intro h
    simp only [same31, Bool.and_eq_true, beq_iff_eq] at h
    obtain ⟨⟨h1, h2⟩, h3⟩ := h
    obtain ⟨a, b, c⟩ := x
    obtain ⟨a', b', c'⟩ := y
    simp only at h1 h2 h3
    rw [h1, h2, toList_inj h3]
  · rintro rfl; exact same_refl x
theorem neq31 (x y : Pk) (w : World) : (binOp .neq 31 (.agg #[.int .i64 x.f, .int .i64 x.t, .string x.b]) (.agg #[.int .i64 y.f, .int .i64 y.t, .string y.b])).run Try.prog w = .ok (.bool (!same31 x y)) w := by
  have hS : Try.prog.underlying 31 = some (.struct (Try.prog.fieldsOf 31)) := by kernel_rfl
  have hp : Try.prog.stoodInHeld 31 = false := by kernel_rfl
  have u3 := Try.underlying3
  have u9 := Try.underlying9
  have a3 := Try.isAgg3
  have z3 := Try.sizeOf3
  have a9 := Try.isAgg9
  have z9 := Try.sizeOf9
  rw [run_neq_struct, show (10000 : Nat) = 9999 + 1 from rfl, run_equalIn_agg w 9999 31 _ _ hS hp]
  simp only [Program.fieldsOf, Try.underlying31]
  go_simp
  unfold same31
  by_cases h1 : x.f = y.f <;> by_cases h2 : x.t = y.t <;> by_cases h3 : x.b.toList = y.b.toList <;> simp [h1, h2, h3]
/-- Memory holds messages. -/
structure PReads (w : World) (A : Option Addr) (n : Nat) (l : List Pk) : Prop where
  len : l.length = n
  cells : 0 < n → ∃ b off, A = some ⟨b, off, none⟩ ∧ ∀ i, i < n → w.cell? ⟨b, off + i * 3, none⟩ = some (.int .i64 (l.getD i pk0).f) ∧ w.cell? ⟨b, off + i * 3 + 1, none⟩ = some (.int .i64 (l.getD i pk0).t) ∧
    w.cell? ⟨b, off + i * 3 + 2, none⟩ = some (.string (l.getD i pk0).b)
  ok : ∀ x ∈ l, POk x
theorem PReads.kept {w w' : World} {A : Option Addr} {n : Nat} {l : List Pk} (h : PReads w A n l) (hb : Below w.heap.size w w') : PReads w' A n l := by
  refine ⟨h.len, fun hn => ?_, h.ok⟩
  obtain ⟨b, off, e, hc⟩ := h.cells hn
  refine ⟨b, off, e, fun i hi => ?_⟩
  obtain ⟨h1, h2, h3⟩ := hc i hi
  exact ⟨(hb.cell (p := ⟨b, off + i * 3, none⟩) (cell_lt h1)).trans h1, (hb.cell (p := ⟨b, off + i * 3 + 1, none⟩) (cell_lt h2)).trans h2, (hb.cell (p := ⟨b, off + i * 3 + 2, none⟩) (cell_lt h3)).trans h3⟩
theorem PReads.round {w : World} {A : Option Addr} {n k : Nat} {l : List Pk} (h : PReads w A n l) (hk : k < n) : ∃ b off x, A = some ⟨b, off, none⟩ ∧ x ∈ l ∧ l.drop k = x :: l.drop (k + 1) ∧ l.take (k + 1) = l.take k ++ [x] ∧ POk x ∧
    w.cell? ⟨b, off + k * 3, none⟩ = some (.int .i64 x.f) ∧ w.cell? ⟨b, off + k * 3 + 1, none⟩ = some (.int .i64 x.t) ∧ w.cell? ⟨b, off + k * 3 + 2, none⟩ = some (.string x.b) := by
  obtain ⟨b, off, rfl, hc⟩ := h.cells (by omega)
  obtain ⟨h0, h1, h2⟩ := hc k hk
  have hk' : k < l.length := by rw [h.len]; exact hk
  rw [getD_eq pk0 hk'] at h0 h1 h2
  exact ⟨b, off, _, rfl, List.getElem_mem hk', List.drop_eq_getElem_cons hk', List.take_succ_eq_append_getElem hk', h.ok _ (List.getElem_mem hk'), h0, h1, h2⟩
end Go.Proofs.Ytdlhjpcofldfnaa
