/-
  What the bound of the second form gives of two slices: they take together at most 1048576 places. No condition.
-/
import Derived.Test.YtcobgidmmfliaaaDoorFrame
namespace Go.Proofs.YtcobgidmmfliaaaDoor
open Go.ChangeShapes Go.WideShapes Go.ChangeAt Go.RowKit Go.Proofs.Crc

theorem bulk_one {H : Type} (d : DataW H) : 1 ≤ Rows.uptoBulk d := by
  cases d with
  | lit l => cases l <;> simp [Rows.uptoBulk]
  | nil => simp [Rows.uptoBulk]
  | ptr d => simp [Rows.uptoBulk]
  | slice elems spare => simp [Rows.uptoBulk]
  | agg parts => simp [Rows.uptoBulk]
  | iface t d => simp [Rows.uptoBulk]
  | map entries => simp [Rows.uptoBulk]
  | held h => simp [Rows.uptoBulk]
theorem bulk_length {H : Type} (l : List (DataW H)) : l.length ≤ Rows.uptoBulkAll l := by
  induction l with
  | nil => simp [Rows.uptoBulkAll]
  | cons x r ih => have := bulk_one x; simp only [Rows.uptoBulkAll, List.length_cons]; omega
theorem bulk_cap {H : Type} {d : DataW H} {cap : Nat} (hs : (d = .nil ∧ cap = 0) ∨ ∃ es sp, d = .slice es sp ∧ es.length + sp.length = cap) : cap ≤ Rows.uptoBulk d := by
  rcases hs with ⟨_, rfl⟩ | ⟨es, sp, rfl, rfl⟩
  · omega
  · have h1 := bulk_length es
    have h2 := bulk_length sp
    simp only [Rows.uptoBulk]
    omega
theorem bulk_two {H : Type} {d0 d1 : DataW H} {cap0 cap1 : Nat} (hk : Rows.uptoSmall H [d0, d1] = true)
    (h0 : (d0 = .nil ∧ cap0 = 0) ∨ ∃ es sp, d0 = .slice es sp ∧ es.length + sp.length = cap0) (h1 : (d1 = .nil ∧ cap1 = 0) ∨ ∃ es sp, d1 = .slice es sp ∧ es.length + sp.length = cap1) : cap0 + cap1 ≤ 1048576 := by
  have h := of_decide_eq_true hk
  simp only [Rows.uptoBulkAll] at h
  have := bulk_cap h0
  have := bulk_cap h1
  omega
end Go.Proofs.YtcobgidmmfliaaaDoor
