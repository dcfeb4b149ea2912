/-
  Leases compared. No condition.
-/
import Derived.Test.YtocobanallohjaaLRow
namespace Go.Proofs.Ytocobanallohjaa
set_option maxRecDepth 100000
open Go.ChangeShapes Go.WideShapes Go.ChangeAt Go.RowKit Go.Proofs.Le

theorem eqlL (x y : Ls) (w : World) : (binOp .eql 30 (.agg #[.int .i64 x.i, .int .i64 x.s, .int .i64 x.l]) (.agg #[.int .i64 y.i, .int .i64 y.s, .int .i64 y.l])).run Try.prog w = .ok (.bool (decide (x = y))) w := by
  have hS : Try.prog.underlying 30 = some (.struct (Try.prog.fieldsOf 30)) := by kernel_rfl
  have hp : Try.prog.stoodInHeld 30 = false := by kernel_rfl
  have hui := Try.underlying3
  have hai := Try.isAgg3
  have hzi := Try.sizeOf3
  rw [run_eql_struct, show (10000 : Nat) = 9999 + 1 from rfl, run_equalIn_agg w 9999 30 _ _ hS hp]
  simp only [Program.fieldsOf, Try.underlying30]
  go_simp
  obtain ⟨a, b, c⟩ := x
  obtain ⟨a', b', c'⟩ := y
  by_cases h1 : a = a' <;> by_cases h2 : b = b' <;> by_cases h3 : c = c' <;> simp [h1, h2, h3, ls_eq]
theorem guard_eqlL : Try.prog.eqGuardType Try.prog.depth 30 = false := by kernel_rfl
theorem neqL (x y : Ls) (w : World) : (binOp .neq 30 (.agg #[.int .i64 x.i, .int .i64 x.s, .int .i64 x.l]) (.agg #[.int .i64 y.i, .int .i64 y.s, .int .i64 y.l])).run Try.prog w = .ok (.bool (!decide (x = y))) w := by
  have hS : Try.prog.underlying 30 = some (.struct (Try.prog.fieldsOf 30)) := by kernel_rfl
  have hp : Try.prog.stoodInHeld 30 = false := by kernel_rfl
  have hui := Try.underlying3
  have hai := Try.isAgg3
  have hzi := Try.sizeOf3
  rw [run_neq_struct, show (10000 : Nat) = 9999 + 1 from rfl, run_equalIn_agg w 9999 30 _ _ hS hp]
  simp only [Program.fieldsOf, Try.underlying30]
  go_simp
  obtain ⟨a, b, c⟩ := x
  obtain ⟨a', b', c'⟩ := y
  by_cases h1 : a = a' <;> by_cases h2 : b = b' <;> by_cases h3 : c = c' <;> simp [h1, h2, h3, ls_eq]
theorem guard_neqL : Try.prog.eqGuardType Try.prog.depth 30 = false := by kernel_rfl
theorem eqlD (x y : Ls) (w : World) : (binOp .eql 33 (.agg #[.int .i64 x.i, .int .i64 x.s, .int .i64 x.l]) (.agg #[.int .i64 y.i, .int .i64 y.s, .int .i64 y.l])).run Try.prog w = .ok (.bool (decide (x = y))) w := by
  have hS : Try.prog.underlying 33 = some (.struct (Try.prog.fieldsOf 33)) := by kernel_rfl
  have hp : Try.prog.stoodInHeld 33 = false := by kernel_rfl
  have hui := Try.underlying3
  have hai := Try.isAgg3
  have hzi := Try.sizeOf3
  rw [run_eql_struct, show (10000 : Nat) = 9999 + 1 from rfl, run_equalIn_agg w 9999 33 _ _ hS hp]
  simp only [Program.fieldsOf, Try.underlying33]
  go_simp
  obtain ⟨a, b, c⟩ := x
  obtain ⟨a', b', c'⟩ := y
  by_cases h1 : a = a' <;> by_cases h2 : b = b' <;> by_cases h3 : c = c' <;> simp [h1, h2, h3, ls_eq]
theorem guard_eqlD : Try.prog.eqGuardType Try.prog.depth 33 = false := by kernel_rfl
theorem neqD (x y : Ls) (w : World) : (binOp .neq 33 (.agg #[.int .i64 x.i, .int .i64 x.s, .int .i64 x.l]) (.agg #[.int .i64 y.i, .int .i64 y.s, .int .i64 y.l])).run Try.prog w = .ok (.bool (!decide (x = y))) w := by
  have hS : Try.prog.underlying 33 = some (.struct (Try.prog.fieldsOf 33)) := by kernel_rfl
  have hp : Try.prog.stoodInHeld 33 = false := by kernel_rfl
  have hui := Try.underlying3
  have hai := Try.isAgg3
  have hzi := Try.sizeOf3
  rw [run_neq_struct, show (10000 : Nat) = 9999 + 1 from rfl, run_equalIn_agg w 9999 33 _ _ hS hp]
  simp only [Program.fieldsOf, Try.underlying33]
  go_simp
  obtain ⟨a, b, c⟩ := x
  obtain ⟨a', b', c'⟩ := y
  by_cases h1 : a = a' <;> by_cases h2 : b = b' <;> by_cases h3 : c = c' <;> simp [h1, h2, h3, ls_eq]
theorem guard_neqD : Try.prog.eqGuardType Try.prog.depth 33 = false := by kernel_rfl
end Go.Proofs.Ytocobanallohjaa
