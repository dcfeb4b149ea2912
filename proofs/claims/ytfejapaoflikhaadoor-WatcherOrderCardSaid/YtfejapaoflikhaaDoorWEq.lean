/-
  Watches and events compared. No condition.
-/
import Derived.Test.YtfejapaoflikhaaDoorWIns
namespace Go.Proofs.YtfejapaoflikhaaDoor
set_option maxRecDepth 100000
open Go.ChangeShapes Go.WideShapes Go.ChangeAt Go.RowKit Go.Proofs.Zn Go.Proofs.Wa

theorem eqlW (x y : Wt) (w : World) : (binOp .eql 45 (.agg #[.int .i64 x.s, .string (B x.p), .bool x.k]) (.agg #[.int .i64 y.s, .string (B y.p), .bool y.k])).run Tryd.prog w = .ok (.bool (decide (x = y))) w := by
  have hS : Tryd.prog.underlying 45 = some (.struct (Tryd.prog.fieldsOf 45)) := by kernel_rfl
  have hp : Tryd.prog.stoodInHeld 45 = false := by kernel_rfl
  have hui := Tryd.underlying3
  have hai := Tryd.isAgg3
  have hzi := Tryd.sizeOf3
  have hus := Tryd.underlying9
  have has := Tryd.isAgg9
  have hzs := Tryd.sizeOf9
  have hub := Tryd.underlying4
  have hab := Tryd.isAgg4
  have hzb := Tryd.sizeOf4
  rw [run_eql_struct, show (10000 : Nat) = 9999 + 1 from rfl, run_equalIn_agg w 9999 45 _ _ hS hp]
  simp only [Program.fieldsOf, Tryd.underlying45]
  go_simp
  obtain ⟨a, b, c⟩ := x
  obtain ⟨a', b', c'⟩ := y
  by_cases h1 : a = a' <;> by_cases h2 : b = b' <;> by_cases h3 : c = c' <;> simp [h1, h2, h3, wt_eq]
theorem guard_eqlW : Tryd.prog.eqGuardType Tryd.prog.depth 45 = false := by kernel_rfl
theorem neqW (x y : Wt) (w : World) : (binOp .neq 45 (.agg #[.int .i64 x.s, .string (B x.p), .bool x.k]) (.agg #[.int .i64 y.s, .string (B y.p), .bool y.k])).run Tryd.prog w = .ok (.bool (!decide (x = y))) w := by
  have hS : Tryd.prog.underlying 45 = some (.struct (Tryd.prog.fieldsOf 45)) := by kernel_rfl
  have hp : Tryd.prog.stoodInHeld 45 = false := by kernel_rfl
  have hui := Tryd.underlying3
  have hai := Tryd.isAgg3
  have hzi := Tryd.sizeOf3
  have hus := Tryd.underlying9
  have has := Tryd.isAgg9
  have hzs := Tryd.sizeOf9
  have hub := Tryd.underlying4
  have hab := Tryd.isAgg4
  have hzb := Tryd.sizeOf4
  rw [run_neq_struct, show (10000 : Nat) = 9999 + 1 from rfl, run_equalIn_agg w 9999 45 _ _ hS hp]
  simp only [Program.fieldsOf, Tryd.underlying45]
  go_simp
  obtain ⟨a, b, c⟩ := x
  obtain ⟨a', b', c'⟩ := y
  by_cases h1 : a = a' <;> by_cases h2 : b = b' <;> by_cases h3 : c = c' <;> simp [h1, h2, h3, wt_eq]
theorem guard_neqW : Tryd.prog.eqGuardType Tryd.prog.depth 45 = false := by kernel_rfl
theorem eqlN (x y : Wt) (w : World) : (binOp .eql 28 (.agg #[.int .i64 x.s, .string (B x.p), .bool x.k]) (.agg #[.int .i64 y.s, .string (B y.p), .bool y.k])).run Tryd.prog w = .ok (.bool (decide (x = y))) w := by
  have hS : Tryd.prog.underlying 28 = some (.struct (Tryd.prog.fieldsOf 28)) := by kernel_rfl
  have hp : Tryd.prog.stoodInHeld 28 = false := by kernel_rfl
  have hui := Tryd.underlying3
  have hai := Tryd.isAgg3
  have hzi := Tryd.sizeOf3
  have hus := Tryd.underlying9
  have has := Tryd.isAgg9
  have hzs := Tryd.sizeOf9
  have hub := Tryd.underlying4
  have hab := Tryd.isAgg4
  have hzb := Tryd.sizeOf4
  rw [run_eql_struct, show (10000 : Nat) = 9999 + 1 from rfl, run_equalIn_agg w 9999 28 _ _ hS hp]
  simp only [Program.fieldsOf, Tryd.underlying28]
  go_simp
  obtain ⟨a, b, c⟩ := x
  obtain ⟨a', b', c'⟩ := y
  by_cases h1 : a = a' <;> by_cases h2 : b = b' <;> by_cases h3 : c = c' <;> simp [h1, h2, h3, wt_eq]
theorem guard_eqlN : Tryd.prog.eqGuardType Tryd.prog.depth 28 = false := by kernel_rfl
theorem neqN (x y : Wt) (w : World) : (binOp .neq 28 (.agg #[.int .i64 x.s, .string (B x.p), .bool x.k]) (.agg #[.int .i64 y.s, .string (B y.p), .bool y.k])).run Tryd.prog w = .ok (.bool (!decide (x = y))) w := by
  have hS : Tryd.prog.underlying 28 = some (.struct (Tryd.prog.fieldsOf 28)) := by kernel_rfl
  have hp : Tryd.prog.stoodInHeld 28 = false := by kernel_rfl
  have hui := Tryd.underlying3
  have hai := Tryd.isAgg3
  have hzi := Tryd.sizeOf3
  have hus := Tryd.underlying9
  have has := Tryd.isAgg9
  have hzs := Tryd.sizeOf9
  have hub := Tryd.underlying4
  have hab := Tryd.isAgg4
  have hzb := Tryd.sizeOf4
  rw [run_neq_struct, show (10000 : Nat) = 9999 + 1 from rfl, run_equalIn_agg w 9999 28 _ _ hS hp]
  simp only [Program.fieldsOf, Tryd.underlying28]
  go_simp
  obtain ⟨a, b, c⟩ := x
  obtain ⟨a', b', c'⟩ := y
  by_cases h1 : a = a' <;> by_cases h2 : b = b' <;> by_cases h3 : c = c' <;> simp [h1, h2, h3, wt_eq]
theorem guard_neqN : Tryd.prog.eqGuardType Tryd.prog.depth 28 = false := by kernel_rfl
theorem eqlE (x y : Ev) (w : World) : (binOp .eql 30 (.agg #[.int .i64 x.s, .int .i64 x.k, .string (B x.p)]) (.agg #[.int .i64 y.s, .int .i64 y.k, .string (B y.p)])).run Tryd.prog w = .ok (.bool (decide (x = y))) w := by
  have hS : Tryd.prog.underlying 30 = some (.struct (Tryd.prog.fieldsOf 30)) := by kernel_rfl
  have hp : Tryd.prog.stoodInHeld 30 = false := by kernel_rfl
  have hui := Tryd.underlying3
  have hai := Tryd.isAgg3
  have hzi := Tryd.sizeOf3
  have hus := Tryd.underlying9
  have has := Tryd.isAgg9
  have hzs := Tryd.sizeOf9
  rw [run_eql_struct, show (10000 : Nat) = 9999 + 1 from rfl, run_equalIn_agg w 9999 30 _ _ hS hp]
  simp only [Program.fieldsOf, Tryd.underlying30]
  go_simp
  obtain ⟨a, b, c⟩ := x
  obtain ⟨a', b', c'⟩ := y
  by_cases h1 : a = a' <;> by_cases h2 : b = b' <;> by_cases h3 : c = c' <;> simp [h1, h2, h3, ev_eq]
theorem guard_eqlE : Tryd.prog.eqGuardType Tryd.prog.depth 30 = false := by kernel_rfl
theorem neqE (x y : Ev) (w : World) : (binOp .neq 30 (.agg #[.int .i64 x.s, .int .i64 x.k, .string (B x.p)]) (.agg #[.int .i64 y.s, .int .i64 y.k, .string (B y.p)])).run Tryd.prog w = .ok (.bool (!decide (x = y))) w := by
  have hS : Tryd.prog.underlying 30 = some (.struct (Tryd.prog.fieldsOf 30)) := by kernel_rfl
  have hp : Tryd.prog.stoodInHeld 30 = false := by kernel_rfl
  have hui := Tryd.underlying3
  have hai := Tryd.isAgg3
  have hzi := Tryd.sizeOf3
  have hus := Tryd.underlying9
  have has := Tryd.isAgg9
  have hzs := Tryd.sizeOf9
  rw [run_neq_struct, show (10000 : Nat) = 9999 + 1 from rfl, run_equalIn_agg w 9999 30 _ _ hS hp]
  simp only [Program.fieldsOf, Tryd.underlying30]
  go_simp
  obtain ⟨a, b, c⟩ := x
  obtain ⟨a', b', c'⟩ := y
  by_cases h1 : a = a' <;> by_cases h2 : b = b' <;> by_cases h3 : c = c' <;> simp [h1, h2, h3, ev_eq]
theorem guard_neqE : Tryd.prog.eqGuardType Tryd.prog.depth 30 = false := by kernel_rfl
end Go.Proofs.YtfejapaoflikhaaDoor
