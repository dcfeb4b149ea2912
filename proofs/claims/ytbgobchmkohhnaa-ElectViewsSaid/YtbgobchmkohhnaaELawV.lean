/-
  ElectViews returns true. No condition.
-/
import Derived.Test.YtbgobchmkohhnaaEAlive
namespace Go.Proofs.Ytbgobchmkohhnaa
set_option maxRecDepth 100000
open Go.ChangeShapes Go.WideShapes Go.ChangeAt Go.RowKit Go.Proofs.Rk Go.Proofs.El

set_option maxHeartbeats 4000000 in
theorem views_law {w : World} (v s m : Int) : Calls Try.prog 4 #[.int .i64 v, .int .i64 s, .int .i64 m] w fun e w' => e = .returned (.bool true) ∧ Below w.heap.size w w' := by
  obtain ⟨x, hx⟩ : ∃ x, nxt v s m = x := ⟨_, rfl⟩
  obtain ⟨y, hy⟩ : ∃ y, has v s m = y := ⟨_, rfl⟩
  have HN : Hid (∀ W : World, Calls Try.prog 17 #[.int .i64 v, .int .i64 s, .int .i64 m] W fun e w' => e = .returned (.tuple #[.int .i64 x, .bool y]) ∧ W = w') := Lib.hid (fun W => by rw [← hx, ← hy]; exact view_any v s m W)
  have HN2 : Hid (∀ W : World, Calls Try.prog 18 #[.int .i64 v, .int .i64 s, .int .i64 m] W fun e w' => e = .returned (.tuple #[.int .i64 x, .bool y]) ∧ W = w') := Lib.hid (fun W => by rw [← hx, ← hy]; exact rnext_any v s m W)
  have HA := Lib.hid (fun W => alive_any W)
  clear hx hy
  go_enter Try.func4, Try.ntmps4
  go_wp2_with fail
  refine (HN.out _).mono ?_
  rintro e w0 ⟨rfl, rfl⟩
  go_wp2_with fail
  refine (HN2.out _).mono ?_
  rintro e w0 ⟨rfl, rfl⟩
  go_wp2_with fail
  refine (HA.out _).mono ?_
  rintro e w2 ⟨rfl, hb2⟩
  have HB2 := Lib.hid hb2
  clear hb2
  go_wp2_with fail
  go_ret
  exact ⟨rfl, HB2.out⟩
end Go.Proofs.Ytbgobchmkohhnaa
