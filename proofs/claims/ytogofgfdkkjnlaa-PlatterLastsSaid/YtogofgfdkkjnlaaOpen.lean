/-
  Two numbers in an array that came in. No condition.
-/
import Derived.Test.YtogofgfdkkjnlaaFrame
import Derived.WideKeyPair
namespace Go.Proofs.Ytogofgfdkkjnlaa
open Go.ChangeShapes Go.WideShapes Go.ChangeAt Go.RowKit

theorem arr41 : Go.WideMaps.ArrKey Try.prog 41 3 2 := ⟨Try.underlying41, by kernel_rfl, by kernel_rfl, by kernel_rfl⟩
theorem open_pair {H : Type} {enc : TypeId × Value → H} {W : World} {base : Nat} {v : Value} {d : DataW H} {ps : List MemPlace} (hv : Value.okWide Try.prog W .any base 41 v)
    (h : DataW.Trod enc Try.prog W 0 (fun _ => true) true 41 v d ps) : ∃ x y : Int, v = .agg #[.int .i64 x, .int .i64 y] := by
  obtain ⟨a, b, e, _⟩ := Go.WideMaps.open_pair arr41 Try.underlying3 hv h
  exact ⟨a, b, e⟩
end Go.Proofs.Ytogofgfdkkjnlaa
