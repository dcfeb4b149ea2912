/-
  Texts that came in as an argument; numbers and pairs in a row that came in. No condition.
-/
import Derived.Test.YtdbpnfceabklkaaFrame
namespace Go.Proofs.Ytdbpnfceabklkaa
set_option maxRecDepth 100000
open Go.ChangeShapes Go.WideShapes Go.ChangeAt Go.RowKit

theorem open_texts {H : Type} {enc : TypeId × Value → H} {W : World} {base : Nat} {v : Value} {d : DataW H} {ps : List MemPlace} (hv : Value.okWide Try.prog W .any base 29 v)
    (h : DataW.Trod enc Try.prog W 0 (fun _ => true) true 29 v d ps) : ∃ A l c zs, v = .slice A l c ∧ SReads W A l zs ∧ (∀ s ∈ zs, s.length ≤ 9223372036854775807) ∧ l ≤ 9223372036854775807 := by
  obtain ⟨a0, len, cap, rfl⟩ := okWide_slice Try.underlying29 hv
  obtain ⟨fuel, hf⟩ := h
  exact open_texts_cell hf
end Go.Proofs.Ytdbpnfceabklkaa
