/-
  Which of the numbers that were told is one's own. No condition.
-/
import Derived.Test.YtocobanallohjaaLTwo
namespace Go.Proofs.Ytocobanallohjaa
set_option maxRecDepth 100000
open Go.ChangeShapes Go.WideShapes Go.ChangeAt Go.RowKit Go.Proofs.Le

def kn (l : List Int) (a : Int) : Bool := l.any (fun z => z == a)
theorem kn_snoc (l : List Int) (z a : Int) : kn (l ++ [z]) a = (kn l a || (z == a)) := by unfold kn; rw [List.any_append]; simp
theorem kn_in {l : List Int} {a : Int} (h : a ∈ l) : kn l a = true := List.any_eq_true.2 ⟨a, h, by simp⟩
theorem kn_out {l : List Int} {a : Int} (h : a ∉ l) : kn l a = false := by
  cases e : kn l a with
  | false => rfl
  | true =>
    obtain ⟨z, hz, hza⟩ := List.any_eq_true.1 e
    have hza : z = a := by simpa using hza
    exact absurd (hza ▸ hz) h
end Go.Proofs.Ytocobanallohjaa
