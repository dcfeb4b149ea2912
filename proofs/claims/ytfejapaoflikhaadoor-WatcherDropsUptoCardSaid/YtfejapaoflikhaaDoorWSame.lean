/-
  SameEvents of two rows of the same events returns true. Condition: the rows are not long.
-/
import Derived.Test.YtfejapaoflikhaaDoorWTwo
namespace Go.Proofs.YtfejapaoflikhaaDoor
set_option maxRecDepth 100000
open Go.ChangeShapes Go.WideShapes Go.ChangeAt Go.RowKit Go.Proofs.Zn Go.Proofs.Wa

theorem sameev_yes {w : World} {A A2 : Option Addr} {n c c2 : Nat} {l : List Ev} (h : Rd ecell 3 w A n l) (h2 : Rd ecell 3 w A2 n l) (hn : n ≤ 100000) :
    Calls Tryd.prog 20 #[.slice A n c, .slice A2 n c2] w fun e w' => e = .returned (.bool true) ∧ Below w.heap.size w w' :=
  (sameev_any h h2 hn hn).mono fun e w' h => ⟨by rw [h.1]; simp, h.2⟩
end Go.Proofs.YtfejapaoflikhaaDoor
