/-
  What the document's own Valid tells of any texts: the same as the program. Condition: the texts have at most 2^20 bytes.
-/
import Derived.Test.YtfejapaoflikhaaDoorRNames
namespace Go.Proofs.YtfejapaoflikhaaDoor
set_option maxRecDepth 100000
open Go.ChangeShapes Go.WideShapes Go.ChangeAt Go.RowKit Go.Proofs.Zn

set_option maxHeartbeats 1000000 in
theorem rnames_any (s : ByteArray) (w : World) (hs : s.size ≤ 2097152) : Calls Tryd.prog 37 #[.string s] w (NmPost s w) := by
  by_cases h0 : L s = []
  · exact rnames_empty s w h0
  by_cases h1 : (L s).head? = some 47
  · by_cases hn : L s = [47]
    · exact rnames_root s w hn
    · exact rnames_main s w hn h1 hs
  · exact rnames_head s w h0 h1
set_option maxHeartbeats 1000000 in
theorem rvalid_any (s : ByteArray) (w : World) (hs : s.size ≤ 2097152) : Calls Tryd.prog 28 #[.string s] w fun e w' => e = .returned (.bool (valid (L s))) ∧ Below w.heap.size w w' := by
  go_enter Tryd.func28, Tryd.ntmps28
  go_wp2_with fail
  refine (rnames_any s _ hs).mono ?_
  rintro e w1 ⟨v, rfl, hb, -⟩
  have HB := Lib.hid hb
  clear hb
  go_wp2_with fail
  go_ret
  exact ⟨rfl, HB.out⟩
end Go.Proofs.YtfejapaoflikhaaDoor
