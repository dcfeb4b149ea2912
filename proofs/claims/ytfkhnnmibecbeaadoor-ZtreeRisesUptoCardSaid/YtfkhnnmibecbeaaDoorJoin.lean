/-
  Two texts, one behind the other. Condition: their lengths.
-/
import Derived.Test.YtfkhnnmibecbeaaDoorPart
import Derived.Test.YtfkhnnmibecbeaaDoorMath2
import Derived.Laws.Concat
namespace Go.Proofs.YtfkhnnmibecbeaaDoor
open Go.ChangeShapes Go.WideShapes Go.ChangeAt Go.RowKit Go.Proofs.Zn

theorem B_add (s t : ByteArray) : s ++ t = B (L s ++ L t) := by
  have h := ByteArray.mk_append_mk (L s) (L t)
  rw [show ByteArray.mk (L s).toArray = s from BL s, show ByteArray.mk (L t).toArray = t from BL t] at h
  exact h
theorem add_any (s t r : ByteArray) (h : L s ++ L t = L r) (hl : s.size + t.size ≤ 9223372036854775807) (w : World) : (Op.stringOp .add s t).run Tryd.prog w = .ok (.string r) w := by
  have e := run_string_add_sum (P := Tryd.prog) (w := w) s t hl
  rw [B_add, h, BL] at e
  exact e
theorem toL_eq (s t : ByteArray) : (s.toList == t.toList) = decide (L s = L t) := by
  rw [toL, toL, Bool.eq_iff_iff, beq_iff_eq, decide_eq_true_iff]
end Go.Proofs.YtfkhnnmibecbeaaDoor
