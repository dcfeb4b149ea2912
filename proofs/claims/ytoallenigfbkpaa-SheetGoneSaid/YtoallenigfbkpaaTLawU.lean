/-
  A row of bytes lies in older memory. No condition.
-/
import Derived.Test.YtoallenigfbkpaaTLawA
namespace Go.Proofs.Ytoallenigfbkpaa
set_option maxRecDepth 100000
open Go.ChangeShapes Go.WideShapes Go.ChangeAt Go.RowKit Go.Proofs.Sg

theorem rd_und {w : World} {A : Option Addr} {n : Nat} {l : List UInt8} (h : Rd bcell 1 w A n l) : Under w.heap.size A n := fun hl a ha => by
  obtain ⟨b, off, e, hc⟩ := h.cells hl
  rw [e] at ha
  injection ha with ha
  rw [← ha]
  exact cell_lt (hc 0 (by rw [h.len]; exact hl) 0 _ rfl)
end Go.Proofs.Ytoallenigfbkpaa
