/-
  What the laws' own test of life returns: true. No condition.
-/
import Derived.Test.YtmjlkbfcajaldaaDoorRNumber
namespace Go.Proofs.YtmjlkbfcajaldaaDoor
open Go.ChangeShapes Go.WideShapes Go.ChangeAt Go.RowKit Go.Proofs.Zn

theorem life1 : B (parent [47, 97, 47, 98]) = ⟨#[47, 97]⟩ ∧ parentOk [47, 97, 47, 98] = true := by decide
theorem life2 : B (number [47, 97, 47, 110, 45] 7) = ⟨#[47, 97, 47, 110, 45, 48, 48, 48, 48, 48, 48, 48, 48, 48, 55]⟩ ∧ numOk [47, 97, 47, 110, 45] 7 = true := by decide
theorem life3 : valid [47, 97, 47, 98] = true := by decide
theorem life4 : valid [47, 97, 47] = false := by decide
set_option maxHeartbeats 1000000 in
theorem alive_any (w : World) : Calls Tryd.prog 11 #[] w fun e w' => e = .returned (.bool true) ∧ Below w.heap.size w w' := by
  go_enter Tryd.func11, Tryd.ntmps11
  go_wp2_with fail
  refine (parent_any ⟨#[47, 97, 47, 98]⟩ _ (by decide)).mono ?_
  rintro e w1 ⟨rfl, hb⟩
  rw [show parent (L ⟨#[47, 97, 47, 98]⟩) = parent [47, 97, 47, 98] from rfl, life1.1, show parentOk (L ⟨#[47, 97, 47, 98]⟩) = true from life1.2]
  have HB := Lib.hid hb
  clear hb
  go_wp2_with fail
  refine (number_any ⟨#[47, 97, 47, 110, 45]⟩ 7 _ (by decide)).mono ?_
  rintro e w2 ⟨rfl, hb⟩
  rw [show number (L ⟨#[47, 97, 47, 110, 45]⟩) 7 = number [47, 97, 47, 110, 45] 7 from rfl, life2.1, show numOk (L ⟨#[47, 97, 47, 110, 45]⟩) 7 = true from life2.2]
  have HB2 := Lib.hid (HB.out.trans (hb.mono HB.out.size))
  clear hb
  go_wp2_with fail
  refine (valid_any ⟨#[47, 97, 47, 98]⟩ _ (by decide)).mono ?_
  rintro e w3 ⟨rfl, hb⟩
  rw [show valid (L ⟨#[47, 97, 47, 98]⟩) = true from life3]
  have HB3 := Lib.hid (HB2.out.trans (hb.mono HB2.out.size))
  clear hb
  go_wp2_with fail
  refine (valid_any ⟨#[47, 97, 47]⟩ _ (by decide)).mono ?_
  rintro e w4 ⟨rfl, hb⟩
  rw [show valid (L ⟨#[47, 97, 47]⟩) = false from life4]
  have HB4 := Lib.hid (HB3.out.trans (hb.mono HB3.out.size))
  clear hb
  go_wp2_with fail
  go_ret
  exact ⟨rfl, HB4.out⟩
end Go.Proofs.YtmjlkbfcajaldaaDoor
