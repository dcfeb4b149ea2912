/-
  The law All: every call of any script is answered as the document says. No condition.
-/
import Derived.Test.YtoallenigfbkpaaTStands
namespace Go.Proofs.Ytoallenigfbkpaa
set_option maxRecDepth 100000
open Go.ChangeShapes Go.WideShapes Go.ChangeAt Go.RowKit Go.Proofs.Sg

/-- What a law leaves. -/
def LwPost (w : World) (e : Ending) (w' : World) : Prop := e = .returned (.bool true) ∧ Below w.heap.size w w'
theorem df0 (w : World) : DF w none 0 none 0 S0 := ⟨World.ownsRow_nil _ _ _ _, World.ownsRow_nil _ _ _ _⟩
set_option maxHeartbeats 8000000 in
theorem all_law {w : World} {ad : Option Addr} {len cap : Nat} {os : List Opr} (hO : OReads w w.heap.size ad len os) : Calls Try.prog 3 #[.slice ad len cap] w (LwPost w) := by
  have HNEW := Lib.hid (new_any w)
  have HO := Lib.hid hO
  clear hO
  go_enter Try.func3, Try.ntmps3
  go_wp2_with fail
  refine HNEW.out.mono ?_
  rintro e w1 ⟨sp, mb, rfl, hs, hb⟩
  have HS1 := Lib.hid hs
  have HB1 := Lib.hid hb
  have HFEW := Lib.hid (few_any (cap := cap) (HO.out.kept hb) hb.size)
  have hnil : ∀ W, (binOp .eql 23 (.pointer (some ⟨sp, 0, none⟩)) (.pointer none)).run Try.prog W = .ok (.bool false) W := fun W => by kernel_rfl
  have hnil2 : ∀ W, (binOp .neq 23 (.pointer (some ⟨sp, 0, none⟩)) (.pointer none)).run Try.prog W = .ok (.bool true) W := fun W => by kernel_rfl
  clear hs hb
  go_wp2_with fail
  refine HFEW.out.mono ?_
  rintro e w2 ⟨r, rfl, hr, hb2⟩
  have HB2 := Lib.hid (HB1.out.trans (hb2.mono HB1.out.size))
  have HS2 := Lib.hid (HS1.out.below hb2)
  have HAL : Hid (∀ W, Below w.heap.size w W → Calls Try.prog 11 #[] W fun e w' => e = .returned (.bool true) ∧ Below w.heap.size w w') := Lib.hid (fun W hW => (alive_any W).mono (fun e w' h => ⟨h.1, hW.trans (h.2.mono hW.size)⟩))
  have HR := Lib.hid hr
  clear hr hb2
  cases r with
  | false =>
    go_wp2_with fail
    refine (HAL.out _ HB2.out).mono ?_
    rintro e w' ⟨rfl, hb9⟩
    have HE : Hid (LwPost w (.returned (.bool true)) w') := Lib.hid ⟨rfl, hb9⟩
    clear hb9
    go_wp2_with fail
    go_ret
    exact HE.out
  | true =>
    have HPL := Lib.hid (plays_any HS2.out (df0 w2) (HO.out.kept HB2.out) (Nat.le_refl _) (HR.out rfl).1 (cap := cap) (HR.out rfl).2)
    unfold dv at HPL
    go_wp2_with fail
    refine HPL.out.mono ?_
    rintro e w3 ⟨A, c, A2, c2, rfl, hs3, hd3, hk3⟩
    unfold dv
    have hb3 : Below w.heap.size w w3 := HB2.out.trans (hk3.below HB2.out.size hs3.gsp hs3.gmb)
    obtain ⟨T, hT⟩ : ∃ T, runS S0 os = T := ⟨_, rfl⟩
    rw [hT] at hs3 hd3 ⊢
    obtain ⟨w4, hw4⟩ : ∃ w4, w4 = w3.alloc (.cells #[.slice A T.n c, .slice A2 T.K.length c2] 30) := ⟨_, rfl⟩
    obtain ⟨u, hu⟩ : ∃ u, u = w3.heap.size := ⟨_, rfl⟩
    have hb4 : Below w3.heap.size w3 w4 := by rw [hw4]; exact box_below w3 _
    have hu4 : w4.heap[u]? = some (.cells #[.slice A T.n c, .slice A2 T.K.length c2] 30 (0, 0)) := by rw [hw4, hu]; exact new_block w3 _
    have HU := Lib.hid hu4
    have HS4 := Lib.hid (hs3.below hb4)
    have HD4 := Lib.hid (hd3.below hb4)
    have HB4 := Lib.hid (hb3.trans (hb4.mono hb3.size))
    have HW4 := Lib.hid hw4
    have HUE := Lib.hid hu
    have HA4 := Lib.hid (alive_any w4)
    clear hT hs3 hd3 hk3 hb3 hw4 hu hb4 hu4
    go_upto_region 5 with fail
    rw [← HW4.out, ← HUE.out]
    go_wp2_with fail
    refine HA4.out.mono ?_
    rintro e w5 ⟨rfl, hb5⟩
    have u0 := cell_of (blk_below HU.out hb5) (j := 0) rfl
    have u1 := cell_of (blk_below HU.out hb5) (j := 1) rfl
    have HST := Lib.hid (stands_any (HS4.out.below hb5) (HD4.out.below hb5))
    unfold dv at HST
    have HB5 := Lib.hid (HB4.out.trans (hb5.mono HB4.out.size))
    clear hb5
    go_wp2_with fail
    refine HST.out.mono ?_
    rintro e w6 ⟨rfl, hb6⟩
    have HE : Hid (LwPost w (.returned (.bool true)) w6) := Lib.hid ⟨rfl, HB5.out.trans (hb6.mono HB5.out.size)⟩
    clear hb6
    go_wp2_with fail
    go_ret
    exact HE.out
end Go.Proofs.Ytoallenigfbkpaa
