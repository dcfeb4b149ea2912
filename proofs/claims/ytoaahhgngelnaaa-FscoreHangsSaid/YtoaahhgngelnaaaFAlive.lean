/-
  What the law's alive returns. No condition.
-/
import Derived.Test.YtoaahhgngelnaaaFDoes
namespace Go.Proofs.Ytoaahhgngelnaaa
set_option maxRecDepth 100000
open Go.ChangeShapes Go.WideShapes Go.ChangeAt Go.RowKit Go.Proofs.Sg Go.Proofs.Fz

abbrev al0 : Fst := newF 9
abbrev al1 : Fst := (mkF al0 ⟨1, 1⟩ [97] ⟨2, 0, 0, []⟩).1
abbrev al2 : Fst := (mkF al1 ⟨2, 1⟩ [98] ⟨1, 0, 0, []⟩).1
theorem alv1 : (mkF al0 ⟨1, 1⟩ [97] ⟨2, 0, 0, []⟩).2 = (⟨2, 1⟩, 0) := by kernel_rfl
theorem alv2 : (mkF al1 ⟨2, 1⟩ [98] ⟨1, 0, 0, []⟩).2 = (⟨3, 1⟩, 0) := by kernel_rfl
theorem alv3 : (rmF al2 ⟨1, 1⟩ [97] true).2 = 174 := by decide +kernel
theorem al_w0 : Wl al0 0 9 := Wl.new 9
theorem al_w1 : Wl al1 1 9 := al_w0.step ⟨0, ⟨1, 1⟩, hd0, [97], [], ⟨2, 0, 0, []⟩, false, 0, 0, 0, []⟩
theorem al_w2 : Wl al2 2 9 := al_w1.step ⟨0, ⟨2, 1⟩, hd0, [98], [], ⟨1, 0, 0, []⟩, false, 0, 0, 0, []⟩
theorem hdok (i g : Nat) (hi : i ≤ 1000) (hg : g ≤ 1000) : HdOk ⟨i, g⟩ := ⟨by dsimp only; omega, by dsimp only; omega, by dsimp only; omega, by dsimp only; omega⟩
set_option maxHeartbeats 8000000 in
theorem alive_any (w : World) : Calls Try.prog 9 #[] w fun e w' => e = .returned (.bool true) ∧ Below w.heap.size w w' := by
  have HN := Lib.hid (fnew_any 9 w)
  go_enter Try.func9, Try.ntmps9
  go_wp2_with fail
  refine HN.out.mono ?_
  rintro e w1 ⟨Y, rfl, hm, hb⟩
  have HR1 := Lib.hid (root_any Y.fp)
  have HM1 : Hid (∀ W, Below w1.heap.size w1 W → Calls Try.prog 16 #[pA Y.fp, .agg #[.int .i64 1, .int .i64 1], .string ⟨#[97]⟩, .agg #[.int .i64 2, .int .i64 0, .int .i64 0, .string ⟨#[]⟩]] W (ChF W w.heap.size Y al0 al1 (.tuple #[.agg #[.int .i64 2, .int .i64 1], .int .i64 0]))) := Lib.hid (fun W hW => by
    have h9 := fmake_any (hm.below al_w0.gd.kind hW) (Nat.le_trans hb.size hW.size) al_w0.gd al_w0.bd (by omega) ⟨1, 1⟩ (hdok 1 1 (by omega) (by omega)) ⟨#[97]⟩ (by decide) ⟨2, 0, 0, []⟩ ⟨#[]⟩ rfl
    have e : mkF (newF 9) ⟨1, 1⟩ (L ⟨#[97]⟩) ⟨2, 0, 0, []⟩ = (al1, ⟨2, 1⟩, 0) := by rw [← alv1]
    rw [e] at h9
    exact h9)
  have HB1 := Lib.hid hb
  have HF1 : Hid (FM w1 w.heap.size Y al0) := Lib.hid hm
  clear hm hb
  go_wp2_with fail
  refine (HR1.out w1).mono ?_
  rintro e w2 ⟨rfl, hb2⟩
  have HB2 := Lib.hid hb2
  clear hb2
  go_wp2_with fail
  refine (HM1.out w2 HB2.out).mono ?_
  rintro e w3 ⟨Z, rfl, g1, g2, g3, g4⟩
  have HM2 : Hid (∀ W, Below w3.heap.size w3 W → Calls Try.prog 16 #[pA Y.fp, .agg #[.int .i64 2, .int .i64 1], .string ⟨#[98]⟩, .agg #[.int .i64 1, .int .i64 0, .int .i64 0, .string ⟨#[]⟩]] W (ChF W w.heap.size Z al1 al2 (.tuple #[.agg #[.int .i64 3, .int .i64 1], .int .i64 0]))) := Lib.hid (fun W hW => by
    have h9 := fmake_any (g1.below al_w1.gd.kind hW) (by have := HB1.out.size; have := HB2.out.size; have := g2.size; have := hW.size; omega) al_w1.gd al_w1.bd (by omega) ⟨2, 1⟩ (hdok 2 1 (by omega) (by omega)) ⟨#[98]⟩ (by decide) ⟨1, 0, 0, []⟩ ⟨#[]⟩ rfl
    have e : mkF al1 ⟨2, 1⟩ (L ⟨#[98]⟩) ⟨1, 0, 0, []⟩ = (al2, ⟨3, 1⟩, 0) := by rw [← alv2]
    rw [e, g4] at h9
    exact h9)
  obtain ⟨w4, hw4⟩ : ∃ W, W = w3.alloc (.cells #[.int .i64 2, .int .i64 1] 40) := ⟨_, rfl⟩
  obtain ⟨b1, hb1⟩ : ∃ k, k = w3.heap.size := ⟨_, rfl⟩
  have hk1 := new_block w3 (.cells #[.int .i64 2, .int .i64 1] 40)
  have hb4 : Below w3.heap.size w3 w4 := by rw [hw4]; exact box_below w3 _
  rw [← hw4, ← hb1] at hk1
  have HF3 : Hid (FM w3 w.heap.size Z al1 ∧ Z.fp = Y.fp) := Lib.hid ⟨g1, g4⟩
  have HB3 : Hid (Below w.heap.size w w3) := Lib.hid (by
    have h9 := HB1.out.trans (HB2.out.mono HB1.out.size)
    exact h9.trans (g2.below (HF1.out.ge) h9.size))
  have HK1 := Lib.hid hk1
  have HB4 := Lib.hid hb4
  have HBN : Hid (b1 < w4.heap.size ∧ ¬ foot Z al1.I b1) := Lib.hid ⟨by rw [hw4, hb1]; simp, fun hf => by have := g1.foot_lt al_w1.gd.kind b1 hf; omega⟩
  have b10 := cell_of hk1 (j := 0) rfl
  have b11 := cell_of hk1 (j := 1) rfl
  have HW4 := Lib.hid hw4
  have HB1E := Lib.hid hb1
  clear g1 g2 g3 g4 hw4 hb1 hb4 hk1
  go_upto_region 5 with fail
  rw [← HW4.out, ← HB1E.out]
  go_wp2_with fail
  refine (HM2.out w4 HB4.out).mono ?_
  rintro e w5 ⟨V, rfl, g1, g2, g3, g4⟩
  obtain ⟨w6, hw6⟩ : ∃ W, W = w5.alloc (.cells #[.int .i64 3, .int .i64 1] 40) := ⟨_, rfl⟩
  obtain ⟨b2, hb2⟩ : ∃ k, k = w5.heap.size := ⟨_, rfl⟩
  have hk2 := new_block w5 (.cells #[.int .i64 3, .int .i64 1] 40)
  have hb6 : Below w5.heap.size w5 w6 := by rw [hw6]; exact box_below w5 _
  rw [← hw6, ← hb2] at hk2
  have hk3 := blk_below ((g2.block b1 HBN.out.1 HBN.out.2).trans HK1.out) hb6
  clear b10 b11
  have b10 := cell_of hk3 (j := 0) rfl
  have b11 := cell_of hk3 (j := 1) rfl
  have b20 := cell_of hk2 (j := 0) rfl
  have HR2 := Lib.hid (root_any Y.fp)
  have h6 := g1.below al_w2.gd.kind hb6
  have HRM : Hid (∀ W, Below w6.heap.size w6 W → Calls Try.prog 19 #[pA Y.fp, .agg #[.int .i64 1, .int .i64 1], .string ⟨#[97]⟩, .bool true] W (ChF W w.heap.size V al2 (rmF al2 ⟨1, 1⟩ [97] true).1 (.int .i64 174))) := Lib.hid (fun W hW => by
    have h9 := fremove_any (h6.below al_w2.gd.kind hW) al_w2.gd al_w2.bd (by omega) ⟨1, 1⟩ (hdok 1 1 (by omega) (by omega)) ⟨#[97]⟩ (by decide) true
    have e : L ⟨#[97]⟩ = [97] := rfl
    rw [e, alv3, g4, HF3.out.2] at h9
    exact h9)
  have HB6 : Hid (Below w.heap.size w w6) := Lib.hid (by
    have h9 := HB3.out.trans (HB4.out.mono HB3.out.size)
    have h8 := h9.trans (g2.below HF3.out.1.ge h9.size)
    exact h8.trans (hb6.mono h8.size))
  have HF6 := Lib.hid h6
  have HW6 := Lib.hid hw6
  have HB2E := Lib.hid hb2
  clear g1 g2 g3 g4 hw6 hb2 hb6 hk2 hk3 h6
  go_upto_region 6 with fail
  rw [← HW6.out, ← HB2E.out]
  go_wp2_with fail
  refine (HR2.out w6).mono ?_
  rintro e w7 ⟨rfl, hb7⟩
  have HB7 := Lib.hid hb7
  clear hb7
  go_wp2_with fail
  refine (HRM.out w7 HB7.out).mono ?_
  rintro e w8 ⟨U, rfl, g1, g2, g3, g4⟩
  have HE : Hid (Below w.heap.size w w8) := Lib.hid (by
    have h9 := HB6.out.trans (HB7.out.mono HB6.out.size)
    exact h9.trans (g2.below HF6.out.ge h9.size))
  clear g1 g2 g3 g4
  go_wp2_with fail
  go_ret
  exact ⟨rfl, HE.out⟩
end Go.Proofs.Ytoaahhgngelnaaa
