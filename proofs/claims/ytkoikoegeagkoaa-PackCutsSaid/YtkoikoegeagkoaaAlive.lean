/-
  What the laws' own test of life returns: true. No condition.
-/
import Derived.Test.YtkoikoegeagkoaaRDec
namespace Go.Proofs.Ytkoikoegeagkoaa
open Go.ChangeShapes Go.WideShapes Go.ChangeAt Go.RowKit

/-- The record of the test of life. -/
def lifeL : List Fld := [⟨1, 7, ⟨#[]⟩⟩, ⟨3, 0, ⟨#[97, 98]⟩⟩]
theorem life_err : errL lifeL = 0 := by decide +kernel
theorem life_bytes : bytL lifeL = [7, 0, 2, 97, 98] := by decide +kernel
theorem life_enc : encB lifeL = [7, 0, 2, 97, 98] := by unfold encB; rw [if_pos life_err, life_bytes]
theorem life_dec : dc [1, 3] [7, 0, 2, 97, 98] = .good lifeL 5 := by
  have h := dc_back life_err
  rw [life_bytes] at h
  exact h
theorem life_fields (w : World) : FReads (w.alloc (.cells #[.int .i64 1, .int .i64 7, .string ⟨#[]⟩, .int .i64 3, .int .i64 0, .string ⟨#[97, 98]⟩] 40)) (some ⟨w.heap.size, 0, none⟩) 2 lifeL := by
  have h := World.ownsRow_lit (base := w.heap.size) (e := 40) (size := 3) w #[.int .i64 1, .int .i64 7, .string ⟨#[]⟩, .int .i64 3, .int .i64 0, .string ⟨#[97, 98]⟩] 2 (Nat.le_refl _) (by unfold maxLen; omega) rfl
  obtain ⟨A, c, e, hf⟩ := fields_own (l := lifeL) h
  injection e with e1 e2 e3
  rw [e1]; exact hf
theorem life_kinds (w : World) : Reads .i64 (w.alloc (.cells #[.int .i64 1, .int .i64 3] 3)) (some ⟨w.heap.size, 0, none⟩) 2 [1, 3] :=
  reads_own (base := w.heap.size) (e := 3) (World.ownsRow_lit (base := w.heap.size) (e := 3) (size := 1) w #[.int .i64 1, .int .i64 3] 2 (Nat.le_refl _) (by unfold maxLen; omega) rfl)
set_option maxHeartbeats 400000 in
theorem alive_any (w : World) : Calls Try.prog 10 #[] w fun e w' => e = .returned (.bool true) ∧ Below w.heap.size w w' := by
  go_enter Try.func10, Try.ntmps10
  go_wp2_with fail
  refine (encode_any _ 2 2 lifeL _ (life_fields w) (by decide)).mono ?_
  rintro e w1 ⟨A, n, c, rfl, hn, hrd, hnc, hcm, hb1⟩
  rw [life_enc] at hn hrd
  rw [life_err]
  obtain rfl : n = 5 := hn
  have HB1 := Lib.hid ((box_below w _).trans (hb1.mono (by simp)))
  have HRD := Lib.hid hrd
  clear hrd hb1
  go_wp2_with fail
  refine (decode_any _ _ 2 2 5 c [1, 3] [7, 0, 2, 97, 98] _ (life_kinds w1) (HRD.out.kept (box_below w1 _)) (by intro z hz; simp at hz; omega) (by decide) hnc hcm).mono ?_
  rintro e w2 ⟨A2, c2, rfl, hf, hb2⟩
  rw [life_dec] at hf ⊢
  have HB2 := Lib.hid (HB1.out.trans (((box_below w1 _).trans (hb2.mono (by simp))).mono HB1.out.size))
  have hcv := conv_reads (c := c) (HRD.out.kept ((box_below w1 _).trans (hb2.mono (by simp))))
  have es : strOfNums [7, 0, 2, 97, 98] = ⟨#[7, 0, 2, 97, 98]⟩ := rfl
  rw [es] at hcv
  simp only [Sm.l, Sm.e] at hf ⊢
  have el : lifeL.length = 2 := rfl
  rw [el] at hf ⊢
  obtain ⟨b, off, rfl, hc⟩ := hf.2 (by decide)
  have h5 : w2.cell? ⟨b, off + 3 + 2, none⟩ = some (.string ⟨#[97, 98]⟩) := (hc 1 (by decide)).2.2
  clear es el hc hf hb2
  go_wp2
  go_ret
  exact ⟨rfl, HB2.out⟩
end Go.Proofs.Ytkoikoegeagkoaa
