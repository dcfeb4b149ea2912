/-
  What ZstateReads answers. Condition: the bytes' array takes no more than 2^61.
-/
import Derived.Test.YtflgemlhocjipaaGreatDoorCDec
import Derived.Test.YtflgemlhocjipaaGreatDoorCRDec
import Derived.Test.YtflgemlhocjipaaGreatDoorCSame
import Derived.Test.YtflgemlhocjipaaGreatDoorSFew
import Derived.Test.YtflgemlhocjipaaGreatDoorSDoc1
import Derived.Test.YtflgemlhocjipaaGreatDoorCREnc
namespace Go.Proofs.YtflgemlhocjipaaGreatDoor
set_option maxRecDepth 100000
open Go.ChangeShapes Go.WideShapes Go.ChangeAt Go.RowKit Go.Proofs.Zn Go.Proofs.Zt
open Go.Proofs.Zs (St Lst Rep Tx)
open Pq (Fld FReads Reads fcs ams errL bytL sm dc Sm Bys byts)

theorem dec_len {zs : List Int} {t : Tx} (hb : Bys zs) (h : decS zs = some t) : t.l.length ≤ 6 := by
  have h2 := enc_dec hb h
  unfold encS at h2
  split at h2
  · rename_i hc; exact hc.1
  · cases h2
theorem enc_zero : encS ⟨0, 0, 0, 0, 0, []⟩ = some (bytL (flds ⟨0, 0, 0, 0, 0, []⟩)) := by
  unfold encS
  exact if_pos (by decide)
set_option maxHeartbeats 4000000 in
theorem reads_law {w : World} {ba : Option Addr} {bl bc : Nat} {zs : List Int} (hR : Reads .u8 w ba bl zs) (hB : Bys zs) (hc : bl ≤ bc) (hcm : bc ≤ 2305843009213693952) :
    Calls Tryz.prog 6 #[.slice ba bl bc] w fun e w' => e = .returned (.bool true) ∧ Below w.heap.size w w' := by
  have HR := Lib.hid hR
  have HB := Lib.hid hB
  have HSD := Lib.hid (sdecode_any hR hB hc (by unfold maxLen; omega))
  have HVD : Hid (∀ W, Below w.heap.size w W → Calls Tryz.prog 26 #[.slice ba bl bc] W (DcPost W (decS zs))) := Lib.hid (fun W hW => rdecode_txn (hR.kept hW) hB hc hcm)
  have HAL := Lib.hid (fun W => alive_any W)
  clear hR hB
  cases hd : decS zs with
  | none =>
    rw [hd] at HSD HVD
    go_enter Tryz.func6, Tryz.ntmps6
    go_wp2_with fail
    refine HSD.out.mono ?_
    rintro e w1 ⟨hb1, rfl⟩
    obtain ⟨w2, hw2⟩ : ∃ xx, xx = w1.alloc (.cells #[.int .i64 0, .int .i64 0, .int .i64 0, .int .i64 0, .int .i64 0, .slice none 0 0] 46) := ⟨_, rfl⟩
    obtain ⟨q, eq⟩ : ∃ xx, xx = w1.heap.size := ⟨_, rfl⟩
    have hbw2 : Below w1.heap.size w1 w2 := by rw [hw2]; exact box_below w1 _
    have hkq : w2.heap[q]? = some (.cells #[.int .i64 0, .int .i64 0, .int .i64 0, .int .i64 0, .int .i64 0, .slice none 0 0] 46 (0, 0)) := by rw [hw2, eq]; exact new_block w1 _
    have HB2 : Hid (Below w.heap.size w w2) := Lib.hid (hb1.trans (hbw2.mono hb1.size))
    have HQ := Lib.hid hkq
    have HW2 := Lib.hid hw2
    have EQ := Lib.hid eq
    clear hb1 hw2 eq hbw2 hkq
    go_upto_region 2 with fail
    rw [← HW2.out, ← EQ.out]
    go_wp2_with fail
    refine (HVD.out w2 HB2.out).mono ?_
    rintro e w3 ⟨hb3, rfl⟩
    obtain ⟨w4, hw4⟩ : ∃ xx, xx = w3.alloc (.cells #[.int .i64 0, .int .i64 0, .int .i64 0, .int .i64 0, .int .i64 0, .slice none 0 0] 38) := ⟨_, rfl⟩
    obtain ⟨r, er⟩ : ∃ xx, xx = w3.heap.size := ⟨_, rfl⟩
    have hbw4 : Below w3.heap.size w3 w4 := by rw [hw4]; exact box_below w3 _
    have hkr : w4.heap[r]? = some (.cells #[.int .i64 0, .int .i64 0, .int .i64 0, .int .i64 0, .int .i64 0, .slice none 0 0] 38 (0, 0)) := by rw [hw4, er]; exact new_block w3 _
    have hb24 : Below w2.heap.size w2 w4 := hb3.trans (hbw4.mono hb3.size)
    have HB4 : Hid (Below w.heap.size w w4) := Lib.hid (HB2.out.trans (hb24.mono HB2.out.size))
    have HRB := Lib.hid hkr
    have HQ4 := Lib.hid (blk_below HQ.out hb24)
    have HW4 := Lib.hid hw4
    have ER := Lib.hid er
    have HST := Lib.hid (sametxn_any (w := w4) (c1 := 0) (c2 := 0) (Rd.nil ccell 6 w4 none) (Rd.nil ccell 6 w4 none) (by decide) 0 0 0 0 0)
    clear hb3 hw4 er hbw4 hkr hb24
    go_upto_region 3 with fail
    rw [← HW4.out, ← ER.out]
    have hq4 := HQ4.out
    have hr4 := HRB.out
    have q0 := cell_of hq4 (j := 0) rfl
    have q1 := cell_of hq4 (j := 1) rfl
    have q2 := cell_of hq4 (j := 2) rfl
    have q3 := cell_of hq4 (j := 3) rfl
    have q4 := cell_of hq4 (j := 4) rfl
    have q5 := cell_of hq4 (j := 5) rfl
    have r0 := cell_of hr4 (j := 0) rfl
    have r1 := cell_of hr4 (j := 1) rfl
    have r2 := cell_of hr4 (j := 2) rfl
    have r3 := cell_of hr4 (j := 3) rfl
    have r4 := cell_of hr4 (j := 4) rfl
    have r5 := cell_of hr4 (j := 5) rfl
    clear hq4 hr4
    go_wp2_with fail
    refine HST.out.mono ?_
    rintro e w5 ⟨rfl, hb5⟩
    have HB5 : Hid (Below w.heap.size w w5) := Lib.hid (HB4.out.trans (hb5.mono HB4.out.size))
    have hq5 := blk_below HQ4.out hb5
    have HSE0 := sencode_any (w := w5) (c := 0) (Rd.nil ccell 6 w5 none) (by decide) 0 0 0 0 0
    rw [enc_zero] at HSE0
    obtain ⟨NB, hNB⟩ : ∃ NB, (bytL (flds ⟨0, 0, 0, 0, 0, []⟩)).length = NB := ⟨_, rfl⟩
    have HSE : Hid (Calls Tryz.prog 22 #[.agg #[.int .i64 0, .int .i64 0, .int .i64 0, .int .i64 0, .int .i64 0, .slice none 0 0]] w5 fun e w' => ∃ A c, e = .returned (.tuple #[.slice A NB c, .int .i64 0]) ∧ Reads .u8 w' A NB (bytL (flds ⟨0, 0, 0, 0, 0, []⟩)) ∧ NB ≤ c ∧ c ≤ maxLen ∧ Below w5.heap.size w5 w') := Lib.hid (by
      rw [← hNB]
      exact HSE0)
    clear q0 q1 q2 q3 q4 q5 r0 r1 r2 r3 r4 r5 HSE0 hNB hb5
    have q0 := cell_of hq5 (j := 0) rfl
    have q1 := cell_of hq5 (j := 1) rfl
    have q2 := cell_of hq5 (j := 2) rfl
    have q3 := cell_of hq5 (j := 3) rfl
    have q4 := cell_of hq5 (j := 4) rfl
    have q5 := cell_of hq5 (j := 5) rfl
    clear hq5
    go_wp2_with fail
    refine HSE.out.mono ?_
    rintro e w6 ⟨A8, c8, rfl, hr8, -, -, hb6⟩
    have HB6 : Hid (Below w.heap.size w w6) := Lib.hid (HB5.out.trans (hb6.mono HB5.out.size))
    have HR8 := Lib.hid hr8
    clear q0 q1 q2 q3 q4 q5 hb6 hr8
    go_wp2_with fail
    refine (HAL.out w6).mono ?_
    rintro e w7 ⟨rfl, hb7⟩
    have HB7 : Hid (Below w.heap.size w w7) := Lib.hid (HB6.out.trans (hb7.mono HB6.out.size))
    clear hb7
    go_wp2_with fail
    go_ret
    exact ⟨rfl, HB7.out⟩
  | some t =>
    rw [hd] at HSD HVD
    have HTL := Lib.hid (dec_len HB.out hd)
    have HEN := Lib.hid (enc_dec HB.out hd)
    obtain ⟨k0, k1, k2, k3, k4, l⟩ := t
    obtain ⟨N, hN⟩ : ∃ N, l.length = N := ⟨_, rfl⟩
    have HNL : Hid (N ≤ 6) := Lib.hid (by rw [← hN]; exact HTL.out)
    go_enter Tryz.func6, Tryz.ntmps6
    go_wp2_with fail
    refine HSD.out.mono ?_
    rintro e w1 ⟨hb1, A5, c5, rfl, hr1⟩
    simp only [hN] at hr1 ⊢
    obtain ⟨w2, hw2⟩ : ∃ xx, xx = w1.alloc (.cells #[.int .i64 k0, .int .i64 k1, .int .i64 k2, .int .i64 k3, .int .i64 k4, .slice A5 N c5] 46) := ⟨_, rfl⟩
    obtain ⟨q, eq⟩ : ∃ xx, xx = w1.heap.size := ⟨_, rfl⟩
    have hbw2 : Below w1.heap.size w1 w2 := by rw [hw2]; exact box_below w1 _
    have hkq : w2.heap[q]? = some (.cells #[.int .i64 k0, .int .i64 k1, .int .i64 k2, .int .i64 k3, .int .i64 k4, .slice A5 N c5] 46 (0, 0)) := by rw [hw2, eq]; exact new_block w1 _
    have HB2 : Hid (Below w.heap.size w w2) := Lib.hid (hb1.trans (hbw2.mono hb1.size))
    have HQ := Lib.hid hkq
    have HW2 := Lib.hid hw2
    have EQ := Lib.hid eq
    have HR5 := Lib.hid (hr1.below hbw2)
    clear hr1
    clear hb1 hw2 eq hbw2 hkq
    go_upto_region 2 with fail
    rw [← HW2.out, ← EQ.out]
    go_wp2_with fail
    refine (HVD.out w2 HB2.out).mono ?_
    rintro e w3 ⟨hb3, A6, c6, rfl, hr3⟩
    simp only [hN] at hr3 ⊢
    obtain ⟨w4, hw4⟩ : ∃ xx, xx = w3.alloc (.cells #[.int .i64 k0, .int .i64 k1, .int .i64 k2, .int .i64 k3, .int .i64 k4, .slice A6 N c6] 38) := ⟨_, rfl⟩
    obtain ⟨r, er⟩ : ∃ xx, xx = w3.heap.size := ⟨_, rfl⟩
    have hbw4 : Below w3.heap.size w3 w4 := by rw [hw4]; exact box_below w3 _
    have hkr : w4.heap[r]? = some (.cells #[.int .i64 k0, .int .i64 k1, .int .i64 k2, .int .i64 k3, .int .i64 k4, .slice A6 N c6] 38 (0, 0)) := by rw [hw4, er]; exact new_block w3 _
    have hb24 : Below w2.heap.size w2 w4 := hb3.trans (hbw4.mono hb3.size)
    have HB4 : Hid (Below w.heap.size w w4) := Lib.hid (HB2.out.trans (hb24.mono HB2.out.size))
    have HRB := Lib.hid hkr
    have HQ4 := Lib.hid (blk_below HQ.out hb24)
    have HW4 := Lib.hid hw4
    have ER := Lib.hid er
    have HR6 := Lib.hid (hr3.below hbw4)
    have HR54 := Lib.hid (HR5.out.below hb24)
    have HST := Lib.hid (sametxn_any (c1 := c5) (c2 := c6) HR54.out HR6.out (by have := HNL.out; omega) k0 k1 k2 k3 k4)
    clear hr3
    clear hb3 hw4 er hbw4 hkr hb24
    go_upto_region 3 with fail
    rw [← HW4.out, ← ER.out]
    have hq4 := HQ4.out
    have hr4 := HRB.out
    have q0 := cell_of hq4 (j := 0) rfl
    have q1 := cell_of hq4 (j := 1) rfl
    have q2 := cell_of hq4 (j := 2) rfl
    have q3 := cell_of hq4 (j := 3) rfl
    have q4 := cell_of hq4 (j := 4) rfl
    have q5 := cell_of hq4 (j := 5) rfl
    have r0 := cell_of hr4 (j := 0) rfl
    have r1 := cell_of hr4 (j := 1) rfl
    have r2 := cell_of hr4 (j := 2) rfl
    have r3 := cell_of hr4 (j := 3) rfl
    have r4 := cell_of hr4 (j := 4) rfl
    have r5 := cell_of hr4 (j := 5) rfl
    clear hq4 hr4
    go_wp2_with fail
    refine HST.out.mono ?_
    rintro e w5 ⟨rfl, hb5⟩
    have HB5 : Hid (Below w.heap.size w w5) := Lib.hid (HB4.out.trans (hb5.mono HB4.out.size))
    have hq5 := blk_below HQ4.out hb5
    have HSE0 := sencode_any (w := w5) (c := c5) (HR54.out.below hb5) (by have := HNL.out; omega) k0 k1 k2 k3 k4
    rw [HEN.out] at HSE0
    obtain ⟨NB, hNB⟩ : ∃ NB, (zs).length = NB := ⟨_, rfl⟩
    have HSE : Hid (Calls Tryz.prog 22 #[.agg #[.int .i64 k0, .int .i64 k1, .int .i64 k2, .int .i64 k3, .int .i64 k4, .slice A5 N c5]] w5 fun e w' => ∃ A c, e = .returned (.tuple #[.slice A NB c, .int .i64 0]) ∧ Reads .u8 w' A NB (zs) ∧ NB ≤ c ∧ c ≤ maxLen ∧ Below w5.heap.size w5 w') := Lib.hid (by
      rw [← hNB]
      exact HSE0)
    clear q0 q1 q2 q3 q4 q5 r0 r1 r2 r3 r4 r5 HSE0 hNB hb5
    have q0 := cell_of hq5 (j := 0) rfl
    have q1 := cell_of hq5 (j := 1) rfl
    have q2 := cell_of hq5 (j := 2) rfl
    have q3 := cell_of hq5 (j := 3) rfl
    have q4 := cell_of hq5 (j := 4) rfl
    have q5 := cell_of hq5 (j := 5) rfl
    clear hq5
    go_wp2_with fail
    refine HSE.out.mono ?_
    rintro e w6 ⟨A8, c8, rfl, hr8, -, -, hb6⟩
    have HB6 : Hid (Below w.heap.size w w6) := Lib.hid (HB5.out.trans (hb6.mono HB5.out.size))
    have HR8 := Lib.hid hr8
    clear q0 q1 q2 q3 q4 q5 hb6 hr8
    go_wp2_with fail
    refine (HAL.out w6).mono ?_
    rintro e w7 ⟨rfl, hb7⟩
    have HB7 : Hid (Below w.heap.size w w7) := Lib.hid (HB6.out.trans (hb7.mono HB6.out.size))
    have hcv8 := Pq.conv_reads (c := c8) (HR8.out.kept hb7)
    have hcvb := Pq.conv_reads (c := bc) (HR.out.kept HB7.out)
    clear hb7
    go_wp2_with fail
    go_ret
    exact ⟨rfl, HB7.out⟩
end Go.Proofs.YtflgemlhocjipaaGreatDoor
