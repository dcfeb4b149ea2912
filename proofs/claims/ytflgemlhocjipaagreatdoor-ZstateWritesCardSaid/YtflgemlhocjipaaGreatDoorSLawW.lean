/-
  What ZstateWrites answers. Conditions: memory holds the changes; versions fit.
-/
import Derived.Test.YtflgemlhocjipaaGreatDoorCDec
import Derived.Test.YtflgemlhocjipaaGreatDoorCREnc
import Derived.Test.YtflgemlhocjipaaGreatDoorCSame
import Derived.Test.YtflgemlhocjipaaGreatDoorSDoc1
import Derived.Test.YtflgemlhocjipaaGreatDoorSFew
import Derived.Test.YtflgemlhocjipaaGreatDoorQRDec
namespace Go.Proofs.YtflgemlhocjipaaGreatDoor
set_option maxRecDepth 100000
open Go.ChangeShapes Go.WideShapes Go.ChangeAt Go.RowKit Go.Proofs.Zn Go.Proofs.Zt
open Go.Proofs.Zs (St Lst Rep Tx)
open Pq (Fld FReads Reads fcs ams errL bytL sm dc Sm Bys byts)

set_option maxHeartbeats 4000000 in
theorem writes_law {w : World} {A : Option Addr} {N c : Nat} {l : List Chg} (h : Rd ccell 6 w A N l) (hm : N ≤ 9223372036854775807) (hv : VerOk l) (k s n sp now : Int) :
    Calls Tryz.prog 5 #[.agg #[.int .i64 k, .int .i64 s, .int .i64 n, .int .i64 sp, .int .i64 now, .slice A N c]] w fun e w' => e = .returned (.bool true) ∧ Below w.heap.size w w' := by
  obtain ⟨w1, hw1⟩ : ∃ xx, xx = w.alloc (.cells #[.int .i64 k, .int .i64 s, .int .i64 n, .int .i64 sp, .int .i64 now, .slice A N c] 38) := ⟨_, rfl⟩
  obtain ⟨q, eq⟩ : ∃ xx, xx = w.heap.size := ⟨_, rfl⟩
  have hbw1 : Below w.heap.size w w1 := by rw [hw1]; exact box_below w _
  have hkq : w1.heap[q]? = some (.cells #[.int .i64 k, .int .i64 s, .int .i64 n, .int .i64 sp, .int .i64 now, .slice A N c] 38 (0, 0)) := by rw [hw1, eq]; exact new_block w _
  have HR := Lib.hid (h.below hbw1)
  have HVO := Lib.hid hv
  have HLN := Lib.hid h.len
  have HB1 := Lib.hid hbw1
  have HQ := Lib.hid hkq
  have HW1 := Lib.hid hw1
  have EQ := Lib.hid eq
  have HAL := Lib.hid (fun W => alive_any W)
  have q0 := cell_of hkq (j := 0) rfl
  have q1 := cell_of hkq (j := 1) rfl
  have q2 := cell_of hkq (j := 2) rfl
  have q3 := cell_of hkq (j := 3) rfl
  have q4 := cell_of hkq (j := 4) rfl
  have q5 := cell_of hkq (j := 5) rfl
  clear h hv hw1 eq hbw1 hkq
  by_cases hbig : 20 < N
  · have hbi : decide ((20 : Int) < (N : Int)) = true := by simpa using (by omega : (20 : Int) < (N : Int))
    have hbn : decide (20 < N) = true := by simpa using hbig
    have hbx : (20 : Int) < (N : Int) := by omega
    go_enter Tryz.func5, Tryz.ntmps5
    go_upto_region 1 with fail
    rw [← HW1.out, ← EQ.out]
    go_wp2_with fail
    refine (HAL.out w1).mono ?_
    rintro e w2 ⟨rfl, hb2⟩
    have HB2 := Lib.hid (HB1.out.trans (hb2.mono HB1.out.size))
    clear hb2
    go_wp2_with fail
    go_ret
    exact ⟨rfl, HB2.out⟩
  · have hbi : decide ((20 : Int) < (N : Int)) = false := by simpa using (by omega : ¬ (20 : Int) < (N : Int))
    have hbn : decide (20 < N) = false := by simpa using hbig
    have hbx : ¬ (20 : Int) < (N : Int) := by omega
    obtain ⟨R, hR⟩ : ∃ r, encS ⟨k, s, n, sp, now, l⟩ = r := ⟨_, rfl⟩
    have HRR := Lib.hid hR
    clear hR
    have HOW := Lib.hid (own_any w1 k s n sp now A N c)
    cases R with
    | none =>
      have HSE : Hid (∀ W, Below w1.heap.size w1 W → Calls Tryz.prog 22 #[.agg #[.int .i64 k, .int .i64 s, .int .i64 n, .int .i64 sp, .int .i64 now, .slice A N c]] W fun e w' => ∃ A c, e = .returned (.tuple #[.slice A 0 c, .int .i64 110]) ∧ Reads .u8 w' A 0 [] ∧ 0 ≤ c ∧ c ≤ maxLen ∧ Below W.heap.size W w') := Lib.hid (fun W hW => by
        have h := sencode_any (c := c) (HR.out.below hW) (by omega) k s n sp now
        rw [HRR.out] at h
        exact h)
      have HRE : Hid (∀ W, Below w1.heap.size w1 W → Calls Tryz.prog 23 #[.agg #[.int .i64 k, .int .i64 s, .int .i64 n, .int .i64 sp, .int .i64 now, .slice A N c]] W fun e w' => ∃ A c, e = .returned (.tuple #[.slice A 0 c, .int .i64 110]) ∧ Reads .u8 w' A 0 [] ∧ 0 ≤ c ∧ c ≤ maxLen ∧ Below W.heap.size W w') := Lib.hid (fun W hW => by
        have h := rencode_txn (c := c) (HR.out.below hW) (by omega) HVO.out k s n sp now
        rw [HRR.out] at h
        exact h)
      go_enter Tryz.func5, Tryz.ntmps5
      go_upto_region 1 with fail
      rw [← HW1.out, ← EQ.out]
      go_wp2_with fail
      refine HOW.out.mono ?_
      rintro e w2 ⟨rfl, hb2⟩
      have HB2 := Lib.hid hb2
      clear hb2
      go_wp2_with fail
      refine (HSE.out w2 HB2.out).mono ?_
      rintro e w3 ⟨A3, c3, rfl, hr3, hc3, hm3, hb3⟩
      have HB3 : Hid (Below w1.heap.size w1 w3) := Lib.hid (HB2.out.trans (hb3.mono HB2.out.size))
      have HR3 := Lib.hid hr3
      have HC3 := Lib.hid hc3
      have HM3 := Lib.hid hm3
      have hq3 := blk_below HQ.out HB3.out
      clear q0 q1 q2 q3 q4 q5 hb3 hr3 hc3 hm3
      have q0 := cell_of hq3 (j := 0) rfl
      have q1 := cell_of hq3 (j := 1) rfl
      have q2 := cell_of hq3 (j := 2) rfl
      have q3 := cell_of hq3 (j := 3) rfl
      have q4 := cell_of hq3 (j := 4) rfl
      have q5 := cell_of hq3 (j := 5) rfl
      clear hq3
      go_wp2_with fail
      refine (HRE.out w3 HB3.out).mono ?_
      rintro e w4 ⟨A4, c4, rfl, hr4, -, -, hb4⟩
      have HB4 : Hid (Below w1.heap.size w1 w4) := Lib.hid (HB3.out.trans (hb4.mono HB3.out.size))
      have hcv3 := Pq.conv_reads (c := c3) (HR3.out.kept hb4)
      have hcv4 := Pq.conv_reads (c := c4) hr4
      have HR4 := Lib.hid (HR3.out.kept hb4)
      have hq4 := blk_below HQ.out HB4.out
      clear q0 q1 q2 q3 q4 q5 hb4 hr4
      have q0 := cell_of hq4 (j := 0) rfl
      have q1 := cell_of hq4 (j := 1) rfl
      have q2 := cell_of hq4 (j := 2) rfl
      have q3 := cell_of hq4 (j := 3) rfl
      have q4 := cell_of hq4 (j := 4) rfl
      have q5 := cell_of hq4 (j := 5) rfl
      clear hq4
      go_wp2_with fail
      refine (HAL.out w4).mono ?_
      rintro e w5 ⟨rfl, hb5⟩
      have HB5 : Hid (Below w.heap.size w w5) := Lib.hid (HB1.out.trans ((HB4.out.trans (hb5.mono HB4.out.size)).mono HB1.out.size))
      clear hb5
      go_wp2_with fail
      go_ret
      exact ⟨rfl, HB5.out⟩
    | some b =>
      have hby : Bys b := by
        have hh := HRR.out
        unfold encS at hh
        split at hh
        · injection hh with hh; rw [← hh]; exact Pq.bytL_bys _
        · cases hh
      have HBY := Lib.hid hby
      obtain ⟨NB, hNB⟩ : ∃ NB, b.length = NB := ⟨_, rfl⟩
      have HSE : Hid (∀ W, Below w1.heap.size w1 W → Calls Tryz.prog 22 #[.agg #[.int .i64 k, .int .i64 s, .int .i64 n, .int .i64 sp, .int .i64 now, .slice A N c]] W fun e w' => ∃ A c, e = .returned (.tuple #[.slice A NB c, .int .i64 0]) ∧ Reads .u8 w' A NB b ∧ NB ≤ c ∧ c ≤ maxLen ∧ Below W.heap.size W w') := Lib.hid (fun W hW => by
        have h := sencode_any (c := c) (HR.out.below hW) (by omega) k s n sp now
        rw [HRR.out] at h
        rw [← hNB]
        exact h)
      have HRE : Hid (∀ W, Below w1.heap.size w1 W → Calls Tryz.prog 23 #[.agg #[.int .i64 k, .int .i64 s, .int .i64 n, .int .i64 sp, .int .i64 now, .slice A N c]] W fun e w' => ∃ A c, e = .returned (.tuple #[.slice A NB c, .int .i64 0]) ∧ Reads .u8 w' A NB b ∧ NB ≤ c ∧ c ≤ maxLen ∧ Below W.heap.size W w') := Lib.hid (fun W hW => by
        have h := rencode_txn (c := c) (HR.out.below hW) (by omega) HVO.out k s n sp now
        rw [HRR.out] at h
        rw [← hNB]
        exact h)
      go_enter Tryz.func5, Tryz.ntmps5
      go_upto_region 1 with fail
      rw [← HW1.out, ← EQ.out]
      go_wp2_with fail
      refine HOW.out.mono ?_
      rintro e w2 ⟨rfl, hb2⟩
      have HB2 := Lib.hid hb2
      clear hb2
      go_wp2_with fail
      refine (HSE.out w2 HB2.out).mono ?_
      rintro e w3 ⟨A3, c3, rfl, hr3, hc3, hm3, hb3⟩
      have HB3 : Hid (Below w1.heap.size w1 w3) := Lib.hid (HB2.out.trans (hb3.mono HB2.out.size))
      have HR3 := Lib.hid hr3
      have HC3 := Lib.hid hc3
      have HM3 := Lib.hid hm3
      have hq3 := blk_below HQ.out HB3.out
      clear q0 q1 q2 q3 q4 q5 hb3 hr3 hc3 hm3
      have q0 := cell_of hq3 (j := 0) rfl
      have q1 := cell_of hq3 (j := 1) rfl
      have q2 := cell_of hq3 (j := 2) rfl
      have q3 := cell_of hq3 (j := 3) rfl
      have q4 := cell_of hq3 (j := 4) rfl
      have q5 := cell_of hq3 (j := 5) rfl
      clear hq3
      go_wp2_with fail
      refine (HRE.out w3 HB3.out).mono ?_
      rintro e w4 ⟨A4, c4, rfl, hr4, -, -, hb4⟩
      have HB4 : Hid (Below w1.heap.size w1 w4) := Lib.hid (HB3.out.trans (hb4.mono HB3.out.size))
      have hcv3 := Pq.conv_reads (c := c3) (HR3.out.kept hb4)
      have hcv4 := Pq.conv_reads (c := c4) hr4
      have HR4 := Lib.hid (HR3.out.kept hb4)
      have hq4 := blk_below HQ.out HB4.out
      clear q0 q1 q2 q3 q4 q5 hb4 hr4
      have q0 := cell_of hq4 (j := 0) rfl
      have q1 := cell_of hq4 (j := 1) rfl
      have q2 := cell_of hq4 (j := 2) rfl
      have q3 := cell_of hq4 (j := 3) rfl
      have q4 := cell_of hq4 (j := 4) rfl
      have q5 := cell_of hq4 (j := 5) rfl
      clear hq4
      have hsd := sdecode_any (bc := c3) HR4.out HBY.out HC3.out HM3.out
      rw [dec_enc HVO.out HRR.out] at hsd
      have HSD := Lib.hid hsd
      clear hsd hby hNB
      go_wp2_with fail
      refine HSD.out.mono ?_
      rintro e w5 ⟨hb5, A5, c5, rfl, hr5⟩
      have hln : l.length = N := HLN.out
      simp only [hln] at hr5 ⊢
      have HB5 : Hid (Below w1.heap.size w1 w5) := Lib.hid (HB4.out.trans (hb5.mono HB4.out.size))
      have HR5 := Lib.hid hr5
      obtain ⟨w6, hw6⟩ : ∃ xx, xx = w5.alloc (.cells #[.int .i64 k, .int .i64 s, .int .i64 n, .int .i64 sp, .int .i64 now, .slice A5 N c5] 46) := ⟨_, rfl⟩
      obtain ⟨r, er⟩ : ∃ xx, xx = w5.heap.size := ⟨_, rfl⟩
      have hbw6 : Below w5.heap.size w5 w6 := by rw [hw6]; exact box_below w5 _
      have hkr : w6.heap[r]? = some (.cells #[.int .i64 k, .int .i64 s, .int .i64 n, .int .i64 sp, .int .i64 now, .slice A5 N c5] 46 (0, 0)) := by rw [hw6, er]; exact new_block w5 _
      have HB6 : Hid (Below w1.heap.size w1 w6) := Lib.hid (HB5.out.trans (hbw6.mono HB5.out.size))
      have HR6 := Lib.hid (hr5.below hbw6)
      have HRB := Lib.hid hkr
      have HW6 := Lib.hid hw6
      have ER := Lib.hid er
      have hq5 := blk_below HQ.out HB5.out
      clear q0 q1 q2 q3 q4 q5 hb5 hr5 hw6 er hbw6 hkr hcv3 hcv4
      go_upto_region 10 with fail
      rw [← HW6.out, ← ER.out]
      clear hq5
      go_wp2_with fail
      refine (HAL.out w6).mono ?_
      rintro e w7 ⟨rfl, hb7⟩
      have HB7 : Hid (Below w1.heap.size w1 w7) := Lib.hid (HB6.out.trans (hb7.mono HB6.out.size))
      have hr7 := blk_below HRB.out hb7
      have hq7 := blk_below HQ.out HB7.out
      have hst := sametxn_any (c1 := c5) (c2 := c) (HR6.out.below hb7) (HR.out.below HB7.out) (by omega) k s n sp now
      have HST := Lib.hid hst
      have r0 := cell_of hr7 (j := 0) rfl
      have r1 := cell_of hr7 (j := 1) rfl
      have r2 := cell_of hr7 (j := 2) rfl
      have r3 := cell_of hr7 (j := 3) rfl
      have r4 := cell_of hr7 (j := 4) rfl
      have r5 := cell_of hr7 (j := 5) rfl
      have q0 := cell_of hq7 (j := 0) rfl
      have q1 := cell_of hq7 (j := 1) rfl
      have q2 := cell_of hq7 (j := 2) rfl
      have q3 := cell_of hq7 (j := 3) rfl
      have q4 := cell_of hq7 (j := 4) rfl
      have q5 := cell_of hq7 (j := 5) rfl
      clear hb7 hr7 hq7 hst
      go_wp2_with fail
      refine HST.out.mono ?_
      rintro e w8 ⟨rfl, hb8⟩
      have HB8 : Hid (Below w.heap.size w w8) := Lib.hid (HB1.out.trans ((HB7.out.trans (hb8.mono HB7.out.size)).mono HB1.out.size))
      clear hb8
      go_wp2_with fail
      go_ret
      exact ⟨rfl, HB8.out⟩
end Go.Proofs.YtflgemlhocjipaaGreatDoor
