/-
  What the document's SameTxn returns of transactions that are alike. Condition: memory holds both.
-/
import Derived.Test.YtflgemlhocjipaaGreatDoorCREnc
import Derived.Test.YtflgemlhocjipaaGreatDoorRef6
namespace Go.Proofs.YtflgemlhocjipaaGreatDoor
set_option maxRecDepth 100000
open Go.ChangeShapes Go.WideShapes Go.ChangeAt Go.RowKit Go.Proofs.Zn Go.Proofs.Zt
open Go.Proofs.Zs (St Lst Rep Tx)
open Pq (Fld FReads Reads fcs errL bytL)

set_option maxHeartbeats 4000000 in
theorem sametxn_any {w : World} {A1 A2 : Option Addr} {N c1 c2 : Nat} {l : List Chg} (h1 : Rd ccell 6 w A1 N l) (h2 : Rd ccell 6 w A2 N l) (hn : N ≤ 1000000) (k s n sp now : Int) :
    Calls Tryz.prog 25 #[.agg #[.int .i64 k, .int .i64 s, .int .i64 n, .int .i64 sp, .int .i64 now, .slice A1 N c1], .agg #[.int .i64 k, .int .i64 s, .int .i64 n, .int .i64 sp, .int .i64 now, .slice A2 N c2]] w fun e w' => e = .returned (.bool true) ∧ Below w.heap.size w w' := by
  obtain ⟨w1, hw1, hbw1, hkq, hkr, hsw1⟩ := two_box w (.cells #[.int .i64 k, .int .i64 s, .int .i64 n, .int .i64 sp, .int .i64 now, .slice A1 N c1] 38) (.cells #[.int .i64 k, .int .i64 s, .int .i64 n, .int .i64 sp, .int .i64 now, .slice A2 N c2] 38)
  obtain ⟨q, eq⟩ : ∃ xx, xx = w.heap.size := ⟨_, rfl⟩
  obtain ⟨r, er⟩ : ∃ xx, xx = w.heap.size + 1 := ⟨_, rfl⟩
  rw [← eq] at hkq
  rw [← er] at hkr
  have HR := Lib.hid (h1.below hbw1)
  have HR2 := Lib.hid (h2.below hbw1)
  have HB1 := Lib.hid hbw1
  have HQ := Lib.hid hkq
  have HRR := Lib.hid hkr
  have HW1 := Lib.hid hw1
  have EQ := Lib.hid eq
  have ER := Lib.hid er
  have q0 := cell_of hkq (j := 0) rfl
  have q1 := cell_of hkq (j := 1) rfl
  have q2 := cell_of hkq (j := 2) rfl
  have q3 := cell_of hkq (j := 3) rfl
  have q4 := cell_of hkq (j := 4) rfl
  have q5 := cell_of hkq (j := 5) rfl
  have r0 := cell_of hkr (j := 0) rfl
  have r1 := cell_of hkr (j := 1) rfl
  have r2 := cell_of hkr (j := 2) rfl
  have r3 := cell_of hkr (j := 3) rfl
  have r4 := cell_of hkr (j := 4) rfl
  have r5 := cell_of hkr (j := 5) rfl
  clear h1 h2 hw1 eq er hbw1 hkq hkr hsw1
  go_enter Tryz.func25, Tryz.ntmps25
  go_upto_region 1 with fail
  rw [← HW1.out, ← ER.out, ← EQ.out]
  go_wp2_with fail
  clear q0 q1 q2 q3 q4 q5 r0 r1 r2 r3 r4 r5
  go_loopw [5] (fun i wr => ∃ j : Nat, j ≤ N ∧ i = .int .i64 j ∧ Hid (Below w1.heap.size w1 wr)) (fun i _ => N - (intOf i).toNat)
  case atStart => exact ⟨0, Nat.zero_le _, rfl, Lib.hid (Below.refl _ _)⟩
  case round =>
    obtain ⟨j, hj, rfl, HX⟩ := hrel
    have hq := blk_below HQ.out HX.out
    have hr := blk_below HRR.out HX.out
    have y5 := cell_of hq (j := 5) rfl
    have z5 := cell_of hr (j := 5) rfl
    clear hq hr
    by_cases hlt : j < N
    · obtain ⟨b, off, x, rfl, hx, hc⟩ := (HR.out.below HX.out).at hlt
      obtain ⟨b2, off2, x2, rfl, hx2, hc2⟩ := (HR2.out.below HX.out).at hlt
      obtain rfl : x = x2 := Option.some.inj (hx.symm.trans hx2)
      have a0 : wr.cell? ⟨b, off + j * 6, none⟩ = some (.int .i64 x.kind) := hc 0 _ rfl
      have a1 : wr.cell? ⟨b, off + j * 6 + 1, none⟩ = some (.string (B x.path)) := hc 1 _ rfl
      have a2 : wr.cell? ⟨b, off + j * 6 + 2, none⟩ = some (.string (B x.data)) := hc 2 _ rfl
      have a3 : wr.cell? ⟨b, off + j * 6 + 3, none⟩ = some (.int .i64 x.ver) := hc 3 _ rfl
      have a4 : wr.cell? ⟨b, off + j * 6 + 4, none⟩ = some (.bool x.eph) := hc 4 _ rfl
      have a5 : wr.cell? ⟨b, off + j * 6 + 5, none⟩ = some (.bool x.sq) := hc 5 _ rfl
      have p0 : wr.cell? ⟨b2, off2 + j * 6, none⟩ = some (.int .i64 x.kind) := hc2 0 _ rfl
      have p1 : wr.cell? ⟨b2, off2 + j * 6 + 1, none⟩ = some (.string (B x.path)) := hc2 1 _ rfl
      have p2 : wr.cell? ⟨b2, off2 + j * 6 + 2, none⟩ = some (.string (B x.data)) := hc2 2 _ rfl
      have p3 : wr.cell? ⟨b2, off2 + j * 6 + 3, none⟩ = some (.int .i64 x.ver) := hc2 3 _ rfl
      have p4 : wr.cell? ⟨b2, off2 + j * 6 + 4, none⟩ = some (.bool x.eph) := hc2 4 _ rfl
      have p5 : wr.cell? ⟨b2, off2 + j * 6 + 5, none⟩ = some (.bool x.sq) := hc2 5 _ rfl
      have hji : (j : Int) < (N : Int) := by omega
      have hj0 : (0 : Int) ≤ (j : Int) := by omega
      clear hx hx2 hc hc2
      go_upto_region 6 with fail
      go_quiet (fail)
      obtain ⟨w5, hw5⟩ : ∃ w5, w5 = wr.drewN nq := ⟨_, rfl⟩
      have HW5 := Lib.hid hw5
      rw [← HW5.out]
      clear hw5
      have HX5 : Hid (Below w1.heap.size w1 w5) := Lib.hid (by rw [HW5.out]; exact below_drewN HX.out _)
      go_wp2_with fail
      go_roundw
      case rel => exact ⟨j + 1, hlt, by go_num, HX5⟩
      case measure => simp [intOf]; omega
    · have hji : ¬ (j : Int) < (N : Int) := by omega
      have HE : Hid (Below w.heap.size w wr) := Lib.hid (HB1.out.trans (HX.out.mono HB1.out.size))
      go_wp2_with fail
      go_ret
      exact ⟨rfl, HE.out⟩
end Go.Proofs.YtflgemlhocjipaaGreatDoor
