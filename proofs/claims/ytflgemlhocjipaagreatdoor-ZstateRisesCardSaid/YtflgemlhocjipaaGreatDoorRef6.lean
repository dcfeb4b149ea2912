/-
  The document's Same, SameTexts, SameEvents of rows that are alike. Conditions: memory holds both rows; they are not long.
-/
import Derived.Test.YtflgemlhocjipaaGreatDoorRef5
namespace Go.Proofs.YtflgemlhocjipaaGreatDoor
set_option maxRecDepth 100000
open Go.ChangeShapes Go.WideShapes Go.ChangeAt Go.RowKit Go.Proofs.Zn Go.Proofs.Zt

set_option maxHeartbeats 2000000 in
theorem rsame_any {w : World} {A A2 : Option Addr} {n c c2 : Nat} {l : Tr} (h : Rd ncell 9 w A n l) (h2 : Rd ncell 9 w A2 n l) (hn : n ≤ 1000000) :
    Calls Tryz.prog 48 #[.slice A n c, .slice A2 n c2] w fun e w' => e = .returned (.bool true) ∧ Below w.heap.size w w' := by
  have HR := Lib.hid h
  have HR2 := Lib.hid h2
  clear h h2
  go_enter Tryz.func48, Tryz.ntmps48
  go_wp2_with fail
  go_loopw [5] (fun i wr => ∃ k : Nat, k ≤ n ∧ i = .int .i64 k ∧ Hid (Below w.heap.size w wr)) (fun i _ => n - (intOf i).toNat)
  case atStart => exact ⟨0, Nat.zero_le _, rfl, Lib.hid (Below.refl _ _)⟩
  case round =>
    obtain ⟨k, hk, rfl, HX⟩ := hrel
    by_cases hlt : k < n
    · obtain ⟨b, off, x, rfl, hx, hc⟩ := (HR.out.below HX.out).at hlt
      obtain ⟨b2, off2, x2, rfl, hx2, hc2⟩ := (HR2.out.below HX.out).at hlt
      obtain rfl : x = x2 := Option.some.inj (hx.symm.trans hx2)
      have a0 : wr.cell? ⟨b, off + k * 9, none⟩ = some (.string (B x.path)) := hc 0 _ rfl
      have a1 : wr.cell? ⟨b, off + k * 9 + 1, none⟩ = some (.string (B x.data)) := hc 1 _ rfl
      have a2 : wr.cell? ⟨b, off + k * 9 + 2, none⟩ = some (.int .i64 x.cr) := hc 2 _ rfl
      have a3 : wr.cell? ⟨b, off + k * 9 + 3, none⟩ = some (.int .i64 x.ch) := hc 3 _ rfl
      have a4 : wr.cell? ⟨b, off + k * 9 + 4, none⟩ = some (.int .i64 x.kd) := hc 4 _ rfl
      have a5 : wr.cell? ⟨b, off + k * 9 + 5, none⟩ = some (.int .i64 x.ver) := hc 5 _ rfl
      have a6 : wr.cell? ⟨b, off + k * 9 + 6, none⟩ = some (.int .i64 x.ks) := hc 6 _ rfl
      have a7 : wr.cell? ⟨b, off + k * 9 + 7, none⟩ = some (.int .i64 x.own) := hc 7 _ rfl
      have a8 : wr.cell? ⟨b, off + k * 9 + 8, none⟩ = some (.int .i64 x.nx) := hc 8 _ rfl
      have p0 : wr.cell? ⟨b2, off2 + k * 9, none⟩ = some (.string (B x.path)) := hc2 0 _ rfl
      have p1 : wr.cell? ⟨b2, off2 + k * 9 + 1, none⟩ = some (.string (B x.data)) := hc2 1 _ rfl
      have p2 : wr.cell? ⟨b2, off2 + k * 9 + 2, none⟩ = some (.int .i64 x.cr) := hc2 2 _ rfl
      have p3 : wr.cell? ⟨b2, off2 + k * 9 + 3, none⟩ = some (.int .i64 x.ch) := hc2 3 _ rfl
      have p4 : wr.cell? ⟨b2, off2 + k * 9 + 4, none⟩ = some (.int .i64 x.kd) := hc2 4 _ rfl
      have p5 : wr.cell? ⟨b2, off2 + k * 9 + 5, none⟩ = some (.int .i64 x.ver) := hc2 5 _ rfl
      have p6 : wr.cell? ⟨b2, off2 + k * 9 + 6, none⟩ = some (.int .i64 x.ks) := hc2 6 _ rfl
      have p7 : wr.cell? ⟨b2, off2 + k * 9 + 7, none⟩ = some (.int .i64 x.own) := hc2 7 _ rfl
      have p8 : wr.cell? ⟨b2, off2 + k * 9 + 8, none⟩ = some (.int .i64 x.nx) := hc2 8 _ rfl
      clear hx hx2 hc hc2
      go_upto_region 6 with fail
      go_quiet (fail)
      obtain ⟨w5, hw5⟩ : ∃ w5, w5 = wr.drewN nq := ⟨_, rfl⟩
      have HW5 := Lib.hid hw5
      rw [← HW5.out]
      clear hw5
      have HX5 : Hid (Below w.heap.size w w5) := Lib.hid (by rw [HW5.out]; exact below_drewN HX.out _)
      go_wp2_with fail
      go_roundw
      case rel => exact ⟨k + 1, hlt, by go_num, HX5⟩
      case measure => simp [intOf]; omega
    · go_wp2_with fail
      go_ret
      exact ⟨rfl, HX.out⟩
set_option maxHeartbeats 2000000 in
theorem rsametexts_any {w : World} {A A2 : Option Addr} {n c c2 : Nat} {l : List Txt} (h : Rd scell 1 w A n l) (h2 : Rd scell 1 w A2 n l) (hn : n ≤ 1000000) :
    Calls Tryz.prog 47 #[.slice A n c, .slice A2 n c2] w fun e w' => e = .returned (.bool true) ∧ Below w.heap.size w w' := by
  have HR := Lib.hid h
  have HR2 := Lib.hid h2
  clear h h2
  go_enter Tryz.func47, Tryz.ntmps47
  go_wp2_with fail
  go_loopw [5] (fun i wr => ∃ k : Nat, k ≤ n ∧ i = .int .i64 k ∧ Hid (Below w.heap.size w wr)) (fun i _ => n - (intOf i).toNat)
  case atStart => exact ⟨0, Nat.zero_le _, rfl, Lib.hid (Below.refl _ _)⟩
  case round =>
    obtain ⟨k, hk, rfl, HX⟩ := hrel
    by_cases hlt : k < n
    · obtain ⟨b, off, x, rfl, hx, hc⟩ := (HR.out.below HX.out).at hlt
      obtain ⟨b2, off2, x2, rfl, hx2, hc2⟩ := (HR2.out.below HX.out).at hlt
      obtain rfl : x = x2 := Option.some.inj (hx.symm.trans hx2)
      simp only [Nat.mul_one] at hc hc2
      have a0 : wr.cell? ⟨b, off + k, none⟩ = some (.string (B x)) := hc 0 _ rfl
      have p0 : wr.cell? ⟨b2, off2 + k, none⟩ = some (.string (B x)) := hc2 0 _ rfl
      clear hx hx2 hc hc2
      go_upto_region 6 with fail
      go_quiet (fail)
      obtain ⟨w5, hw5⟩ : ∃ w5, w5 = wr.drewN nq := ⟨_, rfl⟩
      have HW5 := Lib.hid hw5
      rw [← HW5.out]
      clear hw5
      have HX5 : Hid (Below w.heap.size w w5) := Lib.hid (by rw [HW5.out]; exact below_drewN HX.out _)
      go_wp2_with fail
      go_roundw
      case rel => exact ⟨k + 1, hlt, by go_num, HX5⟩
      case measure => simp [intOf]; omega
    · go_wp2_with fail
      go_ret
      exact ⟨rfl, HX.out⟩
set_option maxHeartbeats 2000000 in
theorem rsameevents_any {w : World} {A A2 : Option Addr} {n c c2 : Nat} {l : List Evt} (h : Rd ecell 3 w A n l) (h2 : Rd ecell 3 w A2 n l) (hn : n ≤ 1000000) :
    Calls Tryz.prog 40 #[.slice A n c, .slice A2 n c2] w fun e w' => e = .returned (.bool true) ∧ Below w.heap.size w w' := by
  have HR := Lib.hid h
  have HR2 := Lib.hid h2
  clear h h2
  go_enter Tryz.func40, Tryz.ntmps40
  go_wp2_with fail
  go_loopw [5] (fun i wr => ∃ k : Nat, k ≤ n ∧ i = .int .i64 k ∧ Hid (Below w.heap.size w wr)) (fun i _ => n - (intOf i).toNat)
  case atStart => exact ⟨0, Nat.zero_le _, rfl, Lib.hid (Below.refl _ _)⟩
  case round =>
    obtain ⟨k, hk, rfl, HX⟩ := hrel
    by_cases hlt : k < n
    · obtain ⟨b, off, x, rfl, hx, hc⟩ := (HR.out.below HX.out).at hlt
      obtain ⟨b2, off2, x2, rfl, hx2, hc2⟩ := (HR2.out.below HX.out).at hlt
      obtain rfl : x = x2 := Option.some.inj (hx.symm.trans hx2)
      have a0 : wr.cell? ⟨b, off + k * 3, none⟩ = some (.int .i64 x.s) := hc 0 _ rfl
      have a1 : wr.cell? ⟨b, off + k * 3 + 1, none⟩ = some (.int .i64 x.k) := hc 1 _ rfl
      have a2 : wr.cell? ⟨b, off + k * 3 + 2, none⟩ = some (.string (B x.p)) := hc 2 _ rfl
      have p0 : wr.cell? ⟨b2, off2 + k * 3, none⟩ = some (.int .i64 x.s) := hc2 0 _ rfl
      have p1 : wr.cell? ⟨b2, off2 + k * 3 + 1, none⟩ = some (.int .i64 x.k) := hc2 1 _ rfl
      have p2 : wr.cell? ⟨b2, off2 + k * 3 + 2, none⟩ = some (.string (B x.p)) := hc2 2 _ rfl
      clear hx hx2 hc hc2
      go_upto_region 6 with fail
      go_quiet (fail)
      obtain ⟨w5, hw5⟩ : ∃ w5, w5 = wr.drewN nq := ⟨_, rfl⟩
      have HW5 := Lib.hid hw5
      rw [← HW5.out]
      clear hw5
      have HX5 : Hid (Below w.heap.size w w5) := Lib.hid (by rw [HW5.out]; exact below_drewN HX.out _)
      go_wp2_with fail
      go_roundw
      case rel => exact ⟨k + 1, hlt, by go_num, HX5⟩
      case measure => simp [intOf]; omega
    · go_wp2_with fail
      go_ret
      exact ⟨rfl, HX.out⟩
end Go.Proofs.YtflgemlhocjipaaGreatDoor
