/-
  What the document's own Do, Ended, Check, Same and SameIds return. Condition: the lists are tables; the list that is checked is not long.
-/
import Derived.Test.YtflgemlhocjipaaGreatDoorLDoc2
namespace Go.Proofs.YtflgemlhocjipaaGreatDoor.Lq
set_option maxRecDepth 100000
open Go.ChangeShapes Go.WideShapes Go.ChangeAt Go.RowKit Go.Proofs.Le

set_option maxHeartbeats 4000000 in
theorem same_any {w : World} {A A2 : Option Addr} {c c2 : Nat} {L : Tb} (h : Rd lcell 3 w A L.length L) (h2 : Rd lcell 3 w A2 L.length L) (hn : L.length ≤ 100000) :
    Calls Tryz.prog 49 #[.slice A L.length c, .slice A2 L.length c2] w fun e w' => e = .returned (.bool true) ∧ Below w.heap.size w w' := by
  have HR := Lib.hid h
  have HR2 := Lib.hid h2
  clear h h2
  have hgu := guard_neqD
  obtain ⟨n, hnn⟩ : ∃ n, L.length = n := ⟨_, rfl⟩
  rw [hnn] at HR HR2 hn ⊢
  have HN := Lib.hid hnn
  clear hnn
  go_enter Tryz.func49, Tryz.ntmps49
  go_wp2_with fail
  go_loopw [5] (fun i wr => ∃ k : Nat, k ≤ n ∧ i = .int .i64 k ∧ Hid (Below w.heap.size w wr)) (fun i _ => n - (intOf i).toNat)
  case atStart => exact ⟨0, Nat.zero_le _, rfl, Lib.hid (Below.refl _ _)⟩
  case round =>
    obtain ⟨k, hk, rfl, HX⟩ := hrel
    by_cases hlt : k < n
    · obtain ⟨b, off, x, rfl, hx, hcc⟩ := (HR.out.below HX.out).at hlt
      obtain ⟨b2, off2, z, rfl, hz, hdd⟩ := (HR2.out.below HX.out).at hlt
      obtain rfl : x = z := Option.some.inj (hx.symm.trans hz)
      have c0 : wr.cell? ⟨b, off + k * 3, none⟩ = some (.int .i64 x.i) := hcc 0 _ rfl
      have c1 : wr.cell? ⟨b, off + k * 3 + 1, none⟩ = some (.int .i64 x.s) := hcc 1 _ rfl
      have c2 : wr.cell? ⟨b, off + k * 3 + 2, none⟩ = some (.int .i64 x.l) := hcc 2 _ rfl
      have d0 : wr.cell? ⟨b2, off2 + k * 3, none⟩ = some (.int .i64 x.i) := hdd 0 _ rfl
      have d1 : wr.cell? ⟨b2, off2 + k * 3 + 1, none⟩ = some (.int .i64 x.s) := hdd 1 _ rfl
      have d2 : wr.cell? ⟨b2, off2 + k * 3 + 2, none⟩ = some (.int .i64 x.l) := hdd 2 _ rfl
      have hqe := neqD x x
      rw [show (!decide (x = x)) = false by simp] at hqe
      have hk0 : (0 : Int) ≤ (k : Int) := by omega
      have hki : (k : Int) < (n : Int) := by omega
      have hwk : IntKind.i64.wrap ((k : Int) + 1) = (k : Int) + 1 := by rw [IntKind.wrap_i64]; omega
      clear hx hz hcc hdd
      go_upto_region 6 with fail
      go_quiet (fail)
      have HX2 := Lib.hid (below_drewN HX.out nq)
      clear c0 c1 c2 d0 d1 d2 hqe
      go_wp2_with fail
      go_roundw
      case rel => exact ⟨k + 1, by omega, by go_num, HX2⟩
      case measure => simp [intOf]; omega
    · obtain rfl : k = n := by omega
      have hki : ¬ (k : Int) < (k : Int) := by omega
      go_wp2_with fail
      go_ret
      exact ⟨rfl, HX.out⟩
end Go.Proofs.YtflgemlhocjipaaGreatDoor.Lq
