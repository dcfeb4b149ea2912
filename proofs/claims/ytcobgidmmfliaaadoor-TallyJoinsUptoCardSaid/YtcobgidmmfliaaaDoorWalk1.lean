/-
  What the functions of tally that reckon with numbers alone return: step, times (and the document's step). No condition.
-/
import Derived.Test.YtcobgidmmfliaaaDoorWords
import Derived.Test.YtcobgidmmfliaaaDoorRows
import Derived.WalkKit
import Derived.ProofKit
import Derived.OpenShut
import Derived.Lib.Hide
import Derived.Outline
import Derived.Deep.LoopGhost
namespace Go.Proofs.YtcobgidmmfliaaaDoor
open Go.ChangeShapes Go.WideShapes Go.ChangeAt Go.RowKit Go.Proofs.Crc

theorem ret_u32 {a b : Int} (h : a = b) : Ending.returned (.int .u32 a) = .returned (.int .u32 b) := by rw [h]
theorem step_any (v : BitVec 32) (w : World) :
    Calls Tryd.prog 19 #[.int .u32 (U v)] w fun e w' => e = .returned (.int .u32 (U (stp v))) ∧ w = w' := by
  have h0 := U_lo v
  have h1 := U_hi v
  by_cases h : v.getLsbD 0 = true
  · have ht : (bits .and .u32 (U v) 1 == 1) = true := by rw [bit0, h]; rfl
    have hs := Lib.hid (stp_hit h)
    clear h
    go_enter Tryd.func19, Tryd.ntmps19
    go_wp2
    go_ret
    exact ⟨ret_u32 hs.out, rfl⟩
  · have h' : v.getLsbD 0 = false := by simpa using h
    have ht : (bits .and .u32 (U v) 1 == 1) = false := by rw [bit0, h']; rfl
    have hs := Lib.hid (stp_miss h')
    clear h h'
    go_enter Tryd.func19, Tryd.ntmps19
    go_wp2
    go_ret
    exact ⟨ret_u32 hs.out, rfl⟩
theorem rstep_any (v : BitVec 32) (w : World) :
    Calls Tryd.prog 16 #[.int .u32 (U v)] w fun e w' => e = .returned (.int .u32 (U (stp v))) ∧ w = w' := by
  have h0 := U_lo v
  have h1 := U_hi v
  by_cases h : v.getLsbD 0 = true
  · have ht : U v % 2 = 1 := by rw [rem0, h]; rfl
    have hs := Lib.hid (stp_hit h)
    clear h
    go_enter Tryd.func16, Tryd.ntmps16
    go_wp2
    go_ret
    exact ⟨ret_u32 hs.out, rfl⟩
  · have h' : v.getLsbD 0 = false := by simpa using h
    have ht : U v % 2 = 0 := by rw [rem0, h']; rfl
    have hs := Lib.hid (stp_miss h')
    clear h h'
    go_enter Tryd.func16, Tryd.ntmps16
    go_wp2
    go_ret
    exact ⟨ret_u32 hs.out, rfl⟩

/-- What the loop of times keeps. -/
def TimesRel (r : BitVec 32) (n : Nat) (a b p : Value) : Prop :=
  ∃ x y z : BitVec 32, a = .int .u32 (U x) ∧ b = .int .u32 (U y) ∧ p = .int .u32 (U z) ∧ z ^^^ tms n x y = r ∧ y <<< n = 0#32
theorem times_any (a b : BitVec 32) (w : World) :
    Calls Tryd.prog 18 #[.int .u32 (U a), .int .u32 (U b)] w fun e w' => e = .returned (.int .u32 (U (tms 32 a b))) ∧ w = w' := by
  go_enter Tryd.func18, Tryd.ntmps18
  go_wp2
  go_loopg [0, 1, 5] 32 (fun n a' b' p wr => wr = w ∧ TimesRel (tms 32 a b) n a' b' p)
  case atStart => exact ⟨rfl, a, b, 0#32, rfl, rfl, rfl, by simp, by simp⟩
  case round =>
    obtain ⟨rfl, x, y, z, rfl, rfl, rfl, hr, hz⟩ := hrel
    by_cases hy : y = 0#32
    · subst hy
      have ht : (U 0#32 == 0) = true := rfl
      rw [tms_none, BitVec.xor_zero] at hr
      have HR := Lib.hid hr
      clear hr hz
      go_wp2
      go_ret
      exact ⟨ret_u32 (by rw [HR.out]), rfl⟩
    · obtain ⟨m, rfl⟩ : ∃ m, gk = m + 1 := by
        cases gk with
        | zero => exact absurd (by simpa using hz) hy
        | succ m => exact ⟨m, rfl⟩
      have ht : (U y == 0) = false := by
        have : ¬ U y = 0 := fun h => hy ((U_ne y).mp h)
        simpa using this
      have l0 := U_lo y
      have l1 := U_hi y
      have HD : Hid (U y * (2 : Int) % (4294967296 : Int) = U (y <<< (1 : Nat))) := Lib.hid (by rw [← U_dbl, IntKind.wrap_u32])
      have HZ : Hid ((y <<< 1) <<< m = 0#32) := Lib.hid (by rw [← BitVec.shiftLeft_add, Nat.add_comm]; exact hz)
      by_cases hb : y.getLsbD 31 = true
      · have htop : (U y / 2147483648 == 1) = true := by rw [top, hb]; rfl
        have HR : Hid ((z ^^^ x) ^^^ tms m (stp x) (y <<< 1) = tms 32 a b) := Lib.hid (by rw [← hr, BitVec.xor_assoc, tms, hb]; rfl)
        have HX := Lib.hid (bits_xor z x)
        clear hr hz hy hb
        go_wp2_with (go_at_call 19; refine (step_any _ _).mono ?_; rintro e w' ⟨rfl, rfl⟩)
        go_roundg m
        case measure => omega
        case rel => exact ⟨rfl, _, y <<< 1, z ^^^ x, rfl, by rw [← HD.out], by rw [← HX.out], HR.out, HZ.out⟩
      · have hb' : y.getLsbD 31 = false := by simpa using hb
        have htop : (U y / 2147483648 == 1) = false := by rw [top, hb']; rfl
        have HR : Hid (z ^^^ tms m (stp x) (y <<< 1) = tms 32 a b) := Lib.hid (by rw [← hr, tms, hb']; simp)
        clear hr hz hy hb hb'
        go_wp2_with (go_at_call 19; refine (step_any _ _).mono ?_; rintro e w' ⟨rfl, rfl⟩)
        go_roundg m
        case measure => omega
        case rel => exact ⟨rfl, _, y <<< 1, z, rfl, by rw [← HD.out], rfl, HR.out, HZ.out⟩
end Go.Proofs.YtcobgidmmfliaaaDoor
