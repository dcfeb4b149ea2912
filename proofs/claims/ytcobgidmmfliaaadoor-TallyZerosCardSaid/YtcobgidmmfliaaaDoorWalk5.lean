/-
  What Zeros returns: the state behind so many bytes 0; it makes memory of its own, older memory is as it was. No condition.
-/
import Derived.Test.YtcobgidmmfliaaaDoorWalk4
namespace Go.Proofs.YtcobgidmmfliaaaDoor
open Go.ChangeShapes Go.WideShapes Go.ChangeAt Go.RowKit Go.Proofs.Crc

theorem and1_i64 (x : Int) (h0 : 0 ≤ x) (h1 : x ≤ 9223372036854775807) : bits .and .i64 x 1 = x % (2 : Int) := by
  have h := bits_mask .i64 63 (by decide) (fun n h₀ h₁ => by rw [IntKind.wrap_i64]; omega) 1 (by decide) x h0 (by omega)
  simpa using h
theorem zeros_odd (e : Nat) (x : Int) (s : BitVec 32) (h0 : 0 < x) (ho : x % (2 : Int) = 1) : stpN (2 * e * (x / 2).toNat) (stpN e s) = stpN (e * x.toNat) s := by
  rw [← stpN_add]
  congr 1
  obtain ⟨n, rfl⟩ := Int.eq_ofNat_of_zero_le (Int.le_of_lt h0)
  have e1 : ((n : Int) / 2).toNat = n / 2 := by omega
  have e2 : (n : Int).toNat = n := by omega
  have e3 : n = 2 * (n / 2) + 1 := by omega
  rw [e1, e2]
  generalize n / 2 = q at e3
  subst e3
  rw [Nat.mul_add, Nat.mul_one, Nat.mul_comm 2 e, Nat.mul_assoc]
  omega
theorem zeros_even (e : Nat) (x : Int) (s : BitVec 32) (h0 : 0 < x) (ho : x % (2 : Int) = 0) : stpN (2 * e * (x / 2).toNat) s = stpN (e * x.toNat) s := by
  congr 1
  obtain ⟨n, rfl⟩ := Int.eq_ofNat_of_zero_le (Int.le_of_lt h0)
  have e1 : ((n : Int) / 2).toNat = n / 2 := by omega
  have e2 : (n : Int).toNat = n := by omega
  have e3 : n = 2 * (n / 2) := by omega
  rw [e1, e2]
  generalize n / 2 = q at e3
  subst e3
  rw [Nat.mul_comm 2 e, Nat.mul_assoc]
/-- The product with a power of the number that stands for 1 is so many steps. -/
theorem times_pow (e : Nat) (s : BitVec 32) (w : World) :
    Calls Tryd.prog 18 #[.int .u32 (U s), .int .u32 (U (stpN e one))] w fun r w' => r = .returned (.int .u32 (U (stpN e s))) ∧ w = w' := by
  have h := times_any s (stpN e one) w
  rw [tms_pow] at h
  exact h
theorem zeros_fn (b : Nat) (e : Nat) (w : World) (hb : w.heap[b]? = some (.cells #[.int .u32 (U (stpN e one))] 24 (0, 0))) :
    Calls Tryd.prog 17 #[.pointer (some ⟨b, 0, none⟩)] w fun r w' => r = .returned (.tuple #[]) ∧ w'.heap[b]? = some (.cells #[.int .u32 (U (stpN (2 * e) one))] 24 (0, 0)) ∧ Below b w w' := by
  have hc := cell_of_one hb
  have hf := free_of_one hb
  have HB := Lib.hid hb
  have HE := Lib.hid (tms_sq e)
  clear hb
  go_enter Tryd.func17, Tryd.ntmps17
  go_wp2_with fail
  refine (times_any _ _ _).mono ?_
  rintro r w' ⟨rfl, rfl⟩
  go_wp2_with fail
  go_end0
  exact ⟨rfl, by rw [one_setCell HB.out, HE.out], (Below.refl b w).setCell (p := ⟨b, 0, none⟩) (Nat.le_refl b) _⟩
/-- What the loop of Zeros keeps: B is the block of the power. -/
def ZRel (B : Nat) (w : World) (r : BitVec 32) (c j : Value) (wr : World) : Prop :=
  ∃ (s : BitVec 32) (x : Int) (e : Nat), c = .int .u32 (U s) ∧ j = .int .i64 x ∧ x ≤ 9223372036854775807 ∧ stpN (e * x.toNat) s = r ∧
    wr.heap[B]? = some (.cells #[.int .u32 (U (stpN e one))] 24 (0, 0)) ∧ Below B w wr
theorem zeros_any (v : BitVec 32) (n : Int) (w : World) (hn : n ≤ 9223372036854775807) :
    Calls Tryd.prog 15 #[.int .u32 (U v), .int .i64 n] w fun e w' => e = .returned (.int .u32 (U (~~~ (stpN (8 * n.toNat) (~~~ v))))) ∧ Below w.heap.size w w' := by
  go_enter Tryd.func15, Tryd.ntmps15
  go_wp2_with fail
  go_loopw [0, 1] (fun c j wr => ZRel w.heap.size w (stpN (8 * n.toNat) (~~~ v)) c j wr) (fun _ j _ => (intOf j).toNat)
  case atStart =>
    refine ⟨~~~ v, n, 8, by rw [max_xor], rfl, hn, rfl, ?_, (Below.refl _ _).alloc (Nat.le_refl _) _⟩
    rw [pow8]
    exact heap_alloc_new _ _
  case round =>
    obtain ⟨s, x, e, rfl, rfl, hx, hr, hblk, hb⟩ := hrel
    have hc := cell_of_one hblk
    have HK := Lib.hid hblk
    have HB := Lib.hid hb
    clear hb hblk
    by_cases hpos : 0 < x
    · by_cases ho : x % (2 : Int) = 1
      · have HR : Hid (stpN (2 * e * (x / 2).toNat) (stpN e s) = stpN (8 * n.toNat) (~~~ v)) := Lib.hid (by rw [zeros_odd e x s hpos ho]; exact hr)
        have ht : (bits .and .i64 x 1 == 1) = true := by rw [and1_i64 x (by omega) hx, ho]; rfl
        clear hr ho
        go_wp2_with fail
        refine (times_pow _ _ _).mono ?_
        rintro r w' ⟨rfl, rfl⟩
        go_wp2_with fail
        refine (zeros_fn _ e _ HK.out).mono ?_
        rintro r w' ⟨rfl, hk', hb'⟩
        have HK' := Lib.hid hk'
        have HB' := Lib.hid hb'
        clear hk' hb'
        go_wp2_with fail
        go_roundw
        case rel => exact ⟨_, x / 2, 2 * e, rfl, rfl, by omega, HR.out, HK'.out, HB.out.trans HB'.out⟩
        case measure => simp [intOf]; omega
      · have ho' : x % (2 : Int) = 0 := by omega
        have HR : Hid (stpN (2 * e * (x / 2).toNat) s = stpN (8 * n.toNat) (~~~ v)) := Lib.hid (by rw [zeros_even e x s hpos ho']; exact hr)
        have ht : (bits .and .i64 x 1 == 1) = false := by rw [and1_i64 x (by omega) hx, ho']; rfl
        clear hr ho ho'
        go_wp2_with fail
        refine (zeros_fn _ e _ HK.out).mono ?_
        rintro r w' ⟨rfl, hk', hb'⟩
        have HK' := Lib.hid hk'
        have HB' := Lib.hid hb'
        clear hk' hb'
        go_wp2_with fail
        go_roundw
        case rel => exact ⟨_, x / 2, 2 * e, rfl, rfl, by omega, HR.out, HK'.out, HB.out.trans HB'.out⟩
        case measure => simp [intOf]; omega
    · have hz : x.toNat = 0 := by omega
      have HR : Hid (s = stpN (8 * n.toNat) (~~~ v)) := Lib.hid (by rw [← hr, hz]; rfl)
      clear hr hz
      go_wp2_with fail
      go_ret
      exact ⟨ret_u32 (by rw [max_xor, ← HR.out]), HB.out⟩
end Go.Proofs.YtcobgidmmfliaaaDoor
