/-
  A number of 32 bits as the Int that Go's value bears: what the model's operations on such Ints are in bits. No condition.
-/
import Derived.Test.YtkellgofdfpjpaaDoorMath
import Derived.Laws.BitsLemmas
namespace Go.Proofs.Crc

/-- The Int of a number of 32 bits. -/
def U (v : BitVec 32) : Int := (v.toNat : Int)
theorem U_lo (v : BitVec 32) : 0 ≤ U v := Int.natCast_nonneg _
theorem U_hi (v : BitVec 32) : U v ≤ 4294967295 := by unfold U; have := v.isLt; omega
theorem U_inj {a b : BitVec 32} (h : U a = U b) : a = b := by
  unfold U at h; exact BitVec.eq_of_toNat_eq (by omega)
theorem U_of (x : Int) (h0 : 0 ≤ x) (h1 : x ≤ 4294967295) : U (BitVec.ofInt 32 x) = x := by
  obtain ⟨n, rfl⟩ := Int.eq_ofNat_of_zero_le h0
  unfold U
  simp only [BitVec.ofInt_natCast, BitVec.toNat_ofNat]
  rw [Nat.mod_eq_of_lt (by omega)]
theorem U_B (z : Int) (h0 : 0 ≤ z) (h1 : z ≤ 255) : U (B z) = z := U_of z h0 (by omega)
theorem wrap_U (v : BitVec 32) : IntKind.u32.wrap (U v) = U v := by
  rw [IntKind.wrap_u32]; have := U_lo v; have := U_hi v; omega
theorem ofInt_U (v : BitVec 32) : BitVec.ofInt 32 (U v) = v := by simp [U]
theorem bits_xor (a b : BitVec 32) : bits .xor .u32 (U a) (U b) = U (a ^^^ b) := by
  have : bits .xor .u32 (U a) (U b) = IntKind.u32.wrap (U (BitVec.ofInt 32 (U a) ^^^ BitVec.ofInt 32 (U b))) := rfl
  rw [this, wrap_U, ofInt_U, ofInt_U]
theorem bits_and (a b : BitVec 32) : bits .and .u32 (U a) (U b) = U (a &&& b) := by
  have : bits .and .u32 (U a) (U b) = IntKind.u32.wrap (U (BitVec.ofInt 32 (U a) &&& BitVec.ofInt 32 (U b))) := rfl
  rw [this, wrap_U, ofInt_U, ofInt_U]
theorem U_half (a : BitVec 32) : U a / (2 : Int) = U (a >>> (1 : Nat)) := by
  unfold U; rw [BitVec.toNat_ushiftRight, Nat.shiftRight_eq_div_pow]; omega
theorem U_sixteenth (a : BitVec 32) : U a / (16 : Int) = U (a >>> (4 : Nat)) := by
  unfold U; rw [BitVec.toNat_ushiftRight, Nat.shiftRight_eq_div_pow]; omega
theorem U_not (a : BitVec 32) : 4294967295 - U a = U (~~~ a) := by
  unfold U; rw [BitVec.toNat_not]; have := a.isLt; omega
theorem U_G : U G = 2197175160 := rfl
theorem bit0 (a : BitVec 32) : bits .and .u32 (U a) 1 = if a.getLsbD 0 then 1 else 0 := by
  have e : bits .and .u32 (U a) 1 = U (a &&& 1#32) := bits_and a 1#32
  rw [e]; unfold U
  rw [BitVec.toNat_and, BitVec.getLsbD, Nat.testBit_zero]
  have : (1#32).toNat = 2 ^ 1 - 1 := rfl
  rw [this, Nat.and_two_pow_sub_one_eq_mod]
  have := Nat.mod_two_eq_zero_or_one a.toNat
  rcases this with h | h <;> simp [h]
theorem rem0 (a : BitVec 32) : U a % (2 : Int) = if a.getLsbD 0 then 1 else 0 := by
  unfold U
  rw [BitVec.getLsbD, Nat.testBit_zero]
  have := Nat.mod_two_eq_zero_or_one a.toNat
  rcases this with h | h <;> simp [h] <;> omega
theorem top (a : BitVec 32) : U a / (2147483648 : Int) = if a.getLsbD 31 then 1 else 0 := by
  unfold U
  rw [BitVec.getLsbD, Nat.testBit, Nat.shiftRight_eq_div_pow, Nat.and_comm, Nat.and_one_is_mod]
  have := a.isLt
  have h : a.toNat / 2 ^ 31 = 0 ∨ a.toNat / 2 ^ 31 = 1 := by omega
  rcases h with h | h <;> simp [h] <;> omega
theorem U_dbl (a : BitVec 32) : IntKind.u32.wrap (U a * (2 : Int)) = U (a <<< (1 : Nat)) := by
  rw [IntKind.wrap_u32]; unfold U; rw [BitVec.toNat_shiftLeft, Nat.shiftLeft_eq]; omega
theorem U_ne (a : BitVec 32) : U a = 0 ↔ a = 0#32 := ⟨fun h => U_inj h, fun h => by rw [h]; rfl⟩
theorem stp_hit {a : BitVec 32} (h : a.getLsbD 0 = true) : bits .xor .u32 (U a / (2 : Int)) 2197175160 = U (stp a) := by
  rw [U_half, ← U_G, bits_xor]; unfold stp; rw [h]; rfl
theorem stp_miss {a : BitVec 32} (h : a.getLsbD 0 = false) : U a / (2 : Int) = U (stp a) := by
  rw [U_half]; unfold stp; rw [h]; simp
end Go.Proofs.Crc
