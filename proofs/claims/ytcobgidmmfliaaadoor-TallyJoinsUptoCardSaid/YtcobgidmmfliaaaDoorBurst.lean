/-
  The plain mathematics of a turned bit: what it makes of a sum, and that bits within thirty-two in a row do not take each other away. No condition.
-/
import Derived.Test.YtcobgidmmfliaaaDoorWords
namespace Go.Proofs.Crc

theorem fd_diff (a d : BitVec 32) (l : List Int) : fd (a ^^^ d) l = fd a l ^^^ stpN (8 * l.length) d := by
  induction l generalizing a d with
  | nil => rfl
  | cons z l ih =>
    have e1 : fd (a ^^^ d) (z :: l) = fd (stpN 8 ((a ^^^ d) ^^^ B z)) l := rfl
    have e2 : fd a (z :: l) = fd (stpN 8 (a ^^^ B z)) l := rfl
    have e3 : (a ^^^ d) ^^^ B z = (a ^^^ B z) ^^^ d := by rw [BitVec.xor_assoc, BitVec.xor_comm d, ← BitVec.xor_assoc]
    have e4 : 8 * (z :: l).length = 8 + 8 * l.length := by simp; omega
    rw [e1, e2, e3, stpN_xor, ih, e4, stpN_add]
theorem wrap_u8_of (n : Int) (h0 : 0 ≤ n) (h1 : n ≤ 255) : IntKind.u8.wrap n = n := by rw [IntKind.wrap_u8]; omega
theorem xor_u8 (y m : Nat) (hy : y < 256) (hm : m < 256) : bits .xor .u8 (y : Int) (m : Int) = ((y ^^^ m : Nat) : Int) := by
  have hx : y ^^^ m < 256 := Nat.xor_lt_two_pow (n := 8) hy hm
  have : bits .xor .u8 (y : Int) (m : Int) = IntKind.u8.wrap ((BitVec.ofInt 8 (y : Int) ^^^ BitVec.ofInt 8 (m : Int)).toNat : Int) := rfl
  rw [this, BitVec.toNat_xor]
  have e1 : (BitVec.ofInt 8 (y : Int)).toNat = y := by rw [BitVec.ofInt_natCast, BitVec.toNat_ofNat]; exact Nat.mod_eq_of_lt hy
  have e2 : (BitVec.ofInt 8 (m : Int)).toNat = m := by rw [BitVec.ofInt_natCast, BitVec.toNat_ofNat]; exact Nat.mod_eq_of_lt hm
  rw [e1, e2, wrap_u8_of _ (by omega) (by omega)]
theorem B_nat (n : Nat) : B (n : Int) = BitVec.ofNat 32 n := by simp [B]
theorem ofNat_xor (y m : Nat) (hy : y < 256) (hm : m < 256) : BitVec.ofNat 32 (y ^^^ m) = BitVec.ofNat 32 y ^^^ BitVec.ofNat 32 m := by
  have hx : y ^^^ m < 256 := Nat.xor_lt_two_pow (n := 8) hy hm
  apply BitVec.eq_of_toNat_eq
  rw [BitVec.toNat_xor, BitVec.toNat_ofNat, BitVec.toNat_ofNat, BitVec.toNat_ofNat, Nat.mod_eq_of_lt (by omega), Nat.mod_eq_of_lt (by omega), Nat.mod_eq_of_lt (by omega)]
theorem byte_xor (y m : Int) (hy : 0 ≤ y ∧ y ≤ 255) (hm : 0 ≤ m ∧ m ≤ 255) : B (bits .xor .u8 y m) = B y ^^^ B m ∧ 0 ≤ bits .xor .u8 y m ∧ bits .xor .u8 y m ≤ 255 := by
  obtain ⟨a, rfl⟩ := Int.eq_ofNat_of_zero_le hy.1
  obtain ⟨b, rfl⟩ := Int.eq_ofNat_of_zero_le hm.1
  have ha : a < 256 := by omega
  have hb : b < 256 := by omega
  have hx : a ^^^ b < 256 := Nat.xor_lt_two_pow (n := 8) ha hb
  rw [xor_u8 a b ha hb]
  refine ⟨?_, by omega, by omega⟩
  rw [B_nat, B_nat, B_nat, ofNat_xor a b ha hb]
/-- One byte turned by a mask. -/
theorem fd_set (s : BitVec 32) (ys : List Int) (j : Nat) (y m : Int) (hj : j < ys.length) (hy : ys.getD j 0 = y) (hx : B (bits .xor .u8 y m) = B y ^^^ B m) :
    fd s (ys.set j (bits .xor .u8 y m)) = fd s ys ^^^ stpN (8 * (ys.length - j)) (B m) := by
  have e0 : ys[j] = y := by rw [← hy, List.getD_eq_getElem?_getD, List.getElem?_eq_getElem hj]; rfl
  have e1 : ys = ys.take j ++ y :: ys.drop (j + 1) := by
    rw [← e0, ← List.drop_eq_getElem_cons hj, List.take_append_drop]
  have e2 : ys.set j (bits .xor .u8 y m) = ys.take j ++ bits .xor .u8 y m :: ys.drop (j + 1) := List.set_eq_take_append_cons_drop.trans (by rw [if_pos hj])
  have e3 : 8 * (ys.length - j) = 8 + 8 * (ys.drop (j + 1)).length := by rw [List.length_drop]; omega
  have c1 : ∀ z : Int, fd s (ys.take j ++ z :: ys.drop (j + 1)) = fd (stpN 8 (fd s (ys.take j) ^^^ B z)) (ys.drop (j + 1)) := fun z => by rw [fd_append]; rfl
  have c2 : fd s ys = fd (stpN 8 (fd s (ys.take j) ^^^ B y)) (ys.drop (j + 1)) := by rw [← c1]; rw [← e1]
  rw [e2, c1, hx, ← BitVec.xor_assoc, stpN_xor, fd_diff, ← c2, e3, stpN_add]
theorem bit_down : ∀ r, r < 32 → stpN r (BitVec.twoPow 32 r) = 1#32 := by decide +kernel
/-- One bit turned: n: so many bits has the text; k: how far behind the first; a: where the first stands. -/
theorem fd_bit (n a k j r : Nat) (hk : k < 32) (hr : r < 8) (hp : a + k = 8 * j + r) (hn : a + k < 8 * n) :
    stpN (8 * (n - j)) (BitVec.twoPow 32 r) = stpN (8 * n - a) (BitVec.twoPow 32 k) := by
  have e1 : 8 * (n - j) = r + (8 * n - a - k) := by omega
  have e2 : 8 * n - a = k + (8 * n - a - k) := by omega
  rw [e1, stpN_add, bit_down r (by omega)]
  rw [e2, stpN_add, bit_down k hk]
  congr 1
  omega
theorem B_pow (r : Nat) (h : r < 8) : B (2 ^ r : Nat) = BitVec.twoPow 32 r := by
  match r, h with
  | 0, _ | 1, _ | 2, _ | 3, _ | 4, _ | 5, _ | 6, _ | 7, _ => decide +kernel
/-- The bits that were turned so far. -/
theorem turn_new (t : BitVec 32) (k : Nat) (hk : k < 32) (ht : t.toNat < 2 ^ k) : (t ^^^ BitVec.twoPow 32 k).toNat < 2 ^ (k + 1) ∧ t ^^^ BitVec.twoPow 32 k ≠ 0#32 := by
  have hp : (BitVec.twoPow 32 k).toNat = 2 ^ k := by
    rw [BitVec.toNat_twoPow, Nat.mod_eq_of_lt (Nat.pow_lt_pow_right (by decide) hk)]
  have h2 : 2 ^ k < 2 ^ (k + 1) := Nat.pow_lt_pow_right (by decide) (by omega)
  refine ⟨?_, fun h => ?_⟩
  · rw [BitVec.toNat_xor]
    exact Nat.xor_lt_two_pow (by omega) (by omega)
  · have e : t = BitVec.twoPow 32 k := by
      have h' : (t ^^^ BitVec.twoPow 32 k) ^^^ BitVec.twoPow 32 k = 0#32 ^^^ BitVec.twoPow 32 k := by rw [h]
      rwa [BitVec.xor_assoc, BitVec.xor_self, BitVec.xor_zero, BitVec.zero_xor] at h'
    rw [e, hp] at ht
    omega
theorem more_ne (ys zs : List Int) (n : Nat) (t : BitVec 32) (h : ∀ s, fd s ys = fd s zs ^^^ stpN n t) (ht : t ≠ 0#32) : (U (more 0#32 ys) != U (more 0#32 zs)) = true := by
  rw [bne_iff_ne]
  intro e
  have e1 := U_inj e
  unfold more at e1
  have e2 : fd (~~~ 0#32) ys = fd (~~~ 0#32) zs := by
    have := congrArg (fun x => ~~~ x) e1
    simpa using this
  rw [h] at e2
  have e3 : stpN n t = 0#32 := by
    have := congrArg (fun x => fd (~~~ 0#32) zs ^^^ x) e2
    simpa [← BitVec.xor_assoc] using this
  exact ht (stpN_inj n (by rw [e3, stpN_zero]))
theorem bit_k (v : BitVec 32) (k : Nat) : bits .and .u32 (U v / (2 : Int) ^ k) 1 = if v.getLsbD k then 1 else 0 := by
  have e : U v / (2 : Int) ^ k = U (v >>> k) := by
    unfold U
    rw [BitVec.toNat_ushiftRight, Nat.shiftRight_eq_div_pow, Int.natCast_ediv, Int.natCast_pow]; rfl
  rw [e, bit0]
  simp
end Go.Proofs.Crc
