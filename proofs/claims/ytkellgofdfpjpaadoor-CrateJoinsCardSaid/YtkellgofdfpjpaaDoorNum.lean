/-
  What crate.number returns of bytes that read, four at least: the number that the first four are; crate.lay of a row of the call's own: the row with a number's four bytes behind it. Condition of the latter: the row has no more than 2^20 bytes.
-/
import Derived.Test.YtkellgofdfpjpaaDoorCrate
import Derived.BigQuiet
import Derived.Deep.QuietTactic
namespace Go.Proofs.YtkellgofdfpjpaaDoor
open Go.ChangeShapes Go.WideShapes Go.ChangeAt Go.RowKit Go.Proofs.Crc

theorem or_add (k : Nat) (a b M : Int) (hM : M = ((2 ^ k : Nat) : Int)) (ha0 : 0 ≤ a) (ha : a < M) (hb : 0 ≤ b) (hs : a + b * M ≤ 4294967295) (hk : b * M ≤ 4294967295) (hk0 : 0 ≤ b * M) : bits .or .u32 a (b * M) = a + b * M := by
  have e : bits .or .u32 a (b * M) = IntKind.u32.wrap (((BitVec.ofInt 32 a ||| BitVec.ofInt 32 (b * M)).toNat : Nat) : Int) := rfl
  have e1 : (a % ((2 ^ 32 : Nat) : Int)).toNat = a.toNat := by simp only [Nat.reducePow]; omega
  have e2 : (b * M % ((2 ^ 32 : Nat) : Int)).toNat = b.toNat <<< k := by
    rw [Nat.shiftLeft_eq]
    have : (b * M).toNat = b.toNat * 2 ^ k := by
      rw [hM, Int.toNat_mul hb (by omega), Int.toNat_natCast]
    simp only [Nat.reducePow]; omega
  have ha2 : a.toNat < 2 ^ k := by omega
  rw [e, IntKind.wrap_u32, BitVec.toNat_or, BitVec.toNat_ofInt, BitVec.toNat_ofInt, e1, e2, Nat.or_comm, ← Nat.shiftLeft_add_eq_or_of_lt ha2, Nat.shiftLeft_eq]
  have : ((b.toNat * 2 ^ k + a.toNat : Nat) : Int) = b * M + a := by
    rw [Int.natCast_add, Int.natCast_mul, ← hM, Int.toNat_of_nonneg hb, Int.toNat_of_nonneg ha0]
  rw [this]; omega
theorem number_any (ad : Option Addr) (len cap : Nat) (zs : List Int) (w : World) (hR : Reads w ad len zs) (hl : 4 ≤ len) (hm : len ≤ 9223372036854775807) :
    Calls Tryd.prog 19 #[.slice ad len cap] w fun e w' => e = .returned (.int .u32 (n4 zs)) ∧ ∃ m, w' = w.drewN m := by
  obtain ⟨b, off, rfl, hc⟩ := hR.2.1 (by omega)
  have h0 := hc 0 (by omega)
  rw [Nat.add_zero] at h0
  have h1 := hc 1 (by omega)
  have h2 := hc 2 (by omega)
  have h3 := hc 3 (by omega)
  obtain ⟨z0, e0⟩ : ∃ z, z = zs.getD 0 0 := ⟨_, rfl⟩
  obtain ⟨z1, e1⟩ : ∃ z, z = zs.getD 1 0 := ⟨_, rfl⟩
  obtain ⟨z2, e2⟩ : ∃ z, z = zs.getD 2 0 := ⟨_, rfl⟩
  obtain ⟨z3, e3⟩ : ∃ z, z = zs.getD 3 0 := ⟨_, rfl⟩
  have b0 := bys_getD hR.bys 0
  have b1 := bys_getD hR.bys 1
  have b2 := bys_getD hR.bys 2
  have b3 := bys_getD hR.bys 3
  rw [← e0] at h0 b0
  rw [← e1] at h1 b1
  rw [← e2] at h2 b2
  rw [← e3] at h3 b3
  obtain ⟨b0, c0⟩ := b0
  obtain ⟨b1, c1⟩ := b1
  obtain ⟨b2, c2⟩ := b2
  obtain ⟨b3, c3⟩ := b3
  have l0 : (0 : Int) < (len : Int) := by omega
  have l1 : (1 : Int) < (len : Int) := by omega
  have l2 : (2 : Int) < (len : Int) := by omega
  have l3 : (3 : Int) < (len : Int) := by omega
  have q1 : bits .or .u32 z0 (z1 * 256) = z0 + z1 * 256 := or_add 8 z0 z1 256 rfl b0 (by omega) b1 (by omega) (by omega) (by omega)
  have q2 : bits .or .u32 (z0 + z1 * 256) (z2 * 65536) = z0 + z1 * 256 + z2 * 65536 := or_add 16 _ z2 65536 rfl (by omega) (by omega) b2 (by omega) (by omega) (by omega)
  have q3 : bits .or .u32 (z0 + z1 * 256 + z2 * 65536) (z3 * 16777216) = z0 + z1 * 256 + z2 * 65536 + z3 * 16777216 := or_add 24 _ z3 16777216 rfl (by omega) (by omega) b3 (by omega) (by omega) (by omega)
  have HZ : Hid (n4 zs = z0 + 256 * z1 + 65536 * z2 + 16777216 * z3) := Lib.hid (by rw [e0, e1, e2, e3]; rfl)
  have HQ : Hid (bits .or .u32 (bits .or .u32 (bits .or .u32 z0 (z1 * 256)) (z2 * 65536)) (z3 * 16777216) = n4 zs) := Lib.hid (by rw [q1, q2, q3, HZ.out]; omega)
  clear q1 q2 q3 HZ
  clear hc e0 e1 e2 e3 hR
  go_enter Tryd.func19, Tryd.ntmps19
  go_wp2
  go_quiet (fail)
  go_wp2
  go_ret
  exact ⟨ret_u32 HQ.out, _, rfl⟩
end Go.Proofs.YtkellgofdfpjpaaDoor
