/-
  What ledger.join returns of bytes that read, no more than four; ledger.length of a number; ledger.lay of a row of the call's own and a string. Condition: the row has no more than 2^31 bytes, the string no more than 4096.
-/
import Derived.Test.YtdbpnfceabklkaaCrash
import Derived.Test.YtdbpnfceabklkaaRead
import Derived.Test.YtdbpnfceabklkaaSync
import Derived.Test.YtdbpnfceabklkaaSub
import Derived.Test.YtdbpnfceabklkaaLed4
namespace Go.Proofs.Ytdbpnfceabklkaa
open Go.ChangeShapes Go.WideShapes Go.ChangeAt Go.RowKit

theorem or_add (k : Nat) (a b M : Int) (hM : M = ((2 ^ k : Nat) : Int)) (ha0 : 0 ≤ a) (ha : a < M) (hb : 0 ≤ b) (hs : a + b * M ≤ 4294967295) (hk0 : 0 ≤ b * M) : bits .or .i64 a (b * M) = a + b * M := by
  have e : bits .or .i64 a (b * M) = IntKind.i64.wrap (((BitVec.ofInt 64 a ||| BitVec.ofInt 64 (b * M)).toNat : Nat) : Int) := rfl
  have e1 : (a % ((2 ^ 64 : Nat) : Int)).toNat = a.toNat := by simp only [Nat.reducePow]; omega
  have e2 : (b * M % ((2 ^ 64 : Nat) : Int)).toNat = b.toNat <<< k := by
    rw [Nat.shiftLeft_eq]
    have : (b * M).toNat = b.toNat * 2 ^ k := by
      rw [hM, Int.toNat_mul hb (by omega), Int.toNat_natCast]
    simp only [Nat.reducePow]; omega
  have ha2 : a.toNat < 2 ^ k := by omega
  rw [e, BitVec.toNat_or, BitVec.toNat_ofInt, BitVec.toNat_ofInt, e1, e2, Nat.or_comm, ← Nat.shiftLeft_add_eq_or_of_lt ha2, Nat.shiftLeft_eq]
  have : ((b.toNat * 2 ^ k + a.toNat : Nat) : Int) = b * M + a := by
    rw [Int.natCast_add, Int.natCast_mul, ← hM, Int.toNat_of_nonneg hb, Int.toNat_of_nonneg ha0]
  rw [this, IntKind.wrap_i64]; omega
theorem le_take_succ (zs : List Int) (k : Nat) (h : k < zs.length) : le (zs.take (k + 1)) = le (zs.take k) + zs.getD k 0 * 256 ^ k := by
  rw [List.take_succ_eq_append_getElem h, le_snoc, List.length_take, Nat.min_eq_left (by omega), getD_eq _ h, Int.mul_comm]
theorem le_take_hi {zs : List Int} (hB : Bys zs) (k : Nat) : 0 ≤ le (zs.take k) ∧ le (zs.take k) < 256 ^ (zs.take k).length := ⟨le_lo (bys_take k hB), le_hi (bys_take k hB)⟩
set_option maxHeartbeats 1000000 in
theorem join_any (A : Option Addr) (len cap : Nat) (zs : List Int) (w : World) (hR : Reads w A len zs) (hl : len ≤ 4) :
    Calls Try.prog 45 #[.slice A len cap] w fun e w' => e = .returned (.int .i64 (le zs)) ∧ w = w' := by
  have HR := Lib.hid hR
  have HB := Lib.hid hR.bys
  have HL := Lib.hid hR.1
  clear hR
  go_enter Try.func45, Try.ntmps45
  go_wp2
  go_loop [3, 8] (fun n i => ∃ k : Nat, k ≤ len ∧ i = .int .i64 k ∧ n = .int .i64 (le (zs.take k))) (fun _ i => len - (intOf i).toNat)
  case atStart => exact ⟨0, Nat.zero_le _, rfl, rfl⟩
  case round =>
    obtain ⟨k, hk, rfl, rfl⟩ := hrel
    by_cases hlt : k < len
    · obtain ⟨b, off, rfl, hc⟩ := HR.out.2.1 (by omega)
      have hck := hc k hlt
      obtain ⟨z, hz⟩ : ∃ z, z = zs.getD k 0 := ⟨_, rfl⟩
      obtain ⟨a, ha⟩ : ∃ a, a = le (zs.take k) := ⟨_, rfl⟩
      have hzb := bys_getD HB.out k
      have hab := le_take_hi HB.out k
      have hnx := le_take_succ zs k (by rw [HL.out]; exact hlt)
      have hkl : (zs.take k).length = k := by rw [List.length_take, HL.out]; omega
      rw [hkl] at hab
      rw [← hz] at hck hzb hnx
      rw [← ha] at hab hnx ⊢
      have HN := Lib.hid hnx
      obtain ⟨z0, z1⟩ := hzb
      obtain ⟨a0, a1⟩ := hab
      clear hc hnx hz ha hkl
      have hcase : k = 0 ∨ k = 1 ∨ k = 2 ∨ k = 3 := by omega
      rcases hcase with rfl | rfl | rfl | rfl
      · have q : bits .or .i64 a z = a + z * 256 ^ 0 := by
          have := or_add 0 a z 1 rfl a0 (by omega) z0 (by omega) (by omega)
          simpa using this
        have HQ : Hid (bits .or .i64 a z = le (zs.take 1)) := Lib.hid (q.trans HN.out.symm)
        clear q
        rw [Nat.add_zero] at hck
        go_wp2
        go_round
        case rel => exact ⟨1, by omega, by go_num, by rw [HQ.out]⟩
        case measure => simp [intOf]; omega
      · have HQ : Hid (bits .or .i64 a (z * 256) = le (zs.take 2)) := Lib.hid ((or_add 8 a z 256 rfl a0 (by omega) z0 (by omega) (by omega)).trans HN.out.symm)
        go_wp2
        go_round
        case rel => exact ⟨2, by omega, by go_num, by rw [HQ.out]⟩
        case measure => simp [intOf]; omega
      · have HQ : Hid (bits .or .i64 a (z * 65536) = le (zs.take 3)) := Lib.hid ((or_add 16 a z 65536 rfl a0 (by omega) z0 (by omega) (by omega)).trans HN.out.symm)
        go_wp2
        go_round
        case rel => exact ⟨3, by omega, by go_num, by rw [HQ.out]⟩
        case measure => simp [intOf]; omega
      · have HQ : Hid (bits .or .i64 a (z * 16777216) = le (zs.take 4)) := Lib.hid ((or_add 24 a z 16777216 rfl a0 (by omega) z0 (by omega) (by omega)).trans HN.out.symm)
        go_wp2
        go_round
        case rel => exact ⟨4, by omega, by go_num, by rw [HQ.out]⟩
        case measure => simp [intOf]; omega
    · obtain rfl : k = len := by omega
      have HT : Hid (zs.take k = zs) := Lib.hid (List.take_of_length_le (by rw [HL.out]; exact Nat.le_refl _))
      go_wp2
      go_ret
      exact ⟨ret_i (by rw [HT.out]), rfl⟩
theorem length_any (n : Nat) (w : World) (h : n ≤ 2147483647) :
    Calls Try.prog 53 #[.int .i64 (n : Int)] w fun e w' => e = .returned (.slice (some ⟨w.heap.size, 0, none⟩) 4 4) ∧ w.alloc (.cells (ints (le4 n)).toArray 5) = w' := by
  have h0 : (0 : Int) ≤ (n : Int) := by omega
  have h1 : (n : Int) ≤ 2147483647 := by omega
  have HE : Hid ((ints (le4 n)).toArray = #[Value.int .u8 ((n : Int) % 256), .int .u8 ((n : Int) / 256 % 256), .int .u8 ((n : Int) / 65536 % 256), .int .u8 ((n : Int) / 16777216)]) := Lib.hid (by
    have e : (n : Int) / 16777216 % 256 = (n : Int) / 16777216 := by omega
    simp only [le4, e]; rfl)
  go_enter Try.func53, Try.ntmps53
  go_wp2
  go_ret
  exact ⟨rfl, by rw [HE.out]⟩
end Go.Proofs.Ytdbpnfceabklkaa
