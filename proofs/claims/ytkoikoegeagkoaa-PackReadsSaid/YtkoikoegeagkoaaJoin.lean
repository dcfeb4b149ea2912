/-
  What pack.join and the document's own number return of a slice of bytes that reads: the number that they are, the highest first, as far as 64 bits go. No condition.
-/
import Derived.Test.YtkoikoegeagkoaaREnc
namespace Go.Proofs.Ytkoikoegeagkoaa
open Go.ChangeShapes Go.WideShapes Go.ChangeAt Go.RowKit

theorem join_bits (N z : Int) (h0 : 0 ≤ z) (h1 : z ≤ 255) : bits .or .i64 (wrap64 (wrap64 N * 256)) z = wrap64 (N * 256 + z) := by
  have e : bits .or .i64 (wrap64 (wrap64 N * 256)) z = IntKind.i64.wrap (((BitVec.ofInt 64 (wrap64 (wrap64 N * 256)) ||| BitVec.ofInt 64 z).toNat : Nat) : Int) := rfl
  rw [e, IntKind.wrap_i64, BitVec.toNat_or, BitVec.toNat_ofInt, BitVec.toNat_ofInt]
  have e1 : (wrap64 (wrap64 N * 256) % ((2 ^ 64 : Nat) : Int)).toNat = (N % 72057594037927936).toNat <<< 8 := by
    rw [Nat.shiftLeft_eq]; unfold wrap64; simp only [Nat.reducePow]; omega
  have e2 : (z % ((2 ^ 64 : Nat) : Int)).toNat = z.toNat := by simp only [Nat.reducePow]; omega
  rw [e1, e2, ← Nat.shiftLeft_add_eq_or_of_lt (show z.toNat < 2 ^ 8 by omega), Nat.shiftLeft_eq]
  unfold wrap64
  omega
theorem num_snoc (l : List Int) (z : Int) : num (l ++ [z]) = num l * 256 + z := by simp [num]
theorem take_next (zs : List Int) (k : Nat) (h : k < zs.length) : zs.take (k + 1) = zs.take k ++ [zs.getD k 0] := by
  rw [List.take_succ_eq_append_getElem h, List.getD_eq_getElem?_getD, List.getElem?_eq_getElem h]; rfl
theorem num_next (zs : List Int) (k : Nat) (h : k < zs.length) : num (zs.take (k + 1)) = num (zs.take k) * 256 + zs.getD k 0 := by rw [take_next zs k h, num_snoc]
theorem bys_getD {zs : List Int} (h : Bys zs) (k : Nat) : 0 ≤ zs.getD k 0 ∧ zs.getD k 0 ≤ 255 := by
  rw [List.getD_eq_getElem?_getD]
  by_cases hk : k < zs.length
  · rw [List.getElem?_eq_getElem hk]; exact h _ (List.getElem_mem hk)
  · rw [List.getElem?_eq_none (by omega)]; decide
theorem join_any (ad : Option Addr) (len cap : Nat) (zs : List Int) (w : World) (hR : Reads .u8 w ad len zs) (hB : Bys zs) (hm : len ≤ 9223372036854775807) :
    Calls Try.prog 26 #[.slice ad len cap] w fun e w' => e = .returned (.int .i64 (wrap64 (num zs))) ∧ w = w' := by
  have hl := hR.1
  have HL := Lib.hid hl
  have HR := Lib.hid hR
  have HB := Lib.hid hB
  clear hR hB hl
  go_enter Try.func26, Try.ntmps26
  go_wp2
  go_loop [3, 8] (fun c i => ∃ (k : Nat) (n : Int), k ≤ len ∧ i = .int .i64 k ∧ c = .int .i64 n ∧ n = wrap64 (num (zs.take k))) (fun _ i => len - (intOf i).toNat)
  case atStart => exact ⟨0, 0, Nat.zero_le _, rfl, rfl, by simp [num, wrap64]⟩
  case round =>
    obtain ⟨k, n, hk, rfl, rfl, hn⟩ := hrel
    have HN := Lib.hid hn
    clear hn
    by_cases hlt : k < len
    · obtain ⟨b, off, rfl, hcell⟩ := HR.out.2 (by omega)
      have hx := hcell k hlt
      have hz := bys_getD HB.out k
      obtain ⟨z, hzz⟩ : ∃ z, z = zs.getD k 0 := ⟨_, rfl⟩
      rw [← hzz] at hx hz
      have hz0 := hz.1
      have hz1 := hz.2
      obtain ⟨y, hy⟩ : ∃ y, y = wrap64 (num (zs.take (k + 1))) := ⟨_, rfl⟩
      have HY := Lib.hid hy
      have e1 : bits .or .i64 (wrap64 (n * 256)) z = y := by
        rw [hy, num_next zs k (by rw [HL.out]; exact hlt), ← hzz, HN.out, join_bits _ _ hz0 hz1]
      clear hzz hz hcell hy
      go_wp2
      go_round
      case rel => exact ⟨k + 1, y, by omega, by go_num, rfl, HY.out⟩
      case measure => simp [intOf]; omega
    · obtain rfl : k = len := by omega
      go_wp2
      go_ret
      exact ⟨ret_i64 (by rw [HN.out, List.take_of_length_le (by rw [HL.out]; exact Nat.le_refl _)]), rfl⟩
theorem ret_u64 {a b : Int} (h : a = b) : Ending.returned (.int .u64 a) = .returned (.int .u64 b) := by rw [h]
theorem number_any (ad : Option Addr) (len cap : Nat) (zs : List Int) (w : World) (hR : Reads .u8 w ad len zs) (hB : Bys zs) (hm : len ≤ 9223372036854775807) :
    Calls Try.prog 23 #[.slice ad len cap] w fun e w' => e = .returned (.int .u64 (num zs % 18446744073709551616)) ∧ w = w' := by
  have hl := hR.1
  have HL := Lib.hid hl
  have HR := Lib.hid hR
  have HB := Lib.hid hB
  clear hR hB hl
  go_enter Try.func23, Try.ntmps23
  go_wp2
  go_loop [3, 4] (fun c i => ∃ (k : Nat) (n : Int), k ≤ len ∧ i = .int .i64 k ∧ c = .int .u64 n ∧ 0 ≤ n ∧ n = num (zs.take k) % 18446744073709551616) (fun _ i => len - (intOf i).toNat)
  case atStart => exact ⟨0, 0, Nat.zero_le _, rfl, rfl, by omega, rfl⟩
  case round =>
    obtain ⟨k, n, hk, rfl, rfl, hn0, hn⟩ := hrel
    have HN := Lib.hid hn
    clear hn
    by_cases hlt : k < len
    · obtain ⟨b, off, rfl, hcell⟩ := HR.out.2 (by omega)
      have hx := hcell k hlt
      have hz := bys_getD HB.out k
      obtain ⟨z, hzz⟩ : ∃ z, z = zs.getD k 0 := ⟨_, rfl⟩
      rw [← hzz] at hx hz
      have hz0 := hz.1
      have hz1 := hz.2
      obtain ⟨y, hy⟩ : ∃ y, y = num (zs.take (k + 1)) % 18446744073709551616 := ⟨_, rfl⟩
      have hy0 : 0 ≤ y := by omega
      have HY := Lib.hid hy
      have e1 : IntKind.u64.wrap (IntKind.u64.wrap (n * 256) + z) = y := by
        have := HN.out
        rw [hy, num_next zs k (by rw [HL.out]; exact hlt), ← hzz, IntKind.wrap_u64, IntKind.wrap_u64]; omega
      clear hzz hz hcell hy
      go_wp2
      go_round
      case rel => exact ⟨k + 1, y, by omega, by go_num, rfl, hy0, HY.out⟩
      case measure => simp [intOf]; omega
    · obtain rfl : k = len := by omega
      go_wp2
      go_ret
      exact ⟨ret_u64 (by rw [HN.out, List.take_of_length_le (by rw [HL.out]; exact Nat.le_refl _)]), rfl⟩
end Go.Proofs.Ytkoikoegeagkoaa
