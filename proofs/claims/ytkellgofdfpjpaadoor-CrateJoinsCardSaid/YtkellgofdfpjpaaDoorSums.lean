/-
  What More and Sum of tally, and the document's own, return of a slice of bytes that reads as a list of numbers. Condition: the table's cells hold what its initialiser lays.
-/
import Derived.Test.YtkellgofdfpjpaaDoorWords
import Derived.Test.YtkellgofdfpjpaaDoorRows
import Derived.WalkKit
import Derived.ProofKit
import Derived.OpenShut
import Derived.Lib.Hide
import Derived.Outline
import Derived.Deep.LoopGhost
namespace Go.Proofs.YtkellgofdfpjpaaDoor
open Go.ChangeShapes Go.WideShapes Go.ChangeAt Go.RowKit Go.Proofs.Crc

theorem ret_u32 {a b : Int} (h : a = b) : Ending.returned (.int .u32 a) = .returned (.int .u32 b) := by rw [h]
theorem rstep_any (v : BitVec 32) (w : World) :
    Calls Tryd.prog 26 #[.int .u32 (U v)] w fun e w' => e = .returned (.int .u32 (U (stp v))) ∧ w = w' := by
  have h0 := U_lo v
  have h1 := U_hi v
  by_cases h : v.getLsbD 0 = true
  · have ht : U v % 2 = 1 := by rw [rem0, h]; rfl
    have hs := Lib.hid (stp_hit h)
    clear h
    go_enter Tryd.func26, Tryd.ntmps26
    go_wp2
    go_ret
    exact ⟨ret_u32 hs.out, rfl⟩
  · have h' : v.getLsbD 0 = false := by simpa using h
    have ht : U v % 2 = 0 := by rw [rem0, h']; rfl
    have hs := Lib.hid (stp_miss h')
    clear h h'
    go_enter Tryd.func26, Tryd.ntmps26
    go_wp2
    go_ret
    exact ⟨ret_u32 hs.out, rfl⟩

/-- Memory holds, from an address on, so many bytes. -/
def Reads (w : World) (ad : Option Addr) (len : Nat) (zs : List Int) : Prop :=
  zs.length = len ∧ (0 < len → ∃ b off, ad = some ⟨b, off, none⟩ ∧ ∀ i, i < len → w.cell? ⟨b, off + i, none⟩ = some (.int .u8 (zs.getD i 0))) ∧ ∀ i, 0 ≤ zs.getD i 0 ∧ zs.getD i 0 ≤ 255
/-- The table of four steps lies in the first variable's cells. -/
def Table (w : World) : Prop := ∀ k, k < 16 → w.cell? ⟨0, k, none⟩ = some (.int .u32 (U (t4 k)))

theorem nib_parts (x : BitVec 32) : ∃ (k : Nat) (y x' : BitVec 32), k < 16 ∧ bits .and .u32 (U x) 15 = (k : Int) ∧ U x / (16 : Int) = U y ∧ bits .xor .u32 (U (t4 k)) (U y) = U x' ∧ x' = nib x := by
  refine ⟨(x &&& 15#32).toNat, x >>> 4, nib x, and15_lt x, ?_, U_sixteenth x, bits_xor _ _, rfl⟩
  exact bits_and x 15#32
theorem take_next (zs : List Int) (k : Nat) (h : k < zs.length) : zs.take (k + 1) = zs.take k ++ [zs.getD k 0] := by
  rw [List.take_succ_eq_append_getElem h, List.getD_eq_getElem?_getD, List.getElem?_eq_getElem h]; rfl
theorem max_xor (v : BitVec 32) : bits BinOp.xor IntKind.u32 IntKind.u32.max (U v) = U (~~~ v) := by
  have e : IntKind.u32.max = U (BitVec.allOnes 32) := rfl
  rw [e, bits_xor, BitVec.allOnes_xor]
theorem more_any (v : BitVec 32) (ad : Option Addr) (len cap : Nat) (zs : List Int) (w : World) (hR : Reads w ad len zs) (hT : Table w) (hm : len ≤ 9223372036854775807) :
    Calls Tryd.prog 22 #[.int .u32 (U v), .slice ad len cap] w fun e w' => e = .returned (.int .u32 (U (more v zs))) ∧ w = w' := by
  obtain ⟨hl, hc, hb⟩ := hR
  have HL := Lib.hid hl
  have HC := Lib.hid hc
  have HB := Lib.hid hb
  have HT := Lib.hid hT
  clear hl hc hb hT
  go_enter Tryd.func22, Tryd.ntmps22
  go_wp2
  go_loop [0, 11] (fun c i => ∃ k : Nat, k ≤ len ∧ i = .int .i64 k ∧ c = .int .u32 (U (fd (~~~ v) (zs.take k)))) (fun _ i => len - (intOf i).toNat)
  case atStart => exact ⟨0, Nat.zero_le _, rfl, by rw [max_xor]; rfl⟩
  case round =>
    obtain ⟨k, hk, rfl, rfl⟩ := hrel
    by_cases hlt : k < len
    · obtain ⟨b, off, rfl, hcell⟩ := HC.out (by omega)
      have hx := hcell k hlt
      have hz := HB.out k
      obtain ⟨z, hzz⟩ : ∃ z, z = zs.getD k 0 := ⟨_, rfl⟩
      rw [← hzz] at hx hz
      obtain ⟨s, hs⟩ : ∃ s, s = fd (~~~ v) (zs.take k) := ⟨_, rfl⟩
      obtain ⟨x1, hx1⟩ : ∃ x1, x1 = s ^^^ B z := ⟨_, rfl⟩
      have e1 : bits BinOp.xor IntKind.u32 (U s) z = U x1 := by
        rw [hx1, ← bits_xor, U_B z hz.1 hz.2]
      obtain ⟨k1, y1, x2, hk1, e2, e3, e4, hx2⟩ := nib_parts x1
      obtain ⟨k2, y2, x3, hk2, e5, e6, e7, hx3⟩ := nib_parts x2
      have c1 := HT.out k1 hk1
      have c2 := HT.out k2 hk2
      have HX : Hid (x3 = fd (~~~ v) (zs.take (k + 1))) := Lib.hid (by
        rw [take_next zs k (by rw [HL.out]; exact hlt), fd_snoc, ← hzz, ← hs, ← hx1, hx3, hx2, nib_nib])
      rw [← hs]
      have hz0 := hz.1
      have hz1 := hz.2
      clear hx1 hx2 hx3 hs hzz hz hcell
      go_wp2
      go_round
      case rel => exact ⟨k + 1, by omega, by go_num, by rw [← HX.out]⟩
      case measure => simp [intOf]; omega
    · obtain rfl : k = len := by omega
      go_wp2
      go_ret
      exact ⟨ret_u32 (by rw [max_xor, List.take_of_length_le (by rw [HL.out]; exact Nat.le_refl _)]; rfl), rfl⟩

theorem stp8 (k : Nat) (x : BitVec 32) (h : k < 8) : stpN (8 - k) x = stpN (8 - (k + 1)) (stp x) := by
  obtain ⟨m, hm⟩ : ∃ m, 8 - k = m + 1 := ⟨7 - k, by omega⟩
  have : 8 - (k + 1) = m := by omega
  rw [hm, this]; rfl
theorem rmore_any (v : BitVec 32) (ad : Option Addr) (len cap : Nat) (zs : List Int) (w : World) (hR : Reads w ad len zs) (hm : len ≤ 9223372036854775807) :
    Calls Tryd.prog 25 #[.int .u32 (U v), .slice ad len cap] w fun e w' => e = .returned (.int .u32 (U (more v zs))) ∧ w = w' := by
  obtain ⟨hl, hc, hb⟩ := hR
  have HL := Lib.hid hl
  have HC := Lib.hid hc
  have HB := Lib.hid hb
  clear hl hc hb
  have v0 := U_lo v
  have v1 := U_hi v
  go_enter Tryd.func25, Tryd.ntmps25
  go_wp2
  go_loop [0, 5] (fun c i => ∃ k : Nat, k ≤ len ∧ i = .int .i64 k ∧ c = .int .u32 (U (fd (~~~ v) (zs.take k)))) (fun _ i => len - (intOf i).toNat)
  case atStart => exact ⟨0, Nat.zero_le _, rfl, by rw [U_not]; rfl⟩
  case round =>
    obtain ⟨k, hk, rfl, rfl⟩ := hrel
    by_cases hlt : k < len
    · obtain ⟨b, off, rfl, hcell⟩ := HC.out (by omega)
      have hx := hcell k hlt
      have hz := HB.out k
      obtain ⟨z, hzz⟩ : ∃ z, z = zs.getD k 0 := ⟨_, rfl⟩
      rw [← hzz] at hx hz
      obtain ⟨s, hs⟩ : ∃ s, s = fd (~~~ v) (zs.take k) := ⟨_, rfl⟩
      obtain ⟨x1, hx1⟩ : ∃ x1, x1 = s ^^^ B z := ⟨_, rfl⟩
      have e1 : bits BinOp.xor IntKind.u32 (U s) z = U x1 := by
        rw [hx1, ← bits_xor, U_B z hz.1 hz.2]
      have HX : Hid (stpN 8 x1 = fd (~~~ v) (zs.take (k + 1))) := Lib.hid (by
        rw [take_next zs k (by rw [HL.out]; exact hlt), fd_snoc, ← hzz, ← hs, ← hx1])
      rw [← hs]
      have hz0 := hz.1
      have hz1 := hz.2
      clear hx1 hs hzz hz hcell
      go_wp2
      go_loop [0, 6] (fun c j => ∃ (n : Nat) (y : BitVec 32), n ≤ 8 ∧ j = .int .i64 n ∧ c = .int .u32 (U y) ∧ stpN (8 - n) y = fd (~~~ v) (zs.take (k + 1))) (fun _ j => 8 - (intOf j).toNat)
      case atStart => exact ⟨0, x1, by omega, rfl, rfl, HX.out⟩
      case round =>
        obtain ⟨n, y, hn, rfl, rfl, hy⟩ := hrel
        by_cases hn8 : n < 8
        · have HY : Hid (stpN (8 - (n + 1)) (stp y) = fd (~~~ v) (zs.take (k + 1))) := Lib.hid (by rw [← stp8 n y hn8]; exact hy)
          clear hy
          go_wp2_with (go_at_call 26; refine (rstep_any _ _).mono ?_; rintro e w' ⟨rfl, rfl⟩)
          go_round
          case rel => exact ⟨n + 1, stp y, by omega, by go_num, rfl, HY.out⟩
          case measure => simp [intOf]; omega
        · obtain rfl : n = 8 := by omega
          have HY : Hid (y = fd (~~~ v) (zs.take (k + 1))) := Lib.hid (by simpa [stpN] using hy)
          clear hy
          go_wp2
          go_round
          case rel => exact ⟨k + 1, by omega, by go_num, by rw [← HY.out]⟩
          case measure => simp [intOf]; omega
    · obtain rfl : k = len := by omega
      have f0 := U_lo (fd (~~~ v) (zs.take k))
      have f1 := U_hi (fd (~~~ v) (zs.take k))
      go_wp2
      go_ret
      exact ⟨ret_u32 (by rw [U_not, List.take_of_length_le (by rw [HL.out]; exact Nat.le_refl _)]; rfl), rfl⟩
theorem sum_any (ad : Option Addr) (len cap : Nat) (zs : List Int) (w : World) (hR : Reads w ad len zs) (hT : Table w) (hm : len ≤ 9223372036854775807) :
    Calls Tryd.prog 15 #[.slice ad len cap] w fun e w' => e = .returned (.int .u32 (U (more 0#32 zs))) ∧ w = w' := by
  have HR := Lib.hid hR
  have HT := Lib.hid hT
  have HZ := Lib.hid (more_any 0#32 ad len cap zs w hR hT hm)
  clear hR hT
  go_enter Tryd.func15, Tryd.ntmps15
  go_wp2_with (go_at_call 22; refine HZ.out.mono ?_; rintro e w' ⟨rfl, rfl⟩)
  go_ret
  exact ⟨rfl, rfl⟩
theorem rsum_any (ad : Option Addr) (len cap : Nat) (zs : List Int) (w : World) (hR : Reads w ad len zs) (hm : len ≤ 9223372036854775807) :
    Calls Tryd.prog 23 #[.slice ad len cap] w fun e w' => e = .returned (.int .u32 (U (more 0#32 zs))) ∧ w = w' := by
  have HR := Lib.hid hR
  have HZ := Lib.hid (rmore_any 0#32 ad len cap zs w hR hm)
  clear hR
  go_enter Tryd.func23, Tryd.ntmps23
  go_wp2_with (go_at_call 25; refine HZ.out.mono ?_; rintro e w' ⟨rfl, rfl⟩)
  go_ret
  exact ⟨rfl, rfl⟩
end Go.Proofs.YtkellgofdfpjpaaDoor
