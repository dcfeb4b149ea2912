/-
  What Best returns of any marks. Condition: memory holds the marks.
-/
import Derived.Test.YtlpidjmhjjmmcaaKMark
namespace Go.Proofs.Ytlpidjmhjjmmcaa
set_option maxRecDepth 100000
open Go.ChangeShapes Go.WideShapes Go.ChangeAt Go.RowKit Go.Proofs.Rk

set_option maxHeartbeats 4000000 in
theorem best_any {w : World} {A : Option Addr} {n c : Nat} {l : List Mk} (h : Rd mcell 2 w A n l) (hn : n ≤ 9223372036854775807) : Calls Try.prog 25 #[.slice A n c] w fun e w' => ∃ r, IsB l r ∧ e = .returned (.int .i64 r) ∧ Below w.heap.size w w' := by
  have HR := Lib.hid h
  have HL := Lib.hid h.len
  by_cases h0 : n = 0
  · subst h0
    have HE : Hid (IsB l (-1)) := Lib.hid (.inl ⟨List.eq_nil_of_length_eq_zero h.len, rfl⟩)
    clear h hn
    go_enter Try.func25, Try.ntmps25
    go_wp2_with fail
    go_ret
    exact ⟨-1, HE.out, rfl, Below.refl _ _⟩
  · obtain ⟨b, off, x0, hA, hx0, hcc⟩ := h.at (show 0 < n by omega)
    subst hA
    have c0 : w.cell? ⟨b, off, none⟩ = some (.int .i64 x0.v) := by have := hcc 0 _ rfl; simpa using this
    have c1 : w.cell? ⟨b, off + 1, none⟩ = some (.int .i64 x0.n) := by have := hcc 1 _ rfl; simpa using this
    have hn0 : ¬ (n : Int) = 0 := by omega
    have hn1 : (0 : Int) < (n : Int) := by omega
    have hnz : ((n : Int) == 0) = false := by simpa using hn0
    have HB0 := Lib.hid (Bst.zero hx0)
    clear h hx0 hcc h0
    go_enter Try.func25, Try.ntmps25
    go_upto_region 3 with fail
    go_region
    all_goals
      clear c0 c1
      go_wp2_with fail
      go_loopw [3, 4, 16] (fun u f i wr => ∃ (k bi : Nat) (x : Mk), k ≤ n ∧ i = .int .i64 k ∧ u = .int .i64 bi ∧ f = .func (.func 31) #[.agg #[.int .i64 x.v, .int .i64 x.n]] #[] ∧ Hid (Bst l k bi x) ∧ Hid (Below w.heap.size w wr)) (fun _ _ i _ => n - (intOf i).toNat)
      case atStart => exact ⟨0, 0, x0, Nat.zero_le _, rfl, rfl, rfl, HB0, Lib.hid ((Below.refl _ _).drew)⟩
      case round =>
        obtain ⟨k, bi, x, hk, rfl, rfl, rfl, HI, HX⟩ := hrel
        by_cases hlt : k < n
        · obtain ⟨b2, off2, y, hA2, hy, hcc⟩ := (HR.out.below HX.out).at hlt
          injection hA2 with hA2
          injection hA2 with hA3 hA4
          subst hA3; subst hA4
          have c0 : wr.cell? ⟨b, off + k * 2, none⟩ = some (.int .i64 y.v) := hcc 0 _ rfl
          have c1 : wr.cell? ⟨b, off + k * 2 + 1, none⟩ = some (.int .i64 y.n) := hcc 1 _ rfl
          obtain ⟨w3, hw3⟩ : ∃ w3, w3 = wr.alloc (.cells #[.int .i64 y.v, .int .i64 y.n] 36) := ⟨_, rfl⟩
          obtain ⟨r, er⟩ : ∃ r, r = wr.heap.size := ⟨_, rfl⟩
          have hb3 : Below wr.heap.size wr w3 := by rw [hw3]; exact box_below wr _
          have hr : w3.heap[r]? = some (.cells #[.int .i64 y.v, .int .i64 y.n] 36 (0, 0)) := by rw [hw3, er]; exact new_block wr _
          have HX3 := Lib.hid (HX.out.trans (hb3.mono HX.out.size))
          have HR3 := Lib.hid hr
          have r0 := cell_of hr (j := 0) rfl
          have r1 := cell_of hr (j := 1) rfl
          have hk0 : (0 : Int) ≤ (k : Int) := by omega
          have hki : (k : Int) < (n : Int) := by omega
          have hwk : IntKind.i64.wrap ((k : Int) + 1) = (k : Int) + 1 := by rw [IntKind.wrap_i64]; omega
          obtain ⟨t, ht⟩ : ∃ t, less x y = t := ⟨_, rfl⟩
          have HC := Lib.hid (before_any x y w3)
          rw [ht] at HC
          have HY := Lib.hid hy
          have HT := Lib.hid ht
          have HW3 := Lib.hid hw3
          have ER := Lib.hid er
          clear hy hcc hw3 er hb3 hr ht
          go_upto_region 7 with fail
          rw [← HW3.out, ← ER.out]
          clear c0 c1
          go_wp2_with fail
          refine HC.out.mono ?_
          rintro e w4 ⟨rfl, hb4⟩
          have hr4 := blk_below HR3.out hb4
          have HX4 := Lib.hid (HX3.out.trans (hb4.mono HX3.out.size))
          clear r0 r1 hb4
          have r0 := cell_of hr4 (j := 0) rfl
          have r1 := cell_of hr4 (j := 1) rfl
          clear hr4
          cases t with
          | false =>
            have HN := Lib.hid (HI.out.keep HY.out HT.out)
            go_wp2_with fail
            go_roundw
            case rel => exact ⟨k + 1, bi, x, by omega, by go_num, rfl, rfl, HN, HX4⟩
            case measure => simp [intOf]; omega
          | true =>
            have HN := Lib.hid (HI.out.next HY.out HT.out)
            go_upto_region 8 with fail
            go_region
            all_goals
              go_wp2_with fail
              go_roundw
              case rel => exact ⟨k + 1, k, y, by omega, by go_num, rfl, rfl, HN, Lib.hid HX4.out.drew⟩
              case measure => simp [intOf]; omega
        · obtain rfl : k = n := by omega
          have hki : ¬ (k : Int) < (k : Int) := by omega
          have HE : Hid (IsB l (bi : Int)) := Lib.hid (by have := HI.out; rw [← HL.out] at this; exact this.isB)
          go_wp2_with fail
          go_ret
          exact ⟨bi, HE.out, rfl, HX.out⟩
end Go.Proofs.Ytlpidjmhjjmmcaa
