/-
  What the law on Zeros returns at a number that is not above 0, and so at every number: true, and older memory is as it was. Condition: the table's cells hold what its initialiser lays.
-/
import Derived.Test.YtcobgidmmfliaaaDoorWalk6
namespace Go.Proofs.YtcobgidmmfliaaaDoor
open Go.ChangeShapes Go.WideShapes Go.ChangeAt Go.RowKit Go.Proofs.Crc

theorem zeros_no (v : BitVec 32) (n : Int) (w : World) (hn : n ≤ 0) :
    Calls Tryd.prog 15 #[.int .u32 (U v), .int .i64 n] w fun e w' => e = .returned (.int .u32 (U (more v (List.replicate 0 0)))) ∧ Below w.heap.size w w' := by
  have h := zeros_any v n w (by omega)
  have e : ~~~ (stpN (8 * n.toNat) (~~~ v)) = more v (List.replicate 0 0) := by
    have : n.toNat = 0 := by omega
    rw [this]; unfold more; rw [fd_zeros]
  rw [e] at h
  exact h
set_option maxHeartbeats 1000000 in
theorem zeros_neg (v : BitVec 32) (n : Int) (w : World) (hT : Table w) (h0' : n < 0) :
    Calls Tryd.prog 5 #[.int .u32 (U v), .int .i64 n] w fun e w' => e = .returned (.bool true) ∧ Below w.heap.size w w' := by
  have h0 : n ≤ 0 := by omega
  have HT := Lib.hid hT
  clear hT
  have hnot : ¬ (5000 : Int) < n := by omega
  have hpos : ¬ (0 : Int) < n := by omega
  obtain ⟨i0, hi, hz0, hz1, hz2⟩ := info_parts info5
  have hmk := fun (w : World) => run_make (w := w) (P := Tryd.prog) 22 5 i0 (.int .u8 0) Tryd.underlying22 hi hz0 .i64 .i64 0 0 (by omega) (Int.le_refl _) (by rw [hz2]; omega) (by omega)
  go_enter Tryd.func5, Tryd.ntmps5
  go_wp2_with fail
  go_region_with (first
    | (go_at_call 10; refine (alive_any _ ?_).mono ?_; exact HT.out; rintro e w1 ⟨rfl, hb1⟩; have HB1 := Lib.hid hb1; clear hb1)
    | (go_at_call 15; refine (zeros_no _ _ _ h0).mono ?_; rintro e w2 ⟨rfl, hb2⟩; have HB2 := Lib.hid hb2; clear hb2)
    | (go_at_call 14; refine (rmore_any _ _ _ _ (List.replicate 0 0) _ ?_ ?_).mono ?_; (first | exact reads_made _ _ | exact reads_kept (reads_made _ _) HB2.out); omega; rintro e w3 ⟨rfl, rfl⟩))
  all_goals go_wp2
  all_goals go_ret
  all_goals have hd : Below w.heap.size w w1 := ((Below.refl w.heap.size w).drew).trans HB1.out
  all_goals first
    | exact ⟨rfl, (hd.trans (HB2.out.mono hd.size)).alloc (Nat.le_trans hd.size HB2.out.size) _⟩
    | exact ⟨rfl, (hd.alloc hd.size _).trans (HB2.out.mono (by have := hd.size; simp; omega))⟩
set_option maxHeartbeats 1000000 in
theorem zeros_nil (v : BitVec 32) (w : World) (hT : Table w) :
    Calls Tryd.prog 5 #[.int .u32 (U v), .int .i64 0] w fun e w' => e = .returned (.bool true) ∧ Below w.heap.size w w' := by
  have HT := Lib.hid hT
  clear hT
  obtain ⟨i0, hi, hz0, hz1, hz2⟩ := info_parts info5
  have hmk := fun (w : World) => run_make (w := w) (P := Tryd.prog) 22 5 i0 (.int .u8 0) Tryd.underlying22 hi hz0 .i64 .i64 0 0 (by omega) (Int.le_refl _) (by rw [hz2]; omega) (by omega)
  go_enter Tryd.func5, Tryd.ntmps5
  go_wp2_with fail
  go_region_with (first
    | (go_at_call 10; refine (alive_any _ ?_).mono ?_; exact HT.out; rintro e w1 ⟨rfl, hb1⟩; have HB1 := Lib.hid hb1; clear hb1)
    | (go_at_call 15; refine (zeros_no _ _ _ (Int.le_refl 0)).mono ?_; rintro e w2 ⟨rfl, hb2⟩; have HB2 := Lib.hid hb2; clear hb2)
    | (go_at_call 14; refine (rmore_any _ _ _ _ (List.replicate 0 0) _ ?_ ?_).mono ?_; (first | exact reads_made _ _ | exact reads_kept (reads_made _ _) HB2.out); omega; rintro e w3 ⟨rfl, rfl⟩))
  all_goals go_wp2
  all_goals go_ret
  all_goals have hd : Below w.heap.size w w1 := ((Below.refl w.heap.size w).drew).trans HB1.out
  all_goals first
    | exact ⟨rfl, (hd.trans (HB2.out.mono hd.size)).alloc (Nat.le_trans hd.size HB2.out.size) _⟩
    | exact ⟨rfl, (hd.alloc hd.size _).trans (HB2.out.mono (by have := hd.size; simp; omega))⟩
theorem law_zeros (v : BitVec 32) (n : Int) (w : World) (hT : Table w) :
    Calls Tryd.prog 5 #[.int .u32 (U v), .int .i64 n] w fun e w' => e = .returned (.bool true) ∧ Below w.heap.size w w' := by
  by_cases h1 : 5000 < n
  · exact zeros_out v n w hT h1
  · by_cases h2 : n ≤ 0
    · by_cases h3 : n < 0
      · exact zeros_neg v n w hT h3
      · obtain rfl : n = 0 := by omega
        exact zeros_nil v w hT
    · obtain ⟨k, rfl⟩ := Int.eq_ofNat_of_zero_le (show 0 ≤ n by omega)
      exact zeros_pos v k w hT (by omega) (by omega)
end Go.Proofs.YtcobgidmmfliaaaDoor
