/-
  What valid and right return of any lease. No condition.
-/
import Derived.Test.YtflgemlhocjipaaGreatDoorLTab
namespace Go.Proofs.YtflgemlhocjipaaGreatDoor.Lq
set_option maxRecDepth 100000
open Go.ChangeShapes Go.WideShapes Go.ChangeAt Go.RowKit Go.Proofs.Le

set_option maxHeartbeats 1000000 in
theorem valid_any (x : Ls) (w : World) : Calls Tryz.prog 81 #[.agg #[.int .i64 x.i, .int .i64 x.s, .int .i64 x.l]] w fun e w' => e = .returned (.bool (okL x)) ∧ Below w.heap.size w w' := by
  obtain ⟨w1, hw1⟩ : ∃ w1, w1 = w.alloc (.cells #[.int .i64 x.i, .int .i64 x.s, .int .i64 x.l] 100) := ⟨_, rfl⟩
  obtain ⟨q, eq⟩ : ∃ q, q = w.heap.size := ⟨_, rfl⟩
  have hb1 : Below w.heap.size w w1 := by rw [hw1]; exact box_below w _
  have hq : w1.heap[q]? = some (.cells #[.int .i64 x.i, .int .i64 x.s, .int .i64 x.l] 100 (0, 0)) := by rw [hw1, eq]; exact new_block w _
  have q0 := cell_of hq (j := 0) rfl
  have q1 := cell_of hq (j := 1) rfl
  have q2 := cell_of hq (j := 2) rfl
  have HW1 := Lib.hid hw1
  have EQ := Lib.hid eq
  have HB1 := Lib.hid hb1
  have HC := Lib.hid (istime_any x.l w1)
  clear hw1 eq hb1 hq
  obtain ⟨r, hr⟩ : ∃ r, okT x.l = r := ⟨_, rfl⟩
  rw [hr] at HC
  obtain ⟨t1, h1⟩ : ∃ b, decide (1 ≤ x.i) = b := ⟨_, rfl⟩
  obtain ⟨t2, h2⟩ : ∃ b, decide (x.i ≤ 4611686018427387904) = b := ⟨_, rfl⟩
  obtain ⟨t3, h3⟩ : ∃ b, decide (1 ≤ x.s) = b := ⟨_, rfl⟩
  obtain ⟨t4, h4⟩ : ∃ b, decide (x.s ≤ 1000000) = b := ⟨_, rfl⟩
  have HE : Hid (okL x = (t1 && t2 && t3 && t4 && r)) := Lib.hid (by unfold okL; rw [h1, h2, h3, h4, hr])
  clear hr
  cases t1 with
  | false =>
    go_enter Tryz.func81, Tryz.ntmps81
    go_upto_region 1 with fail
    rw [← HW1.out, ← EQ.out]
    go_wp2_with fail
    go_ret
    exact ⟨ret_b (by rw [HE.out]; simp), HB1.out⟩
  | true =>
    cases t2 with
    | false =>
      go_enter Tryz.func81, Tryz.ntmps81
      go_upto_region 1 with fail
      rw [← HW1.out, ← EQ.out]
      go_wp2_with fail
      go_ret
      exact ⟨ret_b (by rw [HE.out]; simp), HB1.out⟩
    | true =>
      cases t3 with
      | false =>
        go_enter Tryz.func81, Tryz.ntmps81
        go_upto_region 1 with fail
        rw [← HW1.out, ← EQ.out]
        go_wp2_with fail
        go_ret
        exact ⟨ret_b (by rw [HE.out]; simp), HB1.out⟩
      | true =>
        cases t4 with
        | false =>
          go_enter Tryz.func81, Tryz.ntmps81
          go_upto_region 1 with fail
          rw [← HW1.out, ← EQ.out]
          go_wp2_with fail
          go_ret
          exact ⟨ret_b (by rw [HE.out]; simp), HB1.out⟩
        | true =>
          go_enter Tryz.func81, Tryz.ntmps81
          go_upto_region 1 with fail
          rw [← HW1.out, ← EQ.out]
          go_wp2_with fail
          refine HC.out.mono ?_
          rintro e w2 ⟨rfl, rfl⟩
          go_wp2_with fail
          go_ret
          exact ⟨ret_b (by rw [HE.out]; simp), HB1.out⟩
set_option maxHeartbeats 1000000 in
theorem right_any (x : Ls) (w : World) : Calls Tryz.prog 69 #[.agg #[.int .i64 x.i, .int .i64 x.s, .int .i64 x.l]] w fun e w' => e = .returned (.bool (okL x)) ∧ Below w.heap.size w w' := by
  obtain ⟨w1, hw1⟩ : ∃ w1, w1 = w.alloc (.cells #[.int .i64 x.i, .int .i64 x.s, .int .i64 x.l] 82) := ⟨_, rfl⟩
  obtain ⟨q, eq⟩ : ∃ q, q = w.heap.size := ⟨_, rfl⟩
  have hb1 : Below w.heap.size w w1 := by rw [hw1]; exact box_below w _
  have hq : w1.heap[q]? = some (.cells #[.int .i64 x.i, .int .i64 x.s, .int .i64 x.l] 82 (0, 0)) := by rw [hw1, eq]; exact new_block w _
  have q0 := cell_of hq (j := 0) rfl
  have q1 := cell_of hq (j := 1) rfl
  have q2 := cell_of hq (j := 2) rfl
  have HW1 := Lib.hid hw1
  have EQ := Lib.hid eq
  have HB1 := Lib.hid hb1
  have HC := Lib.hid (clock_any x.l w1)
  clear hw1 eq hb1 hq
  obtain ⟨r, hr⟩ : ∃ r, okT x.l = r := ⟨_, rfl⟩
  rw [hr] at HC
  obtain ⟨t1, h1⟩ : ∃ b, decide (1 ≤ x.i) = b := ⟨_, rfl⟩
  obtain ⟨t2, h2⟩ : ∃ b, decide (x.i ≤ 4611686018427387904) = b := ⟨_, rfl⟩
  obtain ⟨t3, h3⟩ : ∃ b, decide (1 ≤ x.s) = b := ⟨_, rfl⟩
  obtain ⟨t4, h4⟩ : ∃ b, decide (x.s ≤ 1000000) = b := ⟨_, rfl⟩
  have HE : Hid (okL x = (t1 && t2 && t3 && t4 && r)) := Lib.hid (by unfold okL; rw [h1, h2, h3, h4, hr])
  clear hr
  cases t1 with
  | false =>
    go_enter Tryz.func69, Tryz.ntmps69
    go_upto_region 1 with fail
    rw [← HW1.out, ← EQ.out]
    go_wp2_with fail
    go_ret
    exact ⟨ret_b (by rw [HE.out]; simp), HB1.out⟩
  | true =>
    cases t2 with
    | false =>
      go_enter Tryz.func69, Tryz.ntmps69
      go_upto_region 1 with fail
      rw [← HW1.out, ← EQ.out]
      go_wp2_with fail
      go_ret
      exact ⟨ret_b (by rw [HE.out]; simp), HB1.out⟩
    | true =>
      cases t3 with
      | false =>
        go_enter Tryz.func69, Tryz.ntmps69
        go_upto_region 1 with fail
        rw [← HW1.out, ← EQ.out]
        go_wp2_with fail
        go_ret
        exact ⟨ret_b (by rw [HE.out]; simp), HB1.out⟩
      | true =>
        cases t4 with
        | false =>
          go_enter Tryz.func69, Tryz.ntmps69
          go_upto_region 1 with fail
          rw [← HW1.out, ← EQ.out]
          go_wp2_with fail
          go_ret
          exact ⟨ret_b (by rw [HE.out]; simp), HB1.out⟩
        | true =>
          go_enter Tryz.func69, Tryz.ntmps69
          go_upto_region 1 with fail
          rw [← HW1.out, ← EQ.out]
          go_wp2_with fail
          refine HC.out.mono ?_
          rintro e w2 ⟨rfl, rfl⟩
          go_wp2_with fail
          go_ret
          exact ⟨ret_b (by rw [HE.out]; simp), HB1.out⟩
end Go.Proofs.YtflgemlhocjipaaGreatDoor.Lq
