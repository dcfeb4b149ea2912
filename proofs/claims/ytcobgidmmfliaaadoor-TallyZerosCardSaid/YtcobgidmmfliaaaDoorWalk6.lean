/-
  What the laws on Zeros return: true, and older memory is as it was. Condition: the table's cells hold what its initialiser lays.
-/
import Derived.Test.YtcobgidmmfliaaaDoorWalk5
import Derived.Deep.RegionWith
namespace Go.Proofs.YtcobgidmmfliaaaDoor
open Go.ChangeShapes Go.WideShapes Go.ChangeAt Go.RowKit Go.Proofs.Crc

theorem ret_bool {a b : Bool} (h : a = b) : Ending.returned (.bool a) = .returned (.bool b) := by rw [h]
theorem twice_out (v : BitVec 32) (n m : Int) (w : World) (hT : Table w) (ho : n < 0 ∨ m < 0 ∨ 1099511627776 < n ∨ 1099511627776 < m) :
    Calls Tryd.prog 8 #[.int .u32 (U v), .int .i64 n, .int .i64 m] w fun e w' => e = .returned (.bool true) ∧ Below w.heap.size w w' := by
  have HT := Lib.hid hT
  clear hT
  by_cases h1 : n < 0
  · clear ho
    go_enter Tryd.func8, Tryd.ntmps8
    go_wp2_with fail
    refine (alive_any w HT.out).mono ?_
    rintro e w1 ⟨rfl, hb⟩
    go_wp2_with fail
    go_ret
    exact ⟨rfl, hb⟩
  · by_cases h2 : m < 0
    · clear ho
      go_enter Tryd.func8, Tryd.ntmps8
      go_wp2_with fail
      refine (alive_any w HT.out).mono ?_
      rintro e w1 ⟨rfl, hb⟩
      go_wp2_with fail
      go_ret
      exact ⟨rfl, hb⟩
    · by_cases h3 : 1099511627776 < n
      · clear ho
        go_enter Tryd.func8, Tryd.ntmps8
        go_wp2_with fail
        refine (alive_any w HT.out).mono ?_
        rintro e w1 ⟨rfl, hb⟩
        go_wp2_with fail
        go_ret
        exact ⟨rfl, hb⟩
      · have h4 : 1099511627776 < m := by omega
        clear ho
        go_enter Tryd.func8, Tryd.ntmps8
        go_wp2_with fail
        refine (alive_any w HT.out).mono ?_
        rintro e w1 ⟨rfl, hb⟩
        go_wp2_with fail
        go_ret
        exact ⟨rfl, hb⟩
theorem twice_in (v : BitVec 32) (n m : Int) (w : World) (hT : Table w) (h1 : 0 ≤ n) (h2 : 0 ≤ m) (h3 : n ≤ 1099511627776) (h4 : m ≤ 1099511627776) :
    Calls Tryd.prog 8 #[.int .u32 (U v), .int .i64 n, .int .i64 m] w fun e w' => e = .returned (.bool true) ∧ Below w.heap.size w w' := by
  have HT := Lib.hid hT
  clear hT
  have HE : Hid ((U (~~~ (stpN (8 * m.toNat) (stpN (8 * n.toNat) (~~~ v)))) == U (~~~ (stpN (8 * (n + m).toNat) (~~~ v)))) = true) := Lib.hid (by
    have e : 8 * (n + m).toNat = 8 * n.toNat + 8 * m.toNat := by omega
    rw [e, stpN_add]
    exact beq_self_eq_true _)
  go_enter Tryd.func8, Tryd.ntmps8
  go_wp2_with fail
  refine (alive_any w HT.out).mono ?_
  rintro e w1 ⟨rfl, hb1⟩
  have HB1 := Lib.hid hb1
  clear hb1
  go_wp2_with fail
  refine (zeros_any _ _ _ (by omega)).mono ?_
  rintro e w2 ⟨rfl, hb2⟩
  have HB2 := Lib.hid (HB1.out.trans (hb2.mono HB1.out.size))
  clear hb2
  go_wp2_with fail
  refine (zeros_any _ _ _ (by omega)).mono ?_
  rintro e w3 ⟨rfl, hb3⟩
  have HB3 := Lib.hid (HB2.out.trans (hb3.mono HB2.out.size))
  clear hb3
  go_wp2_with fail
  refine (zeros_any _ _ _ (by omega)).mono ?_
  rintro e w4 ⟨rfl, hb4⟩
  have HB4 := Lib.hid (HB3.out.trans (hb4.mono HB3.out.size))
  clear hb4
  go_wp2_with fail
  go_ret
  exact ⟨ret_bool HE.out, HB4.out⟩
theorem law_twice (v : BitVec 32) (n m : Int) (w : World) (hT : Table w) :
    Calls Tryd.prog 8 #[.int .u32 (U v), .int .i64 n, .int .i64 m] w fun e w' => e = .returned (.bool true) ∧ Below w.heap.size w w' := by
  by_cases h : n < 0 ∨ m < 0 ∨ 1099511627776 < n ∨ 1099511627776 < m
  · exact twice_out v n m w hT h
  · exact twice_in v n m w hT (by omega) (by omega) (by omega) (by omega)
theorem zeros_out (v : BitVec 32) (n : Int) (w : World) (hT : Table w) (h : 5000 < n) :
    Calls Tryd.prog 5 #[.int .u32 (U v), .int .i64 n] w fun e w' => e = .returned (.bool true) ∧ Below w.heap.size w w' := by
  have HT := Lib.hid hT
  clear hT
  go_enter Tryd.func5, Tryd.ntmps5
  go_wp2_with fail
  refine (alive_any w HT.out).mono ?_
  rintro e w1 ⟨rfl, hb⟩
  go_wp2_with fail
  go_ret
  exact ⟨rfl, hb⟩
theorem zeros_more (v : BitVec 32) (k : Nat) (w : World) (hn : (k : Int) ≤ 9223372036854775807) :
    Calls Tryd.prog 15 #[.int .u32 (U v), .int .i64 (k : Int)] w fun e w' => e = .returned (.int .u32 (U (more v (List.replicate k 0)))) ∧ Below w.heap.size w w' := by
  have h := zeros_any v k w hn
  have e : ~~~ (stpN (8 * (k : Int).toNat) (~~~ v)) = more v (List.replicate k 0) := by
    unfold more; rw [fd_zeros]; rfl
  rw [e] at h
  exact h
theorem getD_zeros (k i : Nat) : (List.replicate k (0 : Int)).getD i 0 = 0 := by
  rw [List.getD_eq_getElem?_getD, List.getElem?_replicate]
  split <;> rfl
theorem table_drew {w : World} (hT : Table w) : Table w.drew := hT
theorem info5 : (Tryd.prog.info? 5).map (fun i => (i.zero, i.size, i.bytes)) = some (some (.int .u8 0), 1, 1) := by kernel_rfl
theorem reads_made (w : World) (k : Nat) : Reads (w.alloc (.cells (madeCells #[.int .u8 0] k) 5)) (some ⟨w.heap.size, 0, none⟩) k (List.replicate k 0) := by
  have h := reads_new w (List.replicate k 0) (madeCells #[.int .u8 0] k) 5 (0, 0) (fun i hi => by
    rw [List.length_replicate] at hi
    rw [getD_zeros]
    simp [madeCells, hi, Nat.mod_one]) (fun i => by rw [getD_zeros]; decide)
  rw [List.length_replicate] at h
  exact h
set_option maxHeartbeats 1000000 in
theorem zeros_pos (v : BitVec 32) (k : Nat) (w : World) (hT : Table w) (h0 : 0 < k) (h : k ≤ 5000) :
    Calls Tryd.prog 5 #[.int .u32 (U v), .int .i64 (k : Int)] w fun e w' => e = .returned (.bool true) ∧ Below w.heap.size w w' := by
  have HT := Lib.hid hT
  clear hT
  have hnot : ¬ (5000 : Int) < (k : Int) := by omega
  have hpos : (0 : Int) < (k : Int) := by omega
  obtain ⟨i0, hi, hz0, hz1, hz2⟩ := info_parts info5
  have hmk := fun (w : World) => run_make (w := w) (P := Tryd.prog) 22 5 i0 (.int .u8 0) Tryd.underlying22 hi hz0 .i64 .i64 (k : Int) (k : Int) (by omega) (Int.le_refl _) (by rw [hz2]; omega) (by omega)
  go_enter Tryd.func5, Tryd.ntmps5
  go_wp2_with fail
  go_region_with (first
    | (go_at_call 10; refine (alive_any _ ?_).mono ?_; exact HT.out; rintro e w1 ⟨rfl, hb1⟩; have HB1 := Lib.hid hb1; clear hb1)
    | (go_at_call 15; refine (zeros_more _ _ _ (by omega)).mono ?_; rintro e w2 ⟨rfl, hb2⟩; have HB2 := Lib.hid hb2; clear hb2)
    | (go_at_call 14; refine (rmore_any _ _ _ _ (List.replicate k 0) _ ?_ ?_).mono ?_; (first | exact reads_made _ _ | exact reads_kept (reads_made _ _) HB2.out); omega; rintro e w3 ⟨rfl, rfl⟩))
  all_goals go_wp2
  all_goals go_ret
  all_goals have hd : Below w.heap.size w w1 := ((Below.refl w.heap.size w).drew).trans HB1.out
  all_goals first
    | exact ⟨rfl, (hd.trans (HB2.out.mono hd.size)).alloc (Nat.le_trans hd.size HB2.out.size) _⟩
    | exact ⟨rfl, (hd.alloc hd.size _).trans (HB2.out.mono (by have := hd.size; simp; omega))⟩
end Go.Proofs.YtcobgidmmfliaaaDoor
