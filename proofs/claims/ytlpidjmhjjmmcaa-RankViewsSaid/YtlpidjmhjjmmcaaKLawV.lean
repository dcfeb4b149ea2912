/-
  RankViews returns true. No condition.
-/
import Derived.Test.YtlpidjmhjjmmcaaKAlive
namespace Go.Proofs.Ytlpidjmhjjmmcaa
set_option maxRecDepth 100000
open Go.ChangeShapes Go.WideShapes Go.ChangeAt Go.RowKit Go.Proofs.Rk

def lcs (v m : Int) (k : Nat) : Array Value := #[.int .i64 (led v m 0 k : Nat), .int .i64 (led v m 1 k : Nat), .int .i64 (led v m 2 k : Nat), .int .i64 (led v m 3 k : Nat), .int .i64 (led v m 4 k : Nat), .int .i64 (led v m 5 k : Nat), .int .i64 (led v m 6 k : Nat)]
theorem lcs_at (v m : Int) (k j : Nat) (hj : j < 7) : (lcs v m k)[j]? = some (.int .i64 (led v m (j : Int) k : Nat)) := by
  have : j = 0 ∨ j = 1 ∨ j = 2 ∨ j = 3 ∨ j = 4 ∨ j = 5 ∨ j = 6 := by omega
  rcases this with rfl | rfl | rfl | rfl | rfl | rfl | rfl <;> rfl
theorem led_le (v m j : Int) : ∀ k, led v m j k ≤ k
  | 0 => Nat.le_refl _
  | k + 1 => by unfold led; have := led_le v m j k; split <;> omega
theorem lcs_next {v m : Int} {k p : Nat} (hp : (v + (k : Nat)) % m = (p : Nat)) (h7 : p < 7) : (lcs v m k).setIfInBounds p (.int .i64 ((led v m (p : Int) k : Nat) + 1)) = lcs v m (k + 1) := by
  have : p = 0 ∨ p = 1 ∨ p = 2 ∨ p = 3 ∨ p = 4 ∨ p = 5 ∨ p = 6 := by omega
  rcases this with rfl | rfl | rfl | rfl | rfl | rfl | rfl <;> simp [lcs, led, hp]
set_option maxHeartbeats 8000000 in
theorem views_law {w : World} (v m : Int) : Calls Try.prog 5 #[.int .i64 v, .int .i64 m] w fun e w' => e = .returned (.bool true) ∧ Below w.heap.size w w' := by
  have HA := Lib.hid (fun W => alive_any W)
  have HB0 := Lib.hid (Below.refl w.heap.size w)
  obtain ⟨t1, h1⟩ : ∃ t, decide (m < 1) = t := ⟨_, rfl⟩
  obtain ⟨t2, h2⟩ : ∃ t, decide (7 < m) = t := ⟨_, rfl⟩
  obtain ⟨t3, h3⟩ : ∃ t, decide (v < 0) = t := ⟨_, rfl⟩
  obtain ⟨t4, h4⟩ : ∃ t, decide (2305843009213693952 < v) = t := ⟨_, rfl⟩
  cases t1 with
  | true =>
    go_enter Try.func5, Try.ntmps5
    go_wp2_with fail
    refine (HA.out _).mono ?_
    rintro e w1 ⟨rfl, hbw1⟩
    have HB1 := Lib.hid (HB0.out.trans (hbw1.mono HB0.out.size))
    clear hbw1
    go_wp2_with fail
    go_ret
    exact ⟨rfl, HB1.out⟩
  | false =>
    cases t2 with
    | true =>
      go_enter Try.func5, Try.ntmps5
      go_wp2_with fail
      refine (HA.out _).mono ?_
      rintro e w1 ⟨rfl, hbw1⟩
      have HB1 := Lib.hid (HB0.out.trans (hbw1.mono HB0.out.size))
      clear hbw1
      go_wp2_with fail
      go_ret
      exact ⟨rfl, HB1.out⟩
    | false =>
      cases t3 with
      | true =>
        go_enter Try.func5, Try.ntmps5
        go_wp2_with fail
        refine (HA.out _).mono ?_
        rintro e w1 ⟨rfl, hbw1⟩
        have HB1 := Lib.hid (HB0.out.trans (hbw1.mono HB0.out.size))
        clear hbw1
        go_wp2_with fail
        go_ret
        exact ⟨rfl, HB1.out⟩
      | false =>
        cases t4 with
        | true =>
          go_enter Try.func5, Try.ntmps5
          go_wp2_with fail
          refine (HA.out _).mono ?_
          rintro e w1 ⟨rfl, hbw1⟩
          have HB1 := Lib.hid (HB0.out.trans (hbw1.mono HB0.out.size))
          clear hbw1
          go_wp2_with fail
          go_ret
          exact ⟨rfl, HB1.out⟩
        | false =>
          have hm1 : 1 ≤ m := by simpa using h1
          have hm2 : m ≤ 7 := by simpa using h2
          have hv1 : 0 ≤ v := by simpa using h3
          have hv2 : v ≤ 2305843009213693952 := by simpa using h4
          have HG : Hid (isG m = true) := Lib.hid (by simp [isG]; omega)
          obtain ⟨n, rfl⟩ : ∃ n : Nat, m = n := ⟨m.toNat, by omega⟩
          have hn7 : n ≤ 7 := by omega
          have HLD : Hid (∀ j : Nat, j < n → led v (n : Int) (j : Int) n = 1) := Lib.hid (fun j hj => led_one HG.out (by omega) (by omega))
          obtain ⟨w1, hw1⟩ : ∃ w1, w1 = w.alloc (.cells #[.int .i64 0, .int .i64 0, .int .i64 0, .int .i64 0, .int .i64 0, .int .i64 0, .int .i64 0] 30) := ⟨_, rfl⟩
          obtain ⟨b, eb⟩ : ∃ b, b = w.heap.size := ⟨_, rfl⟩
          have hb1 : Below w.heap.size w w1 := by rw [hw1]; exact box_below w _
          have hr1 : w1.heap[b]? = some (.cells (lcs v (n : Int) 0) 30 (0, 0)) := by rw [hw1, eb]; exact new_block w _
          have HB1 := Lib.hid hb1
          have HR1 := Lib.hid hr1
          have HW1 := Lib.hid hw1
          have EB := Lib.hid eb
          have HBW : Hid (w.heap.size ≤ b) := Lib.hid (Nat.le_of_eq eb.symm)
          clear hw1 eb hb1 hr1
          go_enter Try.func5, Try.ntmps5
          go_upto_region 4 with fail
          rw [← HW1.out, ← EB.out]
          go_wp2_with fail
          go_loopw [27] (fun i wr => ∃ (k : Nat), k ≤ n ∧ i = .int .i64 k ∧ Hid (wr.heap[b]? = some (.cells (lcs v (n : Int) k) 30 (0, 0))) ∧ Hid (Below w.heap.size w wr)) (fun i _ => n - (intOf i).toNat)
          case atStart => exact ⟨0, Nat.zero_le _, rfl, HR1, HB1⟩
          case round =>
            obtain ⟨k, hk, rfl, HR, HX⟩ := hrel
            by_cases hlt : k < n
            · have hk0 : (0 : Int) ≤ (k : Int) := by omega
              have hki : (k : Int) < (n : Int) := by omega
              have hwk : IntKind.i64.wrap ((k : Int) + 1) = (k : Int) + 1 := by rw [IntKind.wrap_i64]; omega
              have hwv : IntKind.i64.wrap (v + (k : Int)) = v + (k : Int) := by rw [IntKind.wrap_i64]; omega
              obtain ⟨p, hp⟩ : ∃ p : Nat, (v + (k : Nat)) % (n : Int) = p := ⟨((v + (k : Nat)) % (n : Int)).toNat, by
                have := Int.emod_nonneg (v + (k : Nat)) (show (n : Int) ≠ 0 by omega); omega⟩
              have hpn : p < n := by
                have := Int.emod_lt_of_pos (v + (k : Nat)) (show 0 < (n : Int) by omega)
                omega
              have HC : Hid (∀ W, Calls Try.prog 16 #[.int .i64 (v + (k : Int)), .int .i64 (n : Int)] W fun e w' => e = .returned (.int .i64 (p : Int)) ∧ W = w') := Lib.hid (fun W => by
                have e : pri (v + (k : Int)) (n : Int) = (p : Int) := by unfold pri; rw [if_pos (by rw [HG.out]; simp [isV]; omega)]; exact hp
                rw [← e]
                exact primary_any _ _ W)
              have g1 : decide ((p : Int) < 0) = false := by simp
              have g2 : decide ((n : Int) ≤ (p : Int)) = false := by simp; omega
              have hp0 : (0 : Int) ≤ (p : Int) := by omega
              have hp7 : (p : Int) < 7 := by omega
              obtain ⟨z, hz⟩ : ∃ z : Nat, led v (n : Int) (p : Int) k = z := ⟨_, rfl⟩
              have hzk : z ≤ k := by rw [← hz]; exact led_le _ _ _ _
              have hwz : IntKind.i64.wrap ((z : Int) + 1) = (z : Int) + 1 := by rw [IntKind.wrap_i64]; omega
              have c0 : wr.cell? ⟨b, p, none⟩ = some (.int .i64 (z : Int)) := cell_of HR.out (by rw [← hz]; exact lcs_at _ _ _ _ (by omega))
              have f0 := frozen_of_row wr b p _ _ HR.out
              have HN : Hid ((wr.setCell ⟨b, p, none⟩ (.int .i64 ((z : Int) + 1))).heap[b]? = some (.cells (lcs v (n : Int) (k + 1)) 30 (0, 0))) := Lib.hid (by
                have := heap_setCell_same wr b p _ 30 (.int .i64 ((z : Int) + 1)) HR.out
                rw [this, ← lcs_next hp (by omega), hz])
              have HXN : Hid (Below w.heap.size w (wr.setCell ⟨b, p, none⟩ (.int .i64 ((z : Int) + 1)))) := Lib.hid (HX.out.setCell HBW.out _)
              clear hp hz
              go_wp2_with fail
              refine (HC.out _).mono ?_
              rintro e w0 ⟨rfl, rfl⟩
              go_wp2_with fail
              go_roundw
              case rel => exact ⟨k + 1, by omega, by go_num, HN, HXN⟩
              case measure => simp [intOf]; omega
            · obtain rfl : k = n := by omega
              have hki : ¬ (k : Int) < (k : Int) := by omega
              go_wp2_with fail
              go_loopw [49] (fun i wr => ∃ (j : Nat), j ≤ k ∧ i = .int .i64 j ∧ Hid (wr.heap[b]? = some (.cells (lcs v (k : Int) k) 30 (0, 0))) ∧ Hid (Below w.heap.size w wr)) (fun i _ => k - (intOf i).toNat)
              case atStart => exact ⟨0, Nat.zero_le _, rfl, HR, HX⟩
              case round =>
                obtain ⟨j, hj, rfl, HR2, HX2⟩ := hrel
                by_cases hlt2 : j < k
                · have hj0 : (0 : Int) ≤ (j : Int) := by omega
                  have hji : (j : Int) < (k : Int) := by omega
                  have hj7 : (j : Int) < 7 := by omega
                  have hwj : IntKind.i64.wrap ((j : Int) + 1) = (j : Int) + 1 := by rw [IntKind.wrap_i64]; omega
                  have hfit : fits v (j : Int) (k : Int) = true := by unfold fits isV; rw [HG.out]; simp; omega
                  obtain ⟨s1, s2, s3, -⟩ := nstep_mod hfit
                  obtain ⟨x, hx⟩ : ∃ x, nstep v (j : Int) (k : Int) = x := ⟨_, rfl⟩
                  rw [hx] at s1 s2 s3
                  have hV : isV x = true := by unfold isV; simp; omega
                  have HC : Hid (∀ W, Calls Try.prog 11 #[.int .i64 v, .int .i64 (j : Int), .int .i64 (k : Int)] W fun e w' => e = .returned (.tuple #[.int .i64 x, .bool true]) ∧ W = w') := Lib.hid (fun W => by
                    have e1 : has v (j : Int) (k : Int) = true := by unfold has; rw [hfit, hx, hV]; rfl
                    have e2 : nxt v (j : Int) (k : Int) = x := by unfold nxt; rw [hfit, hx, hV]; rfl
                    have := next_any v (j : Int) (k : Int) W
                    rw [e1, e2] at this
                    exact this)
                  have HP : Hid (∀ W, Calls Try.prog 16 #[.int .i64 x, .int .i64 (k : Int)] W fun e w' => e = .returned (.int .i64 (j : Int)) ∧ W = w') := Lib.hid (fun W => by
                    have e : pri x (k : Int) = (j : Int) := by unfold pri; rw [if_pos (by rw [HG.out, hV]; rfl)]; exact s1
                    rw [← e]
                    exact primary_any _ _ W)
                  have g1 : decide (x ≤ v) = false := by simp; omega
                  have hwm : IntKind.i64.wrap (v + (k : Int)) = v + (k : Int) := by rw [IntKind.wrap_i64]; omega
                  have g2 : decide (v + (k : Int) < x) = false := by simp; omega
                  have c0 : wr.cell? ⟨b, j, none⟩ = some (.int .i64 1) := cell_of HR2.out (by
                    have := lcs_at v (k : Int) k j (by omega)
                    rw [HLD.out j hlt2] at this
                    exact this)
                  have gj : ((j : Int) == (j : Int)) = true := by simp
                  clear s1 s2 s3 hx hV hfit
                  go_wp2_with fail
                  refine (HC.out _).mono ?_
                  rintro e w0 ⟨rfl, rfl⟩
                  go_wp2_with fail
                  refine (HP.out _).mono ?_
                  rintro e w0 ⟨rfl, rfl⟩
                  go_wp2_with fail
                  go_roundw
                  case rel => exact ⟨j + 1, by omega, by go_num, HR2, HX2⟩
                  case measure => simp [intOf]; omega
                · obtain rfl : j = k := by omega
                  have hji : ¬ (j : Int) < (j : Int) := by omega
                  go_wp2_with fail
                  refine (HA.out _).mono ?_
                  rintro e w4 ⟨rfl, hbw4⟩
                  have HB4 := Lib.hid (HX2.out.trans (hbw4.mono HX2.out.size))
                  clear hbw4
                  go_wp2_with fail
                  go_ret
                  exact ⟨rfl, HB4.out⟩
end Go.Proofs.Ytlpidjmhjjmmcaa
