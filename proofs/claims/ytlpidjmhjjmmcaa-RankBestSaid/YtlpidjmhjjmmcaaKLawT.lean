/-
  RankBest returns true. Condition: memory holds the marks.
-/
import Derived.Test.YtlpidjmhjjmmcaaKAlive
namespace Go.Proofs.Ytlpidjmhjjmmcaa
set_option maxRecDepth 100000
open Go.ChangeShapes Go.WideShapes Go.ChangeAt Go.RowKit Go.Proofs.Rk

set_option maxHeartbeats 16000000 in
theorem best_law {w : World} {A : Option Addr} {n c : Nat} {l : List Mk} (h : Rd mcell 2 w A n l) (hn : n ≤ 9223372036854775807) : Calls Try.prog 7 #[.slice A n c] w fun e w' => e = .returned (.bool true) ∧ Below w.heap.size w w' := by
  have HA := Lib.hid (fun W => alive_any W)
  have HB0 := Lib.hid (Below.refl w.heap.size w)
  have HR := Lib.hid h
  by_cases hbig : 300 < n
  · have hb : (300 : Int) < (n : Int) := by omega
    clear h
    go_enter Try.func7, Try.ntmps7
    go_wp2_with fail
    refine (HA.out _).mono ?_
    rintro e w1 ⟨rfl, hbw1⟩
    have HB1 := Lib.hid (HB0.out.trans (hbw1.mono HB0.out.size))
    clear hbw1
    go_wp2_with fail
    go_ret
    exact ⟨rfl, HB1.out⟩
  have hb : ¬ (300 : Int) < (n : Int) := by omega
  have hbz : decide ((300 : Int) < (n : Int)) = false := by simpa using hb
  clear h hbig
  go_enter Try.func7, Try.ntmps7
  go_wp2_with fail
  go_loopw [11] (fun i wr => ∃ (k : Nat), k ≤ n ∧ i = .int .i64 k ∧ Hid (Below w.heap.size w wr)) (fun i _ => n - (intOf i).toNat)
  case atStart => exact ⟨0, Nat.zero_le _, rfl, HB0⟩
  case round =>
    obtain ⟨k, hk, rfl, HX⟩ := hrel
    by_cases hlt : k < n
    · obtain ⟨b, off, x, hA, hx, hcc⟩ := HR.out.at hlt
      subst hA
      have HCX := Lib.hid hcc
      have hk0 : (0 : Int) ≤ (k : Int) := by omega
      have hki : (k : Int) < (n : Int) := by omega
      have hwk : IntKind.i64.wrap ((k : Int) + 1) = (k : Int) + 1 := by rw [IntKind.wrap_i64]; omega
      clear hx hcc
      go_wp2_with fail
      go_loopw [16] (fun i w2 => ∃ (m : Nat), m ≤ n ∧ i = .int .i64 m ∧ Hid (Below w.heap.size w w2)) (fun i _ => n - (intOf i).toNat)
      case atStart => exact ⟨0, Nat.zero_le _, rfl, HX⟩
      case round =>
        obtain ⟨m, hm, rfl, HX2⟩ := hrel
        by_cases hlt2 : m < n
        · obtain ⟨b2, off2, y, hA2, hy, hcc⟩ := HR.out.at hlt2
          injection hA2 with hA2
          injection hA2 with hA3 hA4
          subst hA3; subst hA4
          have HS : Hid (∀ W, Below wr.heap.size wr W → W.cell? ⟨b, off + k * 2, none⟩ = some (.int .i64 x.v) ∧ W.cell? ⟨b, off + k * 2 + 1, none⟩ = some (.int .i64 x.n) ∧ W.cell? ⟨b, off + m * 2, none⟩ = some (.int .i64 y.v) ∧ W.cell? ⟨b, off + m * 2 + 1, none⟩ = some (.int .i64 y.n) ∧ Below wr.heap.size wr W) := Lib.hid (fun W hW => by
            have up : ∀ {j : Nat} {v : Value}, w.cell? ⟨b, j, none⟩ = some v → W.cell? ⟨b, j, none⟩ = some v := fun hv => ((HX2.out.trans (hW.mono HX2.out.size)).cell (cell_lt hv)).trans hv
            exact ⟨up (HCX.out 0 _ rfl), up (HCX.out 1 _ rfl), up (hcc 0 _ rfl), up (hcc 1 _ rfl), hW⟩)
          obtain ⟨s0, s1, s2, s3, -⟩ := HS.out wr (Below.refl _ _)
          have hm0 : (0 : Int) ≤ (m : Int) := by omega
          have hmi : (m : Int) < (n : Int) := by omega
          have hwm : IntKind.i64.wrap ((m : Int) + 1) = (m : Int) + 1 := by rw [IntKind.wrap_i64]; omega
          obtain ⟨t, ht⟩ : ∃ t, less x y = t := ⟨_, rfl⟩
          have HC : Hid (∀ W, Calls Try.prog 23 #[.agg #[.int .i64 x.v, .int .i64 x.n], .agg #[.int .i64 y.v, .int .i64 y.n]] W fun e w' => e = .returned (.bool t) ∧ Below W.heap.size W w') := Lib.hid (fun W => by rw [← ht]; exact less_any x y W)
          have HC2 : Hid (∀ W, Calls Try.prog 24 #[.agg #[.int .i64 x.v, .int .i64 x.n], .agg #[.int .i64 y.v, .int .i64 y.n]] W fun e w' => e = .returned (.bool t) ∧ Below W.heap.size W w') := Lib.hid (fun W => by rw [← ht]; exact rless_any x y W)
          clear hy hcc ht
          go_upto_region 9 with fail
          go_region_held3 (fun W => W.cell? ⟨b, off + k * 2, none⟩ = some (.int .i64 x.v) ∧ W.cell? ⟨b, off + k * 2 + 1, none⟩ = some (.int .i64 x.n) ∧ W.cell? ⟨b, off + m * 2, none⟩ = some (.int .i64 y.v) ∧ W.cell? ⟨b, off + m * 2 + 1, none⟩ = some (.int .i64 y.n) ∧ Below wr.heap.size wr W)
            (first
              | exact HS.out _ (Below.refl _ _).drew
              | (with_reducible assumption))
            (first
              | (go_at_call 24; (with_reducible refine (HC2.out _).mono ?_); rintro e w3 ⟨rfl, hb3⟩; have hw3 := hwP.trans (hb3.mono hwP.size); have hS3 := HS.out _ hw3)
              | (go_at_call 23; (with_reducible refine (HC.out _).mono ?_); rintro e w3 ⟨rfl, hb3⟩; have hw3 := hwQ.trans (hb3.mono hwQ.size); have hS3 := HS.out _ hw3)
              | (go_at_call 23; (with_reducible refine (HC.out _).mono ?_); rintro e w1 ⟨rfl, hbP⟩; have hwP : Below wr.heap.size wr w1 := (Below.refl _ _).drew.trans hbP; have hS1 := HS.out _ hwP)
              | (go_at_call 24; (with_reducible refine (HC2.out _).mono ?_); rintro e w1 ⟨rfl, hbQ⟩; have hwQ : Below wr.heap.size wr w1 := (Below.refl _ _).drew.trans hbQ; have hS1 := HS.out _ hwQ))
          all_goals
            have HX3 := Lib.hid (HX2.out.trans (hw3.mono HX2.out.size))
            clear s0 s1 s2 s3 hS3 hw3
            go_wp2_with fail
            go_roundw
            case rel => exact ⟨m + 1, by omega, by go_num, HX3⟩
            case measure => simp [intOf]; omega
        · obtain rfl : m = n := by omega
          have hmi : ¬ (m : Int) < (m : Int) := by omega
          go_wp2_with fail
          go_roundw
          case rel => exact ⟨k + 1, by omega, by go_num, HX2⟩
          case measure => simp [intOf]; omega
    · obtain rfl : k = n := by omega
      have hki : ¬ (k : Int) < (k : Int) := by omega
      have HBE : Hid (∀ W, Below w.heap.size w W → Calls Try.prog 25 #[.slice A k c] W fun e w' => ∃ r, IsB l r ∧ e = .returned (.int .i64 r) ∧ Below W.heap.size W w') := Lib.hid (fun W hW => best_any (HR.out.below hW) hn)
      have HBE2 : Hid (∀ W, Below w.heap.size w W → Calls Try.prog 26 #[.slice A k c] W fun e w' => ∃ r, IsB l r ∧ e = .returned (.int .i64 r) ∧ Below W.heap.size W w') := Lib.hid (fun W hW => rbest_any (HR.out.below hW) hn)
      go_wp2_with fail
      refine (HA.out _).mono ?_
      rintro e w4 ⟨rfl, hbw4⟩
      have HB4 := Lib.hid (HX.out.trans (hbw4.mono HX.out.size))
      clear hbw4
      go_wp2_with fail
      refine (HBE.out _ HB4.out).mono ?_
      rintro e w5 ⟨r, hr, rfl, hb5⟩
      have HB5 := Lib.hid (HB4.out.trans (hb5.mono HB4.out.size))
      have HI := Lib.hid hr
      clear hb5 hr
      go_wp2_with fail
      refine (HBE2.out _ HB5.out).mono ?_
      rintro e w6 ⟨r2, hr2, rfl, hb6⟩
      have HB6 := Lib.hid (HB5.out.trans (hb6.mono HB5.out.size))
      obtain rfl := isB_one HI.out hr2
      clear hb6 hr2
      go_wp2_with fail
      go_ret
      exact ⟨rfl, HB6.out⟩
end Go.Proofs.Ytlpidjmhjjmmcaa
