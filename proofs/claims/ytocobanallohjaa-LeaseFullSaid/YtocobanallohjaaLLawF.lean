/-
  LeaseFull returns true. No condition.
-/
import Derived.Test.YtocobanallohjaaLTwo
namespace Go.Proofs.Ytocobanallohjaa
set_option maxRecDepth 100000
open Go.ChangeShapes Go.WideShapes Go.ChangeAt Go.RowKit Go.Proofs.Le

set_option maxHeartbeats 16000000 in
theorem full_law {w : World} (many s m : Int) :
    Calls Try.prog 8 #[.int .i64 many, .int .i64 s, .int .i64 m] w fun e w' => e = .returned (.bool true) ∧ Below w.heap.size w w' := by
  have HN := Lib.hid (new_any w)
  have HAL := Lib.hid (fun W => alive_any W)
  go_enter Try.func8, Try.ntmps8
  go_wp2_with fail
  refine HN.out.mono ?_
  rintro e w1 ⟨tp, v, rfl, ht1, hb1, -, -⟩
  have HT1 := Lib.hid ht1
  have HB1 := Lib.hid hb1
  clear ht1 hb1
  by_cases hm0 : many < 0
  · have hm0' : decide (many < 0) = true := by simpa using hm0
    clear hm0
    go_wp2_with fail
    refine (HAL.out _).mono ?_
    rintro e w2 ⟨rfl, hb2⟩
    have HB2 := Lib.hid (HB1.out.trans (hb2.mono HB1.out.size))
    clear hb2
    go_wp2_with fail
    go_ret
    exact ⟨rfl, HB2.out⟩
  have hm0' : decide (many < 0) = false := by simpa using hm0
  by_cases hm6 : 150 < many
  · have hm6' : decide (150 < many) = true := by simpa using hm6
    clear hm0 hm6
    go_wp2_with fail
    refine (HAL.out _).mono ?_
    rintro e w2 ⟨rfl, hb2⟩
    have HB2 := Lib.hid (HB1.out.trans (hb2.mono HB1.out.size))
    clear hb2
    go_wp2_with fail
    go_ret
    exact ⟨rfl, HB2.out⟩
  have hm6' : decide (150 < many) = false := by simpa using hm6
  obtain ⟨n, rfl⟩ : ∃ n : Nat, many = n := ⟨many.toNat, by omega⟩
  have hnn : n ≤ 150 := by omega
  clear hm0 hm6
  obtain ⟨t1, h1⟩ : ∃ b, decide (1 ≤ s) = b := ⟨_, rfl⟩
  obtain ⟨t2, h2⟩ : ∃ b, decide (s ≤ 1000000) = b := ⟨_, rfl⟩
  obtain ⟨t3, h3⟩ : ∃ b, decide (0 ≤ m) = b := ⟨_, rfl⟩
  obtain ⟨t4, h4⟩ : ∃ b, decide (m ≤ 1099511627776) = b := ⟨_, rfl⟩
  have HMM : Hid (may s m = (t1 && t2 && (t3 && t4))) := Lib.hid (by unfold may okT; rw [h1, h2, h3, h4])
  cases t1 with
  | false =>
    have HM : Hid (may s m = false) := Lib.hid (by rw [HMM.out]; simp)
    go_wp2_with fail
    go_loopw [41] (fun i wr => ∃ (k : Nat) (v : Value), k ≤ n ∧ i = .int .i64 k ∧ Hid (TabW wr w.heap.size tp v []) ∧ Hid (Below w.heap.size w wr)) (fun i _ => n - (intOf i).toNat)
    case atStart => exact ⟨0, v, Nat.zero_le _, rfl, HT1, HB1⟩
    case round =>
      obtain ⟨k, v, hk, rfl, HT, HX⟩ := hrel
      by_cases hlt : k < n
      · have hki : (k : Int) < (n : Int) := by omega
        have hwk : IntKind.i64.wrap ((k : Int) + 1) = (k : Int) + 1 := by rw [IntKind.wrap_i64]; omega
        have HOP := Lib.hid (open_any HT.out HX.out.size good_nil ⟨(k : Int) + 1, s, m⟩)
        rw [none_opn HM.out k (by omega)] at HOP
        go_wp2_with fail
        refine HOP.out.mono ?_
        rintro e w3 ⟨rfl, h3⟩
        have HX3 := Lib.hid (HX.out.trans (kp_below h3 HT.out HX.out.size))
        obtain ⟨v3, ht3, -, -⟩ := h3
        have HT3 := Lib.hid ht3
        clear ht3
        go_wp2_with fail
        go_roundw
        case rel => exact ⟨k + 1, v3, by omega, by go_num, HT3, HX3⟩
        case measure => simp [intOf]; omega
      · obtain rfl : k = n := by omega
        have hki : ¬ (k : Int) < (k : Int) := by omega
        go_wp2_with fail
        refine (HAL.out _).mono ?_
        rintro e w3 ⟨rfl, hb3⟩
        have HX3 := Lib.hid (HX.out.trans (hb3.mono HX.out.size))
        have HC := Lib.hid (all_any (HT.out.below hb3) (by simp))
        clear hb3
        go_wp2_with fail
        refine HC.out.mono ?_
        rintro e w4 ⟨A4, c4, rfl, ho4, hb4⟩
        have HX4 := Lib.hid (HX3.out.trans (hb4.mono HX3.out.size))
        clear ho4 hb4
        go_wp2_with fail
        go_ret
        exact ⟨rfl, HX4.out⟩
  | true =>
    cases t2 with
    | false =>
      have HM : Hid (may s m = false) := Lib.hid (by rw [HMM.out]; simp)
      go_wp2_with fail
      go_loopw [41] (fun i wr => ∃ (k : Nat) (v : Value), k ≤ n ∧ i = .int .i64 k ∧ Hid (TabW wr w.heap.size tp v []) ∧ Hid (Below w.heap.size w wr)) (fun i _ => n - (intOf i).toNat)
      case atStart => exact ⟨0, v, Nat.zero_le _, rfl, HT1, HB1⟩
      case round =>
        obtain ⟨k, v, hk, rfl, HT, HX⟩ := hrel
        by_cases hlt : k < n
        · have hki : (k : Int) < (n : Int) := by omega
          have hwk : IntKind.i64.wrap ((k : Int) + 1) = (k : Int) + 1 := by rw [IntKind.wrap_i64]; omega
          have HOP := Lib.hid (open_any HT.out HX.out.size good_nil ⟨(k : Int) + 1, s, m⟩)
          rw [none_opn HM.out k (by omega)] at HOP
          go_wp2_with fail
          refine HOP.out.mono ?_
          rintro e w3 ⟨rfl, h3⟩
          have HX3 := Lib.hid (HX.out.trans (kp_below h3 HT.out HX.out.size))
          obtain ⟨v3, ht3, -, -⟩ := h3
          have HT3 := Lib.hid ht3
          clear ht3
          go_wp2_with fail
          go_roundw
          case rel => exact ⟨k + 1, v3, by omega, by go_num, HT3, HX3⟩
          case measure => simp [intOf]; omega
        · obtain rfl : k = n := by omega
          have hki : ¬ (k : Int) < (k : Int) := by omega
          go_wp2_with fail
          refine (HAL.out _).mono ?_
          rintro e w3 ⟨rfl, hb3⟩
          have HX3 := Lib.hid (HX.out.trans (hb3.mono HX.out.size))
          have HC := Lib.hid (all_any (HT.out.below hb3) (by simp))
          clear hb3
          go_wp2_with fail
          refine HC.out.mono ?_
          rintro e w4 ⟨A4, c4, rfl, ho4, hb4⟩
          have HX4 := Lib.hid (HX3.out.trans (hb4.mono HX3.out.size))
          clear ho4 hb4
          go_wp2_with fail
          go_ret
          exact ⟨rfl, HX4.out⟩
    | true =>
      cases t3 with
      | false =>
        have HM : Hid (may s m = false) := Lib.hid (by rw [HMM.out]; simp)
        go_wp2_with fail
        go_loopw [41] (fun i wr => ∃ (k : Nat) (v : Value), k ≤ n ∧ i = .int .i64 k ∧ Hid (TabW wr w.heap.size tp v []) ∧ Hid (Below w.heap.size w wr)) (fun i _ => n - (intOf i).toNat)
        case atStart => exact ⟨0, v, Nat.zero_le _, rfl, HT1, HB1⟩
        case round =>
          obtain ⟨k, v, hk, rfl, HT, HX⟩ := hrel
          by_cases hlt : k < n
          · have hki : (k : Int) < (n : Int) := by omega
            have hwk : IntKind.i64.wrap ((k : Int) + 1) = (k : Int) + 1 := by rw [IntKind.wrap_i64]; omega
            have HOP := Lib.hid (open_any HT.out HX.out.size good_nil ⟨(k : Int) + 1, s, m⟩)
            rw [none_opn HM.out k (by omega)] at HOP
            go_wp2_with fail
            refine HOP.out.mono ?_
            rintro e w3 ⟨rfl, h3⟩
            have HX3 := Lib.hid (HX.out.trans (kp_below h3 HT.out HX.out.size))
            obtain ⟨v3, ht3, -, -⟩ := h3
            have HT3 := Lib.hid ht3
            clear ht3
            go_wp2_with fail
            go_roundw
            case rel => exact ⟨k + 1, v3, by omega, by go_num, HT3, HX3⟩
            case measure => simp [intOf]; omega
          · obtain rfl : k = n := by omega
            have hki : ¬ (k : Int) < (k : Int) := by omega
            go_wp2_with fail
            refine (HAL.out _).mono ?_
            rintro e w3 ⟨rfl, hb3⟩
            have HX3 := Lib.hid (HX.out.trans (hb3.mono HX.out.size))
            have HC := Lib.hid (all_any (HT.out.below hb3) (by simp))
            clear hb3
            go_wp2_with fail
            refine HC.out.mono ?_
            rintro e w4 ⟨A4, c4, rfl, ho4, hb4⟩
            have HX4 := Lib.hid (HX3.out.trans (hb4.mono HX3.out.size))
            clear ho4 hb4
            go_wp2_with fail
            go_ret
            exact ⟨rfl, HX4.out⟩
      | true =>
        cases t4 with
        | false =>
          have HM : Hid (may s m = false) := Lib.hid (by rw [HMM.out]; simp)
          go_wp2_with fail
          go_loopw [41] (fun i wr => ∃ (k : Nat) (v : Value), k ≤ n ∧ i = .int .i64 k ∧ Hid (TabW wr w.heap.size tp v []) ∧ Hid (Below w.heap.size w wr)) (fun i _ => n - (intOf i).toNat)
          case atStart => exact ⟨0, v, Nat.zero_le _, rfl, HT1, HB1⟩
          case round =>
            obtain ⟨k, v, hk, rfl, HT, HX⟩ := hrel
            by_cases hlt : k < n
            · have hki : (k : Int) < (n : Int) := by omega
              have hwk : IntKind.i64.wrap ((k : Int) + 1) = (k : Int) + 1 := by rw [IntKind.wrap_i64]; omega
              have HOP := Lib.hid (open_any HT.out HX.out.size good_nil ⟨(k : Int) + 1, s, m⟩)
              rw [none_opn HM.out k (by omega)] at HOP
              go_wp2_with fail
              refine HOP.out.mono ?_
              rintro e w3 ⟨rfl, h3⟩
              have HX3 := Lib.hid (HX.out.trans (kp_below h3 HT.out HX.out.size))
              obtain ⟨v3, ht3, -, -⟩ := h3
              have HT3 := Lib.hid ht3
              clear ht3
              go_wp2_with fail
              go_roundw
              case rel => exact ⟨k + 1, v3, by omega, by go_num, HT3, HX3⟩
              case measure => simp [intOf]; omega
            · obtain rfl : k = n := by omega
              have hki : ¬ (k : Int) < (k : Int) := by omega
              go_wp2_with fail
              refine (HAL.out _).mono ?_
              rintro e w3 ⟨rfl, hb3⟩
              have HX3 := Lib.hid (HX.out.trans (hb3.mono HX.out.size))
              have HC := Lib.hid (all_any (HT.out.below hb3) (by simp))
              clear hb3
              go_wp2_with fail
              refine HC.out.mono ?_
              rintro e w4 ⟨A4, c4, rfl, ho4, hb4⟩
              have HX4 := Lib.hid (HX3.out.trans (hb4.mono HX3.out.size))
              clear ho4 hb4
              go_wp2_with fail
              go_ret
              exact ⟨rfl, HX4.out⟩
        | true =>
          have HM : Hid (may s m = true) := Lib.hid (by rw [HMM.out]; simp)
          go_wp2_with fail
          go_loopw [41] (fun i wr => ∃ (k : Nat) (v : Value), k ≤ n ∧ i = .int .i64 k ∧ Hid (TabW wr w.heap.size tp v (fullT s m (min k 100))) ∧ Hid (Below w.heap.size w wr)) (fun i _ => n - (intOf i).toNat)
          case atStart => exact ⟨0, v, Nat.zero_le _, rfl, Lib.hid (by simpa [fullT] using HT1.out), HB1⟩
          case round =>
            obtain ⟨k, v, hk, rfl, HT, HX⟩ := hrel
            by_cases hlt : k < n
            · have hki : (k : Int) < (n : Int) := by omega
              have hwk : IntKind.i64.wrap ((k : Int) + 1) = (k : Int) + 1 := by rw [IntKind.wrap_i64]; omega
              have HOP := Lib.hid (open_any HT.out HX.out.size (full_good HM.out (min k 100) (by omega)) ⟨(k : Int) + 1, s, m⟩)
              rw [full_opn HM.out k (by omega)] at HOP
              by_cases h1 : k < 100
              · have h1' : decide ((k : Int) < 100) = true := by rw [decide_eq_true_eq]; omega
                have h1'' : decide (k < 100) = true := by rw [decide_eq_true_eq]; omega
                rw [if_pos h1] at HOP
                clear h1
                go_wp2_with fail
                refine HOP.out.mono ?_
                rintro e w3 ⟨rfl, h3⟩
                have HX3 := Lib.hid (HX.out.trans (kp_below h3 HT.out HX.out.size))
                obtain ⟨v3, ht3, -, -⟩ := h3
                have HT3 := Lib.hid ht3
                clear ht3
                go_wp2_with fail
                go_roundw
                case rel => exact ⟨k + 1, v3, by omega, by go_num, HT3, HX3⟩
                case measure => simp [intOf]; omega
              · have h1' : decide ((k : Int) < 100) = false := by rw [decide_eq_false_iff_not]; omega
                have h1'' : decide (k < 100) = false := by rw [decide_eq_false_iff_not]; omega
                rw [if_neg h1] at HOP
                clear h1
                go_wp2_with fail
                refine HOP.out.mono ?_
                rintro e w3 ⟨rfl, h3⟩
                have HX3 := Lib.hid (HX.out.trans (kp_below h3 HT.out HX.out.size))
                obtain ⟨v3, ht3, -, -⟩ := h3
                have HT3 := Lib.hid ht3
                clear ht3
                go_wp2_with fail
                go_roundw
                case rel => exact ⟨k + 1, v3, by omega, by go_num, HT3, HX3⟩
                case measure => simp [intOf]; omega
            · obtain rfl : k = n := by omega
              have hki : ¬ (k : Int) < (k : Int) := by omega
              have hmin : ((min k 100 : Nat) : Int) = min (k : Int) 100 := by omega
              have HLE : Hid ((fullT s m (min k 100)).length = min k 100) := Lib.hid (fullT_len _ _ _)
              go_wp2_with fail
              refine (HAL.out _).mono ?_
              rintro e w3 ⟨rfl, hb3⟩
              have HX3 := Lib.hid (HX.out.trans (hb3.mono HX.out.size))
              have HC := Lib.hid (all_any (HT.out.below hb3) (by rw [fullT_len]; omega))
              clear hb3
              go_wp2_with fail
              refine HC.out.mono ?_
              rintro e w4 ⟨A4, c4, rfl, ho4, hb4⟩
              have HX4 := Lib.hid (HX3.out.trans (hb4.mono HX3.out.size))
              clear ho4 hb4
              rw [HLE.out]
              obtain ⟨mm, hmm⟩ : ∃ z, min k 100 = z := ⟨_, rfl⟩
              have hmi : min (k : Int) 100 = (mm : Int) := by omega
              have hee : ((mm : Int) == (mm : Int)) = true := by simp
              rw [hmm]
              clear hmin hmm
              go_wp2_with fail
              go_ret
              exact ⟨rfl, HX4.out⟩
end Go.Proofs.Ytocobanallohjaa
