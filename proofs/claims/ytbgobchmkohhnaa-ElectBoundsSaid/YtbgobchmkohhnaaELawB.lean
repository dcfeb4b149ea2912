/-
  ElectBounds returns true. Condition: memory holds the numbers.
-/
import Derived.Test.YtbgobchmkohhnaaEAlive
namespace Go.Proofs.Ytbgobchmkohhnaa
set_option maxRecDepth 100000
open Go.ChangeShapes Go.WideShapes Go.ChangeAt Go.RowKit Go.Proofs.Rk Go.Proofs.El

theorem icell_at2 {w : World} {A : Option Addr} {n k : Nat} {l : List Int} (h : Rd icell 1 w A n l) (hk : k < n) : ∃ b off x, A = some ⟨b, off, none⟩ ∧ l[k]? = some x ∧ w.cell? ⟨b, off + k, none⟩ = some (.int .i64 x) := by
  obtain ⟨b, off, x, hA, hx, hc⟩ := h.at hk
  exact ⟨b, off, x, hA, hx, by have := hc 0 (.int .i64 x) rfl; rwa [Nat.mul_one, Nat.add_zero] at this⟩
theorem fresh_wait {t : Tm} (hg : El.Good t) : (tickT t true).wt < t.sp := ((tick_limit hg true).2 rfl).2
set_option maxHeartbeats 8000000 in
theorem bounds_law {w : World} {A : Option Addr} {n c : Nat} {l : List Int} (h : Rd icell 1 w A n l) (s m p : Int) : Calls Try.prog 8 #[.agg #[.int .i64 s, .int .i64 m, .int .i64 p], .slice A n c] w fun e w' => e = .returned (.bool true) ∧ Below w.heap.size w w' := by
  have HL := Lib.hid h
  clear h
  have HA := Lib.hid (fun W => alive_any W)
  obtain ⟨w1, hw1⟩ : ∃ w1, w1 = w.alloc (.cells #[.int .i64 s, .int .i64 m, .int .i64 p] 23) := ⟨_, rfl⟩
  obtain ⟨q, eq⟩ : ∃ q, q = w.heap.size := ⟨_, rfl⟩
  have hb1 : Below w.heap.size w w1 := by rw [hw1]; exact box_below w _
  have hq1 : w1.heap[q]? = some (.cells #[.int .i64 s, .int .i64 m, .int .i64 p] 23 (0, 0)) := by rw [hw1, eq]; exact new_block w _
  have HB1 := Lib.hid hb1
  have HQ1 := Lib.hid hq1
  have HW1 := Lib.hid hw1
  have EQ := Lib.hid eq
  clear hw1 eq hb1
  have c0 := cell_of hq1 (j := 0) rfl
  have c1 := cell_of hq1 (j := 1) rfl
  have c2 := cell_of hq1 (j := 2) rfl
  clear hq1
  obtain ⟨ok, hok⟩ : ∃ b, okN s m p = b := ⟨_, rfl⟩
  obtain ⟨t1, h1⟩ : ∃ t, decide (5000 < (n : Int)) = t := ⟨_, rfl⟩
  cases ok with
  | false =>
    have HN := Lib.hid (fun W => new_no hok W)
    clear hok
    go_enter Try.func8, Try.ntmps8
    go_upto_region 1 with fail
    rw [← HW1.out, ← EQ.out]
    go_wp2_with fail
    refine (HN.out _).mono ?_
    rintro e w2 ⟨rfl, rfl⟩
    go_wp2_with fail
    refine (HA.out _).mono ?_
    rintro e wa0 ⟨rfl, hba0⟩
    have HBA0 := Lib.hid (HB1.out.trans (hba0.mono HB1.out.size))
    clear hba0
    go_wp2_with fail
    go_ret
    exact ⟨rfl, HBA0.out⟩

  | true =>
    cases t1 with
    | true =>
      have HN := Lib.hid (new_yes hok w1)
      have HGD := Lib.hid (new_good hok)
      have HOK := Lib.hid hok
      clear hok
      go_enter Try.func8, Try.ntmps8
      go_upto_region 1 with fail
      rw [← HW1.out, ← EQ.out]
      go_wp2_with fail
      refine HN.out.mono ?_
      rintro e w2 ⟨tp, rfl, ht, hge, hb⟩
      have HT2 := Lib.hid ht
      have HB2 := Lib.hid (HB1.out.trans (hb.mono HB1.out.size))
      have HGE : Hid (w1.heap.size ≤ tp) := Lib.hid hge
      have HGW : Hid (w.heap.size ≤ tp) := Lib.hid (Nat.le_trans HB1.out.size hge)
      have HQ2 := Lib.hid (blk_below HQ1.out hb)
      have HQT : Hid (q ≠ tp) := Lib.hid (by have := blk_lt HQ1.out; omega)
      clear ht hge hb c0 c1 c2
      go_wp2_with fail
      refine (HA.out _).mono ?_
      rintro e wa0 ⟨rfl, hba0⟩
      have HBA0 := Lib.hid (HB2.out.trans (hba0.mono HB2.out.size))
      clear hba0
      go_wp2_with fail
      go_ret
      exact ⟨rfl, HBA0.out⟩

    | false =>
      have hn : n ≤ 5000 := by have : ¬ ((5000 : Int) < (n : Int)) := of_decide_eq_false h1; omega
      have HN := Lib.hid (new_yes hok w1)
      have HGD := Lib.hid (new_good hok)
      have HOK := Lib.hid hok
      clear hok
      go_enter Try.func8, Try.ntmps8
      go_upto_region 1 with fail
      rw [← HW1.out, ← EQ.out]
      go_wp2_with fail
      refine HN.out.mono ?_
      rintro e w2 ⟨tp, rfl, ht, hge, hb⟩
      have HT2 := Lib.hid ht
      have HB2 := Lib.hid (HB1.out.trans (hb.mono HB1.out.size))
      have HGE : Hid (w1.heap.size ≤ tp) := Lib.hid hge
      have HGW : Hid (w.heap.size ≤ tp) := Lib.hid (Nat.le_trans HB1.out.size hge)
      have HQ2 := Lib.hid (blk_below HQ1.out hb)
      have HQT : Hid (q ≠ tp) := Lib.hid (by have := blk_lt HQ1.out; omega)
      clear ht hge hb c0 c1 c2

      obtain ⟨X0, hX0⟩ : ∃ X, newT s m p = X := ⟨_, rfl⟩
      have HS0 : Hid (X0.sp = p) := Lib.hid (by rw [← hX0]; rfl)
      rw [hX0] at HT2 HGD
      clear hX0
      go_wp2_with fail
      go_loopw [34] (fun i wr => ∃ (k : Nat) (T : Tm), k ≤ n ∧ i = .int .i64 k ∧ Hid (TimW wr tp T) ∧ Hid (El.Good T) ∧ Hid (T.sp = p) ∧ Hid (wr.heap[q]? = some (.cells #[.int .i64 s, .int .i64 m, .int .i64 p] 23 (0, 0))) ∧ Hid (Below w.heap.size w wr)) (fun i _ => n - (intOf i).toNat)
      case atStart => exact ⟨0, _, Nat.zero_le _, rfl, HT2, HGD, HS0, HQ2, HB2⟩
      case round =>
        obtain ⟨k, T, hk, rfl, HR, HG, HS, HQ, HX⟩ := hrel
        by_cases hlt : k < n
        · skip
          have hki : (k : Int) < (n : Int) := by omega
          have hwk : IntKind.i64.wrap ((k : Int) + 1) = (k : Int) + 1 := by rw [IntKind.wrap_i64]; omega
          obtain ⟨b0, o0, x, hA, hx, hcx⟩ := icell_at2 (HL.out.below HX.out) hlt
          subst hA
          clear hx
          have HLW := Lib.hid (limit_any HR.out)
          by_cases hc2 : x = 2
          · skip
            subst hc2
            have e21 : ((2 : Int) == 1) = false := by decide
            have HGT := Lib.hid (heard_good HG.out)
            have HSP : Hid ((heard T).sp = p) := Lib.hid HS.out
            have HLE : Hid (T.lm ≤ (heard T).lm) := Lib.hid (Int.le_refl _)
            have HCA := Lib.hid (heard_any HR.out)
            obtain ⟨T', hT'⟩ : ∃ T', heard T = T' := ⟨_, rfl⟩
            rw [hT'] at HGT HSP HLE HCA
            clear hT'
            have hle := HLE.out
            have hgt := HGT.out
            have g1 : decide (T'.lm < T.lm) = false := by simp; omega
            have g2 : decide (1000000 < T'.lm) = false := by have := hgt.lm2; simp; omega
            have g3 : decide (T'.wt < 0) = false := by have := hgt.wt1; simp; omega
            have g4 : decide (T'.lm ≤ T'.wt) = false := by have := hgt.wt2; simp; omega
            clear hgt hle
            obtain ⟨lm, hlm⟩ : ∃ y, T.lm = y := ⟨_, rfl⟩
            rw [hlm] at g1 HLW
            obtain ⟨lm2, hlm2⟩ : ∃ y, T'.lm = y := ⟨_, rfl⟩
            obtain ⟨wt2, hwt2⟩ : ∃ y, T'.wt = y := ⟨_, rfl⟩
            rw [hlm2] at g1 g2 g4
            rw [hwt2] at g3 g4
            have HLA : Hid (∀ W, TimW W tp T' → Calls Try.prog 16 #[.pointer (some ⟨tp, 0, none⟩)] W fun e w' => e = .returned (.int .i64 lm2) ∧ w' = W) := Lib.hid (fun W hS => by rw [← hlm2]; exact (limit_any hS).mono fun _ _ he => ⟨he.1, he.2.symm⟩)
            have HWA : Hid (∀ W, TimW W tp T' → Calls Try.prog 15 #[.pointer (some ⟨tp, 0, none⟩)] W fun e w' => e = .returned (.int .i64 wt2) ∧ w' = W) := Lib.hid (fun W hS => by rw [← hwt2]; exact (wait_any hS).mono fun _ _ he => ⟨he.1, he.2.symm⟩)
            clear hlm hlm2 hwt2
            go_wp2_with fail
            refine HLW.out.mono ?_
            rintro e w0 ⟨rfl, rfl⟩
            go_wp2_with fail
            refine HCA.out.mono ?_
            rintro e w4 ⟨rfl, h3, h4⟩
            have HT4 := Lib.hid h3
            have HB4 := Lib.hid (h4.on HX.out HGW.out)
            have HQ4 := Lib.hid ((h4.rest q HQT.out).trans HQ.out)
            clear h3 h4 hcx
            have d2 := cell_of HQ4.out (j := 2) rfl
            go_upto_region 11 with fail
            go_quiet (first | (go_at_call 16; refine Calls.quiet_of_same (HLA.out _ ?_); exact HT4.out) | (go_at_call 15; refine Calls.quiet_of_same (HWA.out _ ?_); exact HT4.out))
            obtain ⟨w5, hw5⟩ : ∃ W, W = w4.drewN nq := ⟨_, rfl⟩
            have HT5 : Hid (TimW w5 tp T') := Lib.hid (by rw [hw5]; exact HT4.out)
            have HB5 : Hid (Below w.heap.size w w5) := Lib.hid (by rw [hw5]; exact below_drewN HB4.out _)
            have HQ5 : Hid (w5.heap[q]? = some (.cells #[.int .i64 s, .int .i64 m, .int .i64 p] 23 (0, 0))) := Lib.hid (by rw [hw5]; exact HQ4.out)
            rw [← hw5]
            clear hw5 d2
            go_wp2_with fail
            go_roundw
            case rel => exact ⟨k + 1, T', by omega, by go_num, HT5, HGT, HSP, HQ5, HB5⟩
            case measure => simp [intOf]; omega


          · by_cases hc1 : x = 1
            · skip
              subst hc1
              have e21 : ((1 : Int) == 2) = false := by decide
              have HGT := Lib.hid (tick_good HG.out true)
              have HSP : Hid ((tickT T true).sp = p) := Lib.hid ((tick_span T true).1.trans HS.out)
              have HLE : Hid (T.lm ≤ (tickT T true).lm) := Lib.hid (tick_limit HG.out true).1
              have HFW : Hid ((tickT T true).wt < p) := Lib.hid (by have := fresh_wait HG.out; rw [HS.out] at this; exact this)
              have HCA := Lib.hid (tick_is HR.out HG.out true rfl rfl rfl)
              obtain ⟨T', hT'⟩ : ∃ T', tickT T true = T' := ⟨_, rfl⟩
              obtain ⟨ld, hld⟩ : ∃ b, leadT T true = b := ⟨_, rfl⟩
              obtain ⟨nd, hnd⟩ : ∃ b, nudgeT T true = b := ⟨_, rfl⟩
              rw [hld, hnd] at HCA
              rw [hT'] at HFW
              have g5 : decide (p ≤ T'.wt) = false := by have := HFW.out; simp; omega
              clear hld hnd
              rw [hT'] at HGT HSP HLE HCA
              clear hT'
              have hle := HLE.out
              have hgt := HGT.out
              have g1 : decide (T'.lm < T.lm) = false := by simp; omega
              have g2 : decide (1000000 < T'.lm) = false := by have := hgt.lm2; simp; omega
              have g3 : decide (T'.wt < 0) = false := by have := hgt.wt1; simp; omega
              have g4 : decide (T'.lm ≤ T'.wt) = false := by have := hgt.wt2; simp; omega
              clear hgt hle
              obtain ⟨lm, hlm⟩ : ∃ y, T.lm = y := ⟨_, rfl⟩
              rw [hlm] at g1 HLW
              obtain ⟨lm2, hlm2⟩ : ∃ y, T'.lm = y := ⟨_, rfl⟩
              obtain ⟨wt2, hwt2⟩ : ∃ y, T'.wt = y := ⟨_, rfl⟩
              rw [hlm2] at g1 g2 g4
              rw [hwt2] at g3 g4 g5
              have HLA : Hid (∀ W, TimW W tp T' → Calls Try.prog 16 #[.pointer (some ⟨tp, 0, none⟩)] W fun e w' => e = .returned (.int .i64 lm2) ∧ w' = W) := Lib.hid (fun W hS => by rw [← hlm2]; exact (limit_any hS).mono fun _ _ he => ⟨he.1, he.2.symm⟩)
              have HWA : Hid (∀ W, TimW W tp T' → Calls Try.prog 15 #[.pointer (some ⟨tp, 0, none⟩)] W fun e w' => e = .returned (.int .i64 wt2) ∧ w' = W) := Lib.hid (fun W hS => by rw [← hwt2]; exact (wait_any hS).mono fun _ _ he => ⟨he.1, he.2.symm⟩)
              clear hlm hlm2 hwt2
              go_wp2_with fail
              refine HLW.out.mono ?_
              rintro e w0 ⟨rfl, rfl⟩
              go_wp2_with fail
              refine HCA.out.mono ?_
              rintro e w4 ⟨rfl, h3, h4⟩
              have HT4 := Lib.hid h3
              have HB4 := Lib.hid (h4.on HX.out HGW.out)
              have HQ4 := Lib.hid ((h4.rest q HQT.out).trans HQ.out)
              clear h3 h4 hcx
              have d2 := cell_of HQ4.out (j := 2) rfl
              go_upto_region 11 with fail
              go_quiet (first | (go_at_call 16; refine Calls.quiet_of_same (HLA.out _ ?_); exact HT4.out) | (go_at_call 15; refine Calls.quiet_of_same (HWA.out _ ?_); exact HT4.out))
              obtain ⟨w5, hw5⟩ : ∃ W, W = w4.drewN nq := ⟨_, rfl⟩
              have HT5 : Hid (TimW w5 tp T') := Lib.hid (by rw [hw5]; exact HT4.out)
              have HB5 : Hid (Below w.heap.size w w5) := Lib.hid (by rw [hw5]; exact below_drewN HB4.out _)
              have HQ5 : Hid (w5.heap[q]? = some (.cells #[.int .i64 s, .int .i64 m, .int .i64 p] 23 (0, 0))) := Lib.hid (by rw [hw5]; exact HQ4.out)
              rw [← hw5]
              clear hw5 d2
              go_wp2_with fail
              go_roundw
              case rel => exact ⟨k + 1, T', by omega, by go_num, HT5, HGT, HSP, HQ5, HB5⟩
              case measure => simp [intOf]; omega


            · skip
              have e2 : (x == 2) = false := by simp [hc2]
              have e1 : (x == 1) = false := by simp [hc1]
              have HGT := Lib.hid (tick_good HG.out false)
              have HSP : Hid ((tickT T false).sp = p) := Lib.hid ((tick_span T false).1.trans HS.out)
              have HLE : Hid (T.lm ≤ (tickT T false).lm) := Lib.hid (tick_limit HG.out false).1
              have HCA := Lib.hid (tick_is HR.out HG.out false rfl rfl rfl)
              obtain ⟨T', hT'⟩ : ∃ T', tickT T false = T' := ⟨_, rfl⟩
              obtain ⟨ld, hld⟩ : ∃ b, leadT T false = b := ⟨_, rfl⟩
              obtain ⟨nd, hnd⟩ : ∃ b, nudgeT T false = b := ⟨_, rfl⟩
              rw [hld, hnd] at HCA
              clear hld hnd
              rw [hT'] at HGT HSP HLE HCA
              clear hT'
              have hle := HLE.out
              have hgt := HGT.out
              have g1 : decide (T'.lm < T.lm) = false := by simp; omega
              have g2 : decide (1000000 < T'.lm) = false := by have := hgt.lm2; simp; omega
              have g3 : decide (T'.wt < 0) = false := by have := hgt.wt1; simp; omega
              have g4 : decide (T'.lm ≤ T'.wt) = false := by have := hgt.wt2; simp; omega
              clear hgt hle hc2 hc1
              obtain ⟨lm, hlm⟩ : ∃ y, T.lm = y := ⟨_, rfl⟩
              rw [hlm] at g1 HLW
              obtain ⟨lm2, hlm2⟩ : ∃ y, T'.lm = y := ⟨_, rfl⟩
              obtain ⟨wt2, hwt2⟩ : ∃ y, T'.wt = y := ⟨_, rfl⟩
              rw [hlm2] at g1 g2 g4
              rw [hwt2] at g3 g4
              have HLA : Hid (∀ W, TimW W tp T' → Calls Try.prog 16 #[.pointer (some ⟨tp, 0, none⟩)] W fun e w' => e = .returned (.int .i64 lm2) ∧ w' = W) := Lib.hid (fun W hS => by rw [← hlm2]; exact (limit_any hS).mono fun _ _ he => ⟨he.1, he.2.symm⟩)
              have HWA : Hid (∀ W, TimW W tp T' → Calls Try.prog 15 #[.pointer (some ⟨tp, 0, none⟩)] W fun e w' => e = .returned (.int .i64 wt2) ∧ w' = W) := Lib.hid (fun W hS => by rw [← hwt2]; exact (wait_any hS).mono fun _ _ he => ⟨he.1, he.2.symm⟩)
              clear hlm hlm2 hwt2
              go_wp2_with fail
              refine HLW.out.mono ?_
              rintro e w0 ⟨rfl, rfl⟩
              go_wp2_with fail
              refine HCA.out.mono ?_
              rintro e w4 ⟨rfl, h3, h4⟩
              have HT4 := Lib.hid h3
              have HB4 := Lib.hid (h4.on HX.out HGW.out)
              have HQ4 := Lib.hid ((h4.rest q HQT.out).trans HQ.out)
              clear h3 h4 hcx
              have d2 := cell_of HQ4.out (j := 2) rfl
              go_upto_region 11 with fail
              go_quiet (first | (go_at_call 16; refine Calls.quiet_of_same (HLA.out _ ?_); exact HT4.out) | (go_at_call 15; refine Calls.quiet_of_same (HWA.out _ ?_); exact HT4.out))
              obtain ⟨w5, hw5⟩ : ∃ W, W = w4.drewN nq := ⟨_, rfl⟩
              have HT5 : Hid (TimW w5 tp T') := Lib.hid (by rw [hw5]; exact HT4.out)
              have HB5 : Hid (Below w.heap.size w w5) := Lib.hid (by rw [hw5]; exact below_drewN HB4.out _)
              have HQ5 : Hid (w5.heap[q]? = some (.cells #[.int .i64 s, .int .i64 m, .int .i64 p] 23 (0, 0))) := Lib.hid (by rw [hw5]; exact HQ4.out)
              rw [← hw5]
              clear hw5 d2
              go_wp2_with fail
              go_roundw
              case rel => exact ⟨k + 1, T', by omega, by go_num, HT5, HGT, HSP, HQ5, HB5⟩
              case measure => simp [intOf]; omega


        · obtain rfl : k = n := by omega
          go_wp2_with fail
          refine (HA.out _).mono ?_
          rintro e wa3 ⟨rfl, hba3⟩
          have HBA3 := Lib.hid (HX.out.trans (hba3.mono HX.out.size))
          clear hba3
          go_wp2_with fail
          go_ret
          exact ⟨rfl, HBA3.out⟩
end Go.Proofs.Ytbgobchmkohhnaa
