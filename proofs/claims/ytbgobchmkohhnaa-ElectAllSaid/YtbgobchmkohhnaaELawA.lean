/-
  ElectAll returns true. Condition: memory holds the numbers.
-/
import Derived.Test.YtbgobchmkohhnaaEAlive
namespace Go.Proofs.Ytbgobchmkohhnaa
set_option maxRecDepth 100000
open Go.ChangeShapes Go.WideShapes Go.ChangeAt Go.RowKit Go.Proofs.Rk Go.Proofs.El

theorem icell_at3 {w : World} {A : Option Addr} {n k : Nat} {l : List Int} (h : Rd icell 1 w A n l) (hk : k < n) : ∃ b off x, A = some ⟨b, off, none⟩ ∧ l[k]? = some x ∧ w.cell? ⟨b, off + k, none⟩ = some (.int .i64 x) := by
  obtain ⟨b, off, x, hA, hx, hc⟩ := h.at hk
  exact ⟨b, off, x, hA, hx, by have := hc 0 (.int .i64 x) rfl; rwa [Nat.mul_one, Nat.add_zero] at this⟩
theorem setl4b {w : World} {r : Nat} {m a b c : Int} (hb : w.heap[r]? = some (.cells (rcells m a b c) 30 (0, 0))) (a' b' c' : Int) : Wr r w (((((w.setCell ⟨r, 0, none⟩ (.int .i64 m)).setCell ⟨r, 1, none⟩ (.int .i64 a')).setCell ⟨r, 2, none⟩ (.int .i64 b')).setCell ⟨r, 3, none⟩ (.int .i64 c'))) ∧ (((((w.setCell ⟨r, 0, none⟩ (.int .i64 m)).setCell ⟨r, 1, none⟩ (.int .i64 a')).setCell ⟨r, 2, none⟩ (.int .i64 b')).setCell ⟨r, 3, none⟩ (.int .i64 c'))).heap[r]? = some (.cells (rcells m a' b' c') 30 (0, 0)) := setl4 hb _ _ _ _
theorem rnew_is {s m p : Int} (w : World) : Calls Try.prog 10 #[.int .i64 s, .int .i64 m, .int .i64 p] w (RnPost w s m p) := rnew_any s m p w
set_option maxHeartbeats 16000000 in
theorem all_law {w : World} {A : Option Addr} {n c : Nat} {l : List Int} (h : Rd icell 1 w A n l) (s m p : Int) : Calls Try.prog 3 #[.agg #[.int .i64 s, .int .i64 m, .int .i64 p], .slice A n c] w fun e w' => e = .returned (.bool true) ∧ Below w.heap.size w w' := by
  have HL := Lib.hid h
  clear h
  have HA := Lib.hid (fun W => alive_any W)
  obtain ⟨w1, hw1⟩ : ∃ w1, w1 = w.alloc (.cells #[.int .i64 s, .int .i64 m, .int .i64 p] 23) := ⟨_, rfl⟩
  obtain ⟨q, eq⟩ : ∃ q, q = w.heap.size := ⟨_, rfl⟩
  have hb1 : Below w.heap.size w w1 := by rw [hw1]; exact box_below w _
  have hq1 : w1.heap[q]? = some (.cells #[.int .i64 s, .int .i64 m, .int .i64 p] 23 (0, 0)) := by rw [hw1, eq]; exact new_block w _
  have HB1 := Lib.hid hb1
  have HQ1 := Lib.hid hq1
  have HW1 := Lib.hid hw1
  have EQ := Lib.hid eq
  clear hw1 eq hb1
  have c0 := cell_of hq1 (j := 0) rfl
  have c1 := cell_of hq1 (j := 1) rfl
  have c2 := cell_of hq1 (j := 2) rfl
  clear hq1
  obtain ⟨ok, hok⟩ : ∃ b, okN s m p = b := ⟨_, rfl⟩
  obtain ⟨t1, h1⟩ : ∃ t, decide (5000 < (n : Int)) = t := ⟨_, rfl⟩
  cases ok with
  | false =>
    have HRN : Hid (∀ W, Calls Try.prog 10 #[.int .i64 s, .int .i64 m, .int .i64 p] W fun e w' => e = .returned (.tuple #[rtz, .int .i64 1]) ∧ Below W.heap.size W w') := Lib.hid (fun W => by
      refine (rnew_any s m p W).mono fun e w' he => ?_
      unfold RnPost at he
      rw [hok] at he
      exact he)
    have HN := Lib.hid (fun W => new_no hok W)
    clear hok
    go_enter Try.func3, Try.ntmps3
    go_upto_region 1 with fail
    rw [← HW1.out, ← EQ.out]
    go_wp2_with fail
    refine (HN.out _).mono ?_
    rintro e w2 ⟨rfl, rfl⟩
    go_wp2_with fail
    refine (HRN.out _).mono ?_
    rintro e w3 ⟨rfl, hb⟩
    obtain ⟨w4, hw4⟩ : ∃ W, W = w3.alloc (.cells #[.int .i64 0, .int .i64 0, .int .i64 0, .int .i64 0] 30) := ⟨_, rfl⟩
    obtain ⟨rb, erb⟩ : ∃ b, b = w3.heap.size := ⟨_, rfl⟩
    have HB3 := Lib.hid (HB1.out.trans (hb.mono HB1.out.size))
    have HX34 := Lib.hid (by rw [hw4]; exact box_below w3 _ : Below w3.heap.size w3 w4)
    have HB4 := Lib.hid (HB3.out.trans (HX34.out.mono HB3.out.size))
    have HR4 : Hid (w4.heap[rb]? = some (.cells #[.int .i64 0, .int .i64 0, .int .i64 0, .int .i64 0] 30 (0, 0))) := Lib.hid (by rw [hw4, erb]; exact new_block w3 _)
    have HRB : Hid (w.heap.size ≤ rb) := Lib.hid (by have := HB3.out.size; omega)
    have HW4 := Lib.hid hw4
    have ERB := Lib.hid erb
    clear hb hw4 erb
    unfold rtz
    go_upto_region 3 with fail
    rw [← HW4.out, ← ERB.out]
    go_wp2_with fail
    refine (HA.out _).mono ?_
    rintro e wa0 ⟨rfl, hba0⟩
    have HBA0 := Lib.hid (HB4.out.trans (hba0.mono HB4.out.size))
    clear hba0
    go_wp2_with fail
    go_ret
    exact ⟨rfl, HBA0.out⟩

  | true =>
    have HRN : Hid (∀ W, Calls Try.prog 10 #[.int .i64 s, .int .i64 m, .int .i64 p] W fun e w' => e = .returned (.tuple #[rtv m (newT s m p), .int .i64 0]) ∧ Below W.heap.size W w') := Lib.hid (fun W => by
      refine (rnew_any s m p W).mono fun e w' he => ?_
      unfold RnPost at he
      rw [hok] at he
      exact he)

    cases t1 with
    | true =>
      have HN := Lib.hid (new_yes hok w1)
      have HGD := Lib.hid (new_good hok)
      have HOK := Lib.hid hok
      clear hok
      go_enter Try.func3, Try.ntmps3
      go_upto_region 1 with fail
      rw [← HW1.out, ← EQ.out]
      go_wp2_with fail
      refine HN.out.mono ?_
      rintro e w2 ⟨tp, rfl, ht, hge, hb⟩
      have HT2 := Lib.hid ht
      have HB2 := Lib.hid (HB1.out.trans (hb.mono HB1.out.size))
      have HGE : Hid (w1.heap.size ≤ tp) := Lib.hid hge
      have HGW : Hid (w.heap.size ≤ tp) := Lib.hid (Nat.le_trans HB1.out.size hge)
      have HQ2 := Lib.hid (blk_below HQ1.out hb)
      have HQT : Hid (q ≠ tp) := Lib.hid (by have := blk_lt HQ1.out; omega)
      clear ht hge hb c0 c1 c2
      have c0 := cell_of HQ2.out (j := 0) rfl
      have c1 := cell_of HQ2.out (j := 1) rfl
      have c2 := cell_of HQ2.out (j := 2) rfl
      go_wp2_with fail
      refine (HRN.out _).mono ?_
      rintro e w3 ⟨rfl, hb⟩
      obtain ⟨w4, hw4⟩ : ∃ W, W = w3.alloc (.cells #[.int .i64 m, .int .i64 p, .int .i64 0, .int .i64 (p * (s + 2))] 30) := ⟨_, rfl⟩
      obtain ⟨rb, erb⟩ : ∃ b, b = w3.heap.size := ⟨_, rfl⟩
      have HB3 := Lib.hid (HB2.out.trans (hb.mono HB2.out.size))
      have HX34 := Lib.hid (by rw [hw4]; exact box_below w3 _ : Below w3.heap.size w3 w4)
      have HB4 := Lib.hid (HB3.out.trans (HX34.out.mono HB3.out.size))
      have HR4 : Hid (w4.heap[rb]? = some (.cells #[.int .i64 m, .int .i64 p, .int .i64 0, .int .i64 (p * (s + 2))] 30 (0, 0))) := Lib.hid (by rw [hw4, erb]; exact new_block w3 _)
      have HRB : Hid (w.heap.size ≤ rb) := Lib.hid (by have := HB3.out.size; omega)
      have HW4 := Lib.hid hw4
      have ERB := Lib.hid erb
      have HT3 := Lib.hid (HT2.out.below hb)
      have HT4 := Lib.hid (HT3.out.below HX34.out)
      have HTR : Hid (tp ≠ rb) := Lib.hid (by have : tp < w3.heap.size := blk_lt HT3.out; omega)
      clear hb hw4 erb
      unfold rtv newT
      go_upto_region 3 with fail
      rw [← HW4.out, ← ERB.out]
      clear c0 c1 c2
      go_wp2_with fail
      refine (HA.out _).mono ?_
      rintro e wa0 ⟨rfl, hba0⟩
      have HBA0 := Lib.hid (HB4.out.trans (hba0.mono HB4.out.size))
      clear hba0
      go_wp2_with fail
      go_ret
      exact ⟨rfl, HBA0.out⟩

    | false =>
      have hn : n ≤ 5000 := by have : ¬ ((5000 : Int) < (n : Int)) := of_decide_eq_false h1; omega
      have hmm := mem_cases (okN_cases hok).1
      obtain ⟨hm1, hm7, -, -, -⟩ := hmm
      have HN := Lib.hid (new_yes hok w1)
      have HGD := Lib.hid (new_good hok)
      have HOK := Lib.hid hok
      clear hok
      go_enter Try.func3, Try.ntmps3
      go_upto_region 1 with fail
      rw [← HW1.out, ← EQ.out]
      go_wp2_with fail
      refine HN.out.mono ?_
      rintro e w2 ⟨tp, rfl, ht, hge, hb⟩
      have HT2 := Lib.hid ht
      have HB2 := Lib.hid (HB1.out.trans (hb.mono HB1.out.size))
      have HGE : Hid (w1.heap.size ≤ tp) := Lib.hid hge
      have HGW : Hid (w.heap.size ≤ tp) := Lib.hid (Nat.le_trans HB1.out.size hge)
      have HQ2 := Lib.hid (blk_below HQ1.out hb)
      have HQT : Hid (q ≠ tp) := Lib.hid (by have := blk_lt HQ1.out; omega)
      clear ht hge hb c0 c1 c2
      have c0 := cell_of HQ2.out (j := 0) rfl
      have c1 := cell_of HQ2.out (j := 1) rfl
      have c2 := cell_of HQ2.out (j := 2) rfl
      go_wp2_with fail
      refine (HRN.out _).mono ?_
      rintro e w3 ⟨rfl, hb⟩
      obtain ⟨w4, hw4⟩ : ∃ W, W = w3.alloc (.cells #[.int .i64 m, .int .i64 p, .int .i64 0, .int .i64 (p * (s + 2))] 30) := ⟨_, rfl⟩
      obtain ⟨rb, erb⟩ : ∃ b, b = w3.heap.size := ⟨_, rfl⟩
      have HB3 := Lib.hid (HB2.out.trans (hb.mono HB2.out.size))
      have HX34 := Lib.hid (by rw [hw4]; exact box_below w3 _ : Below w3.heap.size w3 w4)
      have HB4 := Lib.hid (HB3.out.trans (HX34.out.mono HB3.out.size))
      have HR4 : Hid (w4.heap[rb]? = some (.cells #[.int .i64 m, .int .i64 p, .int .i64 0, .int .i64 (p * (s + 2))] 30 (0, 0))) := Lib.hid (by rw [hw4, erb]; exact new_block w3 _)
      have HRB : Hid (w.heap.size ≤ rb) := Lib.hid (by have := HB3.out.size; omega)
      have HW4 := Lib.hid hw4
      have ERB := Lib.hid erb
      have HT3 := Lib.hid (HT2.out.below hb)
      have HT4 := Lib.hid (HT3.out.below HX34.out)
      have HTR : Hid (tp ≠ rb) := Lib.hid (by have : tp < w3.heap.size := blk_lt HT3.out; omega)
      clear hb hw4 erb
      unfold rtv newT
      go_upto_region 3 with fail
      rw [← HW4.out, ← ERB.out]
      clear c0 c1 c2

      obtain ⟨X0, hX0⟩ : ∃ X, newT s m p = X := ⟨_, rfl⟩
      have HS0 : Hid (X0.gr = X0.sp * (m + 2)) := Lib.hid (by rw [← hX0]; rfl)
      have HR0 : Hid (w4.heap[rb]? = some (.cells (rcells m X0.sp X0.wt X0.lm) 30 (0, 0))) := Lib.hid (by rw [← hX0]; exact HR4.out)
      rw [hX0] at HT4 HGD
      clear hX0
      go_wp2_with fail
      go_loopw [56] (fun i wr => ∃ (k : Nat) (T : Tm), k ≤ n ∧ i = .int .i64 k ∧ Hid (TimW wr tp T) ∧ Hid (El.Good T) ∧ Hid (T.gr = T.sp * (m + 2)) ∧ Hid (wr.heap[rb]? = some (.cells (rcells m T.sp T.wt T.lm) 30 (0, 0))) ∧ Hid (Below w.heap.size w wr)) (fun i _ => n - (intOf i).toNat)
      case atStart => exact ⟨0, X0, Nat.zero_le _, rfl, HT4, HGD, HS0, HR0, HB4⟩
      case round =>
        obtain ⟨k, T, hk, rfl, HR, HG, HS, HRT, HX⟩ := hrel
        by_cases hlt : k < n
        · skip
          have hki : (k : Int) < (n : Int) := by omega
          have hwk : IntKind.i64.wrap ((k : Int) + 1) = (k : Int) + 1 := by rw [IntKind.wrap_i64]; omega
          obtain ⟨b0, o0, x, hA, hx, hcx⟩ := icell_at3 (HL.out.below HX.out) hlt
          subst hA
          clear hx
          by_cases hc2 : x = 2
          · subst hc2
            have HGT := Lib.hid (heard_good HG.out)
            have HGE2 : Hid ((heard T).gr = (heard T).sp * (m + 2)) := Lib.hid HS.out
            have HCA := Lib.hid (heard_any HR.out)
            have HR5 : Hid (∀ W : World, W.heap[rb]? = some (.cells (rcells m T.sp T.wt T.lm) 30 (0, 0)) → (W.setCell ⟨rb, 2, none⟩ (.int .i64 0)).heap[rb]? = some (.cells (rcells m (heard T).sp (heard T).wt (heard T).lm) 30 (0, 0))) := Lib.hid (fun W hW => heap_setCell_same W rb 2 _ _ _ hW)
            obtain ⟨T', hT'⟩ : ∃ T', heard T = T' := ⟨_, rfl⟩
            rw [hT'] at HGT HGE2 HCA HR5
            clear hT'
            go_wp2_with fail
            refine HCA.out.mono ?_
            rintro e w5 ⟨rfl, h3, h4⟩
            have HR5' := Lib.hid ((h4.rest rb (fun e => HTR.out e.symm)).trans HRT.out)
            have HB5 := Lib.hid (h4.on HX.out HGW.out)
            have HT5 := Lib.hid h3
            have q5 := HR5'.out
            have d2 := cell_of q5 (j := 2) rfl
            have d3 := cell_of q5 (j := 3) rfl
            have rf2 := frozen_of_row w5 _ 2 _ _ q5
            have rf3 := frozen_of_row w5 _ 3 _ _ q5
            clear h3 h4 q5
            go_upto_region 13 with fail
            obtain ⟨w6, hw6⟩ : ∃ W, W = w5.setCell ⟨rb, 2, none⟩ (.int .i64 0) := ⟨_, rfl⟩
            have HR6 := Lib.hid (HR5.out _ HR5'.out)
            rw [← hw6] at HR6
            have HB6 : Hid (Below w.heap.size w w6) := Lib.hid (by rw [hw6]; exact HB5.out.setCell HRB.out _)
            have HT6 : Hid (TimW w6 tp T') := Lib.hid (by rw [hw6]; exact (Go.Deep.blk_setCell_other w5 _ _ tp HTR.out).trans HT5.out)
            rw [← hw6]
            clear hw6 d2 rf2
            have hq0 := HR6.out
            have d0 := cell_of hq0 (j := 0) rfl
            have d1 := cell_of hq0 (j := 1) rfl
            have d2 := cell_of hq0 (j := 2) rfl
            have d3 := cell_of hq0 (j := 3) rfl
            obtain ⟨lm, hlm⟩ : ∃ y, T'.lm = y := ⟨_, rfl⟩
            obtain ⟨wt, hwt⟩ : ∃ y, T'.wt = y := ⟨_, rfl⟩
            rw [hlm] at d3
            rw [hwt] at d2
            have HLA : Hid (∀ W, TimW W tp T' → Calls Try.prog 16 #[.pointer (some ⟨tp, 0, none⟩)] W fun e w' => e = .returned (.int .i64 lm) ∧ w' = W) := Lib.hid (fun W hS => by rw [← hlm]; exact (limit_any hS).mono fun _ _ he => ⟨he.1, he.2.symm⟩)
            have HWA : Hid (∀ W, TimW W tp T' → Calls Try.prog 15 #[.pointer (some ⟨tp, 0, none⟩)] W fun e w' => e = .returned (.int .i64 wt) ∧ w' = W) := Lib.hid (fun W hS => by rw [← hwt]; exact (wait_any hS).mono fun _ _ he => ⟨he.1, he.2.symm⟩)
            clear hlm hwt hq0
            go_upto_region 19 with fail
            go_quiet (first | (go_at_call 16; refine Calls.quiet_of_same (HLA.out _ ?_); exact HT6.out) | (go_at_call 15; refine Calls.quiet_of_same (HWA.out _ ?_); exact HT6.out))
            obtain ⟨w9, hw9⟩ : ∃ W, W = w6.drewN nq := ⟨_, rfl⟩
            have HT9 : Hid (TimW w9 tp T') := Lib.hid (by rw [hw9]; exact HT6.out)
            have HB9 : Hid (Below w.heap.size w w9) := Lib.hid (by rw [hw9]; exact below_drewN HB6.out _)
            have HR9 : Hid (w9.heap[rb]? = some (.cells (rcells m T'.sp T'.wt T'.lm) 30 (0, 0))) := Lib.hid (by rw [hw9]; exact HR6.out)
            rw [← hw9]
            clear hw9 d0 d1 d2 d3
            go_wp2_with fail
            go_roundw
            case rel => exact ⟨k + 1, T', by omega, by go_num, HT9, HGT, HGE2, HR9, HB9⟩
            case measure => simp [intOf]; omega

          · have e2 : (x == 2) = false := by simp [hc2]
            by_cases hc1 : x = 1
            · clear e2 hc2
              subst hc1
              have HGT := Lib.hid (tick_good HG.out true)
              have HGE2 : Hid ((tickT T true).gr = (tickT T true).sp * (m + 2)) := Lib.hid (by rw [(tick_span T true).1, (tick_span T true).2]; exact HS.out)
              have HCA := Lib.hid (fun W (hT : TimW W tp T) => tick_is hT HG.out true rfl rfl rfl)
              have HRA := Lib.hid (fun W => rtick_any (w := W) HG.out HS.out hm1 hm7 true)
              unfold RtPost at HRA
              obtain ⟨T', hT'⟩ : ∃ T', tickT T true = T' := ⟨_, rfl⟩
              obtain ⟨ld, hld⟩ : ∃ b, leadT T true = b := ⟨_, rfl⟩
              obtain ⟨nd, hnd⟩ : ∃ b, nudgeT T true = b := ⟨_, rfl⟩
              rw [hld, hnd] at HCA HRA
              rw [hT'] at HCA HRA HGT HGE2
              clear hld hnd hT'
              have hbl : (!ld == ld) = false := by cases ld <;> rfl
              have hbn : (!nd == nd) = false := by cases nd <;> rfl
              have q0 := HRT.out
              have d0 := cell_of q0 (j := 0) rfl
              have d1 := cell_of q0 (j := 1) rfl
              have d2 := cell_of q0 (j := 2) rfl
              have d3 := cell_of q0 (j := 3) rfl
              clear q0
              unfold rtv at HRA
              go_wp2_with fail
              refine (HRA.out _).mono ?_
              rintro e w5 ⟨rfl, hb5⟩
              obtain ⟨w6, hw6⟩ : ∃ W, W = w5.alloc (.cells #[.int .i64 m, .int .i64 T'.sp, .int .i64 T'.wt, .int .i64 T'.lm] 30) := ⟨_, rfl⟩
              obtain ⟨r2, er2⟩ : ∃ b, b = w5.heap.size := ⟨_, rfl⟩
              have hb56 : Below w5.heap.size w5 w6 := by rw [hw6]; exact box_below w5 _
              have h26 : w6.heap[r2]? = some (.cells (rcells m T'.sp T'.wt T'.lm) 30 (0, 0)) := by rw [hw6, er2]; exact new_block w5 _
              have HX46 := Lib.hid (below_step hb5 hb56)
              have HR6 := Lib.hid (blk_below HRT.out HX46.out)
              have HW6 := Lib.hid hw6
              have ER2 := Lib.hid er2
              have e0 := cell_of h26 (j := 0) rfl
              have e1 := cell_of h26 (j := 1) rfl
              have e2 := cell_of h26 (j := 2) rfl
              have e3 := cell_of h26 (j := 3) rfl
              have q6 := HR6.out
              have rf0 := frozen_of_row w6 _ 0 _ _ q6
              have rf1 := frozen_of_row w6 _ 1 _ _ q6
              have rf2 := frozen_of_row w6 _ 2 _ _ q6
              have rf3 := frozen_of_row w6 _ 3 _ _ q6
              clear hb5 hw6 er2 hb56 h26 d0 d1 d2 d3
              have d0 := cell_of q6 (j := 0) rfl
              have d1 := cell_of q6 (j := 1) rfl
              have d2 := cell_of q6 (j := 2) rfl
              have d3 := cell_of q6 (j := 3) rfl
              clear q6
              go_upto_region 15 with fail
              rw [← HW6.out, ← ER2.out]
              have HS6 := Lib.hid (setl4b HR6.out T'.sp T'.wt T'.lm)
              obtain ⟨w7, hw7⟩ : ∃ W, W = ((((w6.setCell ⟨rb, 0, none⟩ (.int .i64 m)).setCell ⟨rb, 1, none⟩ (.int .i64 T'.sp)).setCell ⟨rb, 2, none⟩ (.int .i64 T'.wt)).setCell ⟨rb, 3, none⟩ (.int .i64 T'.lm)) := ⟨_, rfl⟩
              rw [← hw7] at HS6
              have HW7 := Lib.hid hw7
              have HT7 := Lib.hid ((HR.out.below HX46.out).other HS6.out.1 HTR.out)
              have HB6 := Lib.hid (HX.out.trans (HX46.out.mono HX.out.size))
              have HB7 := Lib.hid (HS6.out.1.on HB6.out HRB.out)
              have HC7 := Lib.hid (HCA.out _ HT7.out)
              clear hw7
              go_wp2_with fail
              rw [← HW7.out]
              refine HC7.out.mono ?_
              rintro e w8 ⟨rfl, h3, h4⟩
              have HT8 := Lib.hid h3
              have HB8 := Lib.hid (h4.on HB7.out HGW.out)
              have HR8 := Lib.hid ((h4.rest rb (fun e => HTR.out e.symm)).trans HS6.out.2)
              clear h3 h4 e0 e1 e2 e3 d0 d1 d2 d3
              have hq0 := HR8.out
              have d0 := cell_of hq0 (j := 0) rfl
              have d1 := cell_of hq0 (j := 1) rfl
              have d2 := cell_of hq0 (j := 2) rfl
              have d3 := cell_of hq0 (j := 3) rfl
              obtain ⟨lm, hlm⟩ : ∃ y, T'.lm = y := ⟨_, rfl⟩
              obtain ⟨wt, hwt⟩ : ∃ y, T'.wt = y := ⟨_, rfl⟩
              rw [hlm] at d3
              rw [hwt] at d2
              have HLA : Hid (∀ W, TimW W tp T' → Calls Try.prog 16 #[.pointer (some ⟨tp, 0, none⟩)] W fun e w' => e = .returned (.int .i64 lm) ∧ w' = W) := Lib.hid (fun W hS => by rw [← hlm]; exact (limit_any hS).mono fun _ _ he => ⟨he.1, he.2.symm⟩)
              have HWA : Hid (∀ W, TimW W tp T' → Calls Try.prog 15 #[.pointer (some ⟨tp, 0, none⟩)] W fun e w' => e = .returned (.int .i64 wt) ∧ w' = W) := Lib.hid (fun W hS => by rw [← hwt]; exact (wait_any hS).mono fun _ _ he => ⟨he.1, he.2.symm⟩)
              clear hlm hwt hq0
              go_upto_region 19 with fail
              go_quiet (first | (go_at_call 16; refine Calls.quiet_of_same (HLA.out _ ?_); exact HT8.out) | (go_at_call 15; refine Calls.quiet_of_same (HWA.out _ ?_); exact HT8.out))
              obtain ⟨w9, hw9⟩ : ∃ W, W = w8.drewN nq := ⟨_, rfl⟩
              have HT9 : Hid (TimW w9 tp T') := Lib.hid (by rw [hw9]; exact HT8.out)
              have HB9 : Hid (Below w.heap.size w w9) := Lib.hid (by rw [hw9]; exact below_drewN HB8.out _)
              have HR9 : Hid (w9.heap[rb]? = some (.cells (rcells m T'.sp T'.wt T'.lm) 30 (0, 0))) := Lib.hid (by rw [hw9]; exact HR8.out)
              rw [← hw9]
              clear hw9 d0 d1 d2 d3
              go_wp2_with fail
              go_roundw
              case rel => exact ⟨k + 1, T', by omega, by go_num, HT9, HGT, HGE2, HR9, HB9⟩
              case measure => simp [intOf]; omega

            · have e1 : (x == 1) = false := by simp [hc1]
              by_cases hc0 : x = 0
              · clear e1 e2 hc1 hc2
                subst hc0
                have HGT := Lib.hid (tick_good HG.out false)
                have HGE2 : Hid ((tickT T false).gr = (tickT T false).sp * (m + 2)) := Lib.hid (by rw [(tick_span T false).1, (tick_span T false).2]; exact HS.out)
                have HCA := Lib.hid (fun W (hT : TimW W tp T) => tick_is hT HG.out false rfl rfl rfl)
                have HRA := Lib.hid (fun W => rtick_any (w := W) HG.out HS.out hm1 hm7 false)
                unfold RtPost at HRA
                obtain ⟨T', hT'⟩ : ∃ T', tickT T false = T' := ⟨_, rfl⟩
                obtain ⟨ld, hld⟩ : ∃ b, leadT T false = b := ⟨_, rfl⟩
                obtain ⟨nd, hnd⟩ : ∃ b, nudgeT T false = b := ⟨_, rfl⟩
                rw [hld, hnd] at HCA HRA
                rw [hT'] at HCA HRA HGT HGE2
                clear hld hnd hT'
                have hbl : (!ld == ld) = false := by cases ld <;> rfl
                have hbn : (!nd == nd) = false := by cases nd <;> rfl
                have q0 := HRT.out
                have d0 := cell_of q0 (j := 0) rfl
                have d1 := cell_of q0 (j := 1) rfl
                have d2 := cell_of q0 (j := 2) rfl
                have d3 := cell_of q0 (j := 3) rfl
                clear q0
                unfold rtv at HRA
                go_wp2_with fail
                refine (HRA.out _).mono ?_
                rintro e w5 ⟨rfl, hb5⟩
                obtain ⟨w6, hw6⟩ : ∃ W, W = w5.alloc (.cells #[.int .i64 m, .int .i64 T'.sp, .int .i64 T'.wt, .int .i64 T'.lm] 30) := ⟨_, rfl⟩
                obtain ⟨r2, er2⟩ : ∃ b, b = w5.heap.size := ⟨_, rfl⟩
                have hb56 : Below w5.heap.size w5 w6 := by rw [hw6]; exact box_below w5 _
                have h26 : w6.heap[r2]? = some (.cells (rcells m T'.sp T'.wt T'.lm) 30 (0, 0)) := by rw [hw6, er2]; exact new_block w5 _
                have HX46 := Lib.hid (below_step hb5 hb56)
                have HR6 := Lib.hid (blk_below HRT.out HX46.out)
                have HW6 := Lib.hid hw6
                have ER2 := Lib.hid er2
                have e0 := cell_of h26 (j := 0) rfl
                have e1 := cell_of h26 (j := 1) rfl
                have e2 := cell_of h26 (j := 2) rfl
                have e3 := cell_of h26 (j := 3) rfl
                have q6 := HR6.out
                have rf0 := frozen_of_row w6 _ 0 _ _ q6
                have rf1 := frozen_of_row w6 _ 1 _ _ q6
                have rf2 := frozen_of_row w6 _ 2 _ _ q6
                have rf3 := frozen_of_row w6 _ 3 _ _ q6
                clear hb5 hw6 er2 hb56 h26 d0 d1 d2 d3
                have d0 := cell_of q6 (j := 0) rfl
                have d1 := cell_of q6 (j := 1) rfl
                have d2 := cell_of q6 (j := 2) rfl
                have d3 := cell_of q6 (j := 3) rfl
                clear q6
                go_upto_region 15 with fail
                rw [← HW6.out, ← ER2.out]
                have HS6 := Lib.hid (setl4b HR6.out T'.sp T'.wt T'.lm)
                obtain ⟨w7, hw7⟩ : ∃ W, W = ((((w6.setCell ⟨rb, 0, none⟩ (.int .i64 m)).setCell ⟨rb, 1, none⟩ (.int .i64 T'.sp)).setCell ⟨rb, 2, none⟩ (.int .i64 T'.wt)).setCell ⟨rb, 3, none⟩ (.int .i64 T'.lm)) := ⟨_, rfl⟩
                rw [← hw7] at HS6
                have HW7 := Lib.hid hw7
                have HT7 := Lib.hid ((HR.out.below HX46.out).other HS6.out.1 HTR.out)
                have HB6 := Lib.hid (HX.out.trans (HX46.out.mono HX.out.size))
                have HB7 := Lib.hid (HS6.out.1.on HB6.out HRB.out)
                have HC7 := Lib.hid (HCA.out _ HT7.out)
                clear hw7
                go_wp2_with fail
                rw [← HW7.out]
                refine HC7.out.mono ?_
                rintro e w8 ⟨rfl, h3, h4⟩
                have HT8 := Lib.hid h3
                have HB8 := Lib.hid (h4.on HB7.out HGW.out)
                have HR8 := Lib.hid ((h4.rest rb (fun e => HTR.out e.symm)).trans HS6.out.2)
                clear h3 h4 e0 e1 e2 e3 d0 d1 d2 d3
                have hq0 := HR8.out
                have d0 := cell_of hq0 (j := 0) rfl
                have d1 := cell_of hq0 (j := 1) rfl
                have d2 := cell_of hq0 (j := 2) rfl
                have d3 := cell_of hq0 (j := 3) rfl
                obtain ⟨lm, hlm⟩ : ∃ y, T'.lm = y := ⟨_, rfl⟩
                obtain ⟨wt, hwt⟩ : ∃ y, T'.wt = y := ⟨_, rfl⟩
                rw [hlm] at d3
                rw [hwt] at d2
                have HLA : Hid (∀ W, TimW W tp T' → Calls Try.prog 16 #[.pointer (some ⟨tp, 0, none⟩)] W fun e w' => e = .returned (.int .i64 lm) ∧ w' = W) := Lib.hid (fun W hS => by rw [← hlm]; exact (limit_any hS).mono fun _ _ he => ⟨he.1, he.2.symm⟩)
                have HWA : Hid (∀ W, TimW W tp T' → Calls Try.prog 15 #[.pointer (some ⟨tp, 0, none⟩)] W fun e w' => e = .returned (.int .i64 wt) ∧ w' = W) := Lib.hid (fun W hS => by rw [← hwt]; exact (wait_any hS).mono fun _ _ he => ⟨he.1, he.2.symm⟩)
                clear hlm hwt hq0
                go_upto_region 19 with fail
                go_quiet (first | (go_at_call 16; refine Calls.quiet_of_same (HLA.out _ ?_); exact HT8.out) | (go_at_call 15; refine Calls.quiet_of_same (HWA.out _ ?_); exact HT8.out))
                obtain ⟨w9, hw9⟩ : ∃ W, W = w8.drewN nq := ⟨_, rfl⟩
                have HT9 : Hid (TimW w9 tp T') := Lib.hid (by rw [hw9]; exact HT8.out)
                have HB9 : Hid (Below w.heap.size w w9) := Lib.hid (by rw [hw9]; exact below_drewN HB8.out _)
                have HR9 : Hid (w9.heap[rb]? = some (.cells (rcells m T'.sp T'.wt T'.lm) 30 (0, 0))) := Lib.hid (by rw [hw9]; exact HR8.out)
                rw [← hw9]
                clear hw9 d0 d1 d2 d3
                go_wp2_with fail
                go_roundw
                case rel => exact ⟨k + 1, T', by omega, by go_num, HT9, HGT, HGE2, HR9, HB9⟩
                case measure => simp [intOf]; omega

              · have e0 : (x == 0) = false := by simp [hc0]
                have HGT := HG
                have HGE2 := HS
                obtain ⟨T', hT'⟩ : ∃ T', T = T' := ⟨_, rfl⟩
                rw [hT'] at HGT HGE2 HR HRT
                clear hc0 hc1 hc2 hT'
                have hq0 := HRT.out
                have d0 := cell_of hq0 (j := 0) rfl
                have d1 := cell_of hq0 (j := 1) rfl
                have d2 := cell_of hq0 (j := 2) rfl
                have d3 := cell_of hq0 (j := 3) rfl
                obtain ⟨lm, hlm⟩ : ∃ y, T'.lm = y := ⟨_, rfl⟩
                obtain ⟨wt, hwt⟩ : ∃ y, T'.wt = y := ⟨_, rfl⟩
                rw [hlm] at d3
                rw [hwt] at d2
                have HLA : Hid (∀ W, TimW W tp T' → Calls Try.prog 16 #[.pointer (some ⟨tp, 0, none⟩)] W fun e w' => e = .returned (.int .i64 lm) ∧ w' = W) := Lib.hid (fun W hS => by rw [← hlm]; exact (limit_any hS).mono fun _ _ he => ⟨he.1, he.2.symm⟩)
                have HWA : Hid (∀ W, TimW W tp T' → Calls Try.prog 15 #[.pointer (some ⟨tp, 0, none⟩)] W fun e w' => e = .returned (.int .i64 wt) ∧ w' = W) := Lib.hid (fun W hS => by rw [← hwt]; exact (wait_any hS).mono fun _ _ he => ⟨he.1, he.2.symm⟩)
                clear hlm hwt hq0
                go_upto_region 19 with fail
                go_quiet (first | (go_at_call 16; refine Calls.quiet_of_same (HLA.out _ ?_); exact HR.out) | (go_at_call 15; refine Calls.quiet_of_same (HWA.out _ ?_); exact HR.out))
                obtain ⟨w9, hw9⟩ : ∃ W, W = wr.drewN nq := ⟨_, rfl⟩
                have HT9 : Hid (TimW w9 tp T') := Lib.hid (by rw [hw9]; exact HR.out)
                have HB9 : Hid (Below w.heap.size w w9) := Lib.hid (by rw [hw9]; exact below_drewN HX.out _)
                have HR9 : Hid (w9.heap[rb]? = some (.cells (rcells m T'.sp T'.wt T'.lm) 30 (0, 0))) := Lib.hid (by rw [hw9]; exact HRT.out)
                rw [← hw9]
                clear hw9 d0 d1 d2 d3
                go_wp2_with fail
                go_roundw
                case rel => exact ⟨k + 1, T', by omega, by go_num, HT9, HGT, HGE2, HR9, HB9⟩
                case measure => simp [intOf]; omega

        · obtain rfl : k = n := by omega
          go_wp2_with fail
          refine (HA.out _).mono ?_
          rintro e wa3 ⟨rfl, hba3⟩
          have HBA3 := Lib.hid (HX.out.trans (hba3.mono HX.out.size))
          clear hba3
          go_wp2_with fail
          go_ret
          exact ⟨rfl, HBA3.out⟩
end Go.Proofs.Ytbgobchmkohhnaa
