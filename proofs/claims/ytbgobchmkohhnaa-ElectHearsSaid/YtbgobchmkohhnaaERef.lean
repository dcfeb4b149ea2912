/-
  What the document's New and Tick return. Condition: the timer is a good one.
-/
import Derived.Test.YtbgobchmkohhnaaETick
namespace Go.Proofs.Ytbgobchmkohhnaa
set_option maxRecDepth 100000
open Go.ChangeShapes Go.WideShapes Go.ChangeAt Go.RowKit Go.Proofs.Rk Go.Proofs.El

abbrev rcells (m a b c : Int) : Array Value := #[.int .i64 m, .int .i64 a, .int .i64 b, .int .i64 c]
/-- The memory of a call: a box that holds the timer, one for what is told. -/
structure Tb2 (w0 : World) (q r : Nat) (m a b c : Int) (w : World) : Prop where
  below : Below w0.heap.size w0 w
  bq : w.heap[q]? = some (.cells (rcells m a b c) 30 (0, 0))
  br : w.heap[r]? = some (.cells (rcells 0 0 0 0) 30 (0, 0))
theorem Tb2.wait {w0 w : World} {q r : Nat} {m a b c : Int} (h : Tb2 w0 q r m a b c w) (hq : w0.heap.size ≤ q) (hn : r ≠ q) (x : Int) : Tb2 w0 q r m a x c (w.setCell ⟨q, 2, none⟩ (.int .i64 x)) :=
  ⟨h.below.setCell hq _, heap_setCell_same w q 2 _ _ _ h.bq, (Go.Deep.blk_setCell_other w _ _ r hn).trans h.br⟩
theorem Tb2.limit {w0 w : World} {q r : Nat} {m a b c : Int} (h : Tb2 w0 q r m a b c w) (hq : w0.heap.size ≤ q) (hn : r ≠ q) (x : Int) : Tb2 w0 q r m a b x (w.setCell ⟨q, 3, none⟩ (.int .i64 x)) :=
  ⟨h.below.setCell hq _, heap_setCell_same w q 3 _ _ _ h.bq, (Go.Deep.blk_setCell_other w _ _ r hn).trans h.br⟩
theorem fin4 {w0 w : World} {r : Nat} (hb : Below w0.heap.size w0 w) (hr : w0.heap.size ≤ r) (h : w.heap[r]? = some (.cells (rcells 0 0 0 0) 30 (0, 0))) (m a b c : Int) {w6 : World} (e : w6 = ((((w.setCell ⟨r, 0, none⟩ (.int .i64 m)).setCell ⟨r, 1, none⟩ (.int .i64 a)).setCell ⟨r, 2, none⟩ (.int .i64 b)).setCell ⟨r, 3, none⟩ (.int .i64 c))) :
    Below w0.heap.size w0 w6 ∧ w6.heap[r]? = some (.cells (rcells m a b c) 30 (0, 0)) := by
  subst e
  have := setl4 h (.int .i64 m) (.int .i64 a) (.int .i64 b) (.int .i64 c)
  exact ⟨hb.trans (gb_to this.1.gb hr hb.size), this.2⟩
theorem okN_five (s m p : Int) : okN s m p = (isG m && !decide (s < 0) && !decide (m ≤ s) && !decide (p < 1) && !decide (1000 < p)) := by
  rw [okN_parts, mem_parts, dec_lt s m]
set_option maxHeartbeats 4000000 in
theorem rnew_any (s m p : Int) (w : World) : Calls Try.prog 10 #[.int .i64 s, .int .i64 m, .int .i64 p] w (RnPost w s m p) := by
  have HQ := Lib.hid (fun W => rquorum_any m W)
  obtain ⟨g, hg⟩ : ∃ g, isG m = g := ⟨_, rfl⟩
  obtain ⟨t1, h1⟩ : ∃ t, decide (s < 0) = t := ⟨_, rfl⟩
  obtain ⟨t2, h2⟩ : ∃ t, decide (m ≤ s) = t := ⟨_, rfl⟩
  obtain ⟨t3, h3⟩ : ∃ t, decide (p < 1) = t := ⟨_, rfl⟩
  obtain ⟨t4, h4⟩ : ∃ t, decide (1000 < p) = t := ⟨_, rfl⟩
  have HM : Hid (okN s m p = (g && !t1 && !t2 && !t3 && !t4)) := Lib.hid (by rw [okN_five, hg, h1, h2, h3, h4])
  obtain ⟨w1, hw1⟩ : ∃ w1, w1 = w.alloc (.cells (rcells 0 0 0 0) 30) := ⟨_, rfl⟩
  obtain ⟨r, er⟩ : ∃ r, r = w.heap.size := ⟨_, rfl⟩
  have hb1 : Below w.heap.size w w1 := by rw [hw1]; exact box_below w _
  have hr1 : w1.heap[r]? = some (.cells (rcells 0 0 0 0) 30 (0, 0)) := by rw [hw1, er]; exact new_block w _
  have HRR : Hid (w.heap.size ≤ r) := Lib.hid (by omega)
  have HB1 := Lib.hid hb1
  have HR1 := Lib.hid hr1
  have HW1 : Hid (w1 = w.alloc (.cells #[.int .i64 0, .int .i64 0, .int .i64 0, .int .i64 0] 30)) := Lib.hid hw1
  have ER := Lib.hid er
  clear hw1 er hb1
  have q0 := cell_of hr1 (j := 0) rfl
  have q1 := cell_of hr1 (j := 1) rfl
  have q2 := cell_of hr1 (j := 2) rfl
  have q3 := cell_of hr1 (j := 3) rfl
  have rf0 := frozen_of_row w1 _ 0 _ _ hr1
  have rf1 := frozen_of_row w1 _ 1 _ _ hr1
  have rf2 := frozen_of_row w1 _ 2 _ _ hr1
  have rf3 := frozen_of_row w1 _ 3 _ _ hr1
  clear hr1
  cases g with
  | false =>
    have HQ0 : Hid (∀ W : World, Calls Try.prog 20 #[.int .i64 m] W fun e w' => e = .returned (.int .i64 0) ∧ W = w') := Lib.hid (fun W => by rw [← quo_zero hg]; exact HQ.out W)
    clear HQ hg
    have HN : Hid (okN s m p = false) := Lib.hid (by rw [HM.out]; simp)
    obtain ⟨w6, hw6⟩ : ∃ w6, w6 = ((((w1.setCell ⟨r, 0, none⟩ (.int .i64 0)).setCell ⟨r, 1, none⟩ (.int .i64 0)).setCell ⟨r, 2, none⟩ (.int .i64 0)).setCell ⟨r, 3, none⟩ (.int .i64 0)) := ⟨_, rfl⟩
    obtain ⟨hb6, h6⟩ := fin4 HB1.out HRR.out HR1.out 0 0 0 0 hw6
    have e0 := cell_of h6 (j := 0) rfl
    have e1 := cell_of h6 (j := 1) rfl
    have e2 := cell_of h6 (j := 2) rfl
    have e3 := cell_of h6 (j := 3) rfl
    have HW6 := Lib.hid hw6
    have HE := Lib.hid (rn_no HN.out hb6)
    clear hw6 h6 hb6
    go_enter Try.func10, Try.ntmps10
    go_upto_region 1 with fail
    rw [← HW1.out, ← ER.out]
    go_wp2_with fail
    refine (HQ0.out _).mono ?_
    rintro e w2 ⟨rfl, rfl⟩
    go_wp2_with fail
    rw [← HW6.out]
    exact bodyPost_ret (v := .tuple #[rtz, .int .i64 1]) (by simp [results, Try.results10, go_sem, e0, e1, e2, e3, rtz]) rfl HE.out
  | true =>
    have hq2 := quo_two hg
    have hm7 := isG_cases hg
    obtain ⟨q, hq⟩ : ∃ q, quo m = q := ⟨_, rfl⟩
    rw [hq] at hq2 HQ
    have hq0 : ¬ q = 0 := by omega
    clear hg hq hq2
    cases t1 with
    | true =>
      clear hm7
      have HN : Hid (okN s m p = false) := Lib.hid (by rw [HM.out]; simp)
      obtain ⟨w6, hw6⟩ : ∃ w6, w6 = ((((w1.setCell ⟨r, 0, none⟩ (.int .i64 0)).setCell ⟨r, 1, none⟩ (.int .i64 0)).setCell ⟨r, 2, none⟩ (.int .i64 0)).setCell ⟨r, 3, none⟩ (.int .i64 0)) := ⟨_, rfl⟩
      obtain ⟨hb6, h6⟩ := fin4 HB1.out HRR.out HR1.out 0 0 0 0 hw6
      have e0 := cell_of h6 (j := 0) rfl
      have e1 := cell_of h6 (j := 1) rfl
      have e2 := cell_of h6 (j := 2) rfl
      have e3 := cell_of h6 (j := 3) rfl
      have HW6 := Lib.hid hw6
      have HE := Lib.hid (rn_no HN.out hb6)
      clear hw6 h6 hb6
      go_enter Try.func10, Try.ntmps10
      go_upto_region 1 with fail
      rw [← HW1.out, ← ER.out]
      go_wp2_with fail
      refine (HQ.out _).mono ?_
      rintro e w2 ⟨rfl, rfl⟩
      go_wp2_with fail
      rw [← HW6.out]
      exact bodyPost_ret (v := .tuple #[rtz, .int .i64 1]) (by simp [results, Try.results10, go_sem, e0, e1, e2, e3, rtz]) rfl HE.out
    | false =>
      cases t2 with
      | true =>
        clear hm7
        have HN : Hid (okN s m p = false) := Lib.hid (by rw [HM.out]; simp)
        obtain ⟨w6, hw6⟩ : ∃ w6, w6 = ((((w1.setCell ⟨r, 0, none⟩ (.int .i64 0)).setCell ⟨r, 1, none⟩ (.int .i64 0)).setCell ⟨r, 2, none⟩ (.int .i64 0)).setCell ⟨r, 3, none⟩ (.int .i64 0)) := ⟨_, rfl⟩
        obtain ⟨hb6, h6⟩ := fin4 HB1.out HRR.out HR1.out 0 0 0 0 hw6
        have e0 := cell_of h6 (j := 0) rfl
        have e1 := cell_of h6 (j := 1) rfl
        have e2 := cell_of h6 (j := 2) rfl
        have e3 := cell_of h6 (j := 3) rfl
        have HW6 := Lib.hid hw6
        have HE := Lib.hid (rn_no HN.out hb6)
        clear hw6 h6 hb6
        go_enter Try.func10, Try.ntmps10
        go_upto_region 1 with fail
        rw [← HW1.out, ← ER.out]
        go_wp2_with fail
        refine (HQ.out _).mono ?_
        rintro e w2 ⟨rfl, rfl⟩
        go_wp2_with fail
        rw [← HW6.out]
        exact bodyPost_ret (v := .tuple #[rtz, .int .i64 1]) (by simp [results, Try.results10, go_sem, e0, e1, e2, e3, rtz]) rfl HE.out
      | false =>
        cases t3 with
        | true =>
          clear hm7
          have HN : Hid (okN s m p = false) := Lib.hid (by rw [HM.out]; simp)
          obtain ⟨w6, hw6⟩ : ∃ w6, w6 = ((((w1.setCell ⟨r, 0, none⟩ (.int .i64 0)).setCell ⟨r, 1, none⟩ (.int .i64 0)).setCell ⟨r, 2, none⟩ (.int .i64 0)).setCell ⟨r, 3, none⟩ (.int .i64 0)) := ⟨_, rfl⟩
          obtain ⟨hb6, h6⟩ := fin4 HB1.out HRR.out HR1.out 0 0 0 0 hw6
          have e0 := cell_of h6 (j := 0) rfl
          have e1 := cell_of h6 (j := 1) rfl
          have e2 := cell_of h6 (j := 2) rfl
          have e3 := cell_of h6 (j := 3) rfl
          have HW6 := Lib.hid hw6
          have HE := Lib.hid (rn_no HN.out hb6)
          clear hw6 h6 hb6
          go_enter Try.func10, Try.ntmps10
          go_upto_region 1 with fail
          rw [← HW1.out, ← ER.out]
          go_wp2_with fail
          refine (HQ.out _).mono ?_
          rintro e w2 ⟨rfl, rfl⟩
          go_wp2_with fail
          rw [← HW6.out]
          exact bodyPost_ret (v := .tuple #[rtz, .int .i64 1]) (by simp [results, Try.results10, go_sem, e0, e1, e2, e3, rtz]) rfl HE.out
        | false =>
          cases t4 with
          | true =>
            clear hm7
            have HN : Hid (okN s m p = false) := Lib.hid (by rw [HM.out]; simp)
            obtain ⟨w6, hw6⟩ : ∃ w6, w6 = ((((w1.setCell ⟨r, 0, none⟩ (.int .i64 0)).setCell ⟨r, 1, none⟩ (.int .i64 0)).setCell ⟨r, 2, none⟩ (.int .i64 0)).setCell ⟨r, 3, none⟩ (.int .i64 0)) := ⟨_, rfl⟩
            obtain ⟨hb6, h6⟩ := fin4 HB1.out HRR.out HR1.out 0 0 0 0 hw6
            have e0 := cell_of h6 (j := 0) rfl
            have e1 := cell_of h6 (j := 1) rfl
            have e2 := cell_of h6 (j := 2) rfl
            have e3 := cell_of h6 (j := 3) rfl
            have HW6 := Lib.hid hw6
            have HE := Lib.hid (rn_no HN.out hb6)
            clear hw6 h6 hb6
            go_enter Try.func10, Try.ntmps10
            go_upto_region 1 with fail
            rw [← HW1.out, ← ER.out]
            go_wp2_with fail
            refine (HQ.out _).mono ?_
            rintro e w2 ⟨rfl, rfl⟩
            go_wp2_with fail
            rw [← HW6.out]
            exact bodyPost_ret (v := .tuple #[rtz, .int .i64 1]) (by simp [results, Try.results10, go_sem, e0, e1, e2, e3, rtz]) rfl HE.out
          | false =>
            have hok : okN s m p = true := by rw [HM.out]; rfl
            have a1 : 0 ≤ s := by simpa using h1
            have a2 : s < m := by simpa using h2
            have a3 : m ≤ 7 := by omega
            have hp1 : 1 ≤ p := by simpa using h3
            have hp2 : p ≤ 1000 := by simpa using h4
            have b1 := mul_bounds (k := s + 2) (n := 8) hp1 hp2 (by omega) (by omega)
            have hw1 : IntKind.i64.wrap (s + 2) = s + 2 := by rw [IntKind.wrap_i64]; omega
            have hw3 : IntKind.i64.wrap (p * (s + 2)) = p * (s + 2) := by rw [IntKind.wrap_i64]; omega
            obtain ⟨w6, hw6⟩ : ∃ w6, w6 = ((((w1.setCell ⟨r, 0, none⟩ (.int .i64 m)).setCell ⟨r, 1, none⟩ (.int .i64 p)).setCell ⟨r, 2, none⟩ (.int .i64 0)).setCell ⟨r, 3, none⟩ (.int .i64 (p * (s + 2)))) := ⟨_, rfl⟩
            obtain ⟨hb6, h6⟩ := fin4 HB1.out HRR.out HR1.out m p 0 (p * (s + 2)) hw6
            have e0 := cell_of h6 (j := 0) rfl
            have e1 := cell_of h6 (j := 1) rfl
            have e2 := cell_of h6 (j := 2) rfl
            have e3 := cell_of h6 (j := 3) rfl
            have HW6 := Lib.hid hw6
            have HE := Lib.hid (rn_yes hok hb6)
            clear hw6 h6 hb6 hm7 a1 a2 a3 hp1 hp2 b1 hok
            go_enter Try.func10, Try.ntmps10
            go_upto_region 1 with fail
            rw [← HW1.out, ← ER.out]
            go_wp2_with fail
            refine (HQ.out _).mono ?_
            rintro e w2 ⟨rfl, rfl⟩
            go_wp2_with fail
            rw [← HW6.out]
            exact bodyPost_ret (v := .tuple #[rtv m (newT s m p), .int .i64 0]) (by simp [results, Try.results10, go_sem, e0, e1, e2, e3, rtv, newT]) rfl HE.out
/-- What the document's Tick returns. -/
def RtPost (w : World) (m : Int) (t : Tm) (b : Bool) (e : Ending) (w' : World) : Prop :=
  e = .returned (.tuple #[rtv m (tickT t b), .bool (leadT t b), .bool (nudgeT t b)]) ∧ Below w.heap.size w w'
theorem rt_of {w w' : World} {m : Int} {t T : Tm} {b l n : Bool} (h1 : leadT t b = l) (h2 : nudgeT t b = n) (h3 : tickT t b = T) (h5 : Below w.heap.size w w') : RtPost w m t b (.returned (.tuple #[rtv m T, .bool l, .bool n])) w' := by
  unfold RtPost; rw [h1, h2, h3]; exact ⟨rfl, h5⟩
set_option maxHeartbeats 4000000 in
theorem rtick_true_no {w : World} {m : Int} {t : Tm} (hg : El.Good t) (hc : t.wt + 1 < t.sp) : Calls Try.prog 13 #[rtv m t, .bool true] w (RtPost w m t true) := by
  have HL : Hid (leadT t true = false) := Lib.hid (by unfold leadT; simp; try omega)
  have HN : Hid (nudgeT t true = false) := Lib.hid (by unfold nudgeT; simp; try omega)
  have HT : Hid (tickT t true = ⟨t.sp, t.gr, t.wt + 1, t.lm⟩) := Lib.hid (by unfold tickT; simp; try omega)
  have hw : IntKind.i64.wrap (t.wt + 1) = t.wt + 1 := by rw [IntKind.wrap_i64]; have := hg.wt1; have := hg.wt2; have := hg.lm2; omega
  have hd : decide (t.wt + 1 < t.sp) = true := by simp; omega
  obtain ⟨sp, gr, wt, lm⟩ := t
  simp only at hd hw 
  clear hc hg
  obtain ⟨w2, hw2, hB2, hq2, hr2, -⟩ := two_box w (.cells (rcells m sp wt lm) 30) (.cells (rcells 0 0 0 0) 30)
  obtain ⟨q, eq⟩ : ∃ q, q = w.heap.size := ⟨_, rfl⟩
  obtain ⟨r, er⟩ : ∃ r, r = w.heap.size + 1 := ⟨_, rfl⟩
  rw [← eq] at hq2
  rw [← er] at hr2
  have H2 : Hid (Tb2 w q r m sp wt lm w2) := Lib.hid ⟨hB2, hq2, hr2⟩
  have HQQ : Hid (w.heap.size ≤ q) := Lib.hid (by omega)
  have HRR : Hid (w.heap.size ≤ r) := Lib.hid (by omega)
  have HNE : Hid (r ≠ q) := Lib.hid (by omega)
  have HW2 : Hid (w2 = (w.alloc (.cells #[.int .i64 m, .int .i64 sp, .int .i64 wt, .int .i64 lm] 30)).alloc (.cells #[.int .i64 0, .int .i64 0, .int .i64 0, .int .i64 0] 30)) := Lib.hid hw2
  have EQ := Lib.hid eq
  have ER := Lib.hid er
  have c2 := cell_of hq2 (j := 2) rfl
  have c3 := cell_of hq2 (j := 3) rfl
  have f2 := frozen_of_row w2 _ 2 _ _ hq2
  have f3 := frozen_of_row w2 _ 3 _ _ hq2
  clear hw2 hB2 hq2 hr2 eq er
  unfold rtv
  go_enter Try.func13, Try.ntmps13
  go_upto_region 1 with fail
  rw [← HW2.out, ← ER.out, ← EQ.out]
  go_upto_region 2 with fail
  obtain ⟨w3, hw3⟩ : ∃ W, W = w2.setCell ⟨q, 2, none⟩ (.int .i64 (wt + 1)) := ⟨_, rfl⟩
  have H3 : Hid (Tb2 w q r m sp (wt + 1) lm w3) := Lib.hid (by rw [hw3]; exact H2.out.wait HQQ.out HNE.out _)
  rw [← hw3]
  clear hw3 c2 f2
  have hq3 := H3.out.bq
  have c0 := cell_of hq3 (j := 0) rfl
  have c1 := cell_of hq3 (j := 1) rfl
  have c2 := cell_of hq3 (j := 2) rfl
  have c3 := cell_of hq3 (j := 3) rfl
  have f2 := frozen_of_row w3 _ 2 _ _ hq3
  have f3 := frozen_of_row w3 _ 3 _ _ hq3
  clear hq3
  have hrw3 := H3.out.br
  have q0 := cell_of hrw3 (j := 0) rfl
  have q1 := cell_of hrw3 (j := 1) rfl
  have q2 := cell_of hrw3 (j := 2) rfl
  have q3 := cell_of hrw3 (j := 3) rfl
  have rf0 := frozen_of_row w3 _ 0 _ _ hrw3
  have rf1 := frozen_of_row w3 _ 1 _ _ hrw3
  have rf2 := frozen_of_row w3 _ 2 _ _ hrw3
  have rf3 := frozen_of_row w3 _ 3 _ _ hrw3
  obtain ⟨w6, hw6⟩ : ∃ w6, w6 = ((((w3.setCell ⟨r, 0, none⟩ (.int .i64 m)).setCell ⟨r, 1, none⟩ (.int .i64 sp)).setCell ⟨r, 2, none⟩ (.int .i64 (wt + 1))).setCell ⟨r, 3, none⟩ (.int .i64 lm)) := ⟨_, rfl⟩
  obtain ⟨hb6, h6⟩ := fin4 H3.out.below HRR.out hrw3 m sp (wt + 1) lm hw6
  have e0 := cell_of h6 (j := 0) rfl
  have e1 := cell_of h6 (j := 1) rfl
  have e2 := cell_of h6 (j := 2) rfl
  have e3 := cell_of h6 (j := 3) rfl
  have HW6 := Lib.hid hw6
  have HE := Lib.hid (rt_of (m := m) HL.out HN.out HT.out hb6)
  clear hw6 h6 hb6 hrw3
  go_wp2_with fail
  rw [← HW6.out]
  exact bodyPost_ret (v := .tuple #[rtv m ⟨sp, gr, (wt + 1), lm⟩, .bool false, .bool false]) (by simp [results, Try.results13, go_sem, e0, e1, e2, e3, rtv]) rfl HE.out
set_option maxHeartbeats 4000000 in
theorem rtick_true_yes {w : World} {m : Int} {t : Tm} (hg : El.Good t) (hc : t.sp ≤ t.wt + 1) : Calls Try.prog 13 #[rtv m t, .bool true] w (RtPost w m t true) := by
  have HL : Hid (leadT t true = false) := Lib.hid (by unfold leadT; simp; try omega)
  have HN : Hid (nudgeT t true = true) := Lib.hid (by unfold nudgeT; simp; try omega)
  have HT : Hid (tickT t true = ⟨t.sp, t.gr, 0, t.lm⟩) := Lib.hid (by unfold tickT; simp; try omega)
  have hw : IntKind.i64.wrap (t.wt + 1) = t.wt + 1 := by rw [IntKind.wrap_i64]; have := hg.wt1; have := hg.wt2; have := hg.lm2; omega
  have hd : decide (t.wt + 1 < t.sp) = false := by simp; omega
  obtain ⟨sp, gr, wt, lm⟩ := t
  simp only at hd hw 
  clear hc hg
  obtain ⟨w2, hw2, hB2, hq2, hr2, -⟩ := two_box w (.cells (rcells m sp wt lm) 30) (.cells (rcells 0 0 0 0) 30)
  obtain ⟨q, eq⟩ : ∃ q, q = w.heap.size := ⟨_, rfl⟩
  obtain ⟨r, er⟩ : ∃ r, r = w.heap.size + 1 := ⟨_, rfl⟩
  rw [← eq] at hq2
  rw [← er] at hr2
  have H2 : Hid (Tb2 w q r m sp wt lm w2) := Lib.hid ⟨hB2, hq2, hr2⟩
  have HQQ : Hid (w.heap.size ≤ q) := Lib.hid (by omega)
  have HRR : Hid (w.heap.size ≤ r) := Lib.hid (by omega)
  have HNE : Hid (r ≠ q) := Lib.hid (by omega)
  have HW2 : Hid (w2 = (w.alloc (.cells #[.int .i64 m, .int .i64 sp, .int .i64 wt, .int .i64 lm] 30)).alloc (.cells #[.int .i64 0, .int .i64 0, .int .i64 0, .int .i64 0] 30)) := Lib.hid hw2
  have EQ := Lib.hid eq
  have ER := Lib.hid er
  have c2 := cell_of hq2 (j := 2) rfl
  have c3 := cell_of hq2 (j := 3) rfl
  have f2 := frozen_of_row w2 _ 2 _ _ hq2
  have f3 := frozen_of_row w2 _ 3 _ _ hq2
  clear hw2 hB2 hq2 hr2 eq er
  unfold rtv
  go_enter Try.func13, Try.ntmps13
  go_upto_region 1 with fail
  rw [← HW2.out, ← ER.out, ← EQ.out]
  go_upto_region 2 with fail
  obtain ⟨w3, hw3⟩ : ∃ W, W = w2.setCell ⟨q, 2, none⟩ (.int .i64 (wt + 1)) := ⟨_, rfl⟩
  have H3 : Hid (Tb2 w q r m sp (wt + 1) lm w3) := Lib.hid (by rw [hw3]; exact H2.out.wait HQQ.out HNE.out _)
  rw [← hw3]
  clear hw3 c2 f2
  have hq3 := H3.out.bq
  have c0 := cell_of hq3 (j := 0) rfl
  have c1 := cell_of hq3 (j := 1) rfl
  have c2 := cell_of hq3 (j := 2) rfl
  have c3 := cell_of hq3 (j := 3) rfl
  have f2 := frozen_of_row w3 _ 2 _ _ hq3
  have f3 := frozen_of_row w3 _ 3 _ _ hq3
  clear hq3
  go_upto_region 6 with fail
  obtain ⟨w4, hw4⟩ : ∃ W, W = w3.setCell ⟨q, 2, none⟩ (.int .i64 0) := ⟨_, rfl⟩
  have H4 : Hid (Tb2 w q r m sp 0 lm w4) := Lib.hid (by rw [hw4]; exact H3.out.wait HQQ.out HNE.out _)
  rw [← hw4]
  clear hw4 c0 c1 c2 c3 f2
  have hq4 := H4.out.bq
  have c0 := cell_of hq4 (j := 0) rfl
  have c1 := cell_of hq4 (j := 1) rfl
  have c2 := cell_of hq4 (j := 2) rfl
  have c3 := cell_of hq4 (j := 3) rfl
  have f3 := frozen_of_row w4 _ 3 _ _ hq4
  have f4 := frozen_of_row w4 _ 4 _ _ hq4
  clear hq4
  have hrw4 := H4.out.br
  have q0 := cell_of hrw4 (j := 0) rfl
  have q1 := cell_of hrw4 (j := 1) rfl
  have q2 := cell_of hrw4 (j := 2) rfl
  have q3 := cell_of hrw4 (j := 3) rfl
  have rf0 := frozen_of_row w4 _ 0 _ _ hrw4
  have rf1 := frozen_of_row w4 _ 1 _ _ hrw4
  have rf2 := frozen_of_row w4 _ 2 _ _ hrw4
  have rf3 := frozen_of_row w4 _ 3 _ _ hrw4
  obtain ⟨w6, hw6⟩ : ∃ w6, w6 = ((((w4.setCell ⟨r, 0, none⟩ (.int .i64 m)).setCell ⟨r, 1, none⟩ (.int .i64 sp)).setCell ⟨r, 2, none⟩ (.int .i64 0)).setCell ⟨r, 3, none⟩ (.int .i64 lm)) := ⟨_, rfl⟩
  obtain ⟨hb6, h6⟩ := fin4 H4.out.below HRR.out hrw4 m sp 0 lm hw6
  have e0 := cell_of h6 (j := 0) rfl
  have e1 := cell_of h6 (j := 1) rfl
  have e2 := cell_of h6 (j := 2) rfl
  have e3 := cell_of h6 (j := 3) rfl
  have HW6 := Lib.hid hw6
  have HE := Lib.hid (rt_of (m := m) HL.out HN.out HT.out hb6)
  clear hw6 h6 hb6 hrw4
  go_wp2_with fail
  rw [← HW6.out]
  exact bodyPost_ret (v := .tuple #[rtv m ⟨sp, gr, 0, lm⟩, .bool false, .bool true]) (by simp [results, Try.results13, go_sem, e0, e1, e2, e3, rtv]) rfl HE.out
set_option maxHeartbeats 4000000 in
theorem rtick_false_no {w : World} {m : Int} {t : Tm} (hg : El.Good t) (hc : t.wt + 1 < t.lm) : Calls Try.prog 13 #[rtv m t, .bool false] w (RtPost w m t false) := by
  have HL : Hid (leadT t false = false) := Lib.hid (by unfold leadT; simp; try omega)
  have HN : Hid (nudgeT t false = false) := Lib.hid (by unfold nudgeT; simp; try omega)
  have HT : Hid (tickT t false = ⟨t.sp, t.gr, t.wt + 1, t.lm⟩) := Lib.hid (by unfold tickT; simp; try omega)
  have hw : IntKind.i64.wrap (t.wt + 1) = t.wt + 1 := by rw [IntKind.wrap_i64]; have := hg.wt1; have := hg.wt2; have := hg.lm2; omega
  have hd : decide (t.wt + 1 < t.lm) = true := by simp; omega
  obtain ⟨sp, gr, wt, lm⟩ := t
  simp only at hd hw 
  clear hc hg
  obtain ⟨w2, hw2, hB2, hq2, hr2, -⟩ := two_box w (.cells (rcells m sp wt lm) 30) (.cells (rcells 0 0 0 0) 30)
  obtain ⟨q, eq⟩ : ∃ q, q = w.heap.size := ⟨_, rfl⟩
  obtain ⟨r, er⟩ : ∃ r, r = w.heap.size + 1 := ⟨_, rfl⟩
  rw [← eq] at hq2
  rw [← er] at hr2
  have H2 : Hid (Tb2 w q r m sp wt lm w2) := Lib.hid ⟨hB2, hq2, hr2⟩
  have HQQ : Hid (w.heap.size ≤ q) := Lib.hid (by omega)
  have HRR : Hid (w.heap.size ≤ r) := Lib.hid (by omega)
  have HNE : Hid (r ≠ q) := Lib.hid (by omega)
  have HW2 : Hid (w2 = (w.alloc (.cells #[.int .i64 m, .int .i64 sp, .int .i64 wt, .int .i64 lm] 30)).alloc (.cells #[.int .i64 0, .int .i64 0, .int .i64 0, .int .i64 0] 30)) := Lib.hid hw2
  have EQ := Lib.hid eq
  have ER := Lib.hid er
  have c2 := cell_of hq2 (j := 2) rfl
  have c3 := cell_of hq2 (j := 3) rfl
  have f2 := frozen_of_row w2 _ 2 _ _ hq2
  have f3 := frozen_of_row w2 _ 3 _ _ hq2
  clear hw2 hB2 hq2 hr2 eq er
  unfold rtv
  go_enter Try.func13, Try.ntmps13
  go_upto_region 1 with fail
  rw [← HW2.out, ← ER.out, ← EQ.out]
  go_upto_region 2 with fail
  obtain ⟨w3, hw3⟩ : ∃ W, W = w2.setCell ⟨q, 2, none⟩ (.int .i64 (wt + 1)) := ⟨_, rfl⟩
  have H3 : Hid (Tb2 w q r m sp (wt + 1) lm w3) := Lib.hid (by rw [hw3]; exact H2.out.wait HQQ.out HNE.out _)
  rw [← hw3]
  clear hw3 c2 f2
  have hq3 := H3.out.bq
  have c0 := cell_of hq3 (j := 0) rfl
  have c1 := cell_of hq3 (j := 1) rfl
  have c2 := cell_of hq3 (j := 2) rfl
  have c3 := cell_of hq3 (j := 3) rfl
  have f2 := frozen_of_row w3 _ 2 _ _ hq3
  have f3 := frozen_of_row w3 _ 3 _ _ hq3
  clear hq3
  have hrw3 := H3.out.br
  have q0 := cell_of hrw3 (j := 0) rfl
  have q1 := cell_of hrw3 (j := 1) rfl
  have q2 := cell_of hrw3 (j := 2) rfl
  have q3 := cell_of hrw3 (j := 3) rfl
  have rf0 := frozen_of_row w3 _ 0 _ _ hrw3
  have rf1 := frozen_of_row w3 _ 1 _ _ hrw3
  have rf2 := frozen_of_row w3 _ 2 _ _ hrw3
  have rf3 := frozen_of_row w3 _ 3 _ _ hrw3
  obtain ⟨w6, hw6⟩ : ∃ w6, w6 = ((((w3.setCell ⟨r, 0, none⟩ (.int .i64 m)).setCell ⟨r, 1, none⟩ (.int .i64 sp)).setCell ⟨r, 2, none⟩ (.int .i64 (wt + 1))).setCell ⟨r, 3, none⟩ (.int .i64 lm)) := ⟨_, rfl⟩
  obtain ⟨hb6, h6⟩ := fin4 H3.out.below HRR.out hrw3 m sp (wt + 1) lm hw6
  have e0 := cell_of h6 (j := 0) rfl
  have e1 := cell_of h6 (j := 1) rfl
  have e2 := cell_of h6 (j := 2) rfl
  have e3 := cell_of h6 (j := 3) rfl
  have HW6 := Lib.hid hw6
  have HE := Lib.hid (rt_of (m := m) HL.out HN.out HT.out hb6)
  clear hw6 h6 hb6 hrw3
  go_wp2_with fail
  rw [← HW6.out]
  exact bodyPost_ret (v := .tuple #[rtv m ⟨sp, gr, (wt + 1), lm⟩, .bool false, .bool false]) (by simp [results, Try.results13, go_sem, e0, e1, e2, e3, rtv]) rfl HE.out
set_option maxHeartbeats 4000000 in
theorem rtick_false_yes_more {w : World} {m : Int} {t : Tm} (hg : El.Good t) (hgr : t.gr = t.sp * (m + 2)) (hm1 : 1 ≤ m) (hm2 : m ≤ 7) (hc : t.lm ≤ t.wt + 1) (hm : t.lm + t.gr ≤ 1000000) : Calls Try.prog 13 #[rtv m t, .bool false] w (RtPost w m t false) := by
  have HL : Hid (leadT t false = true) := Lib.hid (by unfold leadT; simp; try omega)
  have HN : Hid (nudgeT t false = false) := Lib.hid (by unfold nudgeT; simp; try omega)
  have HT : Hid (tickT t false = ⟨t.sp, t.gr, 0, t.lm + t.gr⟩) := Lib.hid (by unfold tickT more; rw [if_neg (by simp), if_neg (by omega), if_pos hm])
  have hw : IntKind.i64.wrap (t.wt + 1) = t.wt + 1 := by rw [IntKind.wrap_i64]; have := hg.wt1; have := hg.wt2; have := hg.lm2; omega
  have hwm : IntKind.i64.wrap (m + 2) = m + 2 := by rw [IntKind.wrap_i64]; omega
  have hwg : IntKind.i64.wrap (t.sp * (m + 2)) = t.gr := by rw [← hgr, IntKind.wrap_i64]; have := hg.gr1; have := hg.gr2; omega
  have hwl : IntKind.i64.wrap (t.lm + t.gr) = t.lm + t.gr := by rw [IntKind.wrap_i64]; have := hg.gr1; have := hg.gr2; have := hg.lm2; have := hg.lm1; have := hg.sp1; omega
  have hml : decide (t.lm + t.gr ≤ 1000000) = true := by simp; omega
  have hd : decide (t.wt + 1 < t.lm) = false := by simp; omega
  obtain ⟨sp, gr, wt, lm⟩ := t
  simp only at hd hw hwg hwl hml
  clear hgr hc hg hm
  obtain ⟨w2, hw2, hB2, hq2, hr2, -⟩ := two_box w (.cells (rcells m sp wt lm) 30) (.cells (rcells 0 0 0 0) 30)
  obtain ⟨q, eq⟩ : ∃ q, q = w.heap.size := ⟨_, rfl⟩
  obtain ⟨r, er⟩ : ∃ r, r = w.heap.size + 1 := ⟨_, rfl⟩
  rw [← eq] at hq2
  rw [← er] at hr2
  have H2 : Hid (Tb2 w q r m sp wt lm w2) := Lib.hid ⟨hB2, hq2, hr2⟩
  have HQQ : Hid (w.heap.size ≤ q) := Lib.hid (by omega)
  have HRR : Hid (w.heap.size ≤ r) := Lib.hid (by omega)
  have HNE : Hid (r ≠ q) := Lib.hid (by omega)
  have HW2 : Hid (w2 = (w.alloc (.cells #[.int .i64 m, .int .i64 sp, .int .i64 wt, .int .i64 lm] 30)).alloc (.cells #[.int .i64 0, .int .i64 0, .int .i64 0, .int .i64 0] 30)) := Lib.hid hw2
  have EQ := Lib.hid eq
  have ER := Lib.hid er
  have c2 := cell_of hq2 (j := 2) rfl
  have c3 := cell_of hq2 (j := 3) rfl
  have f2 := frozen_of_row w2 _ 2 _ _ hq2
  have f3 := frozen_of_row w2 _ 3 _ _ hq2
  clear hw2 hB2 hq2 hr2 eq er
  unfold rtv
  go_enter Try.func13, Try.ntmps13
  go_upto_region 1 with fail
  rw [← HW2.out, ← ER.out, ← EQ.out]
  go_upto_region 2 with fail
  obtain ⟨w3, hw3⟩ : ∃ W, W = w2.setCell ⟨q, 2, none⟩ (.int .i64 (wt + 1)) := ⟨_, rfl⟩
  have H3 : Hid (Tb2 w q r m sp (wt + 1) lm w3) := Lib.hid (by rw [hw3]; exact H2.out.wait HQQ.out HNE.out _)
  rw [← hw3]
  clear hw3 c2 f2
  have hq3 := H3.out.bq
  have c0 := cell_of hq3 (j := 0) rfl
  have c1 := cell_of hq3 (j := 1) rfl
  have c2 := cell_of hq3 (j := 2) rfl
  have c3 := cell_of hq3 (j := 3) rfl
  have f2 := frozen_of_row w3 _ 2 _ _ hq3
  have f3 := frozen_of_row w3 _ 3 _ _ hq3
  clear hq3
  go_upto_region 10 with fail
  obtain ⟨w4, hw4⟩ : ∃ W, W = w3.setCell ⟨q, 2, none⟩ (.int .i64 0) := ⟨_, rfl⟩
  have H4 : Hid (Tb2 w q r m sp 0 lm w4) := Lib.hid (by rw [hw4]; exact H3.out.wait HQQ.out HNE.out _)
  rw [← hw4]
  clear hw4 c0 c1 c2 c3 f2
  have hq4 := H4.out.bq
  have c0 := cell_of hq4 (j := 0) rfl
  have c1 := cell_of hq4 (j := 1) rfl
  have c2 := cell_of hq4 (j := 2) rfl
  have c3 := cell_of hq4 (j := 3) rfl
  have f3 := frozen_of_row w4 _ 3 _ _ hq4
  have f4 := frozen_of_row w4 _ 4 _ _ hq4
  clear hq4
  go_upto_region 13 with fail
  obtain ⟨w5, hw5⟩ : ∃ W, W = w4.setCell ⟨q, 3, none⟩ (.int .i64 (lm + gr)) := ⟨_, rfl⟩
  have H5 : Hid (Tb2 w q r m sp 0 (lm + gr) w5) := Lib.hid (by rw [hw5]; exact H4.out.limit HQQ.out HNE.out _)
  rw [← hw5]
  clear hw5 c0 c1 c2 c3 f3
  have hq5 := H5.out.bq
  have c0 := cell_of hq5 (j := 0) rfl
  have c1 := cell_of hq5 (j := 1) rfl
  have c2 := cell_of hq5 (j := 2) rfl
  have c3 := cell_of hq5 (j := 3) rfl
  clear hq5
  have hrw5 := H5.out.br
  have q0 := cell_of hrw5 (j := 0) rfl
  have q1 := cell_of hrw5 (j := 1) rfl
  have q2 := cell_of hrw5 (j := 2) rfl
  have q3 := cell_of hrw5 (j := 3) rfl
  have rf0 := frozen_of_row w5 _ 0 _ _ hrw5
  have rf1 := frozen_of_row w5 _ 1 _ _ hrw5
  have rf2 := frozen_of_row w5 _ 2 _ _ hrw5
  have rf3 := frozen_of_row w5 _ 3 _ _ hrw5
  obtain ⟨w6, hw6⟩ : ∃ w6, w6 = ((((w5.setCell ⟨r, 0, none⟩ (.int .i64 m)).setCell ⟨r, 1, none⟩ (.int .i64 sp)).setCell ⟨r, 2, none⟩ (.int .i64 0)).setCell ⟨r, 3, none⟩ (.int .i64 (lm + gr))) := ⟨_, rfl⟩
  obtain ⟨hb6, h6⟩ := fin4 H5.out.below HRR.out hrw5 m sp 0 (lm + gr) hw6
  have e0 := cell_of h6 (j := 0) rfl
  have e1 := cell_of h6 (j := 1) rfl
  have e2 := cell_of h6 (j := 2) rfl
  have e3 := cell_of h6 (j := 3) rfl
  have HW6 := Lib.hid hw6
  have HE := Lib.hid (rt_of (m := m) HL.out HN.out HT.out hb6)
  clear hw6 h6 hb6 hrw5
  go_wp2_with fail
  rw [← HW6.out]
  exact bodyPost_ret (v := .tuple #[rtv m ⟨sp, gr, 0, (lm + gr)⟩, .bool true, .bool false]) (by simp [results, Try.results13, go_sem, e0, e1, e2, e3, rtv]) rfl HE.out
set_option maxHeartbeats 4000000 in
theorem rtick_false_yes_stay {w : World} {m : Int} {t : Tm} (hg : El.Good t) (hgr : t.gr = t.sp * (m + 2)) (hm1 : 1 ≤ m) (hm2 : m ≤ 7) (hc : t.lm ≤ t.wt + 1) (hm : 1000000 < t.lm + t.gr) : Calls Try.prog 13 #[rtv m t, .bool false] w (RtPost w m t false) := by
  have HL : Hid (leadT t false = true) := Lib.hid (by unfold leadT; simp; try omega)
  have HN : Hid (nudgeT t false = false) := Lib.hid (by unfold nudgeT; simp; try omega)
  have HT : Hid (tickT t false = ⟨t.sp, t.gr, 0, t.lm⟩) := Lib.hid (by unfold tickT more; rw [if_neg (by simp), if_neg (by omega), if_neg (by omega)])
  have hw : IntKind.i64.wrap (t.wt + 1) = t.wt + 1 := by rw [IntKind.wrap_i64]; have := hg.wt1; have := hg.wt2; have := hg.lm2; omega
  have hwm : IntKind.i64.wrap (m + 2) = m + 2 := by rw [IntKind.wrap_i64]; omega
  have hwg : IntKind.i64.wrap (t.sp * (m + 2)) = t.gr := by rw [← hgr, IntKind.wrap_i64]; have := hg.gr1; have := hg.gr2; omega
  have hwl : IntKind.i64.wrap (t.lm + t.gr) = t.lm + t.gr := by rw [IntKind.wrap_i64]; have := hg.gr1; have := hg.gr2; have := hg.lm2; have := hg.lm1; have := hg.sp1; omega
  have hml : decide (t.lm + t.gr ≤ 1000000) = false := by simp; omega
  have hd : decide (t.wt + 1 < t.lm) = false := by simp; omega
  obtain ⟨sp, gr, wt, lm⟩ := t
  simp only at hd hw hwg hwl hml
  clear hgr hc hg hm
  obtain ⟨w2, hw2, hB2, hq2, hr2, -⟩ := two_box w (.cells (rcells m sp wt lm) 30) (.cells (rcells 0 0 0 0) 30)
  obtain ⟨q, eq⟩ : ∃ q, q = w.heap.size := ⟨_, rfl⟩
  obtain ⟨r, er⟩ : ∃ r, r = w.heap.size + 1 := ⟨_, rfl⟩
  rw [← eq] at hq2
  rw [← er] at hr2
  have H2 : Hid (Tb2 w q r m sp wt lm w2) := Lib.hid ⟨hB2, hq2, hr2⟩
  have HQQ : Hid (w.heap.size ≤ q) := Lib.hid (by omega)
  have HRR : Hid (w.heap.size ≤ r) := Lib.hid (by omega)
  have HNE : Hid (r ≠ q) := Lib.hid (by omega)
  have HW2 : Hid (w2 = (w.alloc (.cells #[.int .i64 m, .int .i64 sp, .int .i64 wt, .int .i64 lm] 30)).alloc (.cells #[.int .i64 0, .int .i64 0, .int .i64 0, .int .i64 0] 30)) := Lib.hid hw2
  have EQ := Lib.hid eq
  have ER := Lib.hid er
  have c2 := cell_of hq2 (j := 2) rfl
  have c3 := cell_of hq2 (j := 3) rfl
  have f2 := frozen_of_row w2 _ 2 _ _ hq2
  have f3 := frozen_of_row w2 _ 3 _ _ hq2
  clear hw2 hB2 hq2 hr2 eq er
  unfold rtv
  go_enter Try.func13, Try.ntmps13
  go_upto_region 1 with fail
  rw [← HW2.out, ← ER.out, ← EQ.out]
  go_upto_region 2 with fail
  obtain ⟨w3, hw3⟩ : ∃ W, W = w2.setCell ⟨q, 2, none⟩ (.int .i64 (wt + 1)) := ⟨_, rfl⟩
  have H3 : Hid (Tb2 w q r m sp (wt + 1) lm w3) := Lib.hid (by rw [hw3]; exact H2.out.wait HQQ.out HNE.out _)
  rw [← hw3]
  clear hw3 c2 f2
  have hq3 := H3.out.bq
  have c0 := cell_of hq3 (j := 0) rfl
  have c1 := cell_of hq3 (j := 1) rfl
  have c2 := cell_of hq3 (j := 2) rfl
  have c3 := cell_of hq3 (j := 3) rfl
  have f2 := frozen_of_row w3 _ 2 _ _ hq3
  have f3 := frozen_of_row w3 _ 3 _ _ hq3
  clear hq3
  go_upto_region 10 with fail
  obtain ⟨w4, hw4⟩ : ∃ W, W = w3.setCell ⟨q, 2, none⟩ (.int .i64 0) := ⟨_, rfl⟩
  have H4 : Hid (Tb2 w q r m sp 0 lm w4) := Lib.hid (by rw [hw4]; exact H3.out.wait HQQ.out HNE.out _)
  rw [← hw4]
  clear hw4 c0 c1 c2 c3 f2
  have hq4 := H4.out.bq
  have c0 := cell_of hq4 (j := 0) rfl
  have c1 := cell_of hq4 (j := 1) rfl
  have c2 := cell_of hq4 (j := 2) rfl
  have c3 := cell_of hq4 (j := 3) rfl
  have f3 := frozen_of_row w4 _ 3 _ _ hq4
  have f4 := frozen_of_row w4 _ 4 _ _ hq4
  clear hq4
  have hrw4 := H4.out.br
  have q0 := cell_of hrw4 (j := 0) rfl
  have q1 := cell_of hrw4 (j := 1) rfl
  have q2 := cell_of hrw4 (j := 2) rfl
  have q3 := cell_of hrw4 (j := 3) rfl
  have rf0 := frozen_of_row w4 _ 0 _ _ hrw4
  have rf1 := frozen_of_row w4 _ 1 _ _ hrw4
  have rf2 := frozen_of_row w4 _ 2 _ _ hrw4
  have rf3 := frozen_of_row w4 _ 3 _ _ hrw4
  obtain ⟨w6, hw6⟩ : ∃ w6, w6 = ((((w4.setCell ⟨r, 0, none⟩ (.int .i64 m)).setCell ⟨r, 1, none⟩ (.int .i64 sp)).setCell ⟨r, 2, none⟩ (.int .i64 0)).setCell ⟨r, 3, none⟩ (.int .i64 lm)) := ⟨_, rfl⟩
  obtain ⟨hb6, h6⟩ := fin4 H4.out.below HRR.out hrw4 m sp 0 lm hw6
  have e0 := cell_of h6 (j := 0) rfl
  have e1 := cell_of h6 (j := 1) rfl
  have e2 := cell_of h6 (j := 2) rfl
  have e3 := cell_of h6 (j := 3) rfl
  have HW6 := Lib.hid hw6
  have HE := Lib.hid (rt_of (m := m) HL.out HN.out HT.out hb6)
  clear hw6 h6 hb6 hrw4
  go_wp2_with fail
  rw [← HW6.out]
  exact bodyPost_ret (v := .tuple #[rtv m ⟨sp, gr, 0, lm⟩, .bool true, .bool false]) (by simp [results, Try.results13, go_sem, e0, e1, e2, e3, rtv]) rfl HE.out
theorem rtick_any {w : World} {m : Int} {t : Tm} (hg : El.Good t) (hgr : t.gr = t.sp * (m + 2)) (hm1 : 1 ≤ m) (hm2 : m ≤ 7) (b : Bool) : Calls Try.prog 13 #[rtv m t, .bool b] w (RtPost w m t b) := by
  cases b with
  | true =>
    by_cases hc : t.wt + 1 < t.sp
    · exact rtick_true_no hg hc
    · exact rtick_true_yes hg (by omega)
  | false =>
    by_cases hc : t.wt + 1 < t.lm
    · exact rtick_false_no hg hc
    · by_cases hm : t.lm + t.gr ≤ 1000000
      · exact rtick_false_yes_more hg hgr hm1 hm2 (by omega) hm
      · exact rtick_false_yes_stay hg hgr hm1 hm2 (by omega) (by omega)
end Go.Proofs.Ytbgobchmkohhnaa
