/-
  What before, Less and MarkOf return, and the document's Less. No condition.
-/
import Derived.Test.YtlpidjmhjjmmcaaKSmall
namespace Go.Proofs.Ytlpidjmhjjmmcaa
set_option maxRecDepth 100000
open Go.ChangeShapes Go.WideShapes Go.ChangeAt Go.RowKit Go.Proofs.Rk

theorem before_any (a b : Mk) (w : World) : Calls Try.prog 31 #[.agg #[.int .i64 a.v, .int .i64 a.n], .agg #[.int .i64 b.v, .int .i64 b.n]] w fun e w' => e = .returned (.bool (less a b)) ∧ Below w.heap.size w w' := by
  obtain ⟨w2, hw2, hb2, hq, hr, hs2⟩ := two_box w (.cells #[.int .i64 a.v, .int .i64 a.n] 50) (.cells #[.int .i64 b.v, .int .i64 b.n] 36)
  obtain ⟨q, eq⟩ : ∃ q, q = w.heap.size := ⟨_, rfl⟩
  obtain ⟨r, er⟩ : ∃ r, r = w.heap.size + 1 := ⟨_, rfl⟩
  rw [← eq] at hq
  rw [← er] at hr
  have q0 := cell_of hq (j := 0) rfl
  have r0 := cell_of hr (j := 0) rfl
  have q1 := cell_of hq (j := 1) rfl
  have r1 := cell_of hr (j := 1) rfl
  have HW2 := Lib.hid hw2
  have EQ := Lib.hid eq
  have ER := Lib.hid er
  have HB2 := Lib.hid hb2
  clear hw2 hb2 hq hr hs2 eq er
  by_cases h : a.v = b.v
  · have HL : Hid (decide (a.n < b.n) = less a b) := Lib.hid (by unfold less; rw [if_pos h])
    have HH := Lib.hid h
    clear h
    go_enter Try.func31, Try.ntmps31
    go_upto_region 1 with fail
    rw [← HW2.out, ← ER.out, ← EQ.out]
    have h := HH.out
    go_wp2_with fail
    go_ret
    exact ⟨ret_b HL.out, HB2.out⟩
  · have HL : Hid (decide (a.v < b.v) = less a b) := Lib.hid (by unfold less; rw [if_neg h])
    have HH := Lib.hid h
    clear h
    go_enter Try.func31, Try.ntmps31
    go_upto_region 1 with fail
    rw [← HW2.out, ← ER.out, ← EQ.out]
    have h := HH.out
    go_wp2_with fail
    go_ret
    exact ⟨ret_b HL.out, HB2.out⟩
theorem less_any (a b : Mk) (w : World) : Calls Try.prog 23 #[.agg #[.int .i64 a.v, .int .i64 a.n], .agg #[.int .i64 b.v, .int .i64 b.n]] w fun e w' => e = .returned (.bool (less a b)) ∧ Below w.heap.size w w' := by
  obtain ⟨w2, hw2, hb2, hq, hr, hs2⟩ := two_box w (.cells #[.int .i64 a.v, .int .i64 a.n] 36) (.cells #[.int .i64 b.v, .int .i64 b.n] 36)
  obtain ⟨q, eq⟩ : ∃ q, q = w.heap.size := ⟨_, rfl⟩
  obtain ⟨r, er⟩ : ∃ r, r = w.heap.size + 1 := ⟨_, rfl⟩
  rw [← eq] at hq
  rw [← er] at hr
  have q0 := cell_of hq (j := 0) rfl
  have r0 := cell_of hr (j := 0) rfl
  have q1 := cell_of hq (j := 1) rfl
  have r1 := cell_of hr (j := 1) rfl
  have HW2 := Lib.hid hw2
  have EQ := Lib.hid eq
  have ER := Lib.hid er
  have HB2 := Lib.hid hb2
  have HC := Lib.hid (before_any a b w2)
  clear hw2 hb2 hq hr hs2 eq er
  go_enter Try.func23, Try.ntmps23
  go_upto_region 1 with fail
  rw [← HW2.out, ← ER.out, ← EQ.out]
  go_wp2_with fail
  refine HC.out.mono ?_
  rintro e w3 ⟨rfl, hb3⟩
  have HB3 := Lib.hid (HB2.out.trans (hb3.mono HB2.out.size))
  go_wp2_with fail
  go_ret
  exact ⟨rfl, HB3.out⟩
theorem rless_any (a b : Mk) (w : World) : Calls Try.prog 24 #[.agg #[.int .i64 a.v, .int .i64 a.n], .agg #[.int .i64 b.v, .int .i64 b.n]] w fun e w' => e = .returned (.bool (less a b)) ∧ Below w.heap.size w w' := by
  obtain ⟨w2, hw2, hb2, hq, hr, hs2⟩ := two_box w (.cells #[.int .i64 a.v, .int .i64 a.n] 36) (.cells #[.int .i64 b.v, .int .i64 b.n] 36)
  obtain ⟨q, eq⟩ : ∃ q, q = w.heap.size := ⟨_, rfl⟩
  obtain ⟨r, er⟩ : ∃ r, r = w.heap.size + 1 := ⟨_, rfl⟩
  rw [← eq] at hq
  rw [← er] at hr
  have q0 := cell_of hq (j := 0) rfl
  have r0 := cell_of hr (j := 0) rfl
  have q1 := cell_of hq (j := 1) rfl
  have r1 := cell_of hr (j := 1) rfl
  have HW2 := Lib.hid hw2
  have EQ := Lib.hid eq
  have ER := Lib.hid er
  have HB2 := Lib.hid hb2
  clear hw2 hb2 hq hr hs2 eq er
  by_cases h : a.v = b.v
  · have HL : Hid (decide (a.n < b.n) = less a b) := Lib.hid (by unfold less; rw [if_pos h])
    have HH := Lib.hid h
    clear h
    go_enter Try.func24, Try.ntmps24
    go_upto_region 1 with fail
    rw [← HW2.out, ← ER.out, ← EQ.out]
    have h := HH.out
    go_wp2_with fail
    go_ret
    exact ⟨ret_b HL.out, HB2.out⟩
  · have HL : Hid (decide (a.v < b.v) = less a b) := Lib.hid (by unfold less; rw [if_neg h])
    have HH := Lib.hid h
    clear h
    go_enter Try.func24, Try.ntmps24
    go_upto_region 1 with fail
    rw [← HW2.out, ← ER.out, ← EQ.out]
    have h := HH.out
    go_wp2_with fail
    go_ret
    exact ⟨ret_b HL.out, HB2.out⟩
theorem res_mark {fn : Func} {p : Tmp} (h : fn.results = #[.cell p 36]) (tmps : Array Value) (w : World) (b : Nat) (x y : Int) (hp : tmps.getD p undef = .pointer (some ⟨b, 0, none⟩))
    (h4 : w.heap[b]? = some (.cells #[.int .i64 x, .int .i64 y] 36 (0, 0))) :
    (results fn tmps).run Try.prog w = .ok (.agg #[.int .i64 x, .int .i64 y]) w := by
  have hp' : tmps[p]?.getD undef = .pointer (some ⟨b, 0, none⟩) := by simpa using hp
  have c0 := cell_of h4 (j := 0) rfl
  have c1 := cell_of h4 (j := 1) rfl
  simp [results, h, hp', asAddr, go_sem, c0, c1]
theorem markof_any (v : Int) (A : Option Addr) (n c : Nat) (w : World) : Calls Try.prog 22 #[.int .i64 v, .slice A n c] w fun e w' => e = .returned (.agg #[.int .i64 v, .int .i64 (n : Int)]) ∧ Below w.heap.size w w' := by
  obtain ⟨w2, hw2⟩ : ∃ w2, w2 = w.alloc (.cells #[.int .i64 0, .int .i64 0] 36) := ⟨_, rfl⟩
  obtain ⟨q, eq⟩ : ∃ q, q = w.heap.size := ⟨_, rfl⟩
  have hb2 : Below w.heap.size w w2 := by rw [hw2]; exact box_below w _
  have hq : w2.heap[q]? = some (.cells #[.int .i64 0, .int .i64 0] 36 (0, 0)) := by rw [hw2, eq]; exact new_block w _
  have q0 := cell_of hq (j := 0) rfl
  have q1 := cell_of hq (j := 1) rfl
  have f0 := frozen_of_row w2 q 0 _ _ hq
  have f1 := frozen_of_row w2 q 1 _ _ hq
  obtain ⟨w4, hw4⟩ : ∃ w4, w4 = (w2.setCell ⟨q, 0, none⟩ (.int .i64 v)).setCell ⟨q, 1, none⟩ (.int .i64 (n : Int)) := ⟨_, rfl⟩
  have h4 : w4.heap[q]? = some (.cells #[.int .i64 v, .int .i64 (n : Int)] 36 (0, 0)) := by
    rw [hw4]
    exact heap_setCell_same _ q 1 _ 36 _ (heap_setCell_same w2 q 0 _ 36 _ hq)
  have HB4 : Hid (Below w.heap.size w w4) := Lib.hid (by rw [hw4]; exact (hb2.setCell (Nat.le_of_eq eq.symm) _).setCell (Nat.le_of_eq eq.symm) _)
  have H4 := Lib.hid h4
  have HW2 := Lib.hid hw2
  have HW4 := Lib.hid hw4
  have EQ := Lib.hid eq
  clear hw2 hw4 eq hb2 hq h4
  go_enter Try.func22, Try.ntmps22
  go_upto_region 1 with fail
  rw [← HW2.out, ← EQ.out]
  go_wp2_with fail
  rw [← HW4.out]
  exact bodyPost_ret (res_mark Try.results22 _ _ q v n (by simp) H4.out) rfl ⟨rfl, HB4.out⟩
end Go.Proofs.Ytlpidjmhjjmmcaa
