/-
  What touches, ahead and the closures return of any watch and event. No condition.
-/
import Derived.Test.YtfejapaoflikhaaDoorWRow
namespace Go.Proofs.YtfejapaoflikhaaDoor
set_option maxRecDepth 100000
open Go.ChangeShapes Go.WideShapes Go.ChangeAt Go.RowKit Go.Proofs.Zn Go.Proofs.Wa

theorem less_dec (x y : Txt) : Op.bytesLess x y = decide (x < y) := by
  induction x generalizing y with
  | nil => cases y <;> simp [Op.bytesLess]
  | cons a x ih =>
    cases y with
    | nil => simp [Op.bytesLess]
    | cons b y =>
      rw [Op.bytesLess, ih, Bool.eq_iff_iff, decide_eq_true_iff, List.cons_lt_cons_iff]
      simp
/-- A table: the box, its row. -/
structure TabW (w : World) (B tp : Nat) (v : Value) (L : Tb) : Prop where
  here : w.heap[tp]? = some (.cells #[v] 53 (0, 0))
  row : w.ownsRow B 45 3 v L.length (wcells L)
  ge : B ≤ tp
theorem TabW.below {w w' : World} {B tp : Nat} {v : Value} {L : Tb} (h : TabW w B tp v L) (hb : Below w.heap.size w w') : TabW w' B tp v L := ⟨blk_below h.here hb, own_below h.row hb, h.ge⟩
theorem touches_any (k : Int) (b : Bool) (w : World) : Calls Tryd.prog 25 #[.int .i64 k, .bool b] w fun e w' => e = .returned (.bool (touch k b)) ∧ w = w' := by
  by_cases h1 : k = 1
  · subst h1
    have HE : Hid (touch 1 b = !b) := Lib.hid (by cases b <;> rfl)
    go_enter Tryd.func25, Tryd.ntmps25
    go_wp2_with fail
    go_ret
    exact ⟨ret_b HE.out.symm, rfl⟩
  by_cases h3 : k = 3
  · subst h3
    have HE : Hid (touch 3 b = !b) := Lib.hid (by cases b <;> rfl)
    go_enter Tryd.func25, Tryd.ntmps25
    go_wp2_with fail
    go_ret
    exact ⟨ret_b HE.out.symm, rfl⟩
  by_cases h2 : k = 2
  · subst h2
    have HE : Hid (touch 2 b = true) := Lib.hid (by cases b <;> rfl)
    go_enter Tryd.func25, Tryd.ntmps25
    go_wp2_with fail
    go_ret
    exact ⟨ret_b HE.out.symm, rfl⟩
  by_cases h4 : k = 4
  · subst h4
    have HE : Hid (touch 4 b = b) := Lib.hid (by cases b <;> rfl)
    go_enter Tryd.func25, Tryd.ntmps25
    go_wp2_with fail
    go_ret
    exact ⟨ret_b HE.out.symm, rfl⟩
  have e1 : (k == 1) = false := by simpa using h1
  have e2 : (k == 2) = false := by simpa using h2
  have e3 : (k == 3) = false := by simpa using h3
  have e4 : (k == 4) = false := by simpa using h4
  have HE : Hid (touch k b = false) := Lib.hid (by
    unfold touch
    have : ¬ (k = 4 ∨ k = 2) := by omega
    have h' : ¬ (1 ≤ k ∧ k ≤ 3) := by omega
    cases b <;> simp [this, h'])
  clear h1 h2 h3 h4
  go_enter Tryd.func25, Tryd.ntmps25
  go_wp2_with fail
  go_ret
  exact ⟨ret_b HE.out.symm, rfl⟩
set_option maxHeartbeats 1000000 in
theorem ahead_any (a b : Wt) (w : World) : Calls Tryd.prog 41 #[.agg #[.int .i64 a.s, .string (B a.p), .bool a.k], .agg #[.int .i64 b.s, .string (B b.p), .bool b.k]] w fun e w' => e = .returned (.bool (bef a b)) ∧ Below w.heap.size w w' := by
  obtain ⟨w2, hw2, hB2, hq, hr, hs2⟩ := two_box w (.cells #[.int .i64 a.s, .string (B a.p), .bool a.k] 45) (.cells #[.int .i64 b.s, .string (B b.p), .bool b.k] 45)
  obtain ⟨q, eq⟩ : ∃ q, q = w.heap.size := ⟨_, rfl⟩
  obtain ⟨r, er⟩ : ∃ r, r = w.heap.size + 1 := ⟨_, rfl⟩
  rw [← eq] at hq
  rw [← er] at hr
  obtain ⟨x, hx⟩ : ∃ x, bef a b = x := ⟨_, rfl⟩
  rw [hx]
  have HX := Lib.hid hx
  have HB2 := Lib.hid hB2
  have HW2 := Lib.hid hw2
  have EQ := Lib.hid eq
  have ER := Lib.hid er
  have q0 := cell_of hq (j := 0) rfl
  have q1 := cell_of hq (j := 1) rfl
  have q2 := cell_of hq (j := 2) rfl
  have r0 := cell_of hr (j := 0) rfl
  have r1 := cell_of hr (j := 1) rfl
  have r2 := cell_of hr (j := 2) rfl
  clear hx hw2 hB2 hq hr hs2 eq er
  by_cases h1 : a.s = b.s
  · have t1 : (a.s != b.s) = false := by simpa using h1
    by_cases h2 : a.p = b.p
    · have t2 : (a.p == b.p) = true := by simpa using h2
      have HE : Hid ((!a.k && b.k) = x) := Lib.hid (by rw [← HX.out]; unfold bef; rw [if_pos h1, if_pos h2])
      obtain ⟨ak, hak⟩ : ∃ y, a.k = y := ⟨_, rfl⟩
      obtain ⟨bk, hbk⟩ : ∃ y, b.k = y := ⟨_, rfl⟩
      rw [hak] at q2
      rw [hbk] at r2
      rw [hak, hbk] at HE ⊢
      rw [hak, hbk] at HW2
      clear h1 h2 hak hbk
      go_enter Tryd.func41, Tryd.ntmps41
      go_upto_region 1 with fail
      cases ak <;> cases bk
      all_goals
        rw [← HW2.out, ← ER.out, ← EQ.out]
        go_wp2_with fail
        go_ret
        exact ⟨ret_b HE.out, HB2.out⟩
    · have t2 : (a.p == b.p) = false := by simpa using h2
      obtain ⟨y, hy⟩ : ∃ y, Op.bytesLess a.p b.p = y := ⟨_, rfl⟩
      have HE : Hid (y = x) := Lib.hid (by rw [← HX.out, ← hy, less_dec]; unfold bef; rw [if_pos h1, if_neg h2])
      clear h1 h2
      go_enter Tryd.func41, Tryd.ntmps41
      go_upto_region 1 with fail
      rw [← HW2.out, ← ER.out, ← EQ.out]
      go_wp2_with fail
      go_ret
      exact ⟨ret_b HE.out, HB2.out⟩
  · have t1 : (a.s != b.s) = true := by simpa using h1
    have HE : Hid (decide (a.s < b.s) = x) := Lib.hid (by rw [← HX.out]; unfold bef; rw [if_neg h1])
    have hE := HE.out
    clear h1
    go_enter Tryd.func41, Tryd.ntmps41
    go_upto_region 1 with fail
    rw [← HW2.out, ← ER.out, ← EQ.out]
    go_wp2_with fail
    go_ret
    exact ⟨rfl, HB2.out⟩
set_option maxHeartbeats 1000000 in
theorem fclo_any (w : World) (pb : Nat) (e : Ev) (x : Wt) (h : w.heap[pb]? = some (.cells #[.int .i64 e.s, .int .i64 e.k, .string (B e.p)] 30 (0, 0))) :
    Calls Tryd.prog 24 #[.agg #[.int .i64 x.s, .string (B x.p), .bool x.k], .pointer (some ⟨pb, 0, none⟩)] w fun en w' => en = .returned (.bool (hit e x)) ∧ Below w.heap.size w w' := by
  obtain ⟨w1, hw1⟩ : ∃ w1, w1 = w.alloc (.cells #[.int .i64 x.s, .string (B x.p), .bool x.k] 45) := ⟨_, rfl⟩
  obtain ⟨q, eq⟩ : ∃ q, q = w.heap.size := ⟨_, rfl⟩
  have hb1 : Below w.heap.size w w1 := by rw [hw1]; exact box_below w _
  have hq : w1.heap[q]? = some (.cells #[.int .i64 x.s, .string (B x.p), .bool x.k] 45 (0, 0)) := by rw [hw1, eq]; exact new_block w _
  have hp := blk_below h hb1
  have HT := Lib.hid (touches_any e.k x.k w1)
  obtain ⟨r, hr⟩ : ∃ r, hit e x = r := ⟨_, rfl⟩
  rw [hr]
  have HR := Lib.hid hr
  have HB1 := Lib.hid hb1
  have HW1 := Lib.hid hw1
  have EQ := Lib.hid eq
  have q1 := cell_of hq (j := 1) rfl
  have q2 := cell_of hq (j := 2) rfl
  have p1 := cell_of hp (j := 1) rfl
  have p2 := cell_of hp (j := 2) rfl
  clear h hw1 eq hb1 hq hp hr
  by_cases h1 : x.p = e.p
  · have t1 : (x.p == e.p) = true := by simpa using h1
    have HE : Hid (touch e.k x.k = r) := Lib.hid (by rw [← HR.out]; unfold hit; rw [t1]; rfl)
    rw [HE.out] at HT
    clear h1
    go_enter Tryd.func24, Tryd.ntmps24
    go_upto_region 1 with fail
    rw [← HW1.out, ← EQ.out]
    go_wp2_with fail
    refine HT.out.mono ?_
    rintro en w2 ⟨rfl, rfl⟩
    go_wp2_with fail
    go_ret
    exact ⟨rfl, HB1.out⟩
  · have t1 : (x.p == e.p) = false := by simpa using h1
    have HE : Hid (r = false) := Lib.hid (by rw [← HR.out]; unfold hit; rw [t1]; rfl)
    clear h1
    go_enter Tryd.func24, Tryd.ntmps24
    go_upto_region 1 with fail
    rw [← HW1.out, ← EQ.out]
    go_wp2_with fail
    go_ret
    exact ⟨ret_b HE.out.symm, HB1.out⟩
set_option maxHeartbeats 1000000 in
theorem dclo_any (w : World) (pb : Nat) (s : Int) (x : Wt) (h : w.heap[pb]? = some (.cells #[.int .i64 s] 3 (0, 0))) :
    Calls Tryd.prog 34 #[.agg #[.int .i64 x.s, .string (B x.p), .bool x.k], .pointer (some ⟨pb, 0, none⟩)] w fun en w' => en = .returned (.bool (x.s == s)) ∧ Below w.heap.size w w' := by
  obtain ⟨w1, hw1⟩ : ∃ w1, w1 = w.alloc (.cells #[.int .i64 x.s, .string (B x.p), .bool x.k] 45) := ⟨_, rfl⟩
  obtain ⟨q, eq⟩ : ∃ q, q = w.heap.size := ⟨_, rfl⟩
  have hb1 : Below w.heap.size w w1 := by rw [hw1]; exact box_below w _
  have hq : w1.heap[q]? = some (.cells #[.int .i64 x.s, .string (B x.p), .bool x.k] 45 (0, 0)) := by rw [hw1, eq]; exact new_block w _
  have hp := blk_below h hb1
  have HB1 := Lib.hid hb1
  have HW1 := Lib.hid hw1
  have EQ := Lib.hid eq
  have q0 := cell_of hq (j := 0) rfl
  have p0 := cell_of hp (j := 0) rfl
  obtain ⟨r, hr⟩ : ∃ r, (x.s == s) = r := ⟨_, rfl⟩
  rw [hr]
  clear h hw1 eq hb1 hq hp
  go_enter Tryd.func34, Tryd.ntmps34
  go_upto_region 1 with fail
  rw [← HW1.out, ← EQ.out]
  go_wp2_with fail
  go_ret
  exact ⟨rfl, HB1.out⟩
end Go.Proofs.YtfejapaoflikhaaDoor
