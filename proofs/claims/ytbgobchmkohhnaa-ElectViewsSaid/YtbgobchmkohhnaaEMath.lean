/-
  Plain mathematics of timers. No condition.
-/
import Derived.Test.YtbgobchmkohhnaaRMath
namespace Go.Proofs.El
open Go.Proofs.Rk

structure Tm where
  sp : Int
  gr : Int
  wt : Int
  lm : Int
def mem (s m : Int) : Bool := isG m && decide (0 ≤ s) && decide (s < m)
def okN (s m p : Int) : Bool := mem s m && decide (1 ≤ p) && decide (p ≤ 1000)
def newT (s m p : Int) : Tm := ⟨p, p * (m + 2), 0, p * (s + 2)⟩
structure Good (t : Tm) : Prop where
  sp1 : 1 ≤ t.sp
  sp2 : t.sp ≤ 1000
  gr1 : 1 ≤ t.gr
  gr2 : t.gr ≤ 9000
  wt1 : 0 ≤ t.wt
  wt2 : t.wt < t.lm
  lm1 : t.sp * 2 ≤ t.lm
  lm2 : t.lm ≤ 1000000
def more (t : Tm) : Int := if t.lm + t.gr ≤ 1000000 then t.lm + t.gr else t.lm
def longer (t : Tm) : Tm := ⟨t.sp, t.gr, t.wt, more t⟩
def heard (t : Tm) : Tm := ⟨t.sp, t.gr, 0, t.lm⟩
/-- The timer behind a tick. -/
def tickT (t : Tm) (b : Bool) : Tm :=
  if b then (if t.wt + 1 < t.sp then ⟨t.sp, t.gr, t.wt + 1, t.lm⟩ else ⟨t.sp, t.gr, 0, t.lm⟩)
  else if t.wt + 1 < t.lm then ⟨t.sp, t.gr, t.wt + 1, t.lm⟩ else ⟨t.sp, t.gr, 0, more t⟩
def leadT (t : Tm) (b : Bool) : Bool := !b && decide (t.lm ≤ t.wt + 1)
def nudgeT (t : Tm) (b : Bool) : Bool := b && decide (t.sp ≤ t.wt + 1)
theorem mem_cases {s m : Int} (h : mem s m = true) : 1 ≤ m ∧ m ≤ 7 ∧ 0 ≤ s ∧ s < m ∧ isG m = true := by
  simp only [mem, Bool.and_eq_true, decide_eq_true_eq] at h
  have := isG_cases h.1.1
  refine ⟨by omega, by omega, h.1.2, h.2, h.1.1⟩
theorem okN_cases {s m p : Int} (h : okN s m p = true) : mem s m = true ∧ 1 ≤ p ∧ p ≤ 1000 := by
  simp only [okN, Bool.and_eq_true, decide_eq_true_eq] at h
  exact ⟨h.1.1, h.1.2, h.2⟩
theorem mul_bounds {p k : Int} {n : Int} (h1 : 1 ≤ p) (h2 : p ≤ 1000) (h3 : 2 ≤ k) (h4 : k ≤ n) : p * 2 ≤ p * k ∧ p * k ≤ 1000 * n ∧ 1 ≤ p * k := by
  have a1 : p * 2 ≤ p * k := Int.mul_le_mul_of_nonneg_left h3 (by omega)
  have a2 : p * k ≤ p * n := Int.mul_le_mul_of_nonneg_left h4 (by omega)
  have a3 : p * n ≤ 1000 * n := Int.mul_le_mul_of_nonneg_right h2 (by omega)
  exact ⟨a1, Int.le_trans a2 a3, by omega⟩
theorem new_good {s m p : Int} (h : okN s m p = true) : Good (newT s m p) := by
  obtain ⟨hm, h1, h2⟩ := okN_cases h
  obtain ⟨a1, a2, a3, a4, -⟩ := mem_cases hm
  have b1 := mul_bounds (k := s + 2) (n := 8) h1 h2 (by omega) (by omega)
  have b2 := mul_bounds (k := m + 2) (n := 9) h1 h2 (by omega) (by omega)
  exact ⟨h1, h2, b2.2.2, (by show p * (m + 2) ≤ 9000; omega), (by show (0 : Int) ≤ 0; omega), (by show (0 : Int) < p * (s + 2); omega), b1.1, (by show p * (s + 2) ≤ 1000000; omega)⟩
theorem new_limit {s m p : Int} (h : okN s m p = true) : (newT s m p).lm ≤ 8000 := by
  obtain ⟨hm, h1, h2⟩ := okN_cases h
  obtain ⟨a1, a2, a3, a4, -⟩ := mem_cases hm
  have b1 := mul_bounds (k := s + 2) (n := 8) h1 h2 (by omega) (by omega)
  show p * (s + 2) ≤ 8000
  omega
theorem more_le {t : Tm} (h : Good t) : t.lm ≤ more t ∧ more t ≤ 1000000 := by
  have := h.gr1; have := h.lm2
  unfold more
  split <;> omega
theorem tick_good {t : Tm} (h : Good t) (b : Bool) : Good (tickT t b) := by
  obtain ⟨h1, h2, h3, h4, h5, h6, h7, h8⟩ := h
  have hm := more_le (t := t) ⟨h1, h2, h3, h4, h5, h6, h7, h8⟩
  unfold tickT
  cases b with
  | true =>
    simp only [if_true]
    split
    · exact ⟨h1, h2, h3, h4, by simp only; omega, by simp only; omega, h7, h8⟩
    · exact ⟨h1, h2, h3, h4, by simp only; omega, by simp only; omega, h7, h8⟩
  | false =>
    simp only [Bool.false_eq_true, if_false]
    split
    · exact ⟨h1, h2, h3, h4, by simp only; omega, by simp only; omega, h7, h8⟩
    · exact ⟨h1, h2, h3, h4, by simp only; omega, by simp only; omega, by simp only; omega, hm.2⟩
theorem heard_good {t : Tm} (h : Good t) : Good (heard t) := by
  obtain ⟨h1, h2, h3, h4, h5, h6, h7, h8⟩ := h
  exact ⟨h1, h2, h3, h4, by simp only [heard]; omega, by simp only [heard]; omega, h7, h8⟩
theorem tick_span (t : Tm) (b : Bool) : (tickT t b).sp = t.sp ∧ (tickT t b).gr = t.gr := by
  unfold tickT
  cases b with
  | true => simp only [if_true]; split <;> exact ⟨rfl, rfl⟩
  | false => simp only [Bool.false_eq_true, if_false]; split <;> exact ⟨rfl, rfl⟩
theorem tick_limit {t : Tm} (h : Good t) (b : Bool) : t.lm ≤ (tickT t b).lm ∧ (b = true → (tickT t b).lm = t.lm ∧ (tickT t b).wt < t.sp) := by
  have hm := more_le h
  have := h.sp1
  unfold tickT
  cases b with
  | true =>
    simp only [if_true]
    split <;> simp <;> omega
  | false =>
    simp only [Bool.false_eq_true, if_false]
    split <;> simp <;> omega
/-- Who leads and nudges each span ticks. -/
theorem nudge_at {p : Int} (hp : 1 ≤ p) (i : Nat) : (if (i : Int) % p + 1 < p then (i : Int) % p + 1 else 0) = ((i + 1 : Nat) : Int) % p ∧ decide (p ≤ (i : Int) % p + 1) = decide (((i + 1 : Nat) : Int) % p = 0) := by
  have a1 := Int.emod_nonneg (i : Int) (show p ≠ 0 by omega)
  have a2 := Int.emod_lt_of_pos (i : Int) (show 0 < p by omega)
  have e : ((i + 1 : Nat) : Int) % p = ((i : Int) % p + 1) % p := by
    rw [Int.natCast_add, Int.emod_add_emod]; rfl
  rw [e]
  by_cases h : (i : Int) % p + 1 < p
  · rw [if_pos h, Int.emod_eq_of_lt (by omega) h]
    refine ⟨rfl, ?_⟩
    rw [decide_eq_false (by omega), decide_eq_false (by omega)]
  · have h' : (i : Int) % p + 1 = p := by omega
    rw [if_neg h, h', Int.emod_self]
    refine ⟨rfl, ?_⟩
    rw [decide_eq_true (by omega), decide_eq_true rfl]
theorem apart {s o m p : Int} (hp : 1 ≤ p) (h : s ≠ o) : (newT s m p).lm ≠ (newT o m p).lm := by
  intro e
  simp only [newT] at e
  have := Int.eq_of_mul_eq_mul_left (show p ≠ 0 by omega) e
  omega
end Go.Proofs.El
