/-
  Plain mathematics of numbers in ten digits behind a path. No program in it; no condition.
-/
import Derived.Test.YtfejapaoflikhaaDoorMath2
namespace Go.Proofs.Zn

def dg (n : Nat) : UInt8 := UInt8.ofNat (48 + n % 10)
def tenK : Nat → Nat → Txt
  | 0, _ => []
  | k + 1, n => tenK k (n / 10) ++ [dg n]
def ten (n : Nat) : Txt := tenK 10 n
theorem dg_nat (n : Nat) : (dg n).toNat = 48 + n % 10 := by
  unfold dg
  rw [UInt8.toNat_ofNat']
  omega
theorem tenK_length (k n : Nat) : (tenK k n).length = k := by
  induction k generalizing n with
  | zero => rfl
  | succ k ih => simp [tenK, ih]
def dig (l : Txt) : Prop := ∀ c ∈ l, 48 ≤ c.toNat ∧ c.toNat ≤ 57
theorem tenK_dig (k n : Nat) : dig (tenK k n) := by
  induction k generalizing n with
  | zero => intro c h; cases h
  | succ k ih =>
    intro c h
    rcases List.mem_append.1 h with h | h
    · exact ih _ c h
    · simp at h; rw [h, dg_nat]; omega
def val (l : Txt) : Nat := l.foldl (fun a c => 10 * a + (c.toNat - 48)) 0
theorem val_snoc (l : Txt) (c : UInt8) : val (l ++ [c]) = 10 * val l + (c.toNat - 48) := by simp [val]
theorem val_ten (k n : Nat) (h : n < 10 ^ k) : val (tenK k n) = n := by
  induction k generalizing n with
  | zero => have : n = 0 := by omega
            rw [this]; rfl
  | succ k ih =>
    rw [tenK, val_snoc, ih _ (by rw [Nat.pow_succ] at h; omega), dg_nat]
    omega
theorem val_lt (l : Txt) (h : dig l) : val l < 10 ^ l.length := by
  obtain ⟨n, hn⟩ : ∃ n, l.length = n := ⟨_, rfl⟩
  induction n generalizing l with
  | zero => rw [List.eq_nil_of_length_eq_zero hn]; decide
  | succ n ih =>
    rcases List.eq_nil_or_concat l with rfl | ⟨t, c, rfl⟩
    · cases hn
    · rw [List.concat_eq_append] at *
      have ht : t.length = n := by simpa using hn
      have ih := ih t (fun x hx => h x (by simp [hx])) ht
      have hc := h c (by simp)
      rw [val_snoc, List.length_append, List.length_singleton, Nat.pow_succ]
      omega
theorem snoc_lt {a b : Txt} {x y : UInt8} (h : a.length = b.length) : a ++ [x] < b ++ [y] ↔ a < b ∨ (a = b ∧ x < y) := by
  induction a generalizing b with
  | nil =>
    cases b with
    | nil =>
      show [x] < [y] ↔ _
      rw [List.cons_lt_cons_iff]
      simp
    | cons c b => cases h
  | cons c a ih =>
    cases b with
    | nil => cases h
    | cons d b =>
      simp only [List.cons_append, List.cons_lt_cons_iff, List.cons.injEq]
      rw [ih (by simpa using h)]
      constructor
      · rintro (h | ⟨h1, h | h⟩)
        · exact .inl (.inl h)
        · exact .inl (.inr ⟨h1, h⟩)
        · exact .inr ⟨⟨h1, h.1⟩, h.2⟩
      · rintro ((h | h) | h)
        · exact .inl h
        · exact .inr ⟨h.1, .inl h.2⟩
        · exact .inr ⟨h.1.1, .inr ⟨h.1.2, h.2⟩⟩
theorem ten_lt (k n m : Nat) (hn : n < 10 ^ k) (hm : m < 10 ^ k) : tenK k n < tenK k m ↔ n < m := by
  induction k generalizing n m with
  | zero =>
    have h1 : n = 0 := by omega
    have h2 : m = 0 := by omega
    rw [h1, h2]
    simp [tenK]
  | succ k ih =>
    rw [Nat.pow_succ] at hn hm
    rw [tenK, tenK, snoc_lt (by rw [tenK_length, tenK_length]), ih _ _ (by omega) (by omega), UInt8.lt_iff_toNat_lt, dg_nat, dg_nat]
    constructor
    · rintro (h | ⟨h1, h2⟩)
      · omega
      · have e := congrArg val h1
        rw [val_ten _ _ (by omega), val_ten _ _ (by omega)] at e
        omega
    · intro h
      by_cases e : n / 10 = m / 10
      · exact .inr ⟨by rw [e], by omega⟩
      · exact .inl (by omega)
theorem behind_lt (a x y : Txt) : a ++ x < a ++ y ↔ x < y := by
  induction a with
  | nil => rfl
  | cons c a ih =>
    rw [List.cons_append, List.cons_append, List.cons_lt_cons_iff, ih]
    constructor
    · rintro (h | h)
      · exact absurd h (UInt8.lt_irrefl _)
      · exact h.2
    · intro h; exact .inr ⟨rfl, h⟩
def numOk (l : Txt) (n : Int) : Bool := decide (1 ≤ depth l) && decide (0 ≤ n) && decide (n ≤ 9999999999) && valid (l ++ ten n.toNat)
def number (l : Txt) (n : Int) : Txt := if numOk l n then l ++ ten n.toNat else []
theorem number_len (l : Txt) (n : Int) : (l ++ ten n.toNat).length = l.length + 10 := by
  rw [List.length_append, ten, tenK_length]
theorem numOk_iff {l : Txt} {n : Int} : numOk l n = true ↔ 1 ≤ depth l ∧ 0 ≤ n ∧ n ≤ 9999999999 ∧ valid (l ++ ten n.toNat) = true := by
  simp [numOk, and_assoc]
theorem number_rises {l : Txt} {n m : Int} (h1 : numOk l n = true) (h2 : numOk l m = true) : (number l n < number l m) ↔ n < m := by
  unfold number
  rw [if_pos h1, if_pos h2, behind_lt]
  rw [numOk_iff] at h1 h2
  unfold ten
  rw [ten_lt _ _ _ (by omega) (by omega)]
  omega
end Go.Proofs.Zn
