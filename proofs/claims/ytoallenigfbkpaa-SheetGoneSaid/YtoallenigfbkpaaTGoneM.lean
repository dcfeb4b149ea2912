/-
  Plain mathematics of the law Gone: what was cut off, or punched, is 0. No condition.
-/
import Derived.Test.YtoallenigfbkpaaTGoneL
namespace Go.Proofs.Ytoallenigfbkpaa
set_option maxRecDepth 100000
open Go.ChangeShapes Go.WideShapes Go.ChangeAt Go.RowKit Go.Proofs.Sg

theorem bs_take (f : Byt) (n k : Nat) : (bs f n).take k = bs f (min k n) := by
  unfold bs
  rw [← List.map_take, List.take_range]
theorem gone_was (T : Sh) (N : Nat) : rd T 0 (N : Int) = bs T.f (min N T.n) := by
  unfold rd
  by_cases h : T.n = 0
  · rw [if_pos (.inr (.inr (by omega)))]
    have : min N T.n = 0 := by omega
    rw [this]; rfl
  · rw [if_neg (by omega)]
    show ((bs T.f T.n).drop 0).take _ = _
    rw [List.drop_zero, Int.toNat_natCast, bs_take]
theorem ft_zero {k : Nat} (h : k ≤ 1048576) : ft 0 (k : Int) = true := ft_iff.2 (by omega)
theorem cut_nat {S : Sh} {k : Nat} (h : k ≤ 1048576) : cutI S (k : Int) = cutS S k := by
  unfold cutI
  rw [if_pos (ft_zero h), Int.toNat_natCast]
theorem gone_cut {T : Sh} (hT : GoodS T) {N M : Nat} (h : N + M ≤ 1048576) : ∃ f2 : Byt, rd (cutI (cutI T (N : Int)) ((N + M : Nat) : Int)) 0 ((N + M : Nat) : Int) = bs f2 (N + M) ∧ (∀ i, i < min N T.n → f2 i = T.f i) ∧ ∀ i, min N T.n ≤ i → f2 i = 0 := by
  refine ⟨(cutS (cutS T N) (N + M)).f, ?_, fun i hi => ?_, fun i hi => ?_⟩
  · rw [cut_nat (S := T) (k := N) (by omega), cut_nat h, gone_was]
    show bs _ (min (N + M) (N + M)) = _
    rw [Nat.min_self]
  · show zF (zF T.f N T.n) (N + M) N i = T.f i
    unfold zF
    rw [if_neg (by omega), if_neg (by omega)]
  · show zF (zF T.f N T.n) (N + M) N i = 0
    unfold zF
    rw [if_neg (by omega)]
    split
    · rfl
    · exact hT.far i (by omega)
theorem gone_punch {T : Sh} {N M : Nat} (h : N + M ≤ 1048576) : ∀ x ∈ rd (punchI T (N : Int) (M : Int)) (N : Int) (M : Int), x = 0 := by
  intro x hx
  have hf : ft (N : Int) (M : Int) = true := ft_iff.2 (by omega)
  unfold punchI at hx
  rw [if_pos hf, Int.toNat_natCast, Int.toNat_natCast] at hx
  unfold rd at hx
  split at hx
  · cases hx
  · rw [Int.toNat_natCast, Int.toNat_natCast] at hx
    obtain ⟨i, hi, rfl⟩ := List.getElem_of_mem hx
    rw [List.length_take, List.length_drop, bs_len] at hi
    rw [List.getElem_take, List.getElem_drop]
    have e : (bs (punchS T N M).f (punchS T N M).n)[N + i]'(by rw [bs_len]; omega) = (punchS T N M).f (N + i) := by
      unfold bs; rw [List.getElem_map, List.getElem_range]
    rw [e]
    have hn : (punchS T N M).n = T.n := rfl
    show zF T.f N (min (N + M) T.n) (N + i) = 0
    unfold zF
    rw [if_pos (by omega)]
end Go.Proofs.Ytoallenigfbkpaa
