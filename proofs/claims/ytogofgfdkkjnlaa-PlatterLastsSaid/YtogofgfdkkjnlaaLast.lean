/-
  Plain mathematics of what was synced: a sector that no call writes stands as it was, whatever crash comes; rows of eight words and of eight marks. No condition.
-/
import Derived.Test.YtogofgfdkkjnlaaLaw2
namespace Go.Proofs.Ytogofgfdkkjnlaa
open Go.ChangeShapes Go.WideShapes Go.ChangeAt Go.RowKit

theorem ups_clean {l : List (List Int)} {ws : List Wr} {i : Nat} (h : ∀ x ∈ ws, x.1 ≠ i) : (ups l ws).getD i [] = l.getD i [] := by
  induction ws generalizing l with
  | nil => rfl
  | cons x ws ih =>
    show (ups (put1 l x) ws).getD i [] = _
    rw [ih (fun y hy => h y (by simp [hy])), put1, getD_set_other (h x (by simp))]
/-- A sector is as it was synced, and nothing waits for it. -/
def Clean (X : List (List Int)) (D : Dk) (i : Nat) : Prop := D.firm.getD i [] = X.getD i [] ∧ ∀ x ∈ D.wait, x.1 ≠ i
theorem clean_dies {X : List (List Int)} {D : Dk} {i : Nat} (h : Clean X D i) : Clean X (dies D) i := by
  refine ⟨?_, ?_⟩
  · rw [dies_firm]; exact h.1
  · rw [dies_wait]; exact h.2
theorem clean_sync {X : List (List Int)} {D : Dk} {i : Nat} (h : Clean X D i) : Clean X (syncD D) i :=
  ⟨(ups_clean h.2).trans h.1, fun x hx => by simp [syncD] at hx⟩
theorem clean_put {X : List (List Int)} {D : Dk} {i n : Nat} {b : List Int} (h : Clean X D i) (hn : n ≠ i) : Clean X (putD D n b) i :=
  ⟨h.1, fun x hx => by
    rcases List.mem_append.1 hx with hx | hx
    · exact h.2 x hx
    · rcases List.mem_singleton.1 hx with rfl; exact hn⟩
theorem clean_do {X : List (List Int)} {D : Dk} {i : Nat} {k n t : Int} {b : List Int} (h : Clean X D i) (hl : D.firm.length = 8) (h3 : k ≤ 3) (hn : k = 0 → 0 ≤ n → n < 8 → n ≠ (i : Int)) : Clean X (doD D k n t b).1 i := by
  unfold doD
  by_cases e3 : k = 3
  · rw [if_pos e3]; exact ⟨h.1, h.2⟩
  rw [if_neg e3, if_neg (by omega)]
  split
  · exact h
  split
  · exact h
  split
  · split
    · exact clean_dies h
    · exact clean_sync (clean_dies h)
  split
  · exact h
  split
  · exact h
  · rename_i a1 _ a2 a3 a4
    refine clean_dies (clean_put h ?_)
    have := hn (by omega) (by omega) (by omega)
    omega
theorem clean_crash {X : List (List Int)} {D : Dk} {i : Nat} (h : Clean X D i) (a b : Int) : (cur (crash D a b)).getD i [] = X.getD i [] := by
  rw [show cur (crash D a b) = crashL D.firm D.wait (kp a) (tr b) from rfl]
  unfold crashL
  split
  · rename_i hk
    unfold tearL
    rw [getD_eq _ hk, getD_set_other (h.2 _ (List.getElem_mem hk)), ups_clean (fun x hx => h.2 x (List.mem_of_mem_take hx))]
    exact h.1
  · rw [ups_clean h.2]; exact h.1
/-- Eight words, the first so many of them set. -/
def Eight (X : List (List Int)) (k : Nat) (cs : Array Value) : Prop := cs.size = 8 ∧ ∀ i, i < k → cs[i]? = some (.string (strOfNums (X.getD i [])))
theorem eight_set {X : List (List Int)} {k : Nat} {cs : Array Value} (h : Eight X k cs) (hk : k < 8) : Eight X (k + 1) (cs.set! k (.string (strOfNums (X.getD k [])))) := by
  refine ⟨by simp [h.1], fun i hi => ?_⟩
  have hs := h.1
  by_cases e : i = k
  · subst e; simp [hs, hk]
  · have h2 := h.2 i (by omega)
    rw [Array.set!_eq_setIfInBounds, Array.getElem?_setIfInBounds_ne (by omega)]
    exact h2
/-- Eight marks: a sector that bears none is as it was synced. -/
def Marks (X : List (List Int)) (D : Dk) (cs : Array Value) : Prop := cs.size = 8 ∧ ∀ i, i < 8 → ∃ s : Bool, cs[i]? = some (.bool s) ∧ (s = false → Clean X D i)
theorem marks_set {X : List (List Int)} {D : Dk} {cs : Array Value} (h : Marks X D cs) (n : Nat) : Marks X D (cs.set! n (.bool true)) := by
  refine ⟨by simp [h.1], fun i hi => ?_⟩
  have hs := h.1
  by_cases e : i = n
  · subst e; exact ⟨true, by simp [hs, hi], fun h => by cases h⟩
  · obtain ⟨s, h1, h2⟩ := h.2 i hi
    refine ⟨s, ?_, h2⟩
    rw [Array.set!_eq_setIfInBounds, Array.getElem?_setIfInBounds_ne (by omega)]
    exact h1
theorem marks_do {X : List (List Int)} {D : Dk} {cs : Array Value} (h : Marks X D cs) {k n t : Int} {b : List Int} (hl : D.firm.length = 8) (h3 : k ≤ 3) (hn : k = 0 → 0 ≤ n → n < 8 → cs[n.toNat]? = some (.bool true)) : Marks X (doD D k n t b).1 cs := by
  refine ⟨h.1, fun i hi => ?_⟩
  obtain ⟨s, h1, h2⟩ := h.2 i hi
  refine ⟨s, h1, fun hs => clean_do (h2 hs) hl h3 fun e0 e1 e2 e3 => ?_⟩
  have := hn e0 e1 e2
  rw [e3, Int.toNat_natCast, h1] at this
  subst hs
  injection this with this
  injection this with this
  cases this
theorem marks_new {D : Dk} (h : D.wait = []) : Marks D.firm D #[.bool false, .bool false, .bool false, .bool false, .bool false, .bool false, .bool false, .bool false] := by
  refine ⟨rfl, fun i hi => ⟨false, ?_, fun _ => ⟨rfl, fun x hx => by rw [h] at hx; cases hx⟩⟩⟩
  match i, hi with
  | 0, _ | 1, _ | 2, _ | 3, _ | 4, _ | 5, _ | 6, _ | 7, _ => rfl
end Go.Proofs.Ytogofgfdkkjnlaa
