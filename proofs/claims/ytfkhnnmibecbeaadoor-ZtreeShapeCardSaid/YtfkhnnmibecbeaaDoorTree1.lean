/-
  Plain mathematics of trees of znodes: a tree as a list by rising paths; what is put, taken out, found. No program in it; no condition.
-/
import Derived.Test.YtfkhnnmibecbeaaDoorMath2
import Derived.Test.YtfkhnnmibecbeaaDoorMath3
namespace Go.Proofs.Zt
open Go.Proofs.Zn

/-- A znode. -/
structure Nd where
  path : Txt
  data : Txt
  cr : Int
  ch : Int
  kd : Int
  ver : Int
  ks : Int
  own : Int
  nx : Int
def nd0 : Nd := ⟨[], [], 0, 0, 0, 0, 0, 0, 0⟩
structure Evt where
  s : Int
  k : Int
  p : Txt
structure Chg where
  kind : Int
  path : Txt
  data : Txt
  ver : Int
  eph : Bool
  sq : Bool
abbrev Tr := List Nd
def get (T : Tr) (p : Txt) : Option Nd := T.find? (fun z => z.path == p)
def put : Tr → Nd → Tr
  | [], z => [z]
  | y :: r, z => if y.path < z.path then y :: put r z else z :: (y :: r).filter (fun x => !(x.path == z.path))
def wout (T : Tr) (p : Txt) : Tr := T.filter (fun x => !(x.path == p))
def kids (T : Tr) (p : Txt) : List Txt := (T.filter (fun z => parentOk z.path && (parent z.path == p))).map (fun z => base z.path)
def owned (T : Tr) (s : Int) : List Txt := (T.filter (fun z => decide (s ≠ 0) && decide (z.own = s))).map (·.path)
def Srt (T : Tr) : Prop := T.Pairwise (fun a b => a.path < b.path)

theorem lt_irr (a : Txt) : ¬ a < a := List.lt_irrefl a
theorem lt_tr {a b c : Txt} (h1 : a < b) (h2 : b < c) : a < c := List.lt_trans h1 h2
theorem lt_ne {a b : Txt} (h : a < b) : a ≠ b := fun e => lt_irr b (e ▸ h)
theorem lt_or (a b : Txt) : a < b ∨ a = b ∨ b < a := by
  by_cases h1 : a < b
  · exact .inl h1
  · by_cases h2 : b < a
    · exact .inr (.inr h2)
    · exact .inr (.inl (List.le_antisymm (by simpa using h2) (by simpa using h1)))
theorem not_lt_of {a b : Txt} (h : b < a) : ¬ a < b := fun h' => lt_irr _ (lt_tr h h')
theorem ge_of {a b : Txt} (h : ¬ a < b) : a = b ∨ b < a := by rcases lt_or a b with h' | h' | h' <;> simp_all

theorem get_nil (p : Txt) : get [] p = none := rfl
theorem get_cons_hit {y : Nd} {r : Tr} {p : Txt} (h : y.path = p) : get (y :: r) p = some y := by simp [get, h]
theorem get_cons_miss {y : Nd} {r : Tr} {p : Txt} (h : y.path ≠ p) : get (y :: r) p = get r p := by simp [get, h]
theorem get_some {T : Tr} {p : Txt} {z : Nd} (h : get T p = some z) : z ∈ T ∧ z.path = p := by
  refine ⟨List.mem_of_find?_eq_some h, ?_⟩
  have := List.find?_some h
  simpa using this
theorem get_none {T : Tr} {p : Txt} : get T p = none ↔ ∀ z ∈ T, z.path ≠ p := by
  unfold get; rw [List.find?_eq_none]; simp
theorem get_mem {T : Tr} (hs : Srt T) {z : Nd} (h : z ∈ T) : get T z.path = some z := by
  induction T with
  | nil => cases h
  | cons y r ih =>
    obtain ⟨h1, h2⟩ := List.pairwise_cons.1 hs
    rcases List.mem_cons.1 h with rfl | h'
    · exact get_cons_hit rfl
    · rw [get_cons_miss (lt_ne (h1 z h')), ih h2 h']
theorem mem_put (T : Tr) (z x : Nd) : x ∈ put T z ↔ x = z ∨ (x ∈ T ∧ x.path ≠ z.path) := by
  induction T with
  | nil => simp [put]
  | cons y r ih =>
    unfold put
    split
    · rename_i h
      rw [List.mem_cons, ih, List.mem_cons]
      have := lt_ne h
      constructor
      · rintro (rfl | rfl | ⟨h1, h2⟩)
        · exact .inr ⟨.inl rfl, this⟩
        · exact .inl rfl
        · exact .inr ⟨.inr h1, h2⟩
      · rintro (rfl | ⟨rfl | h1, h2⟩)
        · exact .inr (.inl rfl)
        · exact .inl rfl
        · exact .inr (.inr ⟨h1, h2⟩)
    · rw [List.mem_cons, List.mem_filter]; simp
theorem put_srt {T : Tr} (hs : Srt T) (z : Nd) : Srt (put T z) := by
  induction T with
  | nil => exact List.pairwise_singleton _ _
  | cons y r ih =>
    obtain ⟨h1, h2⟩ := List.pairwise_cons.1 hs
    unfold put
    split
    · rename_i h
      refine List.pairwise_cons.2 ⟨fun x hx => ?_, ih h2⟩
      rcases (mem_put r z x).1 hx with rfl | ⟨hx, _⟩
      · exact h
      · exact h1 x hx
    · rename_i h
      refine List.pairwise_cons.2 ⟨fun x hx => ?_, hs.sublist List.filter_sublist⟩
      obtain ⟨hx, hne⟩ := List.mem_filter.1 hx
      have hne : x.path ≠ z.path := by simpa using hne
      have : z.path ≤ y.path := by simpa using h
      rcases List.mem_cons.1 hx with rfl | hx
      · rcases ge_of h with e | e
        · exact absurd e hne
        · exact e
      · rcases ge_of h with e | e
        · rw [← e]; exact h1 x hx
        · exact lt_tr e (h1 x hx)
theorem get_put (T : Tr) (z : Nd) (p : Txt) : get (put T z) p = if p = z.path then some z else get T p := by
  induction T with
  | nil =>
    unfold put
    split
    · rename_i e; exact get_cons_hit e.symm
    · rename_i e; rw [get_cons_miss (fun e' => e e'.symm)]
  | cons y r ih =>
    unfold put
    split
    · rename_i h
      have hne := lt_ne h
      by_cases hy : y.path = p
      · rw [get_cons_hit hy, if_neg (fun e => hne (hy.trans e)), get_cons_hit hy]
      · rw [get_cons_miss hy, ih, get_cons_miss hy]
    · split
      · rename_i e; rw [get_cons_hit e.symm]
      · rename_i e
        rw [get_cons_miss (fun e' => e e'.symm)]
        show List.find? _ _ = List.find? _ _
        rw [List.find?_filter]
        congr 1
        funext x
        by_cases hx : x.path = p
        · have : ¬ x.path = z.path := fun e' => e (hx.symm.trans e')
          simp [hx, e]
        · simp [hx]
theorem get_wout (T : Tr) (q p : Txt) : get (wout T q) p = if p = q then none else get T p := by
  unfold wout get
  rw [List.find?_filter]
  split
  · rename_i e
    rw [List.find?_eq_none]
    intro x _
    simp only [e]
    by_cases hx : x.path = q <;> simp [hx]
  · rename_i e
    congr 1
    funext x
    by_cases hx : x.path = p
    · simp [hx, e]
    · simp [hx]
theorem wout_srt {T : Tr} (hs : Srt T) (p : Txt) : Srt (wout T p) := hs.sublist List.filter_sublist
theorem mem_wout (T : Tr) (p : Txt) (x : Nd) : x ∈ wout T p ↔ x ∈ T ∧ x.path ≠ p := by
  unfold wout; rw [List.mem_filter]; simp
theorem put_len_new {T : Tr} {z : Nd} (h : get T z.path = none) : (put T z).length = T.length + 1 := by
  induction T with
  | nil => rfl
  | cons y r ih =>
    have hn := get_none.1 h
    unfold put
    split
    · rw [List.length_cons, List.length_cons, ih (get_none.2 fun x hx => hn x (List.mem_cons_of_mem _ hx))]
    · rw [List.length_cons, List.filter_eq_self.2]
      intro x hx
      simpa using hn x hx
theorem put_len_old {T : Tr} (hs : Srt T) {z x : Nd} (h : get T z.path = some x) : (put T z).length = T.length := by
  induction T with
  | nil => cases h
  | cons y r ih =>
    obtain ⟨h1, h2⟩ := List.pairwise_cons.1 hs
    unfold put
    split
    · rename_i hlt
      rw [List.length_cons, List.length_cons]
      rw [get_cons_miss (lt_ne hlt)] at h
      rw [ih h2 h]
    · rename_i hlt
      rcases ge_of hlt with e | e
      · have e' : (y :: r).filter (fun x => !(x.path == z.path)) = r := by
          rw [List.filter_cons_of_neg (by simp [e]), List.filter_eq_self.2]
          intro x hx
          have := lt_ne (h1 x hx)
          simp
          rw [← e]
          exact fun h => this h.symm
        rw [e']; rfl
      · exfalso
        have := get_some h
        rcases List.mem_cons.1 this.1 with rfl | hx
        · exact lt_ne e this.2.symm
        · have hl := h1 _ hx
          rw [this.2] at hl
          exact lt_irr _ (lt_tr e hl)
theorem wout_len_le (T : Tr) (p : Txt) : (wout T p).length ≤ T.length := List.length_filter_le _ _
/-- Two trees by rising paths with the same znodes are one. -/
theorem srt_ext {S T : Tr} (h1 : Srt S) (h2 : Srt T) (h : ∀ p, get S p = get T p) : S = T := by
  induction S generalizing T with
  | nil =>
    cases T with
    | nil => rfl
    | cons y r => have := h y.path; rw [get_cons_hit rfl] at this; cases this
  | cons x s ih =>
    cases T with
    | nil => have := h x.path; rw [get_cons_hit rfl] at this; cases this
    | cons y r =>
      obtain ⟨a1, a2⟩ := List.pairwise_cons.1 h1
      obtain ⟨b1, b2⟩ := List.pairwise_cons.1 h2
      have hx := h x.path
      have hy := h y.path
      rw [get_cons_hit rfl] at hx hy
      have hxm := (get_some hx.symm).1
      have hym := (get_some hy).1
      have e : x = y := by
        rcases List.mem_cons.1 hxm with e | hm
        · exact e
        · rcases List.mem_cons.1 hym with e | hm'
          · exact e.symm
          · exact absurd (lt_tr (b1 x hm) (a1 y hm')) (lt_irr _)
      subst e
      rw [ih a2 b2 (fun p => ?_)]
      by_cases hp : x.path = p
      · have n1 : get s p = none := get_none.2 fun z hz => by have := lt_ne (a1 z hz); rw [hp] at this; exact fun e => this e.symm
        have n2 : get r p = none := get_none.2 fun z hz => by have := lt_ne (b1 z hz); rw [hp] at this; exact fun e => this e.symm
        rw [n1, n2]
      · have := h p
        rwa [get_cons_miss hp, get_cons_miss hp] at this
end Go.Proofs.Zt
