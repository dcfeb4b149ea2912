/-
  Plain mathematics of tables of watches: scripts; what the document's Add comes to, piece by piece; the laws' own facts. No program in it; no condition.
-/
import Derived.Test.YtfejapaoflikhaaDoorWMath
namespace Go.Proofs.Wa
open Go.Proofs.Zn

/-- A call of a script. -/
structure Cal where
  k : Int
  n : Int
  w : Wt
  e : Ev
def stepT (T : Tb) (o : Cal) : Tb := if o.k = 0 then (add T o.w).1 else if o.k = 1 then fireT T o.e else if o.k = 2 then drop T o.n else T
theorem step_good {T : Tb} (hg : Good T) (o : Cal) : Good (stepT T o) := by
  unfold stepT
  split
  · exact add_good hg _
  split
  · exact filter_good hg _
  split
  · exact filter_good hg _
  · exact hg
def runT (T : Tb) (l : List Cal) : Tb := l.foldl stepT T
theorem run_good {T : Tb} (hg : Good T) (l : List Cal) : Good (runT T l) := by
  induction l generalizing T with
  | nil => exact hg
  | cons o l ih => exact ih (step_good hg o)
theorem run_step {T : Tb} {l : List Cal} {k : Nat} {o : Cal} (h : l[k]? = some o) : runT T (l.take (k + 1)) = stepT (runT T (l.take k)) o := by
  obtain ⟨hk, rfl⟩ := List.getElem?_eq_some_iff.1 h
  unfold runT
  rw [List.take_succ_eq_append_getElem hk, List.foldl_append]; rfl
theorem add_len (T : Tb) (w : Wt) : (add T w).1.length ≤ T.length + 1 := by
  unfold add
  split
  · simp
  split
  · simp
  split
  · simp
  · simp only; rw [ins_len]; omega
theorem step_len (T : Tb) (o : Cal) : (stepT T o).length ≤ T.length + 1 := by
  unfold stepT
  split
  · exact add_len T _
  split
  · exact Nat.le_succ_of_le (List.length_filter_le _ _)
  split
  · exact Nat.le_succ_of_le (List.length_filter_le _ _)
  · omega
theorem run_len (l : List Cal) : ∀ (T : Tb), (runT T l).length ≤ T.length + l.length := by
  induction l with
  | nil => intro T; simp [runT]
  | cons o l ih =>
    intro T
    have h1 := ih (stepT T o)
    have h2 := step_len T o
    show (runT (stepT T o) l).length ≤ _
    rw [List.length_cons]; omega
/-! ### The document's Add, piece by piece -/
/-- Does the watch stand ahead of one of these? -/
def dn (T : Tb) (w : Wt) : Bool := T.any (fun x => bef w x)
def outA (T : Tb) (w : Wt) : Tb := if dn T w = true then ins T w else T
theorem dn_snoc (T : Tb) (w x : Wt) : dn (T ++ [x]) w = (dn T w || bef w x) := by unfold dn; rw [List.any_append]; simp
theorem pos_all {T : Tb} {w : Wt} (h : dn T w = false) (hw : w ∉ T) : ∀ x ∈ T, bef x w = true := fun x hx => by
  rcases bef_or x w with h' | h' | h'
  · exact h'
  · exact absurd (h' ▸ hx) hw
  · have := List.any_eq_false.1 h x hx; rw [h'] at this; exact absurd rfl this
theorem pos_end {T : Tb} {w : Wt} (h : ∀ x ∈ T, bef x w = true) : pos T w = T.length := by
  unfold pos; rw [List.filter_eq_self.2 h]
theorem ins_end {T : Tb} {w : Wt} (h : ∀ x ∈ T, bef x w = true) : ins T w = T ++ [w] := by
  unfold ins; rw [pos_end h, List.take_length, List.drop_length]
theorem pos_snoc (T : Tb) (w x : Wt) : pos (T ++ [x]) w = pos T w + (if bef x w = true then 1 else 0) := by
  unfold pos
  rw [List.filter_append, List.length_append]
  by_cases h : bef x w = true <;> simp [h]
theorem ins_snoc {T : Tb} {w x : Wt} (h : bef x w = false) : ins (T ++ [x]) w = ins T w ++ [x] := by
  unfold ins
  have := pos_le T w
  rw [pos_snoc, h]
  simp only [Bool.false_eq_true, if_false, Nat.add_zero]
  rw [List.take_append_of_le_length this, List.drop_append_of_le_length this]
  simp
theorem out_step {T : Tb} {w x : Wt} (hs : Srt (T ++ [x])) (hw : w ∉ T) : outA (T ++ [x]) w = (if dn T w = false ∧ bef w x = true then outA T w ++ [w] else outA T w) ++ [x] := by
  unfold outA
  rw [dn_snoc]
  cases hd : dn T w with
  | true =>
    simp only [Bool.true_or, if_true, Bool.true_eq_false, false_and, if_false]
    refine ins_snoc ?_
    obtain ⟨y, hy, hyw⟩ := List.any_eq_true.1 hd
    have h1 := (List.pairwise_append.1 hs).2.2 y hy x (by simp)
    exact bef_not (bef_tr hyw h1)
  | false =>
    have hall := pos_all hd hw
    cases hb : bef w x with
    | true =>
      simp only [Bool.or_true, if_true, Bool.false_eq_true, if_false, and_self]
      rw [ins_snoc (bef_not hb), ins_end hall]
    | false => simp
theorem out_end {T : Tb} {w : Wt} (hw : w ∉ T) : (if dn T w = false then outA T w ++ [w] else outA T w) = ins T w := by
  unfold outA
  cases hd : dn T w with
  | true => simp
  | false => simp [ins_end (pos_all hd hw)]
/-! ### The laws' own facts -/
def fullT (p : Txt) (i : Nat) : Tb := (List.range i).map (fun (j : Nat) => ⟨(j : Int) + 1, p, false⟩)
theorem fullT_mem {p : Txt} {i : Nat} {x : Wt} : x ∈ fullT p i ↔ ∃ j, j < i ∧ x = ⟨(j : Int) + 1, p, false⟩ := by
  unfold fullT
  simp only [List.mem_map, List.mem_range]
  exact ⟨fun ⟨j, h, e⟩ => ⟨j, h, e.symm⟩, fun ⟨j, h, e⟩ => ⟨j, h, e.symm⟩⟩
theorem fullT_len (p : Txt) (i : Nat) : (fullT p i).length = i := by simp [fullT]
theorem fullT_succ (p : Txt) (i : Nat) : fullT p (i + 1) = fullT p i ++ [⟨(i : Int) + 1, p, false⟩] := by simp [fullT, List.range_succ]
theorem full_add {p : Txt} (hv : valid p = true) (i : Nat) : add (fullT p (min i 500)) ⟨(i : Int) + 1, p, false⟩ = (fullT p (min (i + 1) 500), decide (i < 500)) := by
  have hok : addOk ⟨(i : Int) + 1, p, false⟩ = true := by
    unfold addOk
    have : ¬ ((i : Int) + 1 < 1) := by omega
    simp [hv, this]
  have hnm : (⟨(i : Int) + 1, p, false⟩ : Wt) ∉ fullT p (min i 500) := fun h => by
    obtain ⟨j, hj, e⟩ := fullT_mem.1 h
    have := (wt_eq.1 e).1
    simp only at this
    omega
  unfold add
  rw [if_neg (by rw [hok]; simp), if_neg hnm]
  by_cases h : i < 500
  · have e1 : min i 500 = i := by omega
    have e2 : min (i + 1) 500 = i + 1 := by omega
    rw [e1] at hnm ⊢
    rw [if_neg (by rw [fullT_len]; omega), e2, fullT_succ, ins_end]
    · simp [h]
    · intro x hx
      obtain ⟨j, hj, rfl⟩ := fullT_mem.1 hx
      exact bef_iff.2 (.inl (by simp only; omega))
  · have e1 : min i 500 = 500 := by omega
    have e2 : min (i + 1) 500 = 500 := by omega
    rw [e1, e2, if_pos (by rw [fullT_len]; omega)]
    simp [h]
theorem full_none {p : Txt} (hv : valid p = false) (s : Int) (T : Tb) : add T ⟨s, p, false⟩ = (T, false) := by
  unfold add
  rw [if_pos (by unfold addOk; rw [hv]; simp)]
theorem full_first {p : Txt} (hv : valid p = true) {i : Nat} (h : 0 < i) : add (fullT p (min i 500)) ⟨1, p, false⟩ = (fullT p (min i 500), true) := by
  have hm : (⟨1, p, false⟩ : Wt) ∈ fullT p (min i 500) := fullT_mem.2 ⟨0, by omega, rfl⟩
  unfold add
  rw [if_neg (by unfold addOk; rw [hv]; simp), if_pos hm]
theorem full_good {p : Txt} (hv : valid p = true) (i : Nat) : Good (fullT p (min i 500)) := by
  induction i with
  | zero => rw [Nat.zero_min]; exact good_nil
  | succ i ih =>
    have := add_good ih ⟨(i : Int) + 1, p, false⟩
    rw [full_add hv] at this
    exact this
theorem filter_ins {T : Tb} (hs : Srt T) {w : Wt} (hw : w ∉ T) {f : Wt → Bool} : (ins T w).filter f = if f w = true then ins (T.filter f) w else T.filter f := by
  by_cases h : f w = true
  · rw [if_pos h]
    have hs2 : Srt (T.filter f) := hs.sublist List.filter_sublist
    refine srt_ext ((ins_srt hs hw).sublist List.filter_sublist) (ins_srt hs2 (fun hm => hw (List.mem_filter.1 hm).1)) (fun x => ?_)
    rw [List.mem_filter, mem_ins, mem_ins, List.mem_filter]
    constructor
    · rintro ⟨h1 | h1, h2⟩
      · exact .inl h1
      · exact .inr ⟨h1, h2⟩
    · rintro (rfl | ⟨h1, h2⟩)
      · exact ⟨.inl rfl, h⟩
      · exact ⟨.inr h1, h2⟩
  · rw [if_neg h]
    refine srt_ext ((ins_srt hs hw).sublist List.filter_sublist) (hs.sublist List.filter_sublist) (fun x => ?_)
    rw [List.mem_filter, mem_ins, List.mem_filter]
    constructor
    · rintro ⟨rfl | h1, h2⟩
      · exact absurd h2 h
      · exact ⟨h1, h2⟩
    · rintro ⟨h1, h2⟩
      exact ⟨.inr h1, h2⟩
theorem filter_comm (T : Tb) (f g : Wt → Bool) : (T.filter f).filter g = (T.filter g).filter f := by
  rw [List.filter_filter, List.filter_filter]
  congr 1
  funext x
  rw [Bool.and_comm]
/-- Who never asked, and who asked and was dropped. -/
def skips (s : Int) (o : Cal) : Bool := decide (o.k = 0) && (o.w.s == s)
theorem drop_step {T : Tb} (hs : Srt T) (hl : T.length < 500) (s : Int) (o : Cal) : drop (stepT T o) s = if skips s o = true then drop T s else stepT (drop T s) o := by
  unfold skips
  by_cases h0 : o.k = 0
  · have e1 : ∀ T, stepT T o = (add T o.w).1 := fun T => by unfold stepT; rw [if_pos h0]
    rw [e1, e1]
    simp only [h0, decide_true, Bool.true_and]
    by_cases hw : o.w.s = s
    · rw [if_pos (by simpa using hw)]
      unfold add
      split
      · rfl
      split
      · rfl
      split
      · rfl
      · rename_i h1 h2 h3
        show drop (ins T o.w) s = _
        unfold drop
        rw [filter_ins hs h2, if_neg (by simp [hw])]
    · rw [if_neg (by simpa using hw)]
      have hm : o.w ∈ drop T s ↔ o.w ∈ T := by unfold drop; rw [List.mem_filter]; simp [hw]
      have hl2 : (drop T s).length ≤ T.length := List.length_filter_le _ _
      unfold add
      split
      · rfl
      by_cases h2 : o.w ∈ T
      · rw [if_pos h2, if_pos (hm.2 h2)]
      · rw [if_neg h2, if_neg (fun h => h2 (hm.1 h)), if_neg (by omega), if_neg (by omega)]
        show drop (ins T o.w) s = _
        unfold drop
        rw [filter_ins hs h2, if_pos (by simp [hw])]
  · rw [if_neg (by simp [h0])]
    unfold stepT
    rw [if_neg h0, if_neg h0]
    split
    · exact filter_comm _ _ _
    split
    · exact filter_comm _ _ _
    · rfl
theorem drop_drop (T : Tb) (s : Int) : drop (drop T s) s = drop T s := by unfold drop; rw [List.filter_filter]; simp
theorem drop_none (T : Tb) (s : Int) (e : Ev) : ∀ x ∈ fireE (drop T s) e, x.s ≠ s := fun x hx hxs => by
  obtain ⟨w, hw, _, e2⟩ := (fire_s (drop T s) e s).1 ⟨x, hx, hxs⟩
  have := (List.mem_filter.1 hw).2
  rw [e2] at this
  simp at this
/-- All of a row, one by one. -/
def adds (T : Tb) (l : Tb) : Tb := l.foldl (fun T w => (add T w).1) T
theorem adds_good {T : Tb} (hg : Good T) (l : Tb) : Good (adds T l) := by
  induction l generalizing T with
  | nil => exact hg
  | cons o l ih => exact ih (add_good hg o)
theorem adds_snoc (T l : Tb) (w : Wt) : adds T (l ++ [w]) = (add (adds T l) w).1 := by simp [adds]
theorem adds_mem (l : Tb) : ∀ {T : Tb}, T.length + l.length ≤ 500 → ∀ x, x ∈ adds T l ↔ x ∈ T ∨ (x ∈ l ∧ addOk x = true) := by
  induction l with
  | nil => intro T _ x; simp [adds]
  | cons w l ih =>
    intro T hl x
    rw [List.length_cons] at hl
    show x ∈ adds (add T w).1 l ↔ _
    rw [ih (by have := add_len T w; omega)]
    have hmem : x ∈ (add T w).1 ↔ x ∈ T ∨ (x = w ∧ addOk x = true) := by
      unfold add
      split
      · rename_i h
        constructor
        · exact .inl
        · rintro (h1 | ⟨rfl, h1⟩)
          · exact h1
          · rw [h] at h1; cases h1
      split
      · rename_i h2
        constructor
        · exact .inl
        · rintro (h1 | ⟨rfl, h1⟩)
          · exact h1
          · exact h2
      split
      · omega
      · rename_i h1 h2 h3
        rw [mem_ins]
        constructor
        · rintro (rfl | h)
          · exact .inr ⟨rfl, by simpa using h1⟩
          · exact .inl h
        · rintro (h | ⟨rfl, _⟩)
          · exact .inr h
          · exact .inl rfl
    rw [hmem]
    constructor
    · rintro ((h | ⟨rfl, h⟩) | ⟨h1, h2⟩)
      · exact .inl h
      · exact .inr ⟨by simp, h⟩
      · exact .inr ⟨by simp [h1], h2⟩
    · rintro (h | ⟨h1, h2⟩)
      · exact .inl (.inl h)
      · rcases List.mem_cons.1 h1 with rfl | h1
        · exact .inl (.inr ⟨rfl, h2⟩)
        · exact .inr ⟨h1, h2⟩
theorem adds_rev (l : Tb) (h : l.length ≤ 500) : adds [] l = adds [] l.reverse := by
  refine srt_ext (adds_good good_nil l).srt (adds_good good_nil l.reverse).srt (fun x => ?_)
  rw [adds_mem l (by simpa using h), adds_mem l.reverse (by simpa using h), List.mem_reverse]
end Go.Proofs.Wa
