/-
  Plain mathematics of tables of watches: rows by session, path and kind; what is put in, told, taken away. No program in it; no condition.
-/
import Derived.Test.YtfejapaoflikhaaDoorMath3
namespace Go.Proofs.Wa
open Go.Proofs.Zn

/-- A watch. -/
structure Wt where
  s : Int
  p : Txt
  k : Bool
/-- An event. -/
structure Ev where
  s : Int
  k : Int
  p : Txt
theorem wt_eq {a b : Wt} : a = b ↔ a.s = b.s ∧ a.p = b.p ∧ a.k = b.k := by
  constructor
  · rintro rfl; exact ⟨rfl, rfl, rfl⟩
  · rintro ⟨h1, h2, h3⟩
    cases a; cases b
    simp only at h1 h2 h3
    subst h1 h2 h3
    rfl
theorem ev_eq {a b : Ev} : a = b ↔ a.s = b.s ∧ a.k = b.k ∧ a.p = b.p := by
  constructor
  · rintro rfl; exact ⟨rfl, rfl, rfl⟩
  · rintro ⟨h1, h2, h3⟩
    cases a; cases b
    simp only at h1 h2 h3
    subst h1 h2 h3
    rfl
instance : DecidableEq Wt := fun _ _ => decidable_of_iff _ wt_eq.symm
instance : DecidableEq Ev := fun _ _ => decidable_of_iff _ ev_eq.symm
abbrev Tb := List Wt
/-- Is a watch ahead of another? -/
def bef (a b : Wt) : Bool := if a.s = b.s then (if a.p = b.p then !a.k && b.k else decide (a.p < b.p)) else decide (a.s < b.s)
theorem lt_irr (a : Txt) : ¬ a < a := List.lt_irrefl a
theorem lt_tr {a b c : Txt} (h1 : a < b) (h2 : b < c) : a < c := List.lt_trans h1 h2
theorem lt_or (a b : Txt) : a < b ∨ a = b ∨ b < a := by
  by_cases h1 : a < b
  · exact .inl h1
  · by_cases h2 : b < a
    · exact .inr (.inr h2)
    · exact .inr (.inl (List.le_antisymm (by simpa using h2) (by simpa using h1)))
theorem bef_iff {a b : Wt} : bef a b = true ↔ a.s < b.s ∨ (a.s = b.s ∧ (a.p < b.p ∨ (a.p = b.p ∧ a.k = false ∧ b.k = true))) := by
  unfold bef
  by_cases h1 : a.s = b.s
  · rw [if_pos h1]
    by_cases h2 : a.p = b.p
    · rw [if_pos h2]
      have := lt_irr b.p
      simp [h1, h2, this]
    · rw [if_neg h2]; simp [h1, h2]
  · rw [if_neg h1]; simp [h1]
theorem bef_irr (a : Wt) : bef a a = false := by
  cases h : bef a a with
  | false => rfl
  | true =>
    rcases bef_iff.1 h with h | ⟨_, h | ⟨_, h1, h2⟩⟩
    · omega
    · exact absurd h (lt_irr _)
    · rw [h1] at h2; cases h2
theorem bef_tr {a b c : Wt} (h1 : bef a b = true) (h2 : bef b c = true) : bef a c = true := by
  rw [bef_iff] at h1 h2 ⊢
  rcases h1 with h1 | ⟨e1, h1⟩
  · rcases h2 with h2 | ⟨e2, _⟩
    · exact .inl (by omega)
    · exact .inl (by omega)
  · rcases h2 with h2 | ⟨e2, h2⟩
    · exact .inl (by omega)
    · refine .inr ⟨by omega, ?_⟩
      rcases h1 with h1 | ⟨p1, k1, k2⟩
      · rcases h2 with h2 | ⟨p2, _, _⟩
        · exact .inl (lt_tr h1 h2)
        · exact .inl (by rw [← p2]; exact h1)
      · rcases h2 with h2 | ⟨p2, k3, k4⟩
        · exact .inl (by rw [p1]; exact h2)
        · rw [k2] at k3; cases k3
theorem bef_or (a b : Wt) : bef a b = true ∨ a = b ∨ bef b a = true := by
  rw [bef_iff, bef_iff, wt_eq]
  rcases Int.lt_trichotomy a.s b.s with h | h | h
  · exact .inl (.inl h)
  · rcases lt_or a.p b.p with h2 | h2 | h2
    · exact .inl (.inr ⟨h, .inl h2⟩)
    · cases ka : a.k <;> cases kb : b.k
      · exact .inr (.inl ⟨h, h2, rfl⟩)
      · exact .inl (.inr ⟨h, .inr ⟨h2, rfl, rfl⟩⟩)
      · exact .inr (.inr (.inr ⟨h.symm, .inr ⟨h2.symm, rfl, rfl⟩⟩))
      · exact .inr (.inl ⟨h, h2, rfl⟩)
    · exact .inr (.inr (.inr ⟨h.symm, .inl h2⟩))
  · exact .inr (.inr (.inl h))
theorem bef_not {a b : Wt} (h : bef a b = true) : bef b a = false := by
  cases h' : bef b a with
  | false => rfl
  | true => have := bef_tr h h'; rw [bef_irr] at this; cases this
def Srt (T : Tb) : Prop := T.Pairwise (fun a b => bef a b = true)
/-- How many are ahead of a watch. -/
def pos (T : Tb) (w : Wt) : Nat := (T.filter (fun x => bef x w)).length
theorem pos_le (T : Tb) (w : Wt) : pos T w ≤ T.length := List.length_filter_le _ _
theorem pos_split : ∀ {T : Tb}, Srt T → ∀ w, (∀ x ∈ T.take (pos T w), bef x w = true) ∧ (∀ x ∈ T.drop (pos T w), bef x w = false)
  | [], _, w => ⟨fun x hx => (by simp at hx), fun x hx => (by simp at hx)⟩
  | y :: T, hs, w => by
    obtain ⟨h1, h2⟩ := List.pairwise_cons.1 hs
    cases hy : bef y w with
    | true =>
      have e : pos (y :: T) w = pos T w + 1 := by unfold pos; rw [List.filter_cons, if_pos hy, List.length_cons]
      obtain ⟨a, b⟩ := pos_split h2 w
      rw [e]
      refine ⟨fun x hx => ?_, fun x hx => b x (by simpa using hx)⟩
      rw [List.take_succ_cons] at hx
      rcases List.mem_cons.1 hx with rfl | hx
      · exact hy
      · exact a x hx
    | false =>
      have hall : ∀ x ∈ y :: T, bef x w = false := fun x hx => by
        rcases List.mem_cons.1 hx with rfl | hx
        · exact hy
        · cases hxw : bef x w with
          | false => rfl
          | true => have := bef_tr (h1 x hx) hxw; rw [hy] at this; cases this
      have e : pos (y :: T) w = 0 := by
        unfold pos
        rw [List.filter_eq_nil_iff.2 (fun x hx => by rw [hall x hx]; simp)]
        rfl
      rw [e]
      exact ⟨fun x hx => (by simp at hx), fun x hx => hall x (by simpa using hx)⟩
theorem pos_lt {T : Tb} (hs : Srt T) {w : Wt} {k : Nat} {x : Wt} (hx : T[k]? = some x) : bef x w = decide (k < pos T w) := by
  obtain ⟨hk, rfl⟩ := List.getElem?_eq_some_iff.1 hx
  obtain ⟨a, b⟩ := pos_split hs w
  by_cases h : k < pos T w
  · rw [a T[k] (List.mem_take_iff_getElem.2 ⟨k, by omega, rfl⟩)]; simp [h]
  · rw [b T[k] (List.mem_drop_iff_getElem.2 ⟨k - pos T w, by omega, by congr 1; omega⟩)]; simp [h]
theorem mem_pos {T : Tb} (hs : Srt T) {w : Wt} : w ∈ T ↔ T[pos T w]? = some w := by
  constructor
  · intro h
    obtain ⟨k, hk, e⟩ := List.getElem_of_mem h
    have h1 := pos_lt hs (w := w) (List.getElem?_eq_getElem hk)
    rw [e, bef_irr] at h1
    have h2 : pos T w ≤ k := by simpa using h1.symm
    rcases Nat.lt_or_ge (pos T w) k with h3 | h3
    · have h4 := (List.pairwise_iff_getElem.1 hs) (pos T w) k (by omega) hk h3
      rw [e] at h4
      have h5 := pos_lt hs (w := w) (List.getElem?_eq_getElem (show pos T w < T.length by omega))
      rw [h4] at h5
      simp at h5
    · have : k = pos T w := by omega
      rw [← this, List.getElem?_eq_getElem hk, e]
  · exact fun h => List.mem_of_getElem? h
/-- A table with one watch more. -/
def ins (T : Tb) (w : Wt) : Tb := T.take (pos T w) ++ w :: T.drop (pos T w)
theorem ins_len (T : Tb) (w : Wt) : (ins T w).length = T.length + 1 := by
  unfold ins
  have := pos_le T w
  rw [List.length_append, List.length_cons, List.length_take, List.length_drop]
  omega
theorem mem_ins (T : Tb) (w x : Wt) : x ∈ ins T w ↔ x = w ∨ x ∈ T := by
  unfold ins
  conv => rhs; rw [← List.take_append_drop (pos T w) T]
  simp only [List.mem_append, List.mem_cons]
  constructor
  · rintro (h | h | h)
    · exact .inr (.inl h)
    · exact .inl h
    · exact .inr (.inr h)
  · rintro (h | h | h)
    · exact .inr (.inl h)
    · exact .inl h
    · exact .inr (.inr h)
theorem ins_srt {T : Tb} (hs : Srt T) {w : Wt} (hw : w ∉ T) : Srt (ins T w) := by
  obtain ⟨a, b⟩ := pos_split hs w
  have hsplit : Srt (T.take (pos T w) ++ T.drop (pos T w)) := by rw [List.take_append_drop]; exact hs
  obtain ⟨h1, h2, h3⟩ := List.pairwise_append.1 hsplit
  refine List.pairwise_append.2 ⟨h1, List.pairwise_cons.2 ⟨fun x hx => ?_, h2⟩, fun x hx y hy => ?_⟩
  · rcases bef_or w x with h | h | h
    · exact h
    · exact absurd (h ▸ List.mem_of_mem_drop hx) hw
    · rw [b x hx] at h; cases h
  · rcases List.mem_cons.1 hy with rfl | hy
    · exact a x hx
    · exact h3 x hx y hy
theorem srt_ext {S T : Tb} (h1 : Srt S) (h2 : Srt T) (h : ∀ x, x ∈ S ↔ x ∈ T) : S = T := by
  induction S generalizing T with
  | nil =>
    cases T with
    | nil => rfl
    | cons y T => exact absurd ((h y).2 (by simp)) (by simp)
  | cons x S ih =>
    cases T with
    | nil => exact absurd ((h x).1 (by simp)) (by simp)
    | cons y T =>
      obtain ⟨a1, a2⟩ := List.pairwise_cons.1 h1
      obtain ⟨b1, b2⟩ := List.pairwise_cons.1 h2
      have hxy : x = y := by
        rcases List.mem_cons.1 ((h x).1 (by simp)) with e | hx
        · exact e
        · rcases List.mem_cons.1 ((h y).2 (by simp)) with e | hy
          · exact e.symm
          · have := bef_tr (a1 y hy) (b1 x hx); rw [bef_irr] at this; cases this
      subst hxy
      congr 1
      refine ih a2 b2 (fun z => ⟨fun hz => ?_, fun hz => ?_⟩)
      · rcases List.mem_cons.1 ((h z).1 (by simp [hz])) with e | hz'
        · subst e; have := a1 z hz; rw [bef_irr] at this; cases this
        · exact hz'
      · rcases List.mem_cons.1 ((h z).2 (by simp [hz])) with e | hz'
        · subst e; have := b1 z hz; rw [bef_irr] at this; cases this
        · exact hz'
/-! ### Add -/
def addOk (w : Wt) : Bool := decide (¬ w.s < 1) && valid w.p
def add (T : Tb) (w : Wt) : Tb × Bool := if addOk w = false then (T, false) else if w ∈ T then (T, true) else if 500 ≤ T.length then (T, false) else (ins T w, true)
/-- A table: it rises; each of its watches may be; there is room. -/
structure Good (T : Tb) : Prop where
  srt : Srt T
  len : T.length ≤ 500
  each : ∀ x ∈ T, addOk x = true
theorem good_nil : Good [] := ⟨List.Pairwise.nil, by simp, fun x hx => (by cases hx)⟩
theorem add_good {T : Tb} (hg : Good T) (w : Wt) : Good (add T w).1 := by
  unfold add
  split
  · exact hg
  split
  · exact hg
  split
  · exact hg
  · rename_i h1 h2 h3
    refine ⟨ins_srt hg.srt h2, by rw [ins_len]; omega, fun x hx => ?_⟩
    rcases (mem_ins T w x).1 hx with rfl | hx
    · simpa using h1
    · exact hg.each x hx
theorem filter_good {T : Tb} (hg : Good T) (f : Wt → Bool) : Good (T.filter f) := ⟨hg.srt.sublist List.filter_sublist, Nat.le_trans (List.length_filter_le _ _) hg.len, fun x hx => hg.each x (List.mem_filter.1 hx).1⟩
/-! ### Fire, Drop -/
def touch (kind : Int) (k : Bool) : Bool := if k = true then decide (kind = 4 ∨ kind = 2) else decide (1 ≤ kind ∧ kind ≤ 3)
def hit (e : Ev) (w : Wt) : Bool := (w.p == e.p) && touch e.k w.k
def toldA (T : Tb) (e : Ev) : List Ev := (T.filter (hit e)).map (fun w => ⟨w.s, e.k, e.p⟩)
/-- What stands twice, side by side, stands once. -/
def cstep (acc : List Ev) (x : Ev) : List Ev := if acc.getLast? = some x then acc else acc ++ [x]
def comp (l : List Ev) : List Ev := l.foldl cstep []
/-- Whoever is known is not told again. -/
def rstep (acc : List Ev) (x : Ev) : List Ev := if acc.any (fun y => y.s == x.s) = true then acc else acc ++ [x]
def fireE (T : Tb) (e : Ev) : List Ev := (toldA T e).foldl rstep []
def fireT (T : Tb) (e : Ev) : Tb := T.filter (fun w => !hit e w)
def drop (T : Tb) (s : Int) : Tb := T.filter (fun w => !(w.s == s))
def Up (l : List Ev) : Prop := l.Pairwise (fun a b => a.s < b.s)
theorem told_up {T : Tb} (hs : Srt T) (e : Ev) : (toldA T e).Pairwise (fun a b => a.s ≤ b.s ∧ a.k = e.k ∧ a.p = e.p ∧ b.k = e.k ∧ b.p = e.p) := by
  unfold toldA
  rw [List.pairwise_map]
  refine (hs.sublist List.filter_sublist).imp (fun {a b} h => ⟨?_, rfl, rfl, rfl, rfl⟩)
  show a.s ≤ b.s
  rcases bef_iff.1 h with h | ⟨h, _⟩ <;> omega
theorem steps_one {k : Int} {p : Txt} : ∀ (l acc : List Ev), Up acc → (∀ x ∈ acc, x.k = k ∧ x.p = p) → (∀ x ∈ l, x.k = k ∧ x.p = p) → l.Pairwise (fun a b => a.s ≤ b.s) → (∀ x ∈ l, ∀ y ∈ acc, y.s ≤ x.s) →
    l.foldl cstep acc = l.foldl rstep acc ∧ Up (l.foldl rstep acc) ∧ ∀ x ∈ l.foldl rstep acc, x.k = k ∧ x.p = p
  | [], acc, hu, ha, _, _, _ => ⟨rfl, hu, ha⟩
  | x :: l, acc, hu, ha, hl, hp, hx => by
    obtain ⟨p1, p2⟩ := List.pairwise_cons.1 hp
    have hxe := hl x (by simp)
    have hsame : cstep acc x = rstep acc x := by
      unfold cstep rstep
      by_cases h : acc.getLast? = some x
      · rw [if_pos h]
        have hm : x ∈ acc := List.mem_of_getLast? h
        rw [if_pos (List.any_eq_true.2 ⟨x, hm, by simp⟩)]
      · rw [if_neg h, if_neg]
        intro hany
        obtain ⟨y, hy, hys⟩ := List.any_eq_true.1 hany
        have hys : y.s = x.s := by simpa using hys
        rcases List.eq_nil_or_concat acc with rfl | ⟨ini, z, rfl⟩
        · cases hy
        rw [List.concat_eq_append] at *
        have hz := hx x (by simp) z (by simp)
        rcases List.mem_append.1 hy with hy | hy
        · have := (List.pairwise_append.1 hu).2.2 y hy z (by simp)
          omega
        · rcases List.mem_singleton.1 hy with rfl
          apply h
          rw [List.getLast?_append]
          have ez := ha y (by simp)
          have : y = x := ev_eq.2 ⟨hys, by rw [ez.1, hxe.1], by rw [ez.2, hxe.2]⟩
          rw [this]; rfl
    rw [List.foldl_cons, List.foldl_cons, hsame]
    refine steps_one l (rstep acc x) ?_ ?_ (fun y hy => hl y (by simp [hy])) p2 ?_
    · unfold rstep
      split
      · exact hu
      · rename_i h
        refine List.pairwise_append.2 ⟨hu, List.pairwise_singleton _ _, fun y hy z hz => ?_⟩
        rcases List.mem_singleton.1 hz with rfl
        have h1 := hx z (by simp) y hy
        have h2 : y.s ≠ z.s := fun e => h (List.any_eq_true.2 ⟨y, hy, by simpa using e⟩)
        omega
    · unfold rstep
      split
      · exact ha
      · intro y hy
        rcases List.mem_append.1 hy with hy | hy
        · exact ha y hy
        · rcases List.mem_singleton.1 hy with rfl; exact hxe
    · intro y hy z hz
      unfold rstep at hz
      split at hz
      · exact hx y (by simp [hy]) z hz
      · rcases List.mem_append.1 hz with hz | hz
        · exact hx y (by simp [hy]) z hz
        · rcases List.mem_singleton.1 hz with rfl; exact p1 y hy
theorem fire_comp {T : Tb} (hs : Srt T) (e : Ev) : comp (toldA T e) = fireE T e ∧ Up (fireE T e) ∧ ∀ x ∈ fireE T e, x.k = e.k ∧ x.p = e.p := by
  refine steps_one (toldA T e) [] List.Pairwise.nil (fun x hx => (by cases hx)) (fun x hx => ?_) ((told_up hs e).imp (fun h => h.1)) (fun x hx y hy => (by cases hy))
  unfold toldA at hx
  obtain ⟨w, _, rfl⟩ := List.mem_map.1 hx
  exact ⟨rfl, rfl⟩
theorem fire_s (T : Tb) (e : Ev) (x : Int) : (∃ y ∈ fireE T e, y.s = x) ↔ ∃ w ∈ T, hit e w = true ∧ w.s = x := by
  have key : ∀ (l acc : List Ev), (∃ y ∈ l.foldl rstep acc, y.s = x) ↔ (∃ y ∈ acc, y.s = x) ∨ ∃ y ∈ l, y.s = x := by
    intro l
    induction l with
    | nil => intro acc; simp
    | cons a l ih =>
      intro acc
      rw [List.foldl_cons, ih]
      unfold rstep
      split
      · rename_i h
        obtain ⟨y, hy, hys⟩ := List.any_eq_true.1 h
        have hys : y.s = a.s := by simpa using hys
        constructor
        · rintro (h | ⟨z, hz, e⟩)
          · exact .inl h
          · exact .inr ⟨z, by simp [hz], e⟩
        · rintro (h | ⟨z, hz, e⟩)
          · exact .inl h
          · rcases List.mem_cons.1 hz with rfl | hz
            · exact .inl ⟨y, hy, by rw [hys, e]⟩
            · exact .inr ⟨z, hz, e⟩
      · constructor
        · rintro (⟨z, hz, e⟩ | ⟨z, hz, e⟩)
          · rcases List.mem_append.1 hz with hz | hz
            · exact .inl ⟨z, hz, e⟩
            · rcases List.mem_singleton.1 hz with rfl; exact .inr ⟨z, by simp, e⟩
          · exact .inr ⟨z, by simp [hz], e⟩
        · rintro (⟨z, hz, e⟩ | ⟨z, hz, e⟩)
          · exact .inl ⟨z, by simp [hz], e⟩
          · rcases List.mem_cons.1 hz with rfl | hz
            · exact .inl ⟨z, by simp, e⟩
            · exact .inr ⟨z, hz, e⟩
  unfold fireE
  rw [key]
  constructor
  · rintro (⟨y, hy, _⟩ | ⟨y, hy, e'⟩)
    · cases hy
    · unfold toldA at hy
      obtain ⟨w, hw, rfl⟩ := List.mem_map.1 hy
      exact ⟨w, (List.mem_filter.1 hw).1, (List.mem_filter.1 hw).2, e'⟩
  · rintro ⟨w, hw, hh, e'⟩
    exact .inr ⟨⟨w.s, e.k, e.p⟩, List.mem_map.2 ⟨w, List.mem_filter.2 ⟨hw, hh⟩, rfl⟩, e'⟩
/-- Rows that rise, of one kind and path, with the same sessions, are one. -/
theorem up_ext {k : Int} {p : Txt} : ∀ {S T : List Ev}, Up S → Up T → (∀ x ∈ S, x.k = k ∧ x.p = p) → (∀ x ∈ T, x.k = k ∧ x.p = p) → (∀ s, (∃ y ∈ S, y.s = s) ↔ ∃ y ∈ T, y.s = s) → S = T
  | [], [], _, _, _, _, _ => rfl
  | [], y :: T, _, _, _, _, h => by obtain ⟨z, hz, _⟩ := (h y.s).2 ⟨y, by simp, rfl⟩; cases hz
  | x :: S, [], _, _, _, _, h => by obtain ⟨z, hz, _⟩ := (h x.s).1 ⟨x, by simp, rfl⟩; cases hz
  | x :: S, y :: T, h1, h2, e1, e2, h => by
    obtain ⟨a1, a2⟩ := List.pairwise_cons.1 h1
    obtain ⟨b1, b2⟩ := List.pairwise_cons.1 h2
    have hs : x.s = y.s := by
      obtain ⟨u, hu, eu⟩ := (h x.s).1 ⟨x, by simp, rfl⟩
      obtain ⟨v, hv, ev⟩ := (h y.s).2 ⟨y, by simp, rfl⟩
      rcases List.mem_cons.1 hu with rfl | hu
      · exact eu.symm
      · rcases List.mem_cons.1 hv with rfl | hv
        · exact ev
        · have := b1 u hu; have := a1 v hv; omega
    have hxy : x = y := ev_eq.2 ⟨hs, by rw [(e1 x (by simp)).1, (e2 y (by simp)).1], by rw [(e1 x (by simp)).2, (e2 y (by simp)).2]⟩
    subst hxy
    congr 1
    refine up_ext a2 b2 (fun z hz => e1 z (by simp [hz])) (fun z hz => e2 z (by simp [hz])) (fun s => ⟨?_, ?_⟩)
    · rintro ⟨z, hz, e⟩
      obtain ⟨u, hu, eu⟩ := (h s).1 ⟨z, by simp [hz], e⟩
      rcases List.mem_cons.1 hu with rfl | hu
      · have := a1 z hz; omega
      · exact ⟨u, hu, eu⟩
    · rintro ⟨z, hz, e⟩
      obtain ⟨u, hu, eu⟩ := (h s).2 ⟨z, by simp [hz], e⟩
      rcases List.mem_cons.1 hu with rfl | hu
      · have := b1 z hz; omega
      · exact ⟨u, hu, eu⟩
theorem fire_again (T : Tb) (e : Ev) : fireE (fireT T e) e = [] := by
  have : toldA (fireT T e) e = [] := by
    unfold toldA fireT
    rw [List.filter_filter]
    rw [List.filter_eq_nil_iff.2 (fun x hx => by cases hit e x <;> simp)]
    rfl
  unfold fireE
  rw [this]; rfl
end Go.Proofs.Wa
