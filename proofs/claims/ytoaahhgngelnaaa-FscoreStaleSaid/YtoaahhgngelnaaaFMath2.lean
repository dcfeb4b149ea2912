/-
  Plain mathematics of one file system: counts of links, the least number that is free, generations. No condition.
-/
import Derived.Test.YtoaahhgngelnaaaFMath
namespace Go.Proofs.Fz
open Go.Proofs.Sg

theorem pig : ∀ (k : Nat) (l : List Nat), (∀ j, 1 ≤ j → j ≤ k → j ∈ l) → k ≤ l.length
  | 0, _, _ => Nat.zero_le _
  | k + 1, l, h => by
    have h1 := h (k + 1) (by omega) (Nat.le_refl _)
    have h2 := pig k (l.erase (k + 1)) (fun j h3 h4 => (List.mem_erase_of_ne (by omega)).2 (h j h3 (by omega)))
    rw [List.length_erase_of_mem h1] at h2
    have := List.length_pos_of_mem h1
    omega
theorem least_spec {I : List Nod} : ∀ (k i : Nat), (∃ j, i ≤ j ∧ j < i + k ∧ nget I (j : Int) = none) →
    nget I (least I k i : Int) = none ∧ i ≤ least I k i ∧ least I k i < i + k ∧ ∀ j, i ≤ j → j < least I k i → (nget I (j : Int)).isSome = true
  | 0, i, ⟨j, h1, h2, _⟩ => absurd h2 (by omega)
  | k + 1, i, ⟨j, h1, h2, h3⟩ => by
    unfold least
    rcases hq : nget I (i : Int) with _ | x
    · rw [if_neg (by simp)]
      exact ⟨hq, Nat.le_refl _, by omega, fun j h4 h5 => absurd h5 (by omega)⟩
    · rw [if_pos (by simp)]
      have hne : j ≠ i := fun e => by rw [e, hq] at h3; cases h3
      obtain ⟨g1, g2, g3, g4⟩ := least_spec k (i + 1) ⟨j, by omega, by omega, h3⟩
      refine ⟨g1, by omega, by omega, fun j h4 h5 => ?_⟩
      by_cases h6 : j = i
      · rw [h6, hq]; rfl
      · exact g4 j (by omega) h5
theorem free_spec {f : Fst} (hl : f.I.length < 200) : nget f.I (least f.I 201 1 : Int) = none ∧ 1 ≤ least f.I 201 1 ∧ least f.I 201 1 ≤ 200 ∧ ∀ j, 1 ≤ j → j < least f.I 201 1 → (nget f.I (j : Int)).isSome = true := by
  have hex : ∃ j : Nat, 1 ≤ j ∧ j ≤ 200 ∧ nget f.I (j : Int) = none := by
    apply Classical.byContradiction
    intro hn
    have h1 := pig 200 (f.I.map (fun x => x.id)) (fun j h1 h2 => by
      rcases hq : nget f.I (j : Int) with _ | x
      · exact absurd ⟨j, h1, h2, hq⟩ hn
      · obtain ⟨g1, g2⟩ := nget_mem hq
        exact List.mem_map.2 ⟨x, g1, by omega⟩)
    rw [List.length_map] at h1
    omega
  obtain ⟨j, h1, h2, h3⟩ := hex
  obtain ⟨g1, g2, g3, g4⟩ := least_spec (I := f.I) 201 1 ⟨j, h1, by omega, h3⟩
  refine ⟨g1, g2, ?_, g4⟩
  rcases Nat.lt_or_ge j (least f.I 201 1) with h5 | h5
  · have := g4 j h1 h5; rw [h3] at this; cases this
  · omega

/-! ### Generations -/
theorem getD_padG (G : List Nat) (n i : Nat) : (padG G n).getD i 0 = G.getD i 0 := by
  unfold padG
  rw [List.getD_eq_getElem?_getD, List.getD_eq_getElem?_getD]
  rcases Nat.lt_or_ge i G.length with h | h
  · rw [List.getElem?_append_left h]
  · rw [List.getElem?_append_right h, List.getElem?_eq_none h]
    rcases Nat.lt_or_ge (i - G.length) (n - G.length) with h2 | h2
    · rw [List.getElem?_replicate, if_pos h2]; rfl
    · rw [List.getElem?_eq_none (by rw [List.length_replicate]; exact h2)]
theorem len_padG (G : List Nat) (n : Nat) : (padG G n).length = max G.length n := by unfold padG; rw [List.length_append, List.length_replicate]; omega
theorem getD_bump (G : List Nat) (i j : Nat) : (bump G i).getD j 0 = if i = j then G.getD i 0 + 1 else G.getD j 0 := by
  unfold bump
  rw [List.getD_eq_getElem?_getD, List.getElem?_set]
  by_cases h : i = j
  · rw [if_pos h, if_pos h, if_pos (by rw [len_padG]; omega)]; rfl
  · rw [if_neg h, if_neg h, ← List.getD_eq_getElem?_getD, getD_padG]
theorem len_bump (G : List Nat) (i : Nat) : (bump G i).length = max G.length (i + 1) := by unfold bump; rw [List.length_set, len_padG]

/-! ### Links -/
abbrev lk1 (I : List Nod) (y : Nod) (d i : Nat) : Nat := if y.kind = 2 then (if d = y.id ∧ isD I i = true then 1 else 0) else (if i = y.id then 1 else 0)
theorem links_addn (I : List Nod) (N : List Nm) (d : Nat) (s : Txt) (i : Nat) (y : Nod) : links I (addn N d s i) y = links I N y + lk1 I y d i := by
  unfold links addn lk1
  split
  · rw [List.countP_append, List.countP_cons, List.countP_nil]
    by_cases h : d = y.id ∧ isD I i = true
    · rw [if_pos h]; simp [h.1, h.2]; omega
    · rw [if_neg h]
      have : (decide (d = y.id) && isD I i) = false := by
        rcases hb : (decide (d = y.id) && isD I i) with _ | _
        · rfl
        · rw [Bool.and_eq_true, decide_eq_true_eq] at hb; exact absurd hb h
      simp [this]
  · rw [List.countP_append, List.countP_cons, List.countP_nil]
    by_cases h : i = y.id
    · rw [if_pos h]; simp [h]
    · rw [if_neg h]; simp [h]
theorem count_unnm {N : List Nm} (hu : N.Pairwise (fun a b => ¬ (a.dir = b.dir ∧ a.nm = b.nm))) {n : Nm} (hn : n ∈ N) (p : Nm → Bool) : N.countP p = (unnm N n.dir n.nm).countP p + if p n = true then 1 else 0 := by
  induction N with
  | nil => cases hn
  | cons a l ih =>
    rw [List.pairwise_cons] at hu
    rw [List.countP_cons]
    by_cases ha : a.dir = n.dir ∧ a.nm = n.nm
    · have h1 : unnm (a :: l) n.dir n.nm = l := by
        unfold unnm
        rw [List.filter_cons_of_neg (by simp [ha.1, ha.2])]
        refine List.filter_eq_self.2 (fun b hb => ?_)
        have := hu.1 b hb
        rw [ha.1, ha.2] at this
        have h3 : ¬ (b.dir = n.dir ∧ b.nm = n.nm) := fun e => this ⟨e.1.symm, e.2.symm⟩
        rw [decide_eq_false h3]; rfl
      rw [h1]
      rcases List.mem_cons.1 hn with rfl | hn
      · rfl
      · exact absurd ha (hu.1 n hn)
    · have h1 : unnm (a :: l) n.dir n.nm = a :: unnm l n.dir n.nm := by
        unfold unnm
        rw [List.filter_cons_of_pos (by rw [decide_eq_false ha]; rfl)]
      rw [h1, List.countP_cons]
      rcases List.mem_cons.1 hn with rfl | hn
      · exact absurd ⟨rfl, rfl⟩ ha
      · have := ih hu.2 hn
        omega
theorem len_unnm {N : List Nm} (hu : N.Pairwise (fun a b => ¬ (a.dir = b.dir ∧ a.nm = b.nm))) {n : Nm} (hn : n ∈ N) : N.length = (unnm N n.dir n.nm).length + 1 := by
  have := count_unnm hu hn (fun _ => true)
  simpa using this
theorem links_unnm {I : List Nod} {N : List Nm} (hu : N.Pairwise (fun a b => ¬ (a.dir = b.dir ∧ a.nm = b.nm))) {n : Nm} (hn : n ∈ N) (y : Nod) : links I N y = links I (unnm N n.dir n.nm) y + lk1 I y n.dir n.id := by
  unfold links lk1
  split
  · rw [count_unnm hu hn]
    by_cases h : n.dir = y.id ∧ isD I n.id = true
    · rw [if_pos h, if_pos (by simp [h.1, h.2])]; omega
    · rw [if_neg h, if_neg (by rw [Bool.and_eq_true, decide_eq_true_eq]; exact h)]
      omega
  · rw [count_unnm hu hn]
    by_cases h : n.id = y.id <;> simp [h]
theorem links_I {I J : List Nod} {N : List Nm} (h : ∀ n ∈ N, isD J n.id = isD I n.id) (y : Nod) : links J N y = links I N y := by
  unfold links
  split
  · congr 1
    exact List.countP_congr (fun n hn => by rw [h n hn])
  · rfl
theorem links_y {I : List Nod} {N : List Nm} {y z : Nod} (h1 : y.id = z.id) (h2 : y.kind = z.kind) : links I N y = links I N z := by unfold links; rw [h1, h2]
theorem count_addn (N : List Nm) (d : Nat) (s : Txt) (i e : Nat) : many (addn N d s i) e = many N e + if d = e then 1 else 0 := by
  unfold many addn
  rw [List.countP_append, List.countP_cons, List.countP_nil]
  by_cases h : d = e <;> simp [h]
theorem many_unnm {N : List Nm} (hu : N.Pairwise (fun a b => ¬ (a.dir = b.dir ∧ a.nm = b.nm))) {n : Nm} (hn : n ∈ N) (e : Nat) : many N e = many (unnm N n.dir n.nm) e + if n.dir = e then 1 else 0 := by
  unfold many
  rw [count_unnm hu hn]
  by_cases h : n.dir = e <;> simp [h]
theorem many_zero {N : List Nm} {e : Nat} : many N e = 0 ↔ ∀ n ∈ N, n.dir ≠ e := by
  unfold many
  rw [List.countP_eq_zero]
  simp
theorem many_le (N : List Nm) (e : Nat) : many N e ≤ N.length := List.countP_le_length
theorem len_addn (N : List Nm) (d : Nat) (s : Txt) (i : Nat) : (addn N d s i).length = N.length + 1 := by unfold addn; simp
theorem nmu_unnm {N : List Nm} (hu : N.Pairwise (fun a b => ¬ (a.dir = b.dir ∧ a.nm = b.nm))) (d : Nat) (s : Txt) : (unnm N d s).Pairwise (fun a b => ¬ (a.dir = b.dir ∧ a.nm = b.nm)) := List.Pairwise.filter _ hu
theorem nmu_addn {N : List Nm} (hu : N.Pairwise (fun a b => ¬ (a.dir = b.dir ∧ a.nm = b.nm))) {d : Nat} {s : Txt} (h0 : entN N d s = none) (i : Nat) : (addn N d s i).Pairwise (fun a b => ¬ (a.dir = b.dir ∧ a.nm = b.nm)) := by
  unfold addn
  refine List.pairwise_append.2 ⟨hu, List.pairwise_singleton _ _, fun a ha b hb => ?_⟩
  rw [List.mem_singleton.1 hb]
  exact entN_none.1 h0 a ha
theorem mem_addn {N : List Nm} {d : Nat} {s : Txt} {i : Nat} {n : Nm} : n ∈ addn N d s i ↔ n ∈ N ∨ n = ⟨d, s, i⟩ := by unfold addn; rw [List.mem_append, List.mem_singleton]

/-! ### Blocks -/
theorem used_append (I J : List Nod) : used (I ++ J) = used I + used J := by unfold used; rw [List.map_append, List.sum_append]
theorem used_one (x : Nod) : used [x] = x.d.K.length := by unfold used; simp
theorem used_gone {I : List Nod} (h : (I.map (fun x => x.id)).Nodup) {x : Nod} (hx : x ∈ I) : used I = used (gone I x.id) + x.d.K.length := by
  induction I with
  | nil => cases hx
  | cons y l ih =>
    rw [List.map_cons, List.nodup_cons] at h
    have e : used (y :: l) = y.d.K.length + used l := by unfold used; simp
    rw [e]
    unfold gone
    rcases List.mem_cons.1 hx with rfl | hx
    · rw [List.filter_cons_of_neg (by simp), List.filter_eq_self.2 (fun z hz => by
        have : z.id ≠ x.id := fun e => h.1 (by rw [← e]; exact List.mem_map.2 ⟨z, hz, rfl⟩)
        simp [this])]
      omega
    · have hne : y.id ≠ x.id := fun e => h.1 (by rw [e]; exact List.mem_map.2 ⟨x, hx, rfl⟩)
      rw [List.filter_cons_of_pos (by simp [hne])]
      have e2 : used (y :: l.filter (fun z => !decide (z.id = x.id))) = y.d.K.length + used (gone l x.id) := by unfold used gone; simp
      rw [e2, ih h.2 hx]
      omega
theorem used_setI {I : List Nod} (h : (I.map (fun x => x.id)).Nodup) {x y : Nod} (hx : x ∈ I) (e : y.id = x.id) : used (setI I y) + x.d.K.length = used I + y.d.K.length := by
  unfold setI
  rw [used_append, used_one, e, used_gone h hx]
  omega
theorem len_gone {I : List Nod} (h : (I.map (fun x => x.id)).Nodup) {x : Nod} (hx : x ∈ I) : I.length = (gone I x.id).length + 1 := by
  induction I with
  | nil => cases hx
  | cons y l ih =>
    rw [List.map_cons, List.nodup_cons] at h
    unfold gone
    rcases List.mem_cons.1 hx with rfl | hx
    · rw [List.filter_cons_of_neg (by simp), List.filter_eq_self.2 (fun z hz => by
        have : z.id ≠ x.id := fun e => h.1 (by rw [← e]; exact List.mem_map.2 ⟨z, hz, rfl⟩)
        simp [this])]
      rfl
    · have hne : y.id ≠ x.id := fun e => h.1 (by rw [e]; exact List.mem_map.2 ⟨x, hx, rfl⟩)
      rw [List.filter_cons_of_pos (by simp [hne]), List.length_cons, List.length_cons, ih h.2 hx]
      rfl
theorem len_setI {I : List Nod} (h : (I.map (fun x => x.id)).Nodup) {x y : Nod} (hx : x ∈ I) (e : y.id = x.id) : (setI I y).length = I.length := by
  unfold setI
  rw [List.length_append, e, len_gone h hx]
  rfl
end Go.Proofs.Fz
