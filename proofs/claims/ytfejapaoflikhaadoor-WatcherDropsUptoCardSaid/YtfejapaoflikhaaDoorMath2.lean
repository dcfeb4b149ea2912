/-
  Plain mathematics of joined paths, of paths that lie under others, and of numbers in ten digits. No program in it; no condition.
-/
import Derived.Test.YtfejapaoflikhaaDoorMath
namespace Go.Proofs.Zn

theorem depth_of {l : Txt} (h : 0 ≤ depth l) : ∃ ps, names l = some ps ∧ depth l = ps.length := by
  rcases hn : names l with _ | ps
  · rw [depth_none hn] at h; omega
  · exact ⟨ps, rfl, depth_some hn⟩
/-! ### Join -/
theorem joinOk_neg {l s : Txt} (h : depth l < 0) : joinOk l s = false := by
  unfold joinOk
  rcases hn : names l with _ | ps
  · rfl
  · rw [depth_some hn] at h; omega
theorem joinOk_full {l s : Txt} (h : depth l = 8) : joinOk l s = false := by
  unfold joinOk
  rcases hn : names l with _ | ps
  · rfl
  · rw [depth_some hn] at h
    have : ps.length = 8 := by omega
    simp [this]
theorem joinOk_name {l s : Txt} (h : nameB s = false) : joinOk l s = false := by
  unfold joinOk
  rcases hn : names l with _ | ps <;> simp [h]
theorem joinOk_yes {l s : Txt} (h0 : ¬ depth l < 0) (h8 : ¬ depth l = 8) (h : nameB s = true) : joinOk l s = true := by
  unfold joinOk
  rcases hn : names l with _ | ps
  · rw [depth_none hn] at h0; omega
  · rw [depth_some hn] at h8
    simp [h]; omega
theorem join_no {l s : Txt} (h : joinOk l s = false) : join l s = [] := by
  unfold join
  rcases hn : names l with _ | ps
  · rfl
  · simp [h]
theorem join_names {l s : Txt} (h : joinOk l s = true) : ∃ ps, names l = some ps ∧ nameB s = true ∧ ps.length ≠ 8 ∧ okB ps = true ∧ joinP ps = l ∧ join l s = joinP (ps ++ [s]) := by
  have h' := h
  unfold joinOk at h
  rcases hn : names l with _ | ps
  · rw [hn] at h; cases h
  · rw [hn] at h
    simp only [Bool.and_eq_true, decide_eq_true_eq] at h
    obtain ⟨hj, ho⟩ := names_join hn
    exact ⟨ps, rfl, h.1, h.2, ho, hj, by unfold join; rw [hn]; simp only [h', if_true]⟩
theorem join_zero {l s : Txt} (h : joinOk l s = true) (h0 : depth l = 0) : join l s = 47 :: s := by
  obtain ⟨ps, hn, -, -, -, -, e⟩ := join_names h
  rw [depth_some hn] at h0
  obtain rfl : ps = [] := List.eq_nil_of_length_eq_zero (by omega)
  rw [e]; simp [joinP, flat]
theorem join_more {l s : Txt} (h : joinOk l s = true) (h0 : ¬ depth l = 0) : join l s = l ++ 47 :: s := by
  obtain ⟨ps, hn, -, -, -, hj, e⟩ := join_names h
  rw [depth_some hn] at h0
  have hne : ps ≠ [] := fun e => h0 (by rw [e]; rfl)
  rw [e, ← hj, joinP, joinP, if_neg hne, if_neg (by simp), flat_append]
  simp [flat]
theorem names_joined {l s : Txt} (h : joinOk l s = true) : ∃ ps, names l = some ps ∧ joinP ps = l ∧ okB ps = true ∧ names (join l s) = some (ps ++ [s]) := by
  obtain ⟨ps, hn, hs, h8, ho, hj, e⟩ := join_names h
  exact ⟨ps, hn, hj, ho, by rw [e]; exact names_of (ok_snoc ho hs h8)⟩
theorem joined_parent {l s : Txt} (h : joinOk l s = true) : parent (join l s) = l := by
  obtain ⟨ps, hn, hj, ho, e⟩ := names_joined h
  unfold parent
  rw [e]
  simp [hj]
theorem joined_base {l s : Txt} (h : joinOk l s = true) : base (join l s) = s := by
  obtain ⟨ps, hn, hj, ho, e⟩ := names_joined h
  unfold base
  rw [e]
  simp
theorem joined_under {l s : Txt} (h : joinOk l s = true) : under (join l s) l = true := by
  obtain ⟨ps, hn, hj, ho, e⟩ := names_joined h
  unfold under
  rw [e, hn]
  simp
/-! ### Parent -/
theorem parent_names {l : Txt} (h : parentOk l = true) : ∃ ps b, names l = some (ps ++ [b]) ∧ names (parent l) = some ps ∧ parent l = joinP ps ∧ base l = b ∧ joinP (ps ++ [b]) = l ∧ okB (ps ++ [b]) = true := by
  unfold parentOk at h
  rcases hn : names l with _ | qs
  · rw [hn] at h; cases h
  · obtain ⟨hj, ho⟩ := names_join hn
    rcases List.eq_nil_or_concat qs with rfl | ⟨ps, b, rfl⟩
    · rw [hn] at h; cases h
    · rw [List.concat_eq_append] at *
      have e : parent l = joinP ps := by unfold parent; rw [hn]; simp
      have ho' : okB ps = true := by have := ok_dropLast ho; simpa using this
      exact ⟨ps, b, rfl, by rw [e]; exact names_of ho', e, by unfold base; rw [hn]; simp, hj, ho⟩
theorem deep_depth {l : Txt} (h : parentOk l = true) : depth l = depth (parent l) + 1 := by
  obtain ⟨ps, b, h1, h2, -⟩ := parent_names h
  rw [depth_some h1, depth_some h2]; simp
theorem deep_under {l : Txt} (h : parentOk l = true) : under l (parent l) = true := by
  obtain ⟨ps, b, h1, h2, -⟩ := parent_names h
  unfold under; rw [h1, h2]; simp
theorem deep_not {l : Txt} (h : parentOk l = true) : under (parent l) l = false := by
  obtain ⟨ps, b, h1, h2, -⟩ := parent_names h
  unfold under; rw [h1, h2]; simp
  intro h; omega
theorem deep_joinOk {l : Txt} (h : parentOk l = true) : joinOk (parent l) (base l) = true := by
  obtain ⟨ps, b, h1, h2, -, h4, -, h6⟩ := parent_names h
  unfold joinOk; rw [h2, h4]
  rw [ok_iff] at h6
  have := h6.1 b (by simp)
  have h7 := h6.2
  simp at h7
  simp [this]; omega
theorem deep_join {l : Txt} (h : parentOk l = true) : join (parent l) (base l) = l := by
  have hj := deep_joinOk h
  obtain ⟨ps, b, h1, h2, -, h4, h5, -⟩ := parent_names h
  unfold join; rw [h2]; simp only [hj, if_true]; rw [h4, h5]
/-! ### Under -/
theorem names_tail {l : Txt} {ps : List Txt} (h : names l = some ps) (h0 : l ≠ [47]) : l = 47 :: l.tail ∧ ps = splitS l.tail := by
  unfold names at h
  rw [if_neg h0] at h
  split at h
  · rename_i hd
    split at h
    · obtain rfl := Option.some.inj h
      refine ⟨?_, rfl⟩
      cases l with
      | nil => cases hd
      | cons c t => simp at hd; simp [hd]
    · cases h
  · cases h
theorem names_root {ps : List Txt} (h : names [47] = some ps) : ps = [] := (Option.some.inj h).symm
theorem under_pre {ps qs : List Txt} : (decide (qs.length ≤ ps.length) && (ps.take qs.length == qs)) = true ↔ qs <+: ps := by
  rw [Bool.and_eq_true, decide_eq_true_iff, beq_iff_eq]
  constructor
  · rintro ⟨_, h⟩; rw [← h]; exact List.take_prefix _ _
  · intro h; exact ⟨h.length_le, (List.prefix_iff_eq_take.1 h).symm⟩
theorem under_iff {l m : Txt} : under l m = true ↔ ∃ ps qs, names l = some ps ∧ names m = some qs ∧ qs <+: ps := by
  unfold under
  rcases hn : names l with _ | ps
  · constructor
    · intro h; cases h
    · rintro ⟨ps, _, h, _⟩; cases h
  · rcases hm : names m with _ | qs
    · constructor
      · intro h; cases h
      · rintro ⟨_, qs, _, h, _⟩; cases h
    · simp only []
      rw [under_pre]
      constructor
      · intro h; exact ⟨ps, qs, rfl, rfl, h⟩
      · rintro ⟨ps', qs', h1, h2, h3⟩
        obtain rfl := Option.some.inj h1
        obtain rfl := Option.some.inj h2
        exact h3
theorem under_trans {a b c : Txt} (h1 : under a b = true) (h2 : under b c = true) : under a c = true := by
  rw [under_iff] at *
  obtain ⟨ps, qs, ha, hb, h⟩ := h1
  obtain ⟨qs', rs, hb', hc, h'⟩ := h2
  obtain rfl : qs = qs' := Option.some.inj (hb.symm.trans hb')
  exact ⟨ps, rs, ha, hc, h'.trans h⟩
theorem under_left {l m : Txt} (h : valid l = false) : under l m = false := by
  unfold valid at h; unfold under
  cases hn : names l
  · rfl
  · rw [hn] at h; cases h
theorem under_right {l m : Txt} (h : valid m = false) : under l m = false := by
  unfold valid at h; unfold under
  cases hn : names l
  · rfl
  · cases hm : names m
    · rfl
    · rw [hm] at h; cases h
theorem valid_some {l : Txt} (h : valid l = true) : ∃ ps, names l = some ps := by
  unfold valid at h; cases hn : names l with
  | none => rw [hn] at h; cases h
  | some ps => exact ⟨ps, rfl⟩
theorem under_root {l : Txt} (h : valid l = true) : under l [47] = true := by
  obtain ⟨ps, hn⟩ := valid_some h
  exact under_iff.2 ⟨ps, [], hn, rfl, List.nil_prefix⟩
theorem under_self {l : Txt} (h : valid l = true) : under l l = true := by
  obtain ⟨ps, hn⟩ := valid_some h
  exact under_iff.2 ⟨ps, ps, hn, hn, List.prefix_refl _⟩
theorem under_rest {l m : Txt} (h1 : valid l = true) (h2 : valid m = true) (h3 : m ≠ [47]) (h4 : l ≠ m) : under l m = (m ++ [47]).isPrefixOf l := by
  obtain ⟨ps, hn⟩ := valid_some h1
  obtain ⟨qs, hm⟩ := valid_some h2
  obtain ⟨e1, e2⟩ := names_tail hm h3
  rw [Bool.eq_iff_iff, under_iff, List.isPrefixOf_iff_prefix]
  constructor
  · rintro ⟨ps', qs', h5, h6, r, h7⟩
    obtain rfl := Option.some.inj (hn.symm.trans h5)
    obtain rfl := Option.some.inj (hm.symm.trans h6)
    have hl := (names_join hn).1
    have hq := (names_join hm).1
    have hne : qs ≠ [] := by rw [e2]; exact split_ne _
    rcases r with _ | ⟨x, r⟩
    · rw [List.append_nil] at h7; exact absurd (by rw [← hl, ← hq, h7]) h4
    · refine ⟨x ++ flat r, ?_⟩
      rw [← hl, ← hq, ← h7, joinP, joinP, if_neg hne, if_neg (by simp [hne]), flat_append]
      simp [flat]
  · rintro ⟨r, h5⟩
    refine ⟨ps, qs, hn, hm, ?_⟩
    have hl0 : l ≠ [47] := fun e => by
      rw [e, e1] at h5
      have := congrArg List.length h5
      simp at this
    obtain ⟨f1, f2⟩ := names_tail hn hl0
    have e : l.tail = m.tail ++ 47 :: r := by rw [← h5]; rw [e1]; simp
    rw [f2, e, split_append, ← e2]
    exact List.prefix_append _ _
end Go.Proofs.Zn
