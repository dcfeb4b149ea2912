/-
  Plain mathematics of paths, names and numbers in ten digits: what a text's names are, what they make, how one path lies under another. No program in it; no condition.
  Plain mathematics of joined paths, of paths that lie under others, and of numbers in ten digits. No program in it; no condition.
  Plain mathematics of numbers in ten digits behind a path. No program in it; no condition.
-/
import Derived.Lib.Hide
namespace Go.Proofs.Zn

abbrev Txt := List UInt8
def letterB (c : UInt8) : Bool := (97 ≤ c && c ≤ 122) || (65 ≤ c && c ≤ 90) || (48 ≤ c && c ≤ 57) || c == 46 || c == 45 || c == 95
def nameB (l : Txt) : Bool := l.all letterB && decide (1 ≤ l.length) && decide (l.length ≤ 60) && !(l == [46]) && !(l == [46, 46])
def splitS : Txt → List Txt
  | [] => [[]]
  | c :: t => if c = 47 then [] :: splitS t else match splitS t with
    | [] => [[c]]
    | p :: ps => (c :: p) :: ps
def flat : List Txt → Txt
  | [] => []
  | p :: ps => 47 :: p ++ flat ps
def joinP (ps : List Txt) : Txt := if ps = [] then [47] else flat ps
def okB (ps : List Txt) : Bool := ps.all nameB && decide (ps.length ≤ 8)
def names (l : Txt) : Option (List Txt) :=
  if l = [47] then some [] else
  if l.head? = some 47 then (if okB (splitS l.tail) then some (splitS l.tail) else none) else none
def valid (l : Txt) : Bool := (names l).isSome
def depth (l : Txt) : Int := match names l with
  | some ps => ps.length
  | none => -1
def base (l : Txt) : Txt := match names l with
  | some ps => ps.getLastD []
  | none => []
def parentOk (l : Txt) : Bool := match names l with
  | some ps => !ps.isEmpty
  | none => false
def parent (l : Txt) : Txt := match names l with
  | some ps => if ps = [] then [] else joinP ps.dropLast
  | none => []
def joinOk (l s : Txt) : Bool := match names l with
  | some ps => nameB s && decide (ps.length ≠ 8)
  | none => false
def join (l s : Txt) : Txt := match names l with
  | some ps => if joinOk l s then joinP (ps ++ [s]) else []
  | none => []
def under (l m : Txt) : Bool := match names l, names m with
  | some ps, some qs => decide (qs.length ≤ ps.length) && (ps.take qs.length == qs)
  | _, _ => false

theorem split_slash (t : Txt) : splitS (47 :: t) = [] :: splitS t := by rw [splitS, if_pos rfl]
theorem split_other {c : UInt8} {t : Txt} {p : Txt} {ps : List Txt} (h : c ≠ 47) (hs : splitS t = p :: ps) : splitS (c :: t) = (c :: p) :: ps := by rw [splitS, if_neg h, hs]
theorem split_ne (l : Txt) : splitS l ≠ [] := by
  induction l with
  | nil => simp [splitS]
  | cons c t ih =>
    by_cases h : c = 47
    · rw [h, split_slash]; simp
    · rcases hs : splitS t with _ | ⟨p, ps⟩
      · exact absurd hs ih
      · rw [split_other h hs]; simp
theorem split_append (a b : Txt) : splitS (a ++ 47 :: b) = splitS a ++ splitS b := by
  induction a with
  | nil => rw [List.nil_append, split_slash]; rfl
  | cons c t ih =>
    rw [List.cons_append]
    by_cases h : c = 47
    · rw [h, split_slash, split_slash, ih]; rfl
    · rcases hs : splitS t with _ | ⟨p, ps⟩
      · exact absurd hs (split_ne t)
      · rw [split_other h hs, split_other h (by rw [ih, hs]; rfl)]; rfl
theorem split_free (a : Txt) (h : 47 ∉ a) : splitS a = [a] := by
  induction a with
  | nil => rfl
  | cons c t ih =>
    exact split_other (fun e => h (by simp [e])) (ih (fun e => h (by simp [e])))
theorem split_hit (a b : Txt) (h : 47 ∉ a) : splitS (a ++ 47 :: b) = a :: splitS b := by
  rw [split_append, split_free a h]; rfl
theorem flat_split (t : Txt) : flat (splitS t) = 47 :: t := by
  induction t with
  | nil => rfl
  | cons c t ih =>
    by_cases h : c = 47
    · rw [h, split_slash, flat, ih]; rfl
    · rcases hs : splitS t with _ | ⟨p, ps⟩
      · exact absurd hs (split_ne t)
      · rw [split_other h hs]
        rw [hs] at ih
        simp only [flat, List.cons_append, List.cons.injEq, true_and] at ih ⊢
        exact ih
theorem flat_append (a b : List Txt) : flat (a ++ b) = flat a ++ flat b := by
  induction a with
  | nil => rfl
  | cons p ps ih => simp [flat, ih, List.append_assoc]
theorem split_flat (p : Txt) (ps : List Txt) (h : ∀ q ∈ p :: ps, 47 ∉ q) : splitS (p ++ flat ps) = p :: ps := by
  induction ps generalizing p with
  | nil => simp only [flat, List.append_nil]; exact split_free p (h p (by simp))
  | cons q qs ih =>
    rw [flat, List.cons_append, split_hit p _ (h p (by simp)), ih q (fun r hr => h r (List.mem_cons_of_mem _ hr))]
theorem letter_slash : letterB 47 = false := by decide
theorem name_free {l : Txt} (h : nameB l = true) : 47 ∉ l := fun hm => by
  simp only [nameB, Bool.and_eq_true, List.all_eq_true] at h
  have := h.1.1.1.1 _ hm
  rw [letter_slash] at this
  cases this
theorem name_pos {l : Txt} (h : nameB l = true) : 1 ≤ l.length ∧ l.length ≤ 60 := by
  simp only [nameB, Bool.and_eq_true, decide_eq_true_eq] at h
  exact ⟨h.1.1.1.2, h.1.1.2⟩
theorem ok_iff (ps : List Txt) : okB ps = true ↔ (∀ p ∈ ps, nameB p = true) ∧ ps.length ≤ 8 := by
  simp [okB]
theorem names_join {l : Txt} {ps : List Txt} (h : names l = some ps) : joinP ps = l ∧ okB ps = true := by
  unfold names at h
  split at h
  · rename_i e; obtain rfl := Option.some.inj h; exact ⟨by rw [e]; rfl, rfl⟩
  · split at h
    · rename_i hd
      split at h
      · rename_i ho
        obtain rfl := Option.some.inj h
        refine ⟨?_, ho⟩
        unfold joinP
        rw [if_neg (split_ne _), flat_split]
        cases l with
        | nil => cases hd
        | cons c t => simp at hd; simp [hd]
      · cases h
    · cases h
theorem names_of {ps : List Txt} (h : okB ps = true) : names (joinP ps) = some ps := by
  rcases ps with _ | ⟨p, ps⟩
  · rfl
  · rw [ok_iff] at h
    have hp := name_pos (h.1 p (by simp))
    have e : joinP (p :: ps) = 47 :: (p ++ flat ps) := by simp [joinP, flat]
    have hs := split_flat p ps (fun q hq => name_free (h.1 q hq))
    rw [e]
    unfold names
    rw [if_neg (fun hh => by have := congrArg List.length hh; simp at this; rw [this.1] at hp; simp at hp), if_pos (show (47 :: (p ++ flat ps)).head? = some 47 from rfl)]
    simp only [List.tail_cons, hs]
    rw [if_pos ((ok_iff _).2 h)]
theorem join_inj {ps qs : List Txt} (h1 : okB ps = true) (h2 : okB qs = true) (h : joinP ps = joinP qs) : ps = qs :=
  Option.some.inj ((names_of h1).symm.trans ((congrArg names h).trans (names_of h2)))
theorem ok_take {ps : List Txt} (h : okB ps = true) (k : Nat) : okB (ps.take k) = true := by
  rw [ok_iff] at h ⊢
  exact ⟨fun p hp => h.1 p (List.mem_of_mem_take hp), by rw [List.length_take]; omega⟩
theorem ok_dropLast {ps : List Txt} (h : okB ps = true) : okB ps.dropLast = true := by
  rw [List.dropLast_eq_take]; exact ok_take h _
theorem ok_snoc {ps : List Txt} {s : Txt} (h : okB ps = true) (hs : nameB s = true) (hl : ps.length ≠ 8) : okB (ps ++ [s]) = true := by
  rw [ok_iff] at h ⊢
  refine ⟨fun p hp => ?_, by simp; omega⟩
  rcases List.mem_append.1 hp with h' | h'
  · exact h.1 p h'
  · simp at h'; rw [h']; exact hs

/-! ### Depth -/
theorem depth_some {l : Txt} {ps : List Txt} (h : names l = some ps) : depth l = ps.length := by unfold depth; rw [h]
theorem depth_none {l : Txt} (h : names l = none) : depth l = -1 := by unfold depth; rw [h]
theorem depth_bd (l : Txt) : -1 ≤ depth l ∧ depth l ≤ 8 := by
  rcases h : names l with _ | ps
  · rw [depth_none h]; omega
  · have := (ok_iff ps).1 (names_join h).2
    rw [depth_some h]; omega
theorem valid_depth (l : Txt) : valid l = decide (0 ≤ depth l) := by
  unfold valid
  rcases h : names l with _ | ps
  · rw [depth_none h]; rfl
  · rw [depth_some h]; simp
theorem parentOk_depth (l : Txt) : parentOk l = !decide (depth l < 1) := by
  unfold parentOk
  rcases h : names l with _ | ps
  · rw [depth_none h]; rfl
  · rw [depth_some h]
    cases ps <;> simp
    omega
theorem len_le {l : Txt} (h : valid l = true) : l.length ≤ 488 := by
  unfold valid at h
  rcases hn : names l with _ | ps
  · rw [hn] at h; cases h
  · obtain ⟨hj, ho⟩ := names_join hn
    rw [ok_iff] at ho
    have : ∀ qs : List Txt, (∀ p ∈ qs, nameB p = true) → (flat qs).length ≤ 61 * qs.length := by
      intro qs
      induction qs with
      | nil => intro _; simp [flat]
      | cons q qs ih =>
        intro hq
        have h1 := name_pos (hq q (by simp))
        have h2 := ih (fun p hp => hq p (by simp [hp]))
        simp only [flat, List.cons_append, List.length_cons, List.length_append]
        omega
    have := this ps ho.1
    rw [← hj]
    unfold joinP
    split
    · simp
    · omega
end Go.Proofs.Zn
namespace Go.Proofs.Zn

theorem depth_of {l : Txt} (h : 0 ≤ depth l) : ∃ ps, names l = some ps ∧ depth l = ps.length := by
  rcases hn : names l with _ | ps
  · rw [depth_none hn] at h; omega
  · exact ⟨ps, rfl, depth_some hn⟩
/-! ### Join -/
theorem joinOk_neg {l s : Txt} (h : depth l < 0) : joinOk l s = false := by
  unfold joinOk
  rcases hn : names l with _ | ps
  · rfl
  · rw [depth_some hn] at h; omega
theorem joinOk_full {l s : Txt} (h : depth l = 8) : joinOk l s = false := by
  unfold joinOk
  rcases hn : names l with _ | ps
  · rfl
  · rw [depth_some hn] at h
    have : ps.length = 8 := by omega
    simp [this]
theorem joinOk_name {l s : Txt} (h : nameB s = false) : joinOk l s = false := by
  unfold joinOk
  rcases hn : names l with _ | ps <;> simp [h]
theorem joinOk_yes {l s : Txt} (h0 : ¬ depth l < 0) (h8 : ¬ depth l = 8) (h : nameB s = true) : joinOk l s = true := by
  unfold joinOk
  rcases hn : names l with _ | ps
  · rw [depth_none hn] at h0; omega
  · rw [depth_some hn] at h8
    simp [h]; omega
theorem join_no {l s : Txt} (h : joinOk l s = false) : join l s = [] := by
  unfold join
  rcases hn : names l with _ | ps
  · rfl
  · simp [h]
theorem join_names {l s : Txt} (h : joinOk l s = true) : ∃ ps, names l = some ps ∧ nameB s = true ∧ ps.length ≠ 8 ∧ okB ps = true ∧ joinP ps = l ∧ join l s = joinP (ps ++ [s]) := by
  have h' := h
  unfold joinOk at h
  rcases hn : names l with _ | ps
  · rw [hn] at h; cases h
  · rw [hn] at h
    simp only [Bool.and_eq_true, decide_eq_true_eq] at h
    obtain ⟨hj, ho⟩ := names_join hn
    exact ⟨ps, rfl, h.1, h.2, ho, hj, by unfold join; rw [hn]; simp only [h', if_true]⟩
theorem join_zero {l s : Txt} (h : joinOk l s = true) (h0 : depth l = 0) : join l s = 47 :: s := by
  obtain ⟨ps, hn, -, -, -, -, e⟩ := join_names h
  rw [depth_some hn] at h0
  obtain rfl : ps = [] := List.eq_nil_of_length_eq_zero (by omega)
  rw [e]; simp [joinP, flat]
theorem join_more {l s : Txt} (h : joinOk l s = true) (h0 : ¬ depth l = 0) : join l s = l ++ 47 :: s := by
  obtain ⟨ps, hn, -, -, -, hj, e⟩ := join_names h
  rw [depth_some hn] at h0
  have hne : ps ≠ [] := fun e => h0 (by rw [e]; rfl)
  rw [e, ← hj, joinP, joinP, if_neg hne, if_neg (by simp), flat_append]
  simp [flat]
theorem names_joined {l s : Txt} (h : joinOk l s = true) : ∃ ps, names l = some ps ∧ joinP ps = l ∧ okB ps = true ∧ names (join l s) = some (ps ++ [s]) := by
  obtain ⟨ps, hn, hs, h8, ho, hj, e⟩ := join_names h
  exact ⟨ps, hn, hj, ho, by rw [e]; exact names_of (ok_snoc ho hs h8)⟩
theorem joined_parent {l s : Txt} (h : joinOk l s = true) : parent (join l s) = l := by
  obtain ⟨ps, hn, hj, ho, e⟩ := names_joined h
  unfold parent
  rw [e]
  simp [hj]
theorem joined_base {l s : Txt} (h : joinOk l s = true) : base (join l s) = s := by
  obtain ⟨ps, hn, hj, ho, e⟩ := names_joined h
  unfold base
  rw [e]
  simp
theorem joined_under {l s : Txt} (h : joinOk l s = true) : under (join l s) l = true := by
  obtain ⟨ps, hn, hj, ho, e⟩ := names_joined h
  unfold under
  rw [e, hn]
  simp
/-! ### Parent -/
theorem parent_names {l : Txt} (h : parentOk l = true) : ∃ ps b, names l = some (ps ++ [b]) ∧ names (parent l) = some ps ∧ parent l = joinP ps ∧ base l = b ∧ joinP (ps ++ [b]) = l ∧ okB (ps ++ [b]) = true := by
  unfold parentOk at h
  rcases hn : names l with _ | qs
  · rw [hn] at h; cases h
  · obtain ⟨hj, ho⟩ := names_join hn
    rcases List.eq_nil_or_concat qs with rfl | ⟨ps, b, rfl⟩
    · rw [hn] at h; cases h
    · rw [List.concat_eq_append] at *
      have e : parent l = joinP ps := by unfold parent; rw [hn]; simp
      have ho' : okB ps = true := by have := ok_dropLast ho; simpa using this
      exact ⟨ps, b, rfl, by rw [e]; exact names_of ho', e, by unfold base; rw [hn]; simp, hj, ho⟩
theorem deep_depth {l : Txt} (h : parentOk l = true) : depth l = depth (parent l) + 1 := by
  obtain ⟨ps, b, h1, h2, -⟩ := parent_names h
  rw [depth_some h1, depth_some h2]; simp
theorem deep_under {l : Txt} (h : parentOk l = true) : under l (parent l) = true := by
  obtain ⟨ps, b, h1, h2, -⟩ := parent_names h
  unfold under; rw [h1, h2]; simp
theorem deep_not {l : Txt} (h : parentOk l = true) : under (parent l) l = false := by
  obtain ⟨ps, b, h1, h2, -⟩ := parent_names h
  unfold under; rw [h1, h2]; simp
  intro h; omega
theorem deep_joinOk {l : Txt} (h : parentOk l = true) : joinOk (parent l) (base l) = true := by
  obtain ⟨ps, b, h1, h2, -, h4, -, h6⟩ := parent_names h
  unfold joinOk; rw [h2, h4]
  rw [ok_iff] at h6
  have := h6.1 b (by simp)
  have h7 := h6.2
  simp at h7
  simp [this]; omega
theorem deep_join {l : Txt} (h : parentOk l = true) : join (parent l) (base l) = l := by
  have hj := deep_joinOk h
  obtain ⟨ps, b, h1, h2, -, h4, h5, -⟩ := parent_names h
  unfold join; rw [h2]; simp only [hj, if_true]; rw [h4, h5]
/-! ### Under -/
theorem names_tail {l : Txt} {ps : List Txt} (h : names l = some ps) (h0 : l ≠ [47]) : l = 47 :: l.tail ∧ ps = splitS l.tail := by
  unfold names at h
  rw [if_neg h0] at h
  split at h
  · rename_i hd
    split at h
    · obtain rfl := Option.some.inj h
      refine ⟨?_, rfl⟩
      cases l with
      | nil => cases hd
      | cons c t => simp at hd; simp [hd]
    · cases h
  · cases h
theorem names_root {ps : List Txt} (h : names [47] = some ps) : ps = [] := (Option.some.inj h).symm
theorem under_pre {ps qs : List Txt} : (decide (qs.length ≤ ps.length) && (ps.take qs.length == qs)) = true ↔ qs <+: ps := by
  rw [Bool.and_eq_true, decide_eq_true_iff, beq_iff_eq]
  constructor
  · rintro ⟨_, h⟩; rw [← h]; exact List.take_prefix _ _
  · intro h; exact ⟨h.length_le, (List.prefix_iff_eq_take.1 h).symm⟩
theorem under_iff {l m : Txt} : under l m = true ↔ ∃ ps qs, names l = some ps ∧ names m = some qs ∧ qs <+: ps := by
  unfold under
  rcases hn : names l with _ | ps
  · constructor
    · intro h; cases h
    · rintro ⟨ps, _, h, _⟩; cases h
  · rcases hm : names m with _ | qs
    · constructor
      · intro h; cases h
      · rintro ⟨_, qs, _, h, _⟩; cases h
    · simp only []
      rw [under_pre]
      constructor
      · intro h; exact ⟨ps, qs, rfl, rfl, h⟩
      · rintro ⟨ps', qs', h1, h2, h3⟩
        obtain rfl := Option.some.inj h1
        obtain rfl := Option.some.inj h2
        exact h3
theorem under_trans {a b c : Txt} (h1 : under a b = true) (h2 : under b c = true) : under a c = true := by
  rw [under_iff] at *
  obtain ⟨ps, qs, ha, hb, h⟩ := h1
  obtain ⟨qs', rs, hb', hc, h'⟩ := h2
  obtain rfl : qs = qs' := Option.some.inj (hb.symm.trans hb')
  exact ⟨ps, rs, ha, hc, h'.trans h⟩
theorem under_left {l m : Txt} (h : valid l = false) : under l m = false := by
  unfold valid at h; unfold under
  cases hn : names l
  · rfl
  · rw [hn] at h; cases h
theorem under_right {l m : Txt} (h : valid m = false) : under l m = false := by
  unfold valid at h; unfold under
  cases hn : names l
  · rfl
  · cases hm : names m
    · rfl
    · rw [hm] at h; cases h
theorem valid_some {l : Txt} (h : valid l = true) : ∃ ps, names l = some ps := by
  unfold valid at h; cases hn : names l with
  | none => rw [hn] at h; cases h
  | some ps => exact ⟨ps, rfl⟩
theorem under_root {l : Txt} (h : valid l = true) : under l [47] = true := by
  obtain ⟨ps, hn⟩ := valid_some h
  exact under_iff.2 ⟨ps, [], hn, rfl, List.nil_prefix⟩
theorem under_self {l : Txt} (h : valid l = true) : under l l = true := by
  obtain ⟨ps, hn⟩ := valid_some h
  exact under_iff.2 ⟨ps, ps, hn, hn, List.prefix_refl _⟩
theorem under_rest {l m : Txt} (h1 : valid l = true) (h2 : valid m = true) (h3 : m ≠ [47]) (h4 : l ≠ m) : under l m = (m ++ [47]).isPrefixOf l := by
  obtain ⟨ps, hn⟩ := valid_some h1
  obtain ⟨qs, hm⟩ := valid_some h2
  obtain ⟨e1, e2⟩ := names_tail hm h3
  rw [Bool.eq_iff_iff, under_iff, List.isPrefixOf_iff_prefix]
  constructor
  · rintro ⟨ps', qs', h5, h6, r, h7⟩
    obtain rfl := Option.some.inj (hn.symm.trans h5)
    obtain rfl := Option.some.inj (hm.symm.trans h6)
    have hl := (names_join hn).1
    have hq := (names_join hm).1
    have hne : qs ≠ [] := by rw [e2]; exact split_ne _
    rcases r with _ | ⟨x, r⟩
    · rw [List.append_nil] at h7; exact absurd (by rw [← hl, ← hq, h7]) h4
    · refine ⟨x ++ flat r, ?_⟩
      rw [← hl, ← hq, ← h7, joinP, joinP, if_neg hne, if_neg (by simp [hne]), flat_append]
      simp [flat]
  · rintro ⟨r, h5⟩
    refine ⟨ps, qs, hn, hm, ?_⟩
    have hl0 : l ≠ [47] := fun e => by
      rw [e, e1] at h5
      have := congrArg List.length h5
      simp at this
    obtain ⟨f1, f2⟩ := names_tail hn hl0
    have e : l.tail = m.tail ++ 47 :: r := by rw [← h5]; rw [e1]; simp
    rw [f2, e, split_append, ← e2]
    exact List.prefix_append _ _
end Go.Proofs.Zn
namespace Go.Proofs.Zn

def dg (n : Nat) : UInt8 := UInt8.ofNat (48 + n % 10)
def tenK : Nat → Nat → Txt
  | 0, _ => []
  | k + 1, n => tenK k (n / 10) ++ [dg n]
def ten (n : Nat) : Txt := tenK 10 n
theorem dg_nat (n : Nat) : (dg n).toNat = 48 + n % 10 := by
  unfold dg
  rw [UInt8.toNat_ofNat']
  omega
theorem tenK_length (k n : Nat) : (tenK k n).length = k := by
  induction k generalizing n with
  | zero => rfl
  | succ k ih => simp [tenK, ih]
def dig (l : Txt) : Prop := ∀ c ∈ l, 48 ≤ c.toNat ∧ c.toNat ≤ 57
theorem tenK_dig (k n : Nat) : dig (tenK k n) := by
  induction k generalizing n with
  | zero => intro c h; cases h
  | succ k ih =>
    intro c h
    rcases List.mem_append.1 h with h | h
    · exact ih _ c h
    · simp at h; rw [h, dg_nat]; omega
def val (l : Txt) : Nat := l.foldl (fun a c => 10 * a + (c.toNat - 48)) 0
theorem val_snoc (l : Txt) (c : UInt8) : val (l ++ [c]) = 10 * val l + (c.toNat - 48) := by simp [val]
theorem val_ten (k n : Nat) (h : n < 10 ^ k) : val (tenK k n) = n := by
  induction k generalizing n with
  | zero => have : n = 0 := by omega
            rw [this]; rfl
  | succ k ih =>
    rw [tenK, val_snoc, ih _ (by rw [Nat.pow_succ] at h; omega), dg_nat]
    omega
theorem val_lt (l : Txt) (h : dig l) : val l < 10 ^ l.length := by
  obtain ⟨n, hn⟩ : ∃ n, l.length = n := ⟨_, rfl⟩
  induction n generalizing l with
  | zero => rw [List.eq_nil_of_length_eq_zero hn]; decide
  | succ n ih =>
    rcases List.eq_nil_or_concat l with rfl | ⟨t, c, rfl⟩
    · cases hn
    · rw [List.concat_eq_append] at *
      have ht : t.length = n := by simpa using hn
      have ih := ih t (fun x hx => h x (by simp [hx])) ht
      have hc := h c (by simp)
      rw [val_snoc, List.length_append, List.length_singleton, Nat.pow_succ]
      omega
theorem snoc_lt {a b : Txt} {x y : UInt8} (h : a.length = b.length) : a ++ [x] < b ++ [y] ↔ a < b ∨ (a = b ∧ x < y) := by
  induction a generalizing b with
  | nil =>
    cases b with
    | nil =>
      show [x] < [y] ↔ _
      rw [List.cons_lt_cons_iff]
      simp
    | cons c b => cases h
  | cons c a ih =>
    cases b with
    | nil => cases h
    | cons d b =>
      simp only [List.cons_append, List.cons_lt_cons_iff, List.cons.injEq]
      rw [ih (by simpa using h)]
      constructor
      · rintro (h | ⟨h1, h | h⟩)
        · exact .inl (.inl h)
        · exact .inl (.inr ⟨h1, h⟩)
        · exact .inr ⟨⟨h1, h.1⟩, h.2⟩
      · rintro ((h | h) | h)
        · exact .inl h
        · exact .inr ⟨h.1, .inl h.2⟩
        · exact .inr ⟨h.1.1, .inr ⟨h.1.2, h.2⟩⟩
theorem ten_lt (k n m : Nat) (hn : n < 10 ^ k) (hm : m < 10 ^ k) : tenK k n < tenK k m ↔ n < m := by
  induction k generalizing n m with
  | zero =>
    have h1 : n = 0 := by omega
    have h2 : m = 0 := by omega
    rw [h1, h2]
    simp [tenK]
  | succ k ih =>
    rw [Nat.pow_succ] at hn hm
    rw [tenK, tenK, snoc_lt (by rw [tenK_length, tenK_length]), ih _ _ (by omega) (by omega), UInt8.lt_iff_toNat_lt, dg_nat, dg_nat]
    constructor
    · rintro (h | ⟨h1, h2⟩)
      · omega
      · have e := congrArg val h1
        rw [val_ten _ _ (by omega), val_ten _ _ (by omega)] at e
        omega
    · intro h
      by_cases e : n / 10 = m / 10
      · exact .inr ⟨by rw [e], by omega⟩
      · exact .inl (by omega)
theorem behind_lt (a x y : Txt) : a ++ x < a ++ y ↔ x < y := by
  induction a with
  | nil => rfl
  | cons c a ih =>
    rw [List.cons_append, List.cons_append, List.cons_lt_cons_iff, ih]
    constructor
    · rintro (h | h)
      · exact absurd h (UInt8.lt_irrefl _)
      · exact h.2
    · intro h; exact .inr ⟨rfl, h⟩
def numOk (l : Txt) (n : Int) : Bool := decide (1 ≤ depth l) && decide (0 ≤ n) && decide (n ≤ 9999999999) && valid (l ++ ten n.toNat)
def number (l : Txt) (n : Int) : Txt := if numOk l n then l ++ ten n.toNat else []
theorem number_len (l : Txt) (n : Int) : (l ++ ten n.toNat).length = l.length + 10 := by
  rw [List.length_append, ten, tenK_length]
theorem numOk_iff {l : Txt} {n : Int} : numOk l n = true ↔ 1 ≤ depth l ∧ 0 ≤ n ∧ n ≤ 9999999999 ∧ valid (l ++ ten n.toNat) = true := by
  simp [numOk, and_assoc]
theorem number_rises {l : Txt} {n m : Int} (h1 : numOk l n = true) (h2 : numOk l m = true) : (number l n < number l m) ↔ n < m := by
  unfold number
  rw [if_pos h1, if_pos h2, behind_lt]
  rw [numOk_iff] at h1 h2
  unfold ten
  rw [ten_lt _ _ _ (by omega) (by omega)]
  omega
end Go.Proofs.Zn
