/-
  Plain mathematics of paths, names and numbers in ten digits: what a text's names are, what they make, how one path lies under another. No program in it; no condition.
  Plain mathematics of joined paths, of paths that lie under others, and of numbers in ten digits. No program in it; no condition.
  Plain mathematics of numbers in ten digits behind a path. No program in it; no condition.
-/
import Derived.Lib.Hide
namespace Go.Proofs.Zn

abbrev Txt := List UInt8
def letterB (c : UInt8) : Bool := (97 ≤ c && c ≤ 122) || (65 ≤ c && c ≤ 90) || (48 ≤ c && c ≤ 57) || c == 46 || c == 45 || c == 95
def nameB (l : Txt) : Bool := l.all letterB && decide (1 ≤ l.length) && decide (l.length ≤ 60) && !(l == [46]) && !(l == [46, 46])
def splitS : Txt → List Txt
  | [] => [[]]
  | c :: t => if c = 47 then [] :: splitS t else match splitS t with
    | [] => [[c]]
    | p :: ps => (c :: p) :: ps
def flat : List Txt → Txt
  | [] => []
  | p :: ps => 47 :: p ++ flat ps
def joinP (ps : List Txt) : Txt := if ps = [] then [47] else flat ps
def okB (ps : List Txt) : Bool := ps.all nameB && decide (ps.length ≤ 8)
def names (l : Txt) : Option (List Txt) :=
  if l = [47] then some [] else
  if l.head? = some 47 then (if okB (splitS l.tail) then some (splitS l.tail) else none) else none
def valid (l : Txt) : Bool := (names l).isSome
def depth (l : Txt) : Int := match names l with
  | some ps => ps.length
  | none => -1
def base (l : Txt) : Txt := match names l with
  | some ps => ps.getLastD []
  | none => []
def parentOk (l : Txt) : Bool := match names l with
  | some ps => !ps.isEmpty
  | none => false
def parent (l : Txt) : Txt := match names l with
  | some ps => if ps = [] then [] else joinP ps.dropLast
  | none => []
def joinOk (l s : Txt) : Bool := match names l with
  | some ps => nameB s && decide (ps.length ≠ 8)
  | none => false
def join (l s : Txt) : Txt := match names l with
  | some ps => if joinOk l s then joinP (ps ++ [s]) else []
  | none => []
def under (l m : Txt) : Bool := match names l, names m with
  | some ps, some qs => decide (qs.length ≤ ps.length) && (ps.take qs.length == qs)
  | _, _ => false

theorem split_slash (t : Txt) : splitS (47 :: t) = [] :: splitS t := by rw [splitS, if_pos rfl]
theorem split_other {c : UInt8} {t : Txt} {p : Txt} {ps : List Txt} (h : c ≠ 47) (hs : splitS t = p :: ps) : splitS (c :: t) = (c :: p) :: ps := by rw [splitS, if_neg h, hs]
theorem split_ne (l : Txt) : splitS l ≠ [] := by
  induction l with
  | nil => simp [splitS]
  | cons c t ih =>
    by_cases h : c = 47
    · rw [h, split_slash]; simp
    · rcases hs : splitS t with _ | ⟨p, ps⟩
      · exact absurd hs ih
      · rw [split_other h hs]; simp
theorem split_append (a b : Txt) : splitS (a ++ 47 :: b) = splitS a ++ splitS b := by
  induction a with
  | nil => rw [List.nil_append, split_slash]; rfl
  | cons c t ih =>
    rw [List.cons_append]
    by_cases h : c = 47
    · rw [h, split_slash, split_slash, ih]; rfl
    · rcases hs : splitS t with _ | ⟨p, ps⟩
      · exact absurd hs (split_ne t)
      · rw [split_other h hs, split_other h (by rw [ih, hs]; rfl)]; rfl
theorem split_free (a : Txt) (h : 47 ∉ a) : splitS a = [a] := by
  induction a with
  | nil => rfl
  | cons c t ih =>
    exact split_other (fun e => h (by simp [e])) (ih (fun e => h (by simp [e])))
theorem split_hit (a b : Txt) (h : 47 ∉ a) : splitS (a ++ 47 :: b) = a :: splitS b := by
  rw [split_append, split_free a h]; rfl
theorem flat_split (t : Txt) : flat (splitS t) = 47 :: t := by
  induction t with
  | nil => rfl
  | cons c t ih =>
    by_cases h : c = 47
    · rw [h, split_slash, flat, ih]; rfl
    · rcases hs : splitS t with _ | ⟨p, ps⟩
      · exact absurd hs (split_ne t)
      · rw [split_other h hs]
        rw [hs] at ih
        simp only [flat, List.cons_append, List.cons.injEq, true_and] at ih ⊢
        exact ih
theorem flat_append (a b : List Txt) : flat (a ++ b) = flat a ++ flat b := by
  induction a with
  | nil => rfl
  | cons p ps ih => simp [flat, ih, List.append_assoc]
theorem split_flat (p : Txt) (ps : List Txt) (h : ∀ q ∈ p :: ps, 47 ∉ q) : splitS (p ++ flat ps) = p :: ps := by
  induction ps generalizing p with
  | nil => simp only [flat, List.append_nil]; exact split_free p (h p (by simp))
  | cons q qs ih =>
    rw [flat, List.cons_append, split_hit p _ (h p (by simp)), ih q (fun r hr => h r (List.mem_cons_of_mem _ hr))]
theorem letter_slash : letterB 47 = false := by decide
theorem name_free {l : Txt} (h : nameB l = true) : 47 ∉ l := fun hm => by
  simp only [nameB, Bool.and_eq_true, List.all_eq_true] at h
  have := h.1.1.1.1 _ hm
  rw [letter_slash] at this
  cases this
theorem name_pos {l : Txt} (h : nameB l = true) : 1 ≤ l.length ∧ l.length ≤ 60 := by
  simp only [nameB, Bool.and_eq_true, decide_eq_true_eq] at h
  exact ⟨h.1.1.1.2, h.1.1.2⟩
theorem ok_iff (ps : List Txt) : okB ps = true ↔ (∀ p ∈ ps, nameB p = true) ∧ ps.length ≤ 8 := by
  simp [okB]
theorem names_join {l : Txt} {ps : List Txt} (h : names l = some ps) : joinP ps = l ∧ okB ps = true := by
  unfold names at h
  split at h
  · rename_i e; obtain rfl := Option.some.inj h; exact ⟨by rw [e]; rfl, rfl⟩
  · split at h
    · rename_i hd
      split at h
      · rename_i ho
        obtain rfl := Option.some.inj h
        refine ⟨?_, ho⟩
        unfold joinP
        rw [if_neg (split_ne _), flat_split]
        cases l with
        | nil => cases hd
        | cons c t => simp at hd; simp [hd]
      · cases h
    · cases h
theorem names_of {ps : List Txt} (h : okB ps = true) : names (joinP ps) = some ps := by
  rcases ps with _ | ⟨p, ps⟩
  · rfl
  · rw [ok_iff] at h
    have hp := name_pos (h.1 p (by simp))
    have e : joinP (p :: ps) = 47 :: (p ++ flat ps) := by simp [joinP, flat]
    have hs := split_flat p ps (fun q hq => name_free (h.1 q hq))
    rw [e]
    unfold names
    rw [if_neg (fun hh => by have := congrArg List.length hh; simp at this; rw [this.1] at hp; simp at hp), if_pos (show (47 :: (p ++ flat ps)).head? = some 47 from rfl)]
    simp only [List.tail_cons, hs]
    rw [if_pos ((ok_iff _).2 h)]
theorem ok_take {ps : List Txt} (h : okB ps = true) (k : Nat) : okB (ps.take k) = true := by
  rw [ok_iff] at h ⊢
  exact ⟨fun p hp => h.1 p (List.mem_of_mem_take hp), by rw [List.length_take]; omega⟩
theorem ok_dropLast {ps : List Txt} (h : okB ps = true) : okB ps.dropLast = true := by
  rw [List.dropLast_eq_take]; exact ok_take h _
/-! ### Depth -/
theorem depth_some {l : Txt} {ps : List Txt} (h : names l = some ps) : depth l = ps.length := by unfold depth; rw [h]
theorem depth_none {l : Txt} (h : names l = none) : depth l = -1 := by unfold depth; rw [h]
theorem valid_depth (l : Txt) : valid l = decide (0 ≤ depth l) := by
  unfold valid
  rcases h : names l with _ | ps
  · rw [depth_none h]; rfl
  · rw [depth_some h]; simp
theorem parentOk_depth (l : Txt) : parentOk l = !decide (depth l < 1) := by
  unfold parentOk
  rcases h : names l with _ | ps
  · rw [depth_none h]; rfl
  · rw [depth_some h]
    cases ps <;> simp
    omega
theorem len_le {l : Txt} (h : valid l = true) : l.length ≤ 488 := by
  unfold valid at h
  rcases hn : names l with _ | ps
  · rw [hn] at h; cases h
  · obtain ⟨hj, ho⟩ := names_join hn
    rw [ok_iff] at ho
    have : ∀ qs : List Txt, (∀ p ∈ qs, nameB p = true) → (flat qs).length ≤ 61 * qs.length := by
      intro qs
      induction qs with
      | nil => intro _; simp [flat]
      | cons q qs ih =>
        intro hq
        have h1 := name_pos (hq q (by simp))
        have h2 := ih (fun p hp => hq p (by simp [hp]))
        simp only [flat, List.cons_append, List.length_cons, List.length_append]
        omega
    have := this ps ho.1
    rw [← hj]
    unfold joinP
    split
    · simp
    · omega
end Go.Proofs.Zn
namespace Go.Proofs.Zn

/-! ### Join -/
/-! ### Parent -/
theorem parent_names {l : Txt} (h : parentOk l = true) : ∃ ps b, names l = some (ps ++ [b]) ∧ names (parent l) = some ps ∧ parent l = joinP ps ∧ base l = b ∧ joinP (ps ++ [b]) = l ∧ okB (ps ++ [b]) = true := by
  unfold parentOk at h
  rcases hn : names l with _ | qs
  · rw [hn] at h; cases h
  · obtain ⟨hj, ho⟩ := names_join hn
    rcases List.eq_nil_or_concat qs with rfl | ⟨ps, b, rfl⟩
    · rw [hn] at h; cases h
    · rw [List.concat_eq_append] at *
      have e : parent l = joinP ps := by unfold parent; rw [hn]; simp
      have ho' : okB ps = true := by have := ok_dropLast ho; simpa using this
      exact ⟨ps, b, rfl, by rw [e]; exact names_of ho', e, by unfold base; rw [hn]; simp, hj, ho⟩
/-! ### Under -/
theorem names_tail {l : Txt} {ps : List Txt} (h : names l = some ps) (h0 : l ≠ [47]) : l = 47 :: l.tail ∧ ps = splitS l.tail := by
  unfold names at h
  rw [if_neg h0] at h
  split at h
  · rename_i hd
    split at h
    · obtain rfl := Option.some.inj h
      refine ⟨?_, rfl⟩
      cases l with
      | nil => cases hd
      | cons c t => simp at hd; simp [hd]
    · cases h
  · cases h
theorem names_root {ps : List Txt} (h : names [47] = some ps) : ps = [] := (Option.some.inj h).symm
theorem valid_some {l : Txt} (h : valid l = true) : ∃ ps, names l = some ps := by
  unfold valid at h; cases hn : names l with
  | none => rw [hn] at h; cases h
  | some ps => exact ⟨ps, rfl⟩
end Go.Proofs.Zn
namespace Go.Proofs.Zn

def dg (n : Nat) : UInt8 := UInt8.ofNat (48 + n % 10)
def tenK : Nat → Nat → Txt
  | 0, _ => []
  | k + 1, n => tenK k (n / 10) ++ [dg n]
def ten (n : Nat) : Txt := tenK 10 n
theorem dg_nat (n : Nat) : (dg n).toNat = 48 + n % 10 := by
  unfold dg
  rw [UInt8.toNat_ofNat']
  omega
theorem tenK_length (k n : Nat) : (tenK k n).length = k := by
  induction k generalizing n with
  | zero => rfl
  | succ k ih => simp [tenK, ih]
def dig (l : Txt) : Prop := ∀ c ∈ l, 48 ≤ c.toNat ∧ c.toNat ≤ 57
theorem tenK_dig (k n : Nat) : dig (tenK k n) := by
  induction k generalizing n with
  | zero => intro c h; cases h
  | succ k ih =>
    intro c h
    rcases List.mem_append.1 h with h | h
    · exact ih _ c h
    · simp at h; rw [h, dg_nat]; omega
def numOk (l : Txt) (n : Int) : Bool := decide (1 ≤ depth l) && decide (0 ≤ n) && decide (n ≤ 9999999999) && valid (l ++ ten n.toNat)
def number (l : Txt) (n : Int) : Txt := if numOk l n then l ++ ten n.toNat else []
theorem numOk_iff {l : Txt} {n : Int} : numOk l n = true ↔ 1 ≤ depth l ∧ 0 ≤ n ∧ n ≤ 9999999999 ∧ valid (l ++ ten n.toNat) = true := by
  simp [numOk, and_assoc]
end Go.Proofs.Zn
