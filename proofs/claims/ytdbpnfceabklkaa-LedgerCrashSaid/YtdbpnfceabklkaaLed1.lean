/-
  Plain mathematics of records: numbers of four bytes, records laid one behind the other, what of bytes are whole records. No condition.
-/
import Derived.Test.YtdbpnfceabklkaaMath
namespace Go.Proofs.Ytdbpnfceabklkaa

/-- The number that bytes are, the lowest one first. -/
def le : List Int → Int
  | [] => 0
  | z :: l => z + 256 * le l
def le4 (n : Nat) : List Int := [(n : Int) % 256, (n : Int) / 256 % 256, (n : Int) / 65536 % 256, (n : Int) / 16777216 % 256]
theorem le4_len (n : Nat) : (le4 n).length = 4 := rfl
theorem le4_bys (n : Nat) : Bys (le4 n) := fun z hz => by
  simp only [le4, List.mem_cons, List.not_mem_nil, or_false] at hz
  rcases hz with rfl | rfl | rfl | rfl <;> omega
theorem le_le4 (n : Nat) (h : n < 4294967296) : le (le4 n) = (n : Int) := by
  simp only [le4, le]; omega
theorem le_lo {l : List Int} (h : Bys l) : 0 ≤ le l := by
  induction l with
  | nil => exact Int.le_refl _
  | cons z l ih =>
    have h1 := h z (by simp)
    have h2 := ih (fun x hx => h x (by simp [hx]))
    simp only [le]; omega
theorem le_hi {l : List Int} (h : Bys l) : le l < 256 ^ l.length := by
  induction l with
  | nil => decide
  | cons z l ih =>
    have h1 := h z (by simp)
    have h2 := ih (fun x hx => h x (by simp [hx]))
    simp only [le, List.length_cons, Int.pow_succ]; omega
theorem le_snoc (l : List Int) (z : Int) : le (l ++ [z]) = le l + 256 ^ l.length * z := by
  induction l with
  | nil => simp [le]
  | cons y l ih =>
    simp only [List.cons_append, le, ih, List.length_cons, Int.pow_succ, Int.mul_add]
    rw [Int.mul_comm (256 ^ l.length) 256, Int.mul_assoc]; omega
theorem le_take4 {l : List Int} (h : Bys l) : 0 ≤ le (l.take 4) ∧ le (l.take 4) < 4294967296 := by
  refine ⟨le_lo (bys_take 4 h), ?_⟩
  have h1 := le_hi (bys_take 4 h)
  have h2 : (l.take 4).length ≤ 4 := by rw [List.length_take]; omega
  generalize (l.take 4).length = k at h1 h2
  have : k = 0 ∨ k = 1 ∨ k = 2 ∨ k = 3 ∨ k = 4 := by omega
  rcases this with rfl | rfl | rfl | rfl | rfl <;> omega

/-- A record as it is laid; records, one behind the other. -/
def enc1 (s : List Int) : List Int := le4 s.length ++ s
def enc (l : List (List Int)) : List Int := l.flatMap enc1
def need (l : List (List Int)) : Nat := (l.map fun s => s.length + 4).sum
/-- Records that may be. -/
def Rok (l : List (List Int)) : Prop := ∀ s ∈ l, s.length ≤ 4096 ∧ Bys s
theorem enc_nil : enc [] = [] := rfl
theorem enc_snoc (l : List (List Int)) (s : List Int) : enc (l ++ [s]) = enc l ++ le4 s.length ++ s := by
  simp [enc, enc1]
theorem enc_cons (l : List (List Int)) (s : List Int) : enc (s :: l) = le4 s.length ++ s ++ enc l := by
  simp [enc, enc1]
theorem enc_length (l : List (List Int)) : (enc l).length = need l := by
  induction l with
  | nil => rfl
  | cons s l ih => rw [enc_cons, List.length_append, List.length_append, ih, le4_len]; simp only [need, List.map_cons, List.sum_cons]; omega
theorem need_snoc (l : List (List Int)) (s : List Int) : need (l ++ [s]) = need l + (s.length + 4) := by simp [need]
theorem need_nil : need [] = 0 := rfl
theorem need_take_succ (l : List (List Int)) (k : Nat) (h : k < l.length) : need (l.take (k + 1)) = need (l.take k) + ((l.getD k []).length + 4) := by
  rw [List.take_succ_eq_append_getElem h, need_snoc, getD_eq _ h]
theorem enc_take_succ (l : List (List Int)) (k : Nat) (h : k < l.length) : enc (l.take (k + 1)) = enc (l.take k) ++ le4 (l.getD k []).length ++ l.getD k [] := by
  rw [List.take_succ_eq_append_getElem h, enc_snoc, getD_eq _ h]
theorem need_len (l : List (List Int)) : l.length * 4 ≤ need l := by
  induction l with
  | nil => simp
  | cons s l ih => simp only [need, List.map_cons, List.sum_cons, List.length_cons] at *; omega
theorem need_le {l : List (List Int)} (h : ∀ s ∈ l, s.length ≤ 4096) : need l ≤ l.length * 4100 := by
  induction l with
  | nil => simp [need]
  | cons s l ih =>
    have h1 := h s (by simp)
    have h2 := ih (fun x hx => h x (by simp [hx]))
    simp only [need, List.map_cons, List.sum_cons, List.length_cons] at *; omega
theorem rok_nil : Rok [] := fun s hs => by cases hs
theorem rok_snoc {l : List (List Int)} {s : List Int} (h : Rok l) (h1 : s.length ≤ 4096) (h2 : Bys s) : Rok (l ++ [s]) := fun x hx => by
  rcases List.mem_append.1 hx with hx | hx
  · exact h x hx
  · rcases List.mem_singleton.1 hx with rfl; exact ⟨h1, h2⟩
theorem enc_bys {l : List (List Int)} (h : Rok l) : Bys (enc l) := fun z hz => by
  obtain ⟨s, hs, hz⟩ := List.mem_flatMap.1 hz
  exact bys_append (le4_bys _) (h s hs).2 z hz

/-- How long a body bytes begin with; none, if they begin with no whole record. -/
def gt (r : List Int) : Option Nat := if r ≠ [] ∧ le (r.take 4) ≤ 4096 ∧ le (r.take 4) + 4 ≤ (r.length : Int) then some (le (r.take 4)).toNat else none
def body (r : List Int) (n : Nat) : List Int := (r.drop 4).take n
/-- These records stand in the bytes, one behind the other; that is left. -/
inductive Rc : List Int → List (List Int) → List Int → Prop
  | nil (zs) : Rc zs [] zs
  | cons {zs n l r} : gt zs = some n → Rc (zs.drop (4 + n)) l r → Rc zs (body zs n :: l) r
theorem Rc.snoc {zs : List Int} {l : List (List Int)} {r : List Int} {n : Nat} (h : Rc zs l r) (hn : gt r = some n) : Rc zs (l ++ [body r n]) (r.drop (4 + n)) := by
  induction h with
  | nil zs => exact .cons hn (.nil _)
  | cons h1 _ ih => exact .cons h1 (ih hn)
theorem Rc.same {zs : List Int} {l l' : List (List Int)} {r r' : List Int} (h : Rc zs l r) (h' : Rc zs l' r') (e : gt r = none) (e' : gt r' = none) : l = l' ∧ r = r' := by
  induction h generalizing l' with
  | nil zs =>
    cases h' with
    | nil => exact ⟨rfl, rfl⟩
    | cons h1 _ => rw [e] at h1; cases h1
  | cons h1 _ ih =>
    cases h' with
    | nil => rw [e'] at h1; cases h1
    | cons h2 h3 =>
      rw [h1] at h2
      injection h2 with h2
      subst h2
      obtain ⟨a, b⟩ := ih h3 e
      exact ⟨by rw [a], b⟩
theorem gt_nil : gt [] = none := by unfold gt; rw [if_neg]; simp
theorem gt_some {r : List Int} {n : Nat} (hB : Bys r) (h : gt r = some n) : r ≠ [] ∧ le (r.take 4) = (n : Int) ∧ n ≤ 4096 ∧ n + 4 ≤ r.length := by
  unfold gt at h
  split at h
  · rename_i hc
    injection h with h
    have := (le_take4 hB).1
    exact ⟨hc.1, by omega, by omega, by omega⟩
  · cases h
theorem gt_mk {r : List Int} (h1 : r ≠ []) (h2 : le (r.take 4) ≤ 4096) (h3 : le (r.take 4) + 4 ≤ (r.length : Int)) : gt r = some (le (r.take 4)).toNat := by
  unfold gt; rw [if_pos ⟨h1, h2, h3⟩]
theorem gt_none {r : List Int} (h : ¬ (le (r.take 4) ≤ 4096 ∧ le (r.take 4) + 4 ≤ (r.length : Int))) : gt r = none := by
  unfold gt; rw [if_neg (fun x => h x.2)]
theorem gt_enc (s : List Int) (t : List Int) (h : s.length ≤ 4096) : gt (le4 s.length ++ s ++ t) = some s.length ∧ body (le4 s.length ++ s ++ t) s.length = s ∧ (le4 s.length ++ s ++ t).drop (4 + s.length) = t := by
  have e4 : (le4 s.length ++ s ++ t).take 4 = le4 s.length := by
    rw [List.append_assoc, List.take_append_of_le_length (by rw [le4_len]; exact Nat.le_refl _), List.take_of_length_le (by rw [le4_len]; exact Nat.le_refl _)]
  have e5 : (le4 s.length ++ s ++ t).drop 4 = s ++ t := by
    rw [List.append_assoc, List.drop_append_of_le_length (by rw [le4_len]; exact Nat.le_refl _), List.drop_of_length_le (by rw [le4_len]; exact Nat.le_refl _), List.nil_append]
  have hl : le ((le4 s.length ++ s ++ t).take 4) = (s.length : Int) := by rw [e4]; exact le_le4 _ (by omega)
  refine ⟨?_, ?_, ?_⟩
  · rw [gt_mk (fun e => by have := congrArg List.length e; simp [le4] at this) (by omega) (by rw [hl]; simp only [List.length_append, le4_len]; omega), hl]; rfl
  · unfold body; rw [e5, List.take_append_of_le_length (Nat.le_refl _), List.take_of_length_le (Nat.le_refl _)]
  · rw [← List.drop_drop, e5, List.drop_append_of_le_length (Nat.le_refl _), List.drop_of_length_le (Nat.le_refl _), List.nil_append]
theorem rc_enc {l : List (List Int)} (h : Rok l) : Rc (enc l) l [] := by
  induction l with
  | nil => exact .nil _
  | cons s l ih =>
    rw [enc_cons]
    obtain ⟨h1, h2, h3⟩ := gt_enc s (enc l) (h s (by simp)).1
    have := Rc.cons h1 (l := l) (r := []) (by rw [h3]; exact ih (fun x hx => h x (by simp [hx])))
    rwa [h2] at this
theorem rc_of_enc {l l' : List (List Int)} {r : List Int} (h : Rok l) (h' : Rc (enc l) l' r) (hr : gt r = none) : l' = l ∧ r = [] := by
  obtain ⟨a, b⟩ := (rc_enc h).same h' gt_nil hr
  exact ⟨a.symm, b.symm⟩
theorem Rc.bys {zs : List Int} {l : List (List Int)} {r : List Int} (h : Rc zs l r) (hB : Bys zs) : Bys r ∧ Rok l := by
  induction h with
  | nil zs => exact ⟨hB, rok_nil⟩
  | cons h1 _ ih =>
    obtain ⟨a, b⟩ := ih (bys_drop _ hB)
    refine ⟨a, fun x hx => ?_⟩
    rcases List.mem_cons.1 hx with rfl | hx
    · exact ⟨Nat.le_trans (List.length_take_le _ _) (gt_some hB h1).2.2.1, bys_take _ (bys_drop _ hB)⟩
    · exact b x hx
theorem Rc.len {zs : List Int} {l : List (List Int)} {r : List Int} (h : Rc zs l r) (hB : Bys zs) : need l + r.length = zs.length := by
  induction h with
  | nil zs => simp [need]
  | @cons zs n l r h1 _ ih =>
    have h2 := ih (bys_drop _ hB)
    have h3 := gt_some hB h1
    have hb : (body zs n).length = n := by unfold body; rw [List.length_take, List.length_drop]; omega
    rw [List.length_drop] at h2
    simp only [need, List.map_cons, List.sum_cons, hb] at *; omega
end Go.Proofs.Ytdbpnfceabklkaa
