/-
  Plain mathematics of trees of znodes: a list that is a tree. No program in it; no condition.
-/
import Derived.Test.YtfkhnnmibecbeaaDoorTree4
namespace Go.Proofs.Zt
open Go.Proofs.Zn

def nums (z : Nd) : Bool := inr z.cr && inr z.ch && inr z.kd && inr z.ver && inr z.ks && inr z.own && inr z.nx
def lastLe (pre : Tr) (z : Nd) : Bool := match pre.getLast? with
  | none => false
  | some a => !decide (a.path < z.path)
def chk1 (pre : Tr) (z : Nd) : Int :=
  if valid z.path = false then 70 else
  if lastLe pre z = true then 81 else
  if parentOk z.path = true ∧ (get pre (parent z.path)).isSome = false then 83 else
  if (parentOk z.path = true ∧ ((get pre (parent z.path)).getD nd0).own ≠ 0) ∨ (parentOk z.path = false ∧ z.own ≠ 0) then 85 else
  if 1024 < z.data.length then 87 else
  if nums z = false then 1 else 0
def chkGo : Tr → Tr → Int
  | _, [] => 0
  | pre, z :: r => if chk1 pre z ≠ 0 then chk1 pre z else chkGo (pre ++ [z]) r
def headB (l : Tr) : Bool := match l with
  | [] => false
  | z :: _ => z.path == [47]
def chk (l : Tr) : Int := if headB l = false then 80 else if 200 < l.length then 86 else chkGo [] l
theorem chk1_zero {pre : Tr} {z : Nd} : chk1 pre z = 0 ↔ valid z.path = true ∧ lastLe pre z = false ∧ (parentOk z.path = true → ∃ p, get pre (parent z.path) = some p ∧ p.own = 0) ∧ (parentOk z.path = false → z.own = 0) ∧ z.data.length ≤ 1024 ∧ nums z = true := by
  unfold chk1
  by_cases h1 : valid z.path = false
  · rw [if_pos h1]; simp [h1]
  rw [if_neg h1]
  by_cases h2 : lastLe pre z = true
  · rw [if_pos h2]; simp [h2]
  rw [if_neg h2]
  by_cases h3 : parentOk z.path = true ∧ (get pre (parent z.path)).isSome = false
  · rw [if_pos h3]
    refine ⟨fun h => (by cases h), fun ⟨_, _, h, _⟩ => ?_⟩
    obtain ⟨p, hp, _⟩ := h h3.1
    rw [hp] at h3; cases h3.2
  rw [if_neg h3]
  by_cases h4 : (parentOk z.path = true ∧ ((get pre (parent z.path)).getD nd0).own ≠ 0) ∨ (parentOk z.path = false ∧ z.own ≠ 0)
  · rw [if_pos h4]
    refine ⟨fun h => (by cases h), fun ⟨_, _, h, h', _⟩ => ?_⟩
    rcases h4 with ⟨a, b⟩ | ⟨a, b⟩
    · obtain ⟨p, hp, ho⟩ := h a
      rw [hp] at b; exact absurd ho b
    · exact absurd (h' a) b
  rw [if_neg h4]
  by_cases h5 : 1024 < z.data.length
  · rw [if_pos h5]
    exact ⟨fun h => (by cases h), fun ⟨_, _, _, _, h, _⟩ => absurd h (by omega)⟩
  rw [if_neg h5]
  by_cases h6 : nums z = false
  · rw [if_pos h6]; simp [h6]
  rw [if_neg h6]
  refine ⟨fun _ => ⟨by simpa using h1, by simpa using h2, fun hp => ?_, fun hp => ?_, by omega, by simpa using h6⟩, fun _ => rfl⟩
  · cases hg : get pre (parent z.path) with
    | none => exact absurd ⟨hp, by rw [hg]; rfl⟩ h3
    | some p =>
      refine ⟨p, rfl, ?_⟩
      rw [hg] at h4
      exact Classical.byContradiction fun hn => h4 (.inl ⟨hp, hn⟩)
  · exact Classical.byContradiction fun hn => h4 (.inr ⟨hp, hn⟩)
theorem nums_iff {z : Nd} : nums z = true ↔ inr z.cr = true ∧ inr z.ch = true ∧ inr z.kd = true ∧ inr z.ver = true ∧ inr z.ks = true ∧ inr z.own = true ∧ inr z.nx = true := by
  simp only [nums, Bool.and_eq_true, and_assoc]
theorem get_pre {pre r : Tr} {z : Nd} (hs : Srt (pre ++ z :: r)) {q : Txt} (hq : q < z.path) : get (pre ++ z :: r) q = get pre q := by
  unfold get
  rw [List.find?_append]
  have hn : (z :: r).find? (fun x => x.path == q) = none := by
    rw [List.find?_eq_none]
    intro x hx
    have h2 := (List.pairwise_append.1 hs).2.1
    obtain ⟨h3, _⟩ := List.pairwise_cons.1 h2
    rcases List.mem_cons.1 hx with rfl | hx
    · have := lt_ne hq; simpa using fun e => this e.symm
    · have := lt_ne (lt_tr hq (h3 x hx)); simpa using fun e => this e.symm
  rw [hn]
  cases List.find? (fun x => x.path == q) pre <;> rfl
theorem last_lt {pre r : Tr} {z : Nd} (hs : Srt (pre ++ z :: r)) : lastLe pre z = false := by
  unfold lastLe
  cases h : pre.getLast? with
  | none => rfl
  | some a =>
    have ha : a ∈ pre := List.mem_of_getLast? h
    have := (List.pairwise_append.1 hs).2.2 a ha z (by simp)
    simp [this]
theorem chkGo_good {T : Tr} (hg : Good T) : ∀ (rest pre : Tr), T = pre ++ rest → chkGo pre rest = 0
  | [], _, _ => rfl
  | z :: r, pre, e => by
    have hs : Srt (pre ++ z :: r) := by rw [← e]; exact hg.srt
    have hz : z ∈ T := by rw [e]; simp
    have ho := hg.each z hz
    have h0 : chk1 pre z = 0 := by
      rw [chk1_zero]
      refine ⟨ho.path, last_lt hs, fun hp => ?_, fun hp => ?_, ho.data, nums_iff.2 ⟨ho.cr, ho.ch, ho.kd, ho.ver, ho.ks, ho.own, ho.nx⟩⟩
      · obtain ⟨p, h1, h2⟩ := hg.par z hz hp
        rw [e, get_pre hs (parent_lt hp)] at h1
        exact ⟨p, h1, h2⟩
      · have hr : z.path = [47] := Classical.byContradiction fun hn => by rw [valid_parent ho.path hn] at hp; cases hp
        obtain ⟨x, h1, h2⟩ := hg.root
        rw [← hr, get_mem hg.srt hz] at h1
        obtain rfl := Option.some.inj h1
        exact h2
    rw [chkGo, if_neg (by rw [h0]; simp)]
    exact chkGo_good hg r (pre ++ [z]) (by rw [e]; simp)
theorem root_lt {p : Txt} (h : valid p = true) : p = [47] ∨ [47] < p := by
  by_cases e : p = [47]
  · exact .inl e
  · obtain ⟨ps, hp⟩ := valid_some h
    obtain ⟨h1, -⟩ := names_tail hp e
    refine .inr ?_
    rw [h1]
    cases ht : p.tail with
    | nil => rw [ht] at h1; exact absurd h1 e
    | cons c t => exact List.cons_lt_cons_iff.2 (.inr ⟨rfl, List.nil_lt_cons c t⟩)
theorem good_head {T : Tr} (hg : Good T) : headB T = true := by
  obtain ⟨x, h1, h2⟩ := hg.root
  obtain ⟨hx, hp⟩ := get_some h1
  cases T with
  | nil => cases hx
  | cons z r =>
    show (z.path == [47]) = true
    rcases List.mem_cons.1 hx with rfl | hx
    · simpa using hp
    · have hl := (List.pairwise_cons.1 hg.srt).1 x hx
      rw [hp] at hl
      rcases root_lt (hg.each z (by simp)).path with h | h
      · simpa using h
      · exact absurd (lt_tr h hl) (lt_irr _)
theorem chk_good {T : Tr} (hg : Good T) : chk T = 0 := by
  unfold chk
  rw [if_neg (by rw [good_head hg]; simp), if_neg (by have := hg.len; omega)]
  exact chkGo_good hg T [] rfl
structure Pre (T : Tr) : Prop where
  srt : Srt T
  each : ∀ z ∈ T, NdOk z
  par : ∀ z ∈ T, parentOk z.path = true → ∃ p, get T (parent z.path) = some p ∧ p.own = 0
  rt : ∀ z ∈ T, parentOk z.path = false → z.own = 0
theorem pre_snoc {pre : Tr} {z : Nd} (h : Pre pre) (h0 : chk1 pre z = 0) : Pre (pre ++ [z]) := by
  obtain ⟨h1, h2, h3, h4, h5, h6⟩ := chk1_zero.1 h0
  obtain ⟨n1, n2, n3, n4, n5, n6, n7⟩ := nums_iff.1 h6
  have hlt : ∀ x ∈ pre, x.path < z.path := fun x hx => by
    unfold lastLe at h2
    cases hl : pre.getLast? with
    | none => rw [List.getLast?_eq_none_iff] at hl; rw [hl] at hx; cases hx
    | some a =>
      rw [hl] at h2
      have ha : a.path < z.path := by simpa using h2
      obtain ⟨ini, rfl⟩ := List.getLast?_eq_some_iff.1 hl
      rcases List.mem_append.1 hx with hx | hx
      · exact lt_tr ((List.pairwise_append.1 h.srt).2.2 x hx a (by simp)) ha
      · rcases List.mem_singleton.1 hx with rfl; exact ha
  have hget : ∀ q y, get pre q = some y → get (pre ++ [z]) q = some y := fun q y hy => by
    unfold get at *
    rw [List.find?_append, hy]; rfl
  refine ⟨List.pairwise_append.2 ⟨h.srt, List.pairwise_singleton _ _, fun x hx y hy => by rcases List.mem_singleton.1 hy with rfl; exact hlt x hx⟩, fun x hx => ?_, fun x hx hp => ?_, fun x hx hp => ?_⟩
  · rcases List.mem_append.1 hx with hx | hx
    · exact h.each x hx
    · rcases List.mem_singleton.1 hx with rfl; exact ⟨h1, h5, n1, n2, n3, n4, n5, n6, n7⟩
  · rcases List.mem_append.1 hx with hx | hx
    · obtain ⟨p, a, b⟩ := h.par x hx hp
      exact ⟨p, hget _ _ a, b⟩
    · rcases List.mem_singleton.1 hx with rfl
      obtain ⟨p, a, b⟩ := h3 hp
      exact ⟨p, hget _ _ a, b⟩
  · rcases List.mem_append.1 hx with hx | hx
    · exact h.rt x hx hp
    · rcases List.mem_singleton.1 hx with rfl; exact h4 hp
theorem chkGo_pre : ∀ (rest pre : Tr), Pre pre → chkGo pre rest = 0 → Pre (pre ++ rest)
  | [], pre, h, _ => by simpa using h
  | z :: r, pre, h, h0 => by
    rw [chkGo] at h0
    by_cases h1 : chk1 pre z ≠ 0
    · rw [if_pos h1] at h0; exact absurd h0 h1
    · rw [if_neg h1] at h0
      have := chkGo_pre r (pre ++ [z]) (pre_snoc h (by simpa using h1)) h0
      rwa [List.append_assoc] at this
theorem good_chk {T : Tr} (h : chk T = 0) : Good T := by
  unfold chk at h
  by_cases h1 : headB T = false
  · rw [if_pos h1] at h; cases h
  rw [if_neg h1] at h
  by_cases h2 : 200 < T.length
  · rw [if_pos h2] at h; cases h
  rw [if_neg h2] at h
  have hp := chkGo_pre T [] ⟨List.Pairwise.nil, fun z hz => (by cases hz), fun z hz => (by cases hz), fun z hz => (by cases hz)⟩ h
  rw [List.nil_append] at hp
  refine ⟨hp.srt, ?_, by omega, hp.each, hp.par⟩
  cases T with
  | nil => exact absurd rfl h1
  | cons z r =>
    have e : z.path = [47] := by
      have h3 : (z.path == [47]) = true := by simpa [headB] using h1
      simpa using h3
    exact ⟨z, get_cons_hit e, hp.rt z (by simp) (by rw [e]; exact parentOk_root)⟩
end Go.Proofs.Zt
