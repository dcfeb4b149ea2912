/-
  Plain mathematics of trees of znodes: a session's end; numbers that rise; a list that is a tree. No program in it; no condition.
-/
import Derived.Test.YtfkhnnmibecbeaaDoorTree2
namespace Go.Proofs.Zt
open Go.Proofs.Zn

/-! ### A session's end -/
def delC (p : Txt) : Chg := ⟨2, p, [], -1, false, false⟩
theorem kids_eph {T : Tr} (hg : Good T) {p : Txt} {z : Nd} (hz : get T p = some z) (ho : z.own ≠ 0) : kids T p = [] := by
  refine kids_of fun y hy hpo e => ?_
  obtain ⟨q, h1, h2⟩ := hg.par y hy hpo
  rw [e, hz] at h1
  obtain rfl := Option.some.inj h1
  exact ho h2
theorem root_own {T : Tr} (hg : Good T) {p : Txt} {z : Nd} (hz : get T p = some z) (ho : z.own ≠ 0) : p ≠ [47] := fun e => by
  obtain ⟨r, h1, h2⟩ := hg.root
  rw [e, h1] at hz
  obtain rfl := Option.some.inj hz
  exact ho h2
theorem one_del {T : Tr} (hg : Good T) {zx se : Int} {p : Txt} {z : Nd} (hz : get T p = some z) (ho : z.own ≠ 0) : one T zx se (delC p) = remove T zx p := by
  have hz' := get_some hz
  have hv : valid p = true := by have := (hg.each z hz'.1).path; rwa [hz'.2] at this
  have hr := root_own hg hz ho
  have ha : amissV T (delC p) = 0 := by
    unfold amissV
    show (match get T p with | none => (80 : Int) | some z => if (2 : Int) = 2 ∧ p = [47] then 1 else if (-1 : Int) ≠ -1 ∧ (-1 : Int) ≠ z.ver then 82 else 0) = 0
    rw [hz]
    simp [hr]
  have k2 : (delC p).kind = 2 := rfl
  have kp : (delC p).path = p := rfl
  unfold one
  rw [k2, kp, if_neg (by decide), if_neg (by rw [hv]; decide), if_neg (by decide), if_neg (by simp), if_neg (by rw [ha]; simp), if_pos rfl, if_neg (by rw [kids_eph hg hz ho]; simp)]
/-- The same znode but for its children's counts. -/
def Alike (x z : Nd) : Prop := x.path = z.path ∧ x.data = z.data ∧ x.cr = z.cr ∧ x.ch = z.ch ∧ x.ver = z.ver ∧ x.own = z.own ∧ x.nx = z.nx
theorem Alike.refl (z : Nd) : Alike z z := ⟨rfl, rfl, rfl, rfl, rfl, rfl, rfl⟩
theorem Alike.trans {x y z : Nd} (h : Alike x y) (k : Alike y z) : Alike x z :=
  ⟨h.1.trans k.1, h.2.1.trans k.2.1, h.2.2.1.trans k.2.2.1, h.2.2.2.1.trans k.2.2.2.1, h.2.2.2.2.1.trans k.2.2.2.2.1, h.2.2.2.2.2.1.trans k.2.2.2.2.2.1, h.2.2.2.2.2.2.trans k.2.2.2.2.2.2⟩
theorem remove_get {T : Tr} (hg : Good T) {zx : Int} {p : Txt} {z : Nd} (hz : get T p = some z) (ho : z.own ≠ 0) (q : Txt) :
    (q = p → get (remove T zx p).T q = none) ∧ (q ≠ p → get T q = none → get (remove T zx p).T q = none) ∧ (q ≠ p → ∀ y, get T q = some y → ∃ x, get (remove T zx p).T q = some x ∧ Alike x y) := by
  have hz' := get_some hz
  have hv : valid p = true := by have := (hg.each z hz'.1).path; rwa [hz'.2] at this
  have hr := root_own hg hz ho
  have hpo := valid_parent hv hr
  obtain ⟨u, h1, h2⟩ := hg.par z hz'.1 (by rw [hz'.2]; exact hpo)
  rw [hz'.2] at h1
  have hu := get_some h1
  have hne := parent_ne hpo
  have hT : (remove T zx p).T = put (wout T p) (touched u zx false) := by
    show put (wout T p) (touched ((get (wout T p) (parent p)).getD nd0) zx false) = _
    rw [get_wout, if_neg hne, h1]; rfl
  have hpath : (touched u zx false).path = parent p := hu.2
  rw [hT, get_put, hpath, get_wout]
  refine ⟨fun e => ?_, fun e hn => ?_, fun e y hy => ?_⟩
  · rw [if_neg (fun e' => hne (e'.symm.trans e)), if_pos e]
  · rw [if_neg (fun e' => by rw [e', h1] at hn; cases hn), if_neg e]; exact hn
  · by_cases e' : q = parent p
    · rw [if_pos e']
      rw [e', h1] at hy
      obtain rfl := Option.some.inj hy
      exact ⟨_, rfl, ⟨rfl, rfl, rfl, rfl, rfl, rfl, rfl⟩⟩
    · rw [if_neg e', if_neg e]
      exact ⟨y, hy, Alike.refl y⟩
theorem end_go {T0 : Tr} {zx se s : Int} (hx : inr zx = true) (hs : s ≠ 0) : ∀ (l : List Txt) {T : Tr} (ps : List Txt) (es : List Evt), Good T → l.Nodup → (∀ p ∈ l, ∃ z, get T p = some z ∧ z.own = s) →
    doGo T0 zx se T ps es (l.map delC) = ⟨(endGo zx T es l).1, ps ++ l, (endGo zx T es l).2, 0⟩ ∧ Good (endGo zx T es l).1 ∧ (endGo zx T es l).2.length = es.length + 2 * l.length ∧
    (∀ p ∈ l, get (endGo zx T es l).1 p = none) ∧ (∀ p, p ∉ l → get T p = none → get (endGo zx T es l).1 p = none) ∧ (∀ p, p ∉ l → ∀ y, get T p = some y → ∃ x, get (endGo zx T es l).1 p = some x ∧ Alike x y)
  | [], T, ps, es, hg, _, _ => ⟨by simp [doGo, endGo], hg, by simp [endGo], fun p hp => (by cases hp), fun p _ h => h, fun p _ y hy => ⟨y, hy, Alike.refl y⟩⟩
  | p :: l, T, ps, es, hg, hn, hl => by
    obtain ⟨hpl, hn'⟩ := List.nodup_cons.1 hn
    obtain ⟨z, hz, ho⟩ := hl p (by simp)
    have ho' : z.own ≠ 0 := by rw [ho]; exact hs
    have hgr : Good (remove T zx p).T := remove_good hg hx hz (root_own hg hz ho') (kids_eph hg hz ho')
    have R := remove_get hg (zx := zx) hz ho'
    have hl' : ∀ q ∈ l, ∃ z, get (remove T zx p).T q = some z ∧ z.own = s := fun q hq => by
      obtain ⟨y, hy, hyo⟩ := hl q (by simp [hq])
      obtain ⟨x, h1, h2⟩ := (R q).2.2 (fun e => hpl (e ▸ hq)) y hy
      exact ⟨x, h1, h2.2.2.2.2.2.1.trans hyo⟩
    obtain ⟨i1, i2, i3, i4, i5, i6⟩ := end_go hx hs l (ps ++ [p]) (es ++ (remove T zx p).evs) hgr hn' hl'
    have hone := one_del hg (zx := zx) (se := se) hz ho'
    refine ⟨?_, i2, ?_, fun q hq => ?_, fun q hq hnn => ?_, fun q hq y hy => ?_⟩
    · rw [List.map_cons, doGo, hone, if_neg (by show ¬ ((0 : Int) ≠ 0); simp)]
      have hp' : (remove T zx p).path = p := rfl
      rw [hp', i1, List.append_assoc]; rfl
    · show (endGo zx (remove T zx p).T (es ++ (remove T zx p).evs) l).2.length = _
      rw [i3]
      have : (remove T zx p).evs.length = 2 := rfl
      rw [List.length_append, this, List.length_cons]; omega
    · show get (endGo zx (remove T zx p).T (es ++ (remove T zx p).evs) l).1 q = none
      by_cases e : q ∈ l
      · exact i4 q e
      · have hqp : q = p := by rcases List.mem_cons.1 hq with h | h; exact h; exact absurd h e
        exact i5 q e ((R q).1 hqp)
    · have hne : q ≠ p := fun e => hq (by simp [e])
      exact i5 q (fun h => hq (by simp [h])) ((R q).2.1 hne hnn)
    · have hne : q ≠ p := fun e => hq (by simp [e])
      obtain ⟨x, h1, h2⟩ := (R q).2.2 hne y hy
      obtain ⟨x', h3, h4⟩ := i6 q (fun h => hq (by simp [h])) x h1
      exact ⟨x', h3, h4.trans h2⟩
theorem owned_mem {T : Tr} (hs : Srt T) {s : Int} (p : Txt) : p ∈ owned T s ↔ s ≠ 0 ∧ ∃ z, get T p = some z ∧ z.own = s := by
  unfold owned
  rw [List.mem_map]
  constructor
  · rintro ⟨z, h1, h2⟩
    obtain ⟨h3, h4⟩ := List.mem_filter.1 h1
    simp only [Bool.and_eq_true, decide_eq_true_eq] at h4
    exact ⟨h4.1, z, by rw [← h2]; exact get_mem hs h3, h4.2⟩
  · rintro ⟨h0, z, h1, h2⟩
    obtain ⟨h3, h4⟩ := get_some h1
    exact ⟨z, List.mem_filter.2 ⟨h3, by simp [h0, h2]⟩, h4⟩
theorem owned_nodup {T : Tr} (hs : Srt T) (s : Int) : (owned T s).Nodup := by
  unfold owned
  exact (List.pairwise_map.2 ((hs.sublist List.filter_sublist).imp (fun h => lt_ne h)))
theorem owned_zero (T : Tr) : owned T 0 = [] := by unfold owned; simp
theorem end_do {T : Tr} (hg : Good T) (zx se : Int) : (doL T zx se ((owned T se).map delC)).T = (endL T zx se).1 ∧ (doL T zx se ((owned T se).map delC)).es = (endL T zx se).2 := by
  unfold doL endL
  by_cases h : inr zx = false ∨ inr se = false
  · rw [if_pos h, if_pos h]; exact ⟨rfl, rfl⟩
  · rw [if_neg h, if_neg h]
    have h1 : inr zx = true := by cases e : inr zx <;> simp_all
    by_cases h0 : se = 0
    · subst h0
      rw [owned_zero]
      exact ⟨rfl, rfl⟩
    · have := (end_go (T0 := T) (se := se) h1 h0 (owned T se) [] [] hg (owned_nodup hg.srt se) (fun p hp => ((owned_mem hg.srt p).1 hp).2)).1
      rw [this]
      exact ⟨rfl, rfl⟩
theorem endL_good {T : Tr} (hg : Good T) (zx se : Int) : Good (endL T zx se).1 := by
  rw [← (end_do hg zx se).1]; exact doL_good hg zx se _

/-! ### Numbers that rise -/
theorem more_le (n : Int) : n ≤ up n := by unfold up; split <;> omega
/-- What a step does to a znode that is not deleted: its number does not fall. -/
theorem put_keeps {T : Tr} {p : Txt} {q : Nd} (hq : get T p = some q) {z : Nd} (h : ∀ y, get T z.path = some y → y.nx ≤ z.nx) : ∃ q', get (put T z) p = some q' ∧ q.nx ≤ q'.nx := by
  rw [get_put]
  split
  · rename_i e
    rw [e] at hq
    exact ⟨z, rfl, h q hq⟩
  · exact ⟨q, hq, Int.le_refl _⟩
theorem kid_keeps {T : Tr} {p r : Txt} {q : Nd} (hq : get T p = some q) (ev : List Evt) (zx : Int) (m : Bool) {u : Nd} (hu : get T (parent r) = some u) : ∃ q', get (kidS T r ev zx m).T p = some q' ∧ q.nx ≤ q'.nx := by
  show ∃ q', get (put T (touched ((get T (parent r)).getD nd0) zx m)) p = some q' ∧ _
  rw [hu]
  refine put_keeps hq fun y hy => ?_
  have : (touched u zx m).path = u.path := rfl
  show y.nx ≤ (touched u zx m).nx
  have hu' := get_some hu
  have hp : get T (touched u zx m).path = some u := by rw [this, hu'.2]; exact hu
  have e : get T (touched ((some u).getD nd0) zx m).path = some u := hp
  rw [e] at hy
  obtain rfl := Option.some.inj hy
  show u.nx ≤ (if m then up u.nx else u.nx)
  split
  · exact more_le _
  · exact Int.le_refl _
theorem one_keeps {T : Tr} (hg : Good T) {p : Txt} {q : Nd} (hq : get T p = some q) {zx se : Int} {c : Chg} (h : (one T zx se c).e = 0) (hd : ¬ (c.kind = 2 ∧ c.path = p)) : ∃ q', get (one T zx se c).T p = some q' ∧ q.nx ≤ q'.nx := by
  unfold one at h ⊢
  by_cases h1 : c.kind < 1 ∨ 4 < c.kind
  · rw [if_pos h1] at h; cases h
  rw [if_neg h1] at h ⊢
  by_cases h2 : valid c.path = false
  · rw [if_pos h2] at h; cases h
  rw [if_neg h2] at h ⊢
  have hv : valid c.path = true := by simpa using h2
  by_cases h3 : c.kind = 1
  · rw [if_pos h3] at h ⊢
    unfold create at h ⊢
    by_cases h4 : (place T c).1 ≠ 0
    · rw [if_pos h4] at h; exact absurd h h4
    rw [if_neg h4]
    obtain ⟨_, _, u, hu, _, hpp, hpo, _, hnone, _⟩ := place_ok hv (by simpa using h4)
    have hq2 : get (put T (made (place T c).2 c.data zx se c.eph)) p = some q := by
      rw [get_put, if_neg (fun e => by have e : p = (place T c).2 := e; rw [e, hnone] at hq; cases hq)]; exact hq
    have hu2 : get (put T (made (place T c).2 c.data zx se c.eph)) (parent (place T c).2) = some u := by
      rw [get_put, if_neg (show ¬ parent (place T c).2 = (made (place T c).2 c.data zx se c.eph).path from parent_ne hpo), hpp]; exact hu
    exact kid_keeps hq2 _ _ _ hu2
  rw [if_neg h3] at h ⊢
  by_cases h4 : c.kind = 3 ∧ 1024 < c.data.length
  · rw [if_pos h4] at h; cases h
  rw [if_neg h4] at h ⊢
  by_cases h5 : amissV T c ≠ 0
  · rw [if_pos h5] at h; exact absurd h h5
  rw [if_neg h5] at h ⊢
  obtain ⟨z, hz1, hz2⟩ := amiss_ok (by simpa using h5)
  by_cases h6 : c.kind = 2
  · rw [if_pos h6] at h ⊢
    by_cases h7 : kids T c.path ≠ []
    · rw [if_pos h7] at h; cases h
    rw [if_neg h7]
    have hz' := get_some hz1
    have hpo := valid_parent hv (fun e => hz2 ⟨h6, e⟩)
    obtain ⟨u, h8, _⟩ := hg.par z hz'.1 (by rw [hz'.2]; exact hpo)
    rw [hz'.2] at h8
    refine kid_keeps ?_ _ _ _ (by rw [get_wout, if_neg (parent_ne hpo)]; exact h8)
    rw [get_wout, if_neg (fun e => hd ⟨h6, e.symm⟩)]
    exact hq
  rw [if_neg h6] at h ⊢
  by_cases h8 : c.kind = 4
  · rw [if_pos h8]; exact ⟨q, hq, Int.le_refl _⟩
  rw [if_neg h8]
  show ∃ q', get (put T (setd ((get T c.path).getD nd0) c.data zx)) p = some q' ∧ _
  rw [hz1]
  refine put_keeps hq fun y hy => ?_
  have hx := get_some hz1
  have e : (setd ((some z).getD nd0) c.data zx).path = c.path := hx.2
  rw [e, hz1] at hy
  obtain rfl := Option.some.inj hy
  exact Int.le_refl _
/-- The number that a Create lays behind a name. -/
theorem create_rises {T : Tr} {zx se : Int} {c : Chg} (hk : c.kind = 1) (hs : c.sq = true) {q : Nd} (hq : get T (parent c.path) = some q) (h : (one T zx se c).e = 0) :
    (one T zx se c).path = number c.path q.nx ∧ numOk c.path q.nx = true ∧ ∃ q', get (one T zx se c).T (parent c.path) = some q' ∧ q.nx < q'.nx := by
  unfold one at h ⊢
  by_cases h1 : c.kind < 1 ∨ 4 < c.kind
  · rw [if_pos h1] at h; cases h
  rw [if_neg h1] at h ⊢
  by_cases h2 : valid c.path = false
  · rw [if_pos h2] at h; cases h
  rw [if_neg h2] at h ⊢
  have hv : valid c.path = true := by simpa using h2
  rw [if_pos hk] at h ⊢
  unfold create at h ⊢
  by_cases h4 : (place T c).1 ≠ 0
  · rw [if_pos h4] at h; exact absurd h h4
  rw [if_neg h4]
  obtain ⟨_, _, u, hu, _, hpp, hpo, _, hnone, _, hpl, hnum⟩ := place_ok hv (by simpa using h4)
  rw [hq] at hu
  obtain rfl := Option.some.inj hu
  refine ⟨?_, hnum hs, ?_⟩
  · show (place T c).2 = _
    rw [hpl, if_pos hs]
  · have hu2 : get (put T (made (place T c).2 c.data zx se c.eph)) (parent (place T c).2) = some q := by
      rw [get_put, if_neg (show ¬ parent (place T c).2 = (made (place T c).2 c.data zx se c.eph).path from parent_ne hpo), hpp]; exact hq
    show ∃ q', get (put _ (touched ((get _ (parent (place T c).2)).getD nd0) zx true)) (parent c.path) = some q' ∧ _
    rw [hu2, get_put, if_pos (by rw [← hpp]; exact (get_some hu2).2.symm)]
    refine ⟨_, rfl, ?_⟩
    show q.nx < up q.nx
    unfold up
    have := (numOk_iff.1 (hnum hs)).2.2.1
    rw [if_neg (by unfold mx; omega)]
    omega

end Go.Proofs.Zt
