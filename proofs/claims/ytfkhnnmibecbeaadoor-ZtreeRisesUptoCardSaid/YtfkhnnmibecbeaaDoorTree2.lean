/-
  Plain mathematics of trees of znodes: what a change does, and what stays true of a tree. No program in it; no condition.
-/
import Derived.Test.YtfkhnnmibecbeaaDoorTree1
namespace Go.Proofs.Zt
open Go.Proofs.Zn

def mx : Int := 4611686018427387904
def inr (n : Int) : Bool := decide (0 ≤ n) && decide (n ≤ mx)
def up (n : Int) : Int := if n = mx then n else n + 1
theorem inr_iff {n : Int} : inr n = true ↔ 0 ≤ n ∧ n ≤ mx := by simp [inr]
theorem inr_zero : inr 0 = true := by decide
theorem inr_up {n : Int} (h : inr n = true) : inr (up n) = true := by
  rw [inr_iff] at *
  unfold up
  split
  · exact h
  · omega
/-- A step: the tree, the path, the events, the error. -/
structure Stp where
  T : Tr
  path : Txt
  evs : List Evt
  e : Int
def fails (e : Int) : Stp := ⟨[], [], [], e⟩
def touched (z : Nd) (zx : Int) (made : Bool) : Nd := { z with kd := zx, ks := up z.ks, nx := if made then up z.nx else z.nx }
def kidS (T : Tr) (p : Txt) (ev : List Evt) (zx : Int) (made : Bool) : Stp :=
  ⟨put T (touched ((get T (parent p)).getD nd0) zx made), p, ev ++ [⟨0, 4, parent p⟩], 0⟩
def made (p d : Txt) (zx se : Int) (eph : Bool) : Nd := ⟨p, d, zx, zx, zx, 0, 0, if eph then se else 0, 0⟩
/-- Where a Create makes a znode, or why not. -/
def place (T : Tr) (c : Chg) : Int × Txt :=
  if 1024 < c.data.length then (87, []) else
  if c.path = [47] then (81, []) else
  match get T (parent c.path) with
  | none => (83, [])
  | some p =>
    if p.own ≠ 0 then (85, []) else
    if c.sq && !numOk c.path p.nx then (70, []) else
    if (get T (if c.sq then number c.path p.nx else c.path)).isSome then (81, []) else
    if 200 ≤ T.length then (86, []) else (0, if c.sq then number c.path p.nx else c.path)
def create (T : Tr) (zx se : Int) (c : Chg) : Stp :=
  if (place T c).1 ≠ 0 then fails (place T c).1 else
  kidS (put T (made (place T c).2 c.data zx se c.eph)) (place T c).2 [⟨0, 1, (place T c).2⟩] zx true
def remove (T : Tr) (zx : Int) (p : Txt) : Stp := kidS (wout T p) p [⟨0, 2, p⟩] zx false
/-- What is amiss with a change but a Create of a path. -/
def amissV (T : Tr) (c : Chg) : Int :=
  match get T c.path with
  | none => 80
  | some z => if c.kind = 2 ∧ c.path = [47] then 1 else if c.ver ≠ -1 ∧ c.ver ≠ z.ver then 82 else 0
def setd (z : Nd) (d : Txt) (zx : Int) : Nd := { z with data := d, ch := zx, ver := up z.ver }
def one (T : Tr) (zx se : Int) (c : Chg) : Stp :=
  if c.kind < 1 ∨ 4 < c.kind then fails 1 else
  if valid c.path = false then fails 70 else
  if c.kind = 1 then create T zx se c else
  if c.kind = 3 ∧ 1024 < c.data.length then fails 87 else
  if amissV T c ≠ 0 then fails (amissV T c) else
  if c.kind = 2 then (if kids T c.path ≠ [] then fails 84 else remove T zx c.path) else
  if c.kind = 4 then ⟨T, c.path, [], 0⟩ else
  ⟨put T (setd ((get T c.path).getD nd0) c.data zx), c.path, [⟨0, 3, c.path⟩], 0⟩
/-- What a Do answers: the tree, the paths, the events, the error. -/
structure Ans where
  T : Tr
  ps : List Txt
  es : List Evt
  e : Int
def doGo (T0 : Tr) (zx se : Int) : Tr → List Txt → List Evt → List Chg → Ans
  | now, ps, es, [] => ⟨now, ps, es, 0⟩
  | now, ps, es, c :: r => if (one now zx se c).e ≠ 0 then ⟨T0, [], [], (one now zx se c).e⟩ else doGo T0 zx se (one now zx se c).T (ps ++ [(one now zx se c).path]) (es ++ (one now zx se c).evs) r
def doL (T : Tr) (zx se : Int) (l : List Chg) : Ans := if inr zx = false ∨ inr se = false then ⟨T, [], [], 1⟩ else doGo T zx se T [] [] l
def endGo (zx : Int) : Tr → List Evt → List Txt → Tr × List Evt
  | T, es, [] => (T, es)
  | T, es, p :: r => endGo zx (remove T zx p).T (es ++ (remove T zx p).evs) r
def endL (T : Tr) (zx se : Int) : Tr × List Evt := if inr zx = false ∨ inr se = false then (T, []) else endGo zx T [] (owned T se)

/-! ### What stays true -/
structure NdOk (z : Nd) : Prop where
  path : valid z.path = true
  data : z.data.length ≤ 1024
  cr : inr z.cr = true
  ch : inr z.ch = true
  kd : inr z.kd = true
  ver : inr z.ver = true
  ks : inr z.ks = true
  own : inr z.own = true
  nx : inr z.nx = true
structure Good (T : Tr) : Prop where
  srt : Srt T
  root : ∃ r, get T [47] = some r ∧ r.own = 0
  len : T.length ≤ 200
  each : ∀ z ∈ T, NdOk z
  par : ∀ z ∈ T, parentOk z.path = true → ∃ p, get T (parent z.path) = some p ∧ p.own = 0
def new : Tr := [⟨[47], [], 0, 0, 0, 0, 0, 0, 0⟩]
theorem valid_root : valid [47] = true := by decide
theorem parentOk_root : parentOk [47] = false := by decide
theorem new_good : Good new := by
  refine ⟨List.pairwise_singleton _ _, ⟨_, rfl, rfl⟩, by decide, ?_, ?_⟩
  · intro z hz
    simp only [new, List.mem_singleton] at hz
    subst hz
    exact ⟨valid_root, by decide, inr_zero, inr_zero, inr_zero, inr_zero, inr_zero, inr_zero, inr_zero⟩
  · intro z hz
    simp only [new, List.mem_singleton] at hz
    subst hz
    intro h
    rw [parentOk_root] at h
    cases h
theorem valid_parent {p : Txt} (h : valid p = true) (h1 : p ≠ [47]) : parentOk p = true := by
  obtain ⟨ps, hp⟩ := valid_some h
  unfold parentOk
  rw [hp]
  cases ps with
  | nil => exact absurd ((names_join hp).1.symm.trans rfl) h1
  | cons _ _ => rfl
theorem parentOk_ne {p : Txt} (h : parentOk p = true) : p ≠ [47] := fun e => by rw [e, parentOk_root] at h; cases h
theorem parentOk_valid {p : Txt} (h : parentOk p = true) : valid p = true := by
  obtain ⟨ps, b, h1, _⟩ := parent_names h
  unfold valid; rw [h1]; rfl
theorem parent_valid {p : Txt} (h : parentOk p = true) : valid (parent p) = true := by
  obtain ⟨ps, b, _, h2, _⟩ := parent_names h
  unfold valid; rw [h2]; rfl
theorem parent_lt {p : Txt} (h : parentOk p = true) : parent p < p := by
  obtain ⟨ps, b, h1, h2, h3, h4, h5, h6⟩ := parent_names h
  have hb : nameB b = true := ((ok_iff _).1 h6).1 b (by simp)
  have hpos := (name_pos hb).1
  have hne : ∀ x : Txt, x ≠ [] → ∀ a : Txt, a < a ++ x := by
    intro x hx a
    induction a with
    | nil => cases x with
      | nil => exact absurd rfl hx
      | cons c t => exact List.nil_lt_cons c t
    | cons c t ih => exact List.cons_lt_cons_iff.2 (.inr ⟨rfl, ih⟩)
  rw [h3, ← h5]
  have e : joinP (ps ++ [b]) = flat ps ++ (47 :: b) := by
    unfold joinP
    rw [if_neg (by simp), flat_append]
    simp [flat]
  rw [e]
  unfold joinP
  split
  · rename_i e0
    subst e0
    cases b with
    | nil => simp at hpos
    | cons c t => exact hne (c :: t) (by simp) [47]
  · exact hne _ (by simp) _
theorem parent_ne {p : Txt} (h : parentOk p = true) : parent p ≠ p := lt_ne (parent_lt h)
theorem numOk_valid {l : Txt} {n : Int} (h : numOk l n = true) : valid (number l n) = true := by
  have := (numOk_iff.1 h).2.2.2
  unfold number
  rw [if_pos h]; exact this
theorem ten_free (n : Nat) : 47 ∉ ten n := fun h => by
  have := tenK_dig 10 n 47 h
  have e : (47 : UInt8).toNat = 47 := rfl
  omega
theorem number_parent {l : Txt} {n : Int} (h : numOk l n = true) : parentOk (number l n) = true ∧ parent (number l n) = parent l := by
  obtain ⟨hd, _, _, hn⟩ := numOk_iff.1 h
  have hp : parentOk l = true := by rw [parentOk_depth]; simp; omega
  obtain ⟨ps, b, h1, h2, h3, h4, h5, h6⟩ := parent_names hp
  have hok := (ok_iff _).1 h6
  have hb : nameB b = true := hok.1 b (by simp)
  have e : l ++ ten n.toNat = joinP (ps ++ [b ++ ten n.toNat]) := by
    rw [← h5]
    unfold joinP
    rw [if_neg (by simp), if_neg (by simp), flat_append, flat_append]
    simp [flat, List.append_assoc]
  have hn' : ∃ qs, names (joinP (ps ++ [b ++ ten n.toNat])) = some qs := by rw [← e]; exact valid_some hn
  obtain ⟨qs, hq⟩ := hn'
  obtain ⟨hj, hokq⟩ := names_join hq
  have hfree : ∀ q ∈ ps ++ [b ++ ten n.toNat], 47 ∉ q := by
    intro q hqm
    rcases List.mem_append.1 hqm with hm | hm
    · exact name_free (hok.1 q (by simp [hm]))
    · simp only [List.mem_singleton] at hm
      rw [hm]
      intro hm
      rcases List.mem_append.1 hm with hm | hm
      · exact name_free hb hm
      · exact ten_free _ hm
  have hqs : qs = ps ++ [b ++ ten n.toNat] := by
    have hne : joinP (ps ++ [b ++ ten n.toNat]) ≠ [47] := fun e' => by
      rw [e'] at hq
      have := names_root hq
      subst this
      have hl := congrArg List.length e'
      rw [← e] at hl
      rw [List.length_append] at hl
      have : (ten n.toNat).length = 10 := tenK_length 10 _
      simp at hl
      omega
    obtain ⟨ht, hs⟩ := names_tail hq hne
    rw [hs]
    have e2 : (joinP (ps ++ [b ++ ten n.toNat])).tail = (ps ++ [b ++ ten n.toNat]).head (by simp) ++ flat (ps ++ [b ++ ten n.toNat]).tail := by
      unfold joinP
      rw [if_neg (by simp)]
      cases ps with
      | nil => simp [flat]
      | cons p r => simp [flat]
    rw [e2]
    have := split_flat ((ps ++ [b ++ ten n.toNat]).head (by simp)) (ps ++ [b ++ ten n.toNat]).tail (by rw [List.cons_head_tail]; exact hfree)
    rw [this, List.cons_head_tail]
  subst hqs
  unfold number
  rw [if_pos h, e]
  refine ⟨?_, ?_⟩
  · unfold parentOk; rw [hq]; simp
  · unfold parent
    rw [hq, h1]
    simp
theorem get_not_nil {T : Tr} (hg : Good T) {p : Txt} {z : Nd} (h : get T p = some z) : p ≠ [] := fun e => by
  obtain ⟨h1, h2⟩ := get_some h
  have := (hg.each z h1).path
  rw [h2, e] at this
  cases this
/-- Putting in the place of a znode one of its path, its owner and good. -/
theorem put_old {T : Tr} (hg : Good T) {x z : Nd} (hx : get T z.path = some x) (ho : z.own = x.own) (hz : NdOk z) : Good (put T z) := by
  have hxp := get_some hx
  have hget : ∀ p y, get T p = some y → ∃ y', get (put T z) p = some y' ∧ y'.own = y.own := fun p y hy => by
    rw [get_put]
    split
    · rename_i e
      subst e
      rw [hx] at hy
      obtain rfl := Option.some.inj hy
      exact ⟨z, rfl, ho⟩
    · exact ⟨y, hy, rfl⟩
  refine ⟨put_srt hg.srt z, ?_, by rw [put_len_old hg.srt hx]; exact hg.len, ?_, ?_⟩
  · obtain ⟨r, h1, h2⟩ := hg.root
    obtain ⟨y', h3, h4⟩ := hget _ _ h1
    exact ⟨y', h3, h4.trans h2⟩
  · intro y hy
    rcases (mem_put T z y).1 hy with rfl | ⟨hy, _⟩
    · exact hz
    · exact hg.each y hy
  · intro y hy hpo
    have : ∃ p, get T (parent y.path) = some p ∧ p.own = 0 := by
      rcases (mem_put T z y).1 hy with rfl | ⟨hy, _⟩
      · rw [← hxp.2]
        exact hg.par x hxp.1 (by rw [hxp.2]; exact hpo)
      · exact hg.par y hy hpo
    obtain ⟨p, h1, h2⟩ := this
    obtain ⟨y', h3, h4⟩ := hget _ _ h1
    exact ⟨y', h3, h4.trans h2⟩
theorem put_new {T : Tr} (hg : Good T) {z p : Nd} (hx : get T z.path = none) (hp : get T (parent z.path) = some p) (ho : p.own = 0) (hl : T.length < 200) (hz : NdOk z) : Good (put T z) := by
  have hget : ∀ q y, get T q = some y → get (put T z) q = some y := fun q y hy => by
    rw [get_put, if_neg (fun e => by rw [e, hx] at hy; cases hy)]; exact hy
  refine ⟨put_srt hg.srt z, ?_, by rw [put_len_new hx]; omega, ?_, ?_⟩
  · obtain ⟨r, h1, h2⟩ := hg.root
    exact ⟨r, hget _ _ h1, h2⟩
  · intro y hy
    rcases (mem_put T z y).1 hy with rfl | ⟨hy, _⟩
    · exact hz
    · exact hg.each y hy
  · intro y hy hpo
    rcases (mem_put T z y).1 hy with rfl | ⟨hy, _⟩
    · exact ⟨p, hget _ _ hp, ho⟩
    · obtain ⟨q, h1, h2⟩ := hg.par y hy hpo
      exact ⟨q, hget _ _ h1, h2⟩
theorem kids_nil {T : Tr} {p : Txt} (h : kids T p = []) : ∀ z ∈ T, parentOk z.path = true → parent z.path ≠ p := fun z hz hp e => by
  unfold kids at h
  rw [List.map_eq_nil_iff, List.filter_eq_nil_iff] at h
  have := h z hz
  simp [hp, e] at this
theorem kids_of {T : Tr} {p : Txt} (h : ∀ z ∈ T, parentOk z.path = true → parent z.path ≠ p) : kids T p = [] := by
  unfold kids
  rw [List.map_eq_nil_iff, List.filter_eq_nil_iff]
  intro z hz
  cases hp : parentOk z.path
  · simp
  · simp [h z hz hp]
theorem wout_good {T : Tr} (hg : Good T) {p : Txt} (hp : p ≠ [47]) (hk : kids T p = []) : Good (wout T p) := by
  refine ⟨wout_srt hg.srt p, ?_, Nat.le_trans (wout_len_le T p) hg.len, fun z hz => hg.each z ((mem_wout T p z).1 hz).1, ?_⟩
  · obtain ⟨r, h1, h2⟩ := hg.root
    exact ⟨r, by rw [get_wout, if_neg (fun e => hp e.symm)]; exact h1, h2⟩
  · intro y hy hpo
    have hy' := ((mem_wout T p y).1 hy).1
    obtain ⟨q, h1, h2⟩ := hg.par y hy' hpo
    exact ⟨q, by rw [get_wout, if_neg (kids_nil hk y hy' hpo)]; exact h1, h2⟩
theorem touched_ok {z : Nd} (h : NdOk z) {zx : Int} (hz : inr zx = true) (m : Bool) : NdOk (touched z zx m) := by
  refine ⟨h.path, h.data, h.cr, h.ch, hz, h.ver, inr_up h.ks, h.own, ?_⟩
  show inr (if m then up z.nx else z.nx) = true
  split
  · exact inr_up h.nx
  · exact h.nx
theorem kid_good {T : Tr} (hg : Good T) {p : Txt} {z : Nd} {ev : List Evt} {zx : Int} {m : Bool} (hz : get T (parent p) = some z) (hx : inr zx = true) : Good (kidS T p ev zx m).T := by
  show Good (put T (touched ((get T (parent p)).getD nd0) zx m))
  rw [hz]
  have h := get_some hz
  have hp : (touched z zx m).path = z.path := rfl
  exact put_old hg (x := z) (by show get T (touched z zx m).path = some z; rw [hp, h.2]; exact hz) rfl (touched_ok (hg.each z h.1) hx m)
/-- Where a Create's place is found. -/
theorem place_ok {T : Tr} {c : Chg} (hv : valid c.path = true) (h : (place T c).1 = 0) : c.data.length ≤ 1024 ∧ parentOk c.path = true ∧ ∃ p, get T (parent c.path) = some p ∧ p.own = 0 ∧ parent (place T c).2 = parent c.path ∧ parentOk (place T c).2 = true ∧ valid (place T c).2 = true ∧ get T (place T c).2 = none ∧ T.length < 200
    ∧ (place T c).2 = (if c.sq then number c.path p.nx else c.path) ∧ (c.sq = true → numOk c.path p.nx = true) := by
  unfold place at h ⊢
  by_cases h1 : 1024 < c.data.length
  · rw [if_pos h1] at h; cases h
  rw [if_neg h1] at h ⊢
  by_cases h2 : c.path = [47]
  · rw [if_pos h2] at h; cases h
  rw [if_neg h2] at h ⊢
  have hpo := valid_parent hv h2
  rcases h3 : get T (parent c.path) with _ | p
  · rw [h3] at h; cases h
  rw [h3] at h
  dsimp only at h ⊢
  by_cases h4 : p.own ≠ 0
  · rw [if_pos h4] at h; cases h
  rw [if_neg h4] at h ⊢
  by_cases h5 : (c.sq && !numOk c.path p.nx) = true
  · rw [if_pos h5] at h; cases h
  rw [if_neg h5] at h ⊢
  by_cases h6 : (get T (if c.sq then number c.path p.nx else c.path)).isSome = true
  · rw [if_pos h6] at h; cases h
  rw [if_neg h6] at h ⊢
  by_cases h7 : 200 ≤ T.length
  · rw [if_pos h7] at h; cases h
  rw [if_neg h7] at h ⊢
  have hnum : c.sq = true → numOk c.path p.nx = true := fun e => by
    rw [e] at h5; simpa using h5
  refine ⟨by omega, hpo, p, rfl, by simpa using h4, ?_, ?_, ?_, by simpa using h6, by omega, rfl, hnum⟩
  · dsimp only
    split
    · rename_i e; exact (number_parent (hnum e)).2
    · rfl
  · dsimp only
    split
    · rename_i e; exact (number_parent (hnum e)).1
    · exact hpo
  · dsimp only
    split
    · rename_i e; exact numOk_valid (hnum e)
    · exact hv
theorem made_ok {p d : Txt} {zx se : Int} {eph : Bool} (hp : valid p = true) (hd : d.length ≤ 1024) (hz : inr zx = true) (hs : inr se = true) : NdOk (made p d zx se eph) := by
  refine ⟨hp, hd, hz, hz, hz, inr_zero, inr_zero, ?_, inr_zero⟩
  show inr (if eph then se else 0) = true
  split
  · exact hs
  · exact inr_zero
theorem create_good {T : Tr} (hg : Good T) {zx se : Int} (hz : inr zx = true) (hs : inr se = true) {c : Chg} (hv : valid c.path = true) (h : (create T zx se c).e = 0) : Good (create T zx se c).T := by
  unfold create at h ⊢
  by_cases h1 : (place T c).1 ≠ 0
  · rw [if_pos h1] at h; exact absurd h h1
  rw [if_neg h1]
  obtain ⟨hd, _, p, hp, ho, hpp, hpo, hpv, hnone, hlen, _⟩ := place_ok hv (by simpa using h1)
  have hg2 := put_new hg (z := made (place T c).2 c.data zx se c.eph) hnone (by show get T (parent (place T c).2) = _; rw [hpp]; exact hp) ho hlen (made_ok hpv hd hz hs)
  refine kid_good hg2 (z := p) ?_ hz
  rw [get_put, hpp, if_neg]
  · exact hp
  · show ¬ parent c.path = (place T c).2
    rw [← hpp]
    exact parent_ne hpo
theorem remove_good {T : Tr} (hg : Good T) {zx : Int} (hz : inr zx = true) {p : Txt} {x : Nd} (hx : get T p = some x) (hp : p ≠ [47]) (hk : kids T p = []) : Good (remove T zx p).T := by
  have hx' := get_some hx
  have hpv := (hg.each x hx'.1).path
  rw [hx'.2] at hpv
  have hpo := valid_parent hpv hp
  obtain ⟨q, h1, _⟩ := hg.par x hx'.1 (by rw [hx'.2]; exact hpo)
  rw [hx'.2] at h1
  exact kid_good (wout_good hg hp hk) (z := q) (by rw [get_wout, if_neg (parent_ne hpo)]; exact h1) hz
theorem amiss_ok {T : Tr} {c : Chg} (h : amissV T c = 0) : ∃ z, get T c.path = some z ∧ ¬ (c.kind = 2 ∧ c.path = [47]) := by
  unfold amissV at h
  rcases hz : get T c.path with _ | z
  · rw [hz] at h; cases h
  · rw [hz] at h
    dsimp only at h
    split at h
    · cases h
    · rename_i h2; exact ⟨z, rfl, h2⟩
theorem set_ok {z : Nd} (h : NdOk z) {d : Txt} (hd : d.length ≤ 1024) {zx : Int} (hz : inr zx = true) : NdOk (setd z d zx) :=
  ⟨h.path, hd, h.cr, hz, h.kd, inr_up h.ver, h.ks, h.own, h.nx⟩
theorem one_good {T : Tr} (hg : Good T) {zx se : Int} (hz : inr zx = true) (hs : inr se = true) {c : Chg} (h : (one T zx se c).e = 0) : Good (one T zx se c).T := by
  unfold one at h ⊢
  by_cases h1 : c.kind < 1 ∨ 4 < c.kind
  · rw [if_pos h1] at h; cases h
  rw [if_neg h1] at h ⊢
  by_cases h2 : valid c.path = false
  · rw [if_pos h2] at h; cases h
  rw [if_neg h2] at h ⊢
  have hv : valid c.path = true := by simpa using h2
  by_cases h3 : c.kind = 1
  · rw [if_pos h3] at h ⊢; exact create_good hg hz hs hv h
  rw [if_neg h3] at h ⊢
  by_cases h4 : c.kind = 3 ∧ 1024 < c.data.length
  · rw [if_pos h4] at h; cases h
  rw [if_neg h4] at h ⊢
  by_cases h5 : amissV T c ≠ 0
  · rw [if_pos h5] at h; exact absurd h h5
  rw [if_neg h5] at h ⊢
  obtain ⟨z, hz1, hz2⟩ := amiss_ok (by simpa using h5)
  by_cases h6 : c.kind = 2
  · rw [if_pos h6] at h ⊢
    by_cases h7 : kids T c.path ≠ []
    · rw [if_pos h7] at h; cases h
    rw [if_neg h7]
    exact remove_good hg hz hz1 (fun e => hz2 ⟨h6, e⟩) (by simpa using h7)
  rw [if_neg h6] at h ⊢
  by_cases h8 : c.kind = 4
  · rw [if_pos h8]; exact hg
  rw [if_neg h8]
  show Good (put T (setd ((get T c.path).getD nd0) c.data zx))
  rw [hz1]
  have hx := get_some hz1
  exact put_old hg (x := z) (by show get T z.path = some z; rw [hx.2]; exact hz1) rfl (set_ok (hg.each z hx.1) (by omega) hz)
theorem doGo_good {T0 : Tr} (h0 : Good T0) {zx se : Int} (hz : inr zx = true) (hs : inr se = true) (l : List Chg) : ∀ {T : Tr} (ps : List Txt) (es : List Evt), Good T → Good (doGo T0 zx se T ps es l).T := by
  induction l with
  | nil => intro T ps es hg; exact hg
  | cons c r ih =>
    intro T ps es hg
    unfold doGo
    by_cases h : (one T zx se c).e ≠ 0
    · rw [if_pos h]; exact h0
    · rw [if_neg h]; exact ih _ _ (one_good hg hz hs (by simpa using h))
theorem doL_good {T : Tr} (hg : Good T) (zx se : Int) (l : List Chg) : Good (doL T zx se l).T := by
  unfold doL
  by_cases h : inr zx = false ∨ inr se = false
  · rw [if_pos h]; exact hg
  · rw [if_neg h]
    have h1 : inr zx = true := by cases e : inr zx <;> simp_all
    have h2 : inr se = true := by cases e : inr se <;> simp_all
    exact doGo_good hg h1 h2 l _ _ hg
end Go.Proofs.Zt
