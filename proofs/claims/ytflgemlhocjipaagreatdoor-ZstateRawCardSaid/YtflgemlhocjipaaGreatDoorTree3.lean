/-
  Plain mathematics of trees of znodes: a tree as a list by rising paths; what is put, taken out, found. No program in it; no condition.
  Plain mathematics of trees of znodes: what a change does, and what stays true of a tree. No program in it; no condition.
  Plain mathematics of trees of znodes: a session's end; numbers that rise; a list that is a tree. No program in it; no condition.
  Plain mathematics of trees of znodes: a list that is a tree. No program in it; no condition.
  Plain mathematics of trees of znodes: one change alone; numbers that rise under one parent. No program in it; no condition.
  Plain mathematics of trees of znodes: steps of a script; changes that are done one by one; what is there when a session has ended; a list that is loaded. No program in it; no condition.
  A tree of znodes as a map has it: its keys, its entries; what was collected, sorted. No program in it; no condition.
-/
import Derived.Test.YtflgemlhocjipaaGreatDoorMath3
import Derived.Maps.OwnSet
import Derived.Maps.Views
import Derived.Sort.KeysCollected
namespace Go.Proofs.Zt
open Go.Proofs.Zn

/-- A znode. -/
structure Nd where
  path : Txt
  data : Txt
  cr : Int
  ch : Int
  kd : Int
  ver : Int
  ks : Int
  own : Int
  nx : Int
def nd0 : Nd := ⟨[], [], 0, 0, 0, 0, 0, 0, 0⟩
structure Evt where
  s : Int
  k : Int
  p : Txt
structure Chg where
  kind : Int
  path : Txt
  data : Txt
  ver : Int
  eph : Bool
  sq : Bool
abbrev Tr := List Nd
def get (T : Tr) (p : Txt) : Option Nd := T.find? (fun z => z.path == p)
def put : Tr → Nd → Tr
  | [], z => [z]
  | y :: r, z => if y.path < z.path then y :: put r z else z :: (y :: r).filter (fun x => !(x.path == z.path))
def wout (T : Tr) (p : Txt) : Tr := T.filter (fun x => !(x.path == p))
def kids (T : Tr) (p : Txt) : List Txt := (T.filter (fun z => parentOk z.path && (parent z.path == p))).map (fun z => base z.path)
def owned (T : Tr) (s : Int) : List Txt := (T.filter (fun z => decide (s ≠ 0) && decide (z.own = s))).map (·.path)
def Srt (T : Tr) : Prop := T.Pairwise (fun a b => a.path < b.path)

theorem lt_irr (a : Txt) : ¬ a < a := List.lt_irrefl a
theorem lt_tr {a b c : Txt} (h1 : a < b) (h2 : b < c) : a < c := List.lt_trans h1 h2
theorem lt_ne {a b : Txt} (h : a < b) : a ≠ b := fun e => lt_irr b (e ▸ h)
theorem lt_or (a b : Txt) : a < b ∨ a = b ∨ b < a := by
  by_cases h1 : a < b
  · exact .inl h1
  · by_cases h2 : b < a
    · exact .inr (.inr h2)
    · exact .inr (.inl (List.le_antisymm (by simpa using h2) (by simpa using h1)))
theorem not_lt_of {a b : Txt} (h : b < a) : ¬ a < b := fun h' => lt_irr _ (lt_tr h h')
theorem ge_of {a b : Txt} (h : ¬ a < b) : a = b ∨ b < a := by rcases lt_or a b with h' | h' | h' <;> simp_all

theorem get_nil (p : Txt) : get [] p = none := rfl
theorem get_cons_hit {y : Nd} {r : Tr} {p : Txt} (h : y.path = p) : get (y :: r) p = some y := by simp [get, h]
theorem get_cons_miss {y : Nd} {r : Tr} {p : Txt} (h : y.path ≠ p) : get (y :: r) p = get r p := by simp [get, h]
theorem get_some {T : Tr} {p : Txt} {z : Nd} (h : get T p = some z) : z ∈ T ∧ z.path = p := by
  refine ⟨List.mem_of_find?_eq_some h, ?_⟩
  have := List.find?_some h
  simpa using this
theorem get_none {T : Tr} {p : Txt} : get T p = none ↔ ∀ z ∈ T, z.path ≠ p := by
  unfold get; rw [List.find?_eq_none]; simp
theorem get_mem {T : Tr} (hs : Srt T) {z : Nd} (h : z ∈ T) : get T z.path = some z := by
  induction T with
  | nil => cases h
  | cons y r ih =>
    obtain ⟨h1, h2⟩ := List.pairwise_cons.1 hs
    rcases List.mem_cons.1 h with rfl | h'
    · exact get_cons_hit rfl
    · rw [get_cons_miss (lt_ne (h1 z h')), ih h2 h']
theorem mem_put (T : Tr) (z x : Nd) : x ∈ put T z ↔ x = z ∨ (x ∈ T ∧ x.path ≠ z.path) := by
  induction T with
  | nil => simp [put]
  | cons y r ih =>
    unfold put
    split
    · rename_i h
      rw [List.mem_cons, ih, List.mem_cons]
      have := lt_ne h
      constructor
      · rintro (rfl | rfl | ⟨h1, h2⟩)
        · exact .inr ⟨.inl rfl, this⟩
        · exact .inl rfl
        · exact .inr ⟨.inr h1, h2⟩
      · rintro (rfl | ⟨rfl | h1, h2⟩)
        · exact .inr (.inl rfl)
        · exact .inl rfl
        · exact .inr (.inr ⟨h1, h2⟩)
    · rw [List.mem_cons, List.mem_filter]; simp
theorem put_srt {T : Tr} (hs : Srt T) (z : Nd) : Srt (put T z) := by
  induction T with
  | nil => exact List.pairwise_singleton _ _
  | cons y r ih =>
    obtain ⟨h1, h2⟩ := List.pairwise_cons.1 hs
    unfold put
    split
    · rename_i h
      refine List.pairwise_cons.2 ⟨fun x hx => ?_, ih h2⟩
      rcases (mem_put r z x).1 hx with rfl | ⟨hx, _⟩
      · exact h
      · exact h1 x hx
    · rename_i h
      refine List.pairwise_cons.2 ⟨fun x hx => ?_, hs.sublist List.filter_sublist⟩
      obtain ⟨hx, hne⟩ := List.mem_filter.1 hx
      have hne : x.path ≠ z.path := by simpa using hne
      have : z.path ≤ y.path := by simpa using h
      rcases List.mem_cons.1 hx with rfl | hx
      · rcases ge_of h with e | e
        · exact absurd e hne
        · exact e
      · rcases ge_of h with e | e
        · rw [← e]; exact h1 x hx
        · exact lt_tr e (h1 x hx)
theorem get_put (T : Tr) (z : Nd) (p : Txt) : get (put T z) p = if p = z.path then some z else get T p := by
  induction T with
  | nil =>
    unfold put
    split
    · rename_i e; exact get_cons_hit e.symm
    · rename_i e; rw [get_cons_miss (fun e' => e e'.symm)]
  | cons y r ih =>
    unfold put
    split
    · rename_i h
      have hne := lt_ne h
      by_cases hy : y.path = p
      · rw [get_cons_hit hy, if_neg (fun e => hne (hy.trans e)), get_cons_hit hy]
      · rw [get_cons_miss hy, ih, get_cons_miss hy]
    · split
      · rename_i e; rw [get_cons_hit e.symm]
      · rename_i e
        rw [get_cons_miss (fun e' => e e'.symm)]
        show List.find? _ _ = List.find? _ _
        rw [List.find?_filter]
        congr 1
        funext x
        by_cases hx : x.path = p
        · have : ¬ x.path = z.path := fun e' => e (hx.symm.trans e')
          simp [hx, e]
        · simp [hx]
theorem get_wout (T : Tr) (q p : Txt) : get (wout T q) p = if p = q then none else get T p := by
  unfold wout get
  rw [List.find?_filter]
  split
  · rename_i e
    rw [List.find?_eq_none]
    intro x _
    simp only [e]
    by_cases hx : x.path = q <;> simp [hx]
  · rename_i e
    congr 1
    funext x
    by_cases hx : x.path = p
    · simp [hx, e]
    · simp [hx]
theorem wout_srt {T : Tr} (hs : Srt T) (p : Txt) : Srt (wout T p) := hs.sublist List.filter_sublist
theorem mem_wout (T : Tr) (p : Txt) (x : Nd) : x ∈ wout T p ↔ x ∈ T ∧ x.path ≠ p := by
  unfold wout; rw [List.mem_filter]; simp
theorem put_len_new {T : Tr} {z : Nd} (h : get T z.path = none) : (put T z).length = T.length + 1 := by
  induction T with
  | nil => rfl
  | cons y r ih =>
    have hn := get_none.1 h
    unfold put
    split
    · rw [List.length_cons, List.length_cons, ih (get_none.2 fun x hx => hn x (List.mem_cons_of_mem _ hx))]
    · rw [List.length_cons, List.filter_eq_self.2]
      intro x hx
      simpa using hn x hx
theorem put_len_old {T : Tr} (hs : Srt T) {z x : Nd} (h : get T z.path = some x) : (put T z).length = T.length := by
  induction T with
  | nil => cases h
  | cons y r ih =>
    obtain ⟨h1, h2⟩ := List.pairwise_cons.1 hs
    unfold put
    split
    · rename_i hlt
      rw [List.length_cons, List.length_cons]
      rw [get_cons_miss (lt_ne hlt)] at h
      rw [ih h2 h]
    · rename_i hlt
      rcases ge_of hlt with e | e
      · have e' : (y :: r).filter (fun x => !(x.path == z.path)) = r := by
          rw [List.filter_cons_of_neg (by simp [e]), List.filter_eq_self.2]
          intro x hx
          have := lt_ne (h1 x hx)
          simp
          rw [← e]
          exact fun h => this h.symm
        rw [e']; rfl
      · exfalso
        have := get_some h
        rcases List.mem_cons.1 this.1 with rfl | hx
        · exact lt_ne e this.2.symm
        · have hl := h1 _ hx
          rw [this.2] at hl
          exact lt_irr _ (lt_tr e hl)
theorem wout_len_le (T : Tr) (p : Txt) : (wout T p).length ≤ T.length := List.length_filter_le _ _
/-- Two trees by rising paths with the same znodes are one. -/
theorem srt_ext {S T : Tr} (h1 : Srt S) (h2 : Srt T) (h : ∀ p, get S p = get T p) : S = T := by
  induction S generalizing T with
  | nil =>
    cases T with
    | nil => rfl
    | cons y r => have := h y.path; rw [get_cons_hit rfl] at this; cases this
  | cons x s ih =>
    cases T with
    | nil => have := h x.path; rw [get_cons_hit rfl] at this; cases this
    | cons y r =>
      obtain ⟨a1, a2⟩ := List.pairwise_cons.1 h1
      obtain ⟨b1, b2⟩ := List.pairwise_cons.1 h2
      have hx := h x.path
      have hy := h y.path
      rw [get_cons_hit rfl] at hx hy
      have hxm := (get_some hx.symm).1
      have hym := (get_some hy).1
      have e : x = y := by
        rcases List.mem_cons.1 hxm with e | hm
        · exact e
        · rcases List.mem_cons.1 hym with e | hm'
          · exact e.symm
          · exact absurd (lt_tr (b1 x hm) (a1 y hm')) (lt_irr _)
      subst e
      rw [ih a2 b2 (fun p => ?_)]
      by_cases hp : x.path = p
      · have n1 : get s p = none := get_none.2 fun z hz => by have := lt_ne (a1 z hz); rw [hp] at this; exact fun e => this e.symm
        have n2 : get r p = none := get_none.2 fun z hz => by have := lt_ne (b1 z hz); rw [hp] at this; exact fun e => this e.symm
        rw [n1, n2]
      · have := h p
        rwa [get_cons_miss hp, get_cons_miss hp] at this
end Go.Proofs.Zt
namespace Go.Proofs.Zt
open Go.Proofs.Zn

def mx : Int := 4611686018427387904
def inr (n : Int) : Bool := decide (0 ≤ n) && decide (n ≤ mx)
def up (n : Int) : Int := if n = mx then n else n + 1
theorem inr_iff {n : Int} : inr n = true ↔ 0 ≤ n ∧ n ≤ mx := by simp [inr]
theorem inr_zero : inr 0 = true := by decide
theorem inr_up {n : Int} (h : inr n = true) : inr (up n) = true := by
  rw [inr_iff] at *
  unfold up
  split
  · exact h
  · omega
/-- A step: the tree, the path, the events, the error. -/
structure Stp where
  T : Tr
  path : Txt
  evs : List Evt
  e : Int
def fails (e : Int) : Stp := ⟨[], [], [], e⟩
def touched (z : Nd) (zx : Int) (made : Bool) : Nd := { z with kd := zx, ks := up z.ks, nx := if made then up z.nx else z.nx }
def kidS (T : Tr) (p : Txt) (ev : List Evt) (zx : Int) (made : Bool) : Stp :=
  ⟨put T (touched ((get T (parent p)).getD nd0) zx made), p, ev ++ [⟨0, 4, parent p⟩], 0⟩
def made (p d : Txt) (zx se : Int) (eph : Bool) : Nd := ⟨p, d, zx, zx, zx, 0, 0, if eph then se else 0, 0⟩
/-- Where a Create makes a znode, or why not. -/
def place (T : Tr) (c : Chg) : Int × Txt :=
  if 1024 < c.data.length then (87, []) else
  if c.path = [47] then (81, []) else
  match get T (parent c.path) with
  | none => (83, [])
  | some p =>
    if p.own ≠ 0 then (85, []) else
    if c.sq && !numOk c.path p.nx then (70, []) else
    if (get T (if c.sq then number c.path p.nx else c.path)).isSome then (81, []) else
    if 200 ≤ T.length then (86, []) else (0, if c.sq then number c.path p.nx else c.path)
def create (T : Tr) (zx se : Int) (c : Chg) : Stp :=
  if (place T c).1 ≠ 0 then fails (place T c).1 else
  kidS (put T (made (place T c).2 c.data zx se c.eph)) (place T c).2 [⟨0, 1, (place T c).2⟩] zx true
def remove (T : Tr) (zx : Int) (p : Txt) : Stp := kidS (wout T p) p [⟨0, 2, p⟩] zx false
/-- What is amiss with a change but a Create of a path. -/
def amissV (T : Tr) (c : Chg) : Int :=
  match get T c.path with
  | none => 80
  | some z => if c.kind = 2 ∧ c.path = [47] then 1 else if c.ver ≠ -1 ∧ c.ver ≠ z.ver then 82 else 0
def setd (z : Nd) (d : Txt) (zx : Int) : Nd := { z with data := d, ch := zx, ver := up z.ver }
def one (T : Tr) (zx se : Int) (c : Chg) : Stp :=
  if c.kind < 1 ∨ 4 < c.kind then fails 1 else
  if valid c.path = false then fails 70 else
  if c.kind = 1 then create T zx se c else
  if c.kind = 3 ∧ 1024 < c.data.length then fails 87 else
  if amissV T c ≠ 0 then fails (amissV T c) else
  if c.kind = 2 then (if kids T c.path ≠ [] then fails 84 else remove T zx c.path) else
  if c.kind = 4 then ⟨T, c.path, [], 0⟩ else
  ⟨put T (setd ((get T c.path).getD nd0) c.data zx), c.path, [⟨0, 3, c.path⟩], 0⟩
/-- What a Do answers: the tree, the paths, the events, the error. -/
structure Ans where
  T : Tr
  ps : List Txt
  es : List Evt
  e : Int
def doGo (T0 : Tr) (zx se : Int) : Tr → List Txt → List Evt → List Chg → Ans
  | now, ps, es, [] => ⟨now, ps, es, 0⟩
  | now, ps, es, c :: r => if (one now zx se c).e ≠ 0 then ⟨T0, [], [], (one now zx se c).e⟩ else doGo T0 zx se (one now zx se c).T (ps ++ [(one now zx se c).path]) (es ++ (one now zx se c).evs) r
def doL (T : Tr) (zx se : Int) (l : List Chg) : Ans := if inr zx = false ∨ inr se = false then ⟨T, [], [], 1⟩ else doGo T zx se T [] [] l
def endGo (zx : Int) : Tr → List Evt → List Txt → Tr × List Evt
  | T, es, [] => (T, es)
  | T, es, p :: r => endGo zx (remove T zx p).T (es ++ (remove T zx p).evs) r
def endL (T : Tr) (zx se : Int) : Tr × List Evt := if inr zx = false ∨ inr se = false then (T, []) else endGo zx T [] (owned T se)

/-! ### What stays true -/
structure NdOk (z : Nd) : Prop where
  path : valid z.path = true
  data : z.data.length ≤ 1024
  cr : inr z.cr = true
  ch : inr z.ch = true
  kd : inr z.kd = true
  ver : inr z.ver = true
  ks : inr z.ks = true
  own : inr z.own = true
  nx : inr z.nx = true
structure Good (T : Tr) : Prop where
  srt : Srt T
  root : ∃ r, get T [47] = some r ∧ r.own = 0
  len : T.length ≤ 200
  each : ∀ z ∈ T, NdOk z
  par : ∀ z ∈ T, parentOk z.path = true → ∃ p, get T (parent z.path) = some p ∧ p.own = 0
def new : Tr := [⟨[47], [], 0, 0, 0, 0, 0, 0, 0⟩]
theorem valid_root : valid [47] = true := by decide
theorem parentOk_root : parentOk [47] = false := by decide
theorem new_good : Good new := by
  refine ⟨List.pairwise_singleton _ _, ⟨_, rfl, rfl⟩, by decide, ?_, ?_⟩
  · intro z hz
    simp only [new, List.mem_singleton] at hz
    subst hz
    exact ⟨valid_root, by decide, inr_zero, inr_zero, inr_zero, inr_zero, inr_zero, inr_zero, inr_zero⟩
  · intro z hz
    simp only [new, List.mem_singleton] at hz
    subst hz
    intro h
    rw [parentOk_root] at h
    cases h
theorem valid_parent {p : Txt} (h : valid p = true) (h1 : p ≠ [47]) : parentOk p = true := by
  obtain ⟨ps, hp⟩ := valid_some h
  unfold parentOk
  rw [hp]
  cases ps with
  | nil => exact absurd ((names_join hp).1.symm.trans rfl) h1
  | cons _ _ => rfl
theorem parentOk_ne {p : Txt} (h : parentOk p = true) : p ≠ [47] := fun e => by rw [e, parentOk_root] at h; cases h
theorem parent_valid {p : Txt} (h : parentOk p = true) : valid (parent p) = true := by
  obtain ⟨ps, b, _, h2, _⟩ := parent_names h
  unfold valid; rw [h2]; rfl
theorem parent_lt {p : Txt} (h : parentOk p = true) : parent p < p := by
  obtain ⟨ps, b, h1, h2, h3, h4, h5, h6⟩ := parent_names h
  have hb : nameB b = true := ((ok_iff _).1 h6).1 b (by simp)
  have hpos := (name_pos hb).1
  have hne : ∀ x : Txt, x ≠ [] → ∀ a : Txt, a < a ++ x := by
    intro x hx a
    induction a with
    | nil => cases x with
      | nil => exact absurd rfl hx
      | cons c t => exact List.nil_lt_cons c t
    | cons c t ih => exact List.cons_lt_cons_iff.2 (.inr ⟨rfl, ih⟩)
  rw [h3, ← h5]
  have e : joinP (ps ++ [b]) = flat ps ++ (47 :: b) := by
    unfold joinP
    rw [if_neg (by simp), flat_append]
    simp [flat]
  rw [e]
  unfold joinP
  split
  · rename_i e0
    subst e0
    cases b with
    | nil => simp at hpos
    | cons c t => exact hne (c :: t) (by simp) [47]
  · exact hne _ (by simp) _
theorem parent_ne {p : Txt} (h : parentOk p = true) : parent p ≠ p := lt_ne (parent_lt h)
theorem numOk_valid {l : Txt} {n : Int} (h : numOk l n = true) : valid (number l n) = true := by
  have := (numOk_iff.1 h).2.2.2
  unfold number
  rw [if_pos h]; exact this
theorem ten_free (n : Nat) : 47 ∉ ten n := fun h => by
  have := tenK_dig 10 n 47 h
  have e : (47 : UInt8).toNat = 47 := rfl
  omega
theorem number_parent {l : Txt} {n : Int} (h : numOk l n = true) : parentOk (number l n) = true ∧ parent (number l n) = parent l := by
  obtain ⟨hd, _, _, hn⟩ := numOk_iff.1 h
  have hp : parentOk l = true := by rw [parentOk_depth]; simp; omega
  obtain ⟨ps, b, h1, h2, h3, h4, h5, h6⟩ := parent_names hp
  have hok := (ok_iff _).1 h6
  have hb : nameB b = true := hok.1 b (by simp)
  have e : l ++ ten n.toNat = joinP (ps ++ [b ++ ten n.toNat]) := by
    rw [← h5]
    unfold joinP
    rw [if_neg (by simp), if_neg (by simp), flat_append, flat_append]
    simp [flat, List.append_assoc]
  have hn' : ∃ qs, names (joinP (ps ++ [b ++ ten n.toNat])) = some qs := by rw [← e]; exact valid_some hn
  obtain ⟨qs, hq⟩ := hn'
  obtain ⟨hj, hokq⟩ := names_join hq
  have hfree : ∀ q ∈ ps ++ [b ++ ten n.toNat], 47 ∉ q := by
    intro q hqm
    rcases List.mem_append.1 hqm with hm | hm
    · exact name_free (hok.1 q (by simp [hm]))
    · simp only [List.mem_singleton] at hm
      rw [hm]
      intro hm
      rcases List.mem_append.1 hm with hm | hm
      · exact name_free hb hm
      · exact ten_free _ hm
  have hqs : qs = ps ++ [b ++ ten n.toNat] := by
    have hne : joinP (ps ++ [b ++ ten n.toNat]) ≠ [47] := fun e' => by
      rw [e'] at hq
      have := names_root hq
      subst this
      have hl := congrArg List.length e'
      rw [← e] at hl
      rw [List.length_append] at hl
      have : (ten n.toNat).length = 10 := tenK_length 10 _
      simp at hl
      omega
    obtain ⟨ht, hs⟩ := names_tail hq hne
    rw [hs]
    have e2 : (joinP (ps ++ [b ++ ten n.toNat])).tail = (ps ++ [b ++ ten n.toNat]).head (by simp) ++ flat (ps ++ [b ++ ten n.toNat]).tail := by
      unfold joinP
      rw [if_neg (by simp)]
      cases ps with
      | nil => simp [flat]
      | cons p r => simp [flat]
    rw [e2]
    have := split_flat ((ps ++ [b ++ ten n.toNat]).head (by simp)) (ps ++ [b ++ ten n.toNat]).tail (by rw [List.cons_head_tail]; exact hfree)
    rw [this, List.cons_head_tail]
  subst hqs
  unfold number
  rw [if_pos h, e]
  refine ⟨?_, ?_⟩
  · unfold parentOk; rw [hq]; simp
  · unfold parent
    rw [hq, h1]
    simp
/-- Putting in the place of a znode one of its path, its owner and good. -/
theorem put_old {T : Tr} (hg : Good T) {x z : Nd} (hx : get T z.path = some x) (ho : z.own = x.own) (hz : NdOk z) : Good (put T z) := by
  have hxp := get_some hx
  have hget : ∀ p y, get T p = some y → ∃ y', get (put T z) p = some y' ∧ y'.own = y.own := fun p y hy => by
    rw [get_put]
    split
    · rename_i e
      subst e
      rw [hx] at hy
      obtain rfl := Option.some.inj hy
      exact ⟨z, rfl, ho⟩
    · exact ⟨y, hy, rfl⟩
  refine ⟨put_srt hg.srt z, ?_, by rw [put_len_old hg.srt hx]; exact hg.len, ?_, ?_⟩
  · obtain ⟨r, h1, h2⟩ := hg.root
    obtain ⟨y', h3, h4⟩ := hget _ _ h1
    exact ⟨y', h3, h4.trans h2⟩
  · intro y hy
    rcases (mem_put T z y).1 hy with rfl | ⟨hy, _⟩
    · exact hz
    · exact hg.each y hy
  · intro y hy hpo
    have : ∃ p, get T (parent y.path) = some p ∧ p.own = 0 := by
      rcases (mem_put T z y).1 hy with rfl | ⟨hy, _⟩
      · rw [← hxp.2]
        exact hg.par x hxp.1 (by rw [hxp.2]; exact hpo)
      · exact hg.par y hy hpo
    obtain ⟨p, h1, h2⟩ := this
    obtain ⟨y', h3, h4⟩ := hget _ _ h1
    exact ⟨y', h3, h4.trans h2⟩
theorem put_new {T : Tr} (hg : Good T) {z p : Nd} (hx : get T z.path = none) (hp : get T (parent z.path) = some p) (ho : p.own = 0) (hl : T.length < 200) (hz : NdOk z) : Good (put T z) := by
  have hget : ∀ q y, get T q = some y → get (put T z) q = some y := fun q y hy => by
    rw [get_put, if_neg (fun e => by rw [e, hx] at hy; cases hy)]; exact hy
  refine ⟨put_srt hg.srt z, ?_, by rw [put_len_new hx]; omega, ?_, ?_⟩
  · obtain ⟨r, h1, h2⟩ := hg.root
    exact ⟨r, hget _ _ h1, h2⟩
  · intro y hy
    rcases (mem_put T z y).1 hy with rfl | ⟨hy, _⟩
    · exact hz
    · exact hg.each y hy
  · intro y hy hpo
    rcases (mem_put T z y).1 hy with rfl | ⟨hy, _⟩
    · exact ⟨p, hget _ _ hp, ho⟩
    · obtain ⟨q, h1, h2⟩ := hg.par y hy hpo
      exact ⟨q, hget _ _ h1, h2⟩
theorem kids_nil {T : Tr} {p : Txt} (h : kids T p = []) : ∀ z ∈ T, parentOk z.path = true → parent z.path ≠ p := fun z hz hp e => by
  unfold kids at h
  rw [List.map_eq_nil_iff, List.filter_eq_nil_iff] at h
  have := h z hz
  simp [hp, e] at this
theorem kids_of {T : Tr} {p : Txt} (h : ∀ z ∈ T, parentOk z.path = true → parent z.path ≠ p) : kids T p = [] := by
  unfold kids
  rw [List.map_eq_nil_iff, List.filter_eq_nil_iff]
  intro z hz
  cases hp : parentOk z.path
  · simp
  · simp [h z hz hp]
theorem wout_good {T : Tr} (hg : Good T) {p : Txt} (hp : p ≠ [47]) (hk : kids T p = []) : Good (wout T p) := by
  refine ⟨wout_srt hg.srt p, ?_, Nat.le_trans (wout_len_le T p) hg.len, fun z hz => hg.each z ((mem_wout T p z).1 hz).1, ?_⟩
  · obtain ⟨r, h1, h2⟩ := hg.root
    exact ⟨r, by rw [get_wout, if_neg (fun e => hp e.symm)]; exact h1, h2⟩
  · intro y hy hpo
    have hy' := ((mem_wout T p y).1 hy).1
    obtain ⟨q, h1, h2⟩ := hg.par y hy' hpo
    exact ⟨q, by rw [get_wout, if_neg (kids_nil hk y hy' hpo)]; exact h1, h2⟩
theorem touched_ok {z : Nd} (h : NdOk z) {zx : Int} (hz : inr zx = true) (m : Bool) : NdOk (touched z zx m) := by
  refine ⟨h.path, h.data, h.cr, h.ch, hz, h.ver, inr_up h.ks, h.own, ?_⟩
  show inr (if m then up z.nx else z.nx) = true
  split
  · exact inr_up h.nx
  · exact h.nx
theorem kid_good {T : Tr} (hg : Good T) {p : Txt} {z : Nd} {ev : List Evt} {zx : Int} {m : Bool} (hz : get T (parent p) = some z) (hx : inr zx = true) : Good (kidS T p ev zx m).T := by
  show Good (put T (touched ((get T (parent p)).getD nd0) zx m))
  rw [hz]
  have h := get_some hz
  have hp : (touched z zx m).path = z.path := rfl
  exact put_old hg (x := z) (by show get T (touched z zx m).path = some z; rw [hp, h.2]; exact hz) rfl (touched_ok (hg.each z h.1) hx m)
/-- Where a Create's place is found. -/
theorem place_ok {T : Tr} {c : Chg} (hv : valid c.path = true) (h : (place T c).1 = 0) : c.data.length ≤ 1024 ∧ parentOk c.path = true ∧ ∃ p, get T (parent c.path) = some p ∧ p.own = 0 ∧ parent (place T c).2 = parent c.path ∧ parentOk (place T c).2 = true ∧ valid (place T c).2 = true ∧ get T (place T c).2 = none ∧ T.length < 200
    ∧ (place T c).2 = (if c.sq then number c.path p.nx else c.path) ∧ (c.sq = true → numOk c.path p.nx = true) := by
  unfold place at h ⊢
  by_cases h1 : 1024 < c.data.length
  · rw [if_pos h1] at h; cases h
  rw [if_neg h1] at h ⊢
  by_cases h2 : c.path = [47]
  · rw [if_pos h2] at h; cases h
  rw [if_neg h2] at h ⊢
  have hpo := valid_parent hv h2
  rcases h3 : get T (parent c.path) with _ | p
  · rw [h3] at h; cases h
  rw [h3] at h
  dsimp only at h ⊢
  by_cases h4 : p.own ≠ 0
  · rw [if_pos h4] at h; cases h
  rw [if_neg h4] at h ⊢
  by_cases h5 : (c.sq && !numOk c.path p.nx) = true
  · rw [if_pos h5] at h; cases h
  rw [if_neg h5] at h ⊢
  by_cases h6 : (get T (if c.sq then number c.path p.nx else c.path)).isSome = true
  · rw [if_pos h6] at h; cases h
  rw [if_neg h6] at h ⊢
  by_cases h7 : 200 ≤ T.length
  · rw [if_pos h7] at h; cases h
  rw [if_neg h7] at h ⊢
  have hnum : c.sq = true → numOk c.path p.nx = true := fun e => by
    rw [e] at h5; simpa using h5
  refine ⟨by omega, hpo, p, rfl, by simpa using h4, ?_, ?_, ?_, by simpa using h6, by omega, rfl, hnum⟩
  · dsimp only
    split
    · rename_i e; exact (number_parent (hnum e)).2
    · rfl
  · dsimp only
    split
    · rename_i e; exact (number_parent (hnum e)).1
    · exact hpo
  · dsimp only
    split
    · rename_i e; exact numOk_valid (hnum e)
    · exact hv
theorem made_ok {p d : Txt} {zx se : Int} {eph : Bool} (hp : valid p = true) (hd : d.length ≤ 1024) (hz : inr zx = true) (hs : inr se = true) : NdOk (made p d zx se eph) := by
  refine ⟨hp, hd, hz, hz, hz, inr_zero, inr_zero, ?_, inr_zero⟩
  show inr (if eph then se else 0) = true
  split
  · exact hs
  · exact inr_zero
theorem create_good {T : Tr} (hg : Good T) {zx se : Int} (hz : inr zx = true) (hs : inr se = true) {c : Chg} (hv : valid c.path = true) (h : (create T zx se c).e = 0) : Good (create T zx se c).T := by
  unfold create at h ⊢
  by_cases h1 : (place T c).1 ≠ 0
  · rw [if_pos h1] at h; exact absurd h h1
  rw [if_neg h1]
  obtain ⟨hd, _, p, hp, ho, hpp, hpo, hpv, hnone, hlen, _⟩ := place_ok hv (by simpa using h1)
  have hg2 := put_new hg (z := made (place T c).2 c.data zx se c.eph) hnone (by show get T (parent (place T c).2) = _; rw [hpp]; exact hp) ho hlen (made_ok hpv hd hz hs)
  refine kid_good hg2 (z := p) ?_ hz
  rw [get_put, hpp, if_neg]
  · exact hp
  · show ¬ parent c.path = (place T c).2
    rw [← hpp]
    exact parent_ne hpo
theorem remove_good {T : Tr} (hg : Good T) {zx : Int} (hz : inr zx = true) {p : Txt} {x : Nd} (hx : get T p = some x) (hp : p ≠ [47]) (hk : kids T p = []) : Good (remove T zx p).T := by
  have hx' := get_some hx
  have hpv := (hg.each x hx'.1).path
  rw [hx'.2] at hpv
  have hpo := valid_parent hpv hp
  obtain ⟨q, h1, _⟩ := hg.par x hx'.1 (by rw [hx'.2]; exact hpo)
  rw [hx'.2] at h1
  exact kid_good (wout_good hg hp hk) (z := q) (by rw [get_wout, if_neg (parent_ne hpo)]; exact h1) hz
theorem amiss_ok {T : Tr} {c : Chg} (h : amissV T c = 0) : ∃ z, get T c.path = some z ∧ ¬ (c.kind = 2 ∧ c.path = [47]) := by
  unfold amissV at h
  rcases hz : get T c.path with _ | z
  · rw [hz] at h; cases h
  · rw [hz] at h
    dsimp only at h
    split at h
    · cases h
    · rename_i h2; exact ⟨z, rfl, h2⟩
theorem set_ok {z : Nd} (h : NdOk z) {d : Txt} (hd : d.length ≤ 1024) {zx : Int} (hz : inr zx = true) : NdOk (setd z d zx) :=
  ⟨h.path, hd, h.cr, hz, h.kd, inr_up h.ver, h.ks, h.own, h.nx⟩
theorem one_good {T : Tr} (hg : Good T) {zx se : Int} (hz : inr zx = true) (hs : inr se = true) {c : Chg} (h : (one T zx se c).e = 0) : Good (one T zx se c).T := by
  unfold one at h ⊢
  by_cases h1 : c.kind < 1 ∨ 4 < c.kind
  · rw [if_pos h1] at h; cases h
  rw [if_neg h1] at h ⊢
  by_cases h2 : valid c.path = false
  · rw [if_pos h2] at h; cases h
  rw [if_neg h2] at h ⊢
  have hv : valid c.path = true := by simpa using h2
  by_cases h3 : c.kind = 1
  · rw [if_pos h3] at h ⊢; exact create_good hg hz hs hv h
  rw [if_neg h3] at h ⊢
  by_cases h4 : c.kind = 3 ∧ 1024 < c.data.length
  · rw [if_pos h4] at h; cases h
  rw [if_neg h4] at h ⊢
  by_cases h5 : amissV T c ≠ 0
  · rw [if_pos h5] at h; exact absurd h h5
  rw [if_neg h5] at h ⊢
  obtain ⟨z, hz1, hz2⟩ := amiss_ok (by simpa using h5)
  by_cases h6 : c.kind = 2
  · rw [if_pos h6] at h ⊢
    by_cases h7 : kids T c.path ≠ []
    · rw [if_pos h7] at h; cases h
    rw [if_neg h7]
    exact remove_good hg hz hz1 (fun e => hz2 ⟨h6, e⟩) (by simpa using h7)
  rw [if_neg h6] at h ⊢
  by_cases h8 : c.kind = 4
  · rw [if_pos h8]; exact hg
  rw [if_neg h8]
  show Good (put T (setd ((get T c.path).getD nd0) c.data zx))
  rw [hz1]
  have hx := get_some hz1
  exact put_old hg (x := z) (by show get T z.path = some z; rw [hx.2]; exact hz1) rfl (set_ok (hg.each z hx.1) (by omega) hz)
theorem doGo_good {T0 : Tr} (h0 : Good T0) {zx se : Int} (hz : inr zx = true) (hs : inr se = true) (l : List Chg) : ∀ {T : Tr} (ps : List Txt) (es : List Evt), Good T → Good (doGo T0 zx se T ps es l).T := by
  induction l with
  | nil => intro T ps es hg; exact hg
  | cons c r ih =>
    intro T ps es hg
    unfold doGo
    by_cases h : (one T zx se c).e ≠ 0
    · rw [if_pos h]; exact h0
    · rw [if_neg h]; exact ih _ _ (one_good hg hz hs (by simpa using h))
theorem doL_good {T : Tr} (hg : Good T) (zx se : Int) (l : List Chg) : Good (doL T zx se l).T := by
  unfold doL
  by_cases h : inr zx = false ∨ inr se = false
  · rw [if_pos h]; exact hg
  · rw [if_neg h]
    have h1 : inr zx = true := by cases e : inr zx <;> simp_all
    have h2 : inr se = true := by cases e : inr se <;> simp_all
    exact doGo_good hg h1 h2 l _ _ hg
end Go.Proofs.Zt
namespace Go.Proofs.Zt
open Go.Proofs.Zn

/-! ### A session's end -/
def delC (p : Txt) : Chg := ⟨2, p, [], -1, false, false⟩
theorem kids_eph {T : Tr} (hg : Good T) {p : Txt} {z : Nd} (hz : get T p = some z) (ho : z.own ≠ 0) : kids T p = [] := by
  refine kids_of fun y hy hpo e => ?_
  obtain ⟨q, h1, h2⟩ := hg.par y hy hpo
  rw [e, hz] at h1
  obtain rfl := Option.some.inj h1
  exact ho h2
theorem root_own {T : Tr} (hg : Good T) {p : Txt} {z : Nd} (hz : get T p = some z) (ho : z.own ≠ 0) : p ≠ [47] := fun e => by
  obtain ⟨r, h1, h2⟩ := hg.root
  rw [e, h1] at hz
  obtain rfl := Option.some.inj hz
  exact ho h2
theorem one_del {T : Tr} (hg : Good T) {zx se : Int} {p : Txt} {z : Nd} (hz : get T p = some z) (ho : z.own ≠ 0) : one T zx se (delC p) = remove T zx p := by
  have hz' := get_some hz
  have hv : valid p = true := by have := (hg.each z hz'.1).path; rwa [hz'.2] at this
  have hr := root_own hg hz ho
  have ha : amissV T (delC p) = 0 := by
    unfold amissV
    show (match get T p with | none => (80 : Int) | some z => if (2 : Int) = 2 ∧ p = [47] then 1 else if (-1 : Int) ≠ -1 ∧ (-1 : Int) ≠ z.ver then 82 else 0) = 0
    rw [hz]
    simp [hr]
  have k2 : (delC p).kind = 2 := rfl
  have kp : (delC p).path = p := rfl
  unfold one
  rw [k2, kp, if_neg (by decide), if_neg (by rw [hv]; decide), if_neg (by decide), if_neg (by simp), if_neg (by rw [ha]; simp), if_pos rfl, if_neg (by rw [kids_eph hg hz ho]; simp)]
/-- The same znode but for its children's counts. -/
def Alike (x z : Nd) : Prop := x.path = z.path ∧ x.data = z.data ∧ x.cr = z.cr ∧ x.ch = z.ch ∧ x.ver = z.ver ∧ x.own = z.own ∧ x.nx = z.nx
theorem Alike.refl (z : Nd) : Alike z z := ⟨rfl, rfl, rfl, rfl, rfl, rfl, rfl⟩
theorem Alike.trans {x y z : Nd} (h : Alike x y) (k : Alike y z) : Alike x z :=
  ⟨h.1.trans k.1, h.2.1.trans k.2.1, h.2.2.1.trans k.2.2.1, h.2.2.2.1.trans k.2.2.2.1, h.2.2.2.2.1.trans k.2.2.2.2.1, h.2.2.2.2.2.1.trans k.2.2.2.2.2.1, h.2.2.2.2.2.2.trans k.2.2.2.2.2.2⟩
theorem remove_get {T : Tr} (hg : Good T) {zx : Int} {p : Txt} {z : Nd} (hz : get T p = some z) (ho : z.own ≠ 0) (q : Txt) :
    (q = p → get (remove T zx p).T q = none) ∧ (q ≠ p → get T q = none → get (remove T zx p).T q = none) ∧ (q ≠ p → ∀ y, get T q = some y → ∃ x, get (remove T zx p).T q = some x ∧ Alike x y) := by
  have hz' := get_some hz
  have hv : valid p = true := by have := (hg.each z hz'.1).path; rwa [hz'.2] at this
  have hr := root_own hg hz ho
  have hpo := valid_parent hv hr
  obtain ⟨u, h1, h2⟩ := hg.par z hz'.1 (by rw [hz'.2]; exact hpo)
  rw [hz'.2] at h1
  have hu := get_some h1
  have hne := parent_ne hpo
  have hT : (remove T zx p).T = put (wout T p) (touched u zx false) := by
    show put (wout T p) (touched ((get (wout T p) (parent p)).getD nd0) zx false) = _
    rw [get_wout, if_neg hne, h1]; rfl
  have hpath : (touched u zx false).path = parent p := hu.2
  rw [hT, get_put, hpath, get_wout]
  refine ⟨fun e => ?_, fun e hn => ?_, fun e y hy => ?_⟩
  · rw [if_neg (fun e' => hne (e'.symm.trans e)), if_pos e]
  · rw [if_neg (fun e' => by rw [e', h1] at hn; cases hn), if_neg e]; exact hn
  · by_cases e' : q = parent p
    · rw [if_pos e']
      rw [e', h1] at hy
      obtain rfl := Option.some.inj hy
      exact ⟨_, rfl, ⟨rfl, rfl, rfl, rfl, rfl, rfl, rfl⟩⟩
    · rw [if_neg e', if_neg e]
      exact ⟨y, hy, Alike.refl y⟩
theorem end_go {T0 : Tr} {zx se s : Int} (hx : inr zx = true) (hs : s ≠ 0) : ∀ (l : List Txt) {T : Tr} (ps : List Txt) (es : List Evt), Good T → l.Nodup → (∀ p ∈ l, ∃ z, get T p = some z ∧ z.own = s) →
    doGo T0 zx se T ps es (l.map delC) = ⟨(endGo zx T es l).1, ps ++ l, (endGo zx T es l).2, 0⟩ ∧ Good (endGo zx T es l).1 ∧ (endGo zx T es l).2.length = es.length + 2 * l.length ∧
    (∀ p ∈ l, get (endGo zx T es l).1 p = none) ∧ (∀ p, p ∉ l → get T p = none → get (endGo zx T es l).1 p = none) ∧ (∀ p, p ∉ l → ∀ y, get T p = some y → ∃ x, get (endGo zx T es l).1 p = some x ∧ Alike x y)
  | [], T, ps, es, hg, _, _ => ⟨by simp [doGo, endGo], hg, by simp [endGo], fun p hp => (by cases hp), fun p _ h => h, fun p _ y hy => ⟨y, hy, Alike.refl y⟩⟩
  | p :: l, T, ps, es, hg, hn, hl => by
    obtain ⟨hpl, hn'⟩ := List.nodup_cons.1 hn
    obtain ⟨z, hz, ho⟩ := hl p (by simp)
    have ho' : z.own ≠ 0 := by rw [ho]; exact hs
    have hgr : Good (remove T zx p).T := remove_good hg hx hz (root_own hg hz ho') (kids_eph hg hz ho')
    have R := remove_get hg (zx := zx) hz ho'
    have hl' : ∀ q ∈ l, ∃ z, get (remove T zx p).T q = some z ∧ z.own = s := fun q hq => by
      obtain ⟨y, hy, hyo⟩ := hl q (by simp [hq])
      obtain ⟨x, h1, h2⟩ := (R q).2.2 (fun e => hpl (e ▸ hq)) y hy
      exact ⟨x, h1, h2.2.2.2.2.2.1.trans hyo⟩
    obtain ⟨i1, i2, i3, i4, i5, i6⟩ := end_go hx hs l (ps ++ [p]) (es ++ (remove T zx p).evs) hgr hn' hl'
    have hone := one_del hg (zx := zx) (se := se) hz ho'
    refine ⟨?_, i2, ?_, fun q hq => ?_, fun q hq hnn => ?_, fun q hq y hy => ?_⟩
    · rw [List.map_cons, doGo, hone, if_neg (by show ¬ ((0 : Int) ≠ 0); simp)]
      have hp' : (remove T zx p).path = p := rfl
      rw [hp', i1, List.append_assoc]; rfl
    · show (endGo zx (remove T zx p).T (es ++ (remove T zx p).evs) l).2.length = _
      rw [i3]
      have : (remove T zx p).evs.length = 2 := rfl
      rw [List.length_append, this, List.length_cons]; omega
    · show get (endGo zx (remove T zx p).T (es ++ (remove T zx p).evs) l).1 q = none
      by_cases e : q ∈ l
      · exact i4 q e
      · have hqp : q = p := by rcases List.mem_cons.1 hq with h | h; exact h; exact absurd h e
        exact i5 q e ((R q).1 hqp)
    · have hne : q ≠ p := fun e => hq (by simp [e])
      exact i5 q (fun h => hq (by simp [h])) ((R q).2.1 hne hnn)
    · have hne : q ≠ p := fun e => hq (by simp [e])
      obtain ⟨x, h1, h2⟩ := (R q).2.2 hne y hy
      obtain ⟨x', h3, h4⟩ := i6 q (fun h => hq (by simp [h])) x h1
      exact ⟨x', h3, h4.trans h2⟩
theorem owned_mem {T : Tr} (hs : Srt T) {s : Int} (p : Txt) : p ∈ owned T s ↔ s ≠ 0 ∧ ∃ z, get T p = some z ∧ z.own = s := by
  unfold owned
  rw [List.mem_map]
  constructor
  · rintro ⟨z, h1, h2⟩
    obtain ⟨h3, h4⟩ := List.mem_filter.1 h1
    simp only [Bool.and_eq_true, decide_eq_true_eq] at h4
    exact ⟨h4.1, z, by rw [← h2]; exact get_mem hs h3, h4.2⟩
  · rintro ⟨h0, z, h1, h2⟩
    obtain ⟨h3, h4⟩ := get_some h1
    exact ⟨z, List.mem_filter.2 ⟨h3, by simp [h0, h2]⟩, h4⟩
theorem owned_nodup {T : Tr} (hs : Srt T) (s : Int) : (owned T s).Nodup := by
  unfold owned
  exact (List.pairwise_map.2 ((hs.sublist List.filter_sublist).imp (fun h => lt_ne h)))
theorem owned_zero (T : Tr) : owned T 0 = [] := by unfold owned; simp
theorem end_do {T : Tr} (hg : Good T) (zx se : Int) : (doL T zx se ((owned T se).map delC)).T = (endL T zx se).1 ∧ (doL T zx se ((owned T se).map delC)).es = (endL T zx se).2 := by
  unfold doL endL
  by_cases h : inr zx = false ∨ inr se = false
  · rw [if_pos h, if_pos h]; exact ⟨rfl, rfl⟩
  · rw [if_neg h, if_neg h]
    have h1 : inr zx = true := by cases e : inr zx <;> simp_all
    by_cases h0 : se = 0
    · subst h0
      rw [owned_zero]
      exact ⟨rfl, rfl⟩
    · have := (end_go (T0 := T) (se := se) h1 h0 (owned T se) [] [] hg (owned_nodup hg.srt se) (fun p hp => ((owned_mem hg.srt p).1 hp).2)).1
      rw [this]
      exact ⟨rfl, rfl⟩
theorem endL_good {T : Tr} (hg : Good T) (zx se : Int) : Good (endL T zx se).1 := by
  rw [← (end_do hg zx se).1]; exact doL_good hg zx se _

/-! ### Numbers that rise -/
end Go.Proofs.Zt
namespace Go.Proofs.Zt
open Go.Proofs.Zn

def nums (z : Nd) : Bool := inr z.cr && inr z.ch && inr z.kd && inr z.ver && inr z.ks && inr z.own && inr z.nx
def lastLe (pre : Tr) (z : Nd) : Bool := match pre.getLast? with
  | none => false
  | some a => !decide (a.path < z.path)
def chk1 (pre : Tr) (z : Nd) : Int :=
  if valid z.path = false then 70 else
  if lastLe pre z = true then 81 else
  if parentOk z.path = true ∧ (get pre (parent z.path)).isSome = false then 83 else
  if (parentOk z.path = true ∧ ((get pre (parent z.path)).getD nd0).own ≠ 0) ∨ (parentOk z.path = false ∧ z.own ≠ 0) then 85 else
  if 1024 < z.data.length then 87 else
  if nums z = false then 1 else 0
def chkGo : Tr → Tr → Int
  | _, [] => 0
  | pre, z :: r => if chk1 pre z ≠ 0 then chk1 pre z else chkGo (pre ++ [z]) r
def headB (l : Tr) : Bool := match l with
  | [] => false
  | z :: _ => z.path == [47]
def chk (l : Tr) : Int := if headB l = false then 80 else if 200 < l.length then 86 else chkGo [] l
theorem chk1_zero {pre : Tr} {z : Nd} : chk1 pre z = 0 ↔ valid z.path = true ∧ lastLe pre z = false ∧ (parentOk z.path = true → ∃ p, get pre (parent z.path) = some p ∧ p.own = 0) ∧ (parentOk z.path = false → z.own = 0) ∧ z.data.length ≤ 1024 ∧ nums z = true := by
  unfold chk1
  by_cases h1 : valid z.path = false
  · rw [if_pos h1]; simp [h1]
  rw [if_neg h1]
  by_cases h2 : lastLe pre z = true
  · rw [if_pos h2]; simp [h2]
  rw [if_neg h2]
  by_cases h3 : parentOk z.path = true ∧ (get pre (parent z.path)).isSome = false
  · rw [if_pos h3]
    refine ⟨fun h => (by cases h), fun ⟨_, _, h, _⟩ => ?_⟩
    obtain ⟨p, hp, _⟩ := h h3.1
    rw [hp] at h3; cases h3.2
  rw [if_neg h3]
  by_cases h4 : (parentOk z.path = true ∧ ((get pre (parent z.path)).getD nd0).own ≠ 0) ∨ (parentOk z.path = false ∧ z.own ≠ 0)
  · rw [if_pos h4]
    refine ⟨fun h => (by cases h), fun ⟨_, _, h, h', _⟩ => ?_⟩
    rcases h4 with ⟨a, b⟩ | ⟨a, b⟩
    · obtain ⟨p, hp, ho⟩ := h a
      rw [hp] at b; exact absurd ho b
    · exact absurd (h' a) b
  rw [if_neg h4]
  by_cases h5 : 1024 < z.data.length
  · rw [if_pos h5]
    exact ⟨fun h => (by cases h), fun ⟨_, _, _, _, h, _⟩ => absurd h (by omega)⟩
  rw [if_neg h5]
  by_cases h6 : nums z = false
  · rw [if_pos h6]; simp [h6]
  rw [if_neg h6]
  refine ⟨fun _ => ⟨by simpa using h1, by simpa using h2, fun hp => ?_, fun hp => ?_, by omega, by simpa using h6⟩, fun _ => rfl⟩
  · cases hg : get pre (parent z.path) with
    | none => exact absurd ⟨hp, by rw [hg]; rfl⟩ h3
    | some p =>
      refine ⟨p, rfl, ?_⟩
      rw [hg] at h4
      exact Classical.byContradiction fun hn => h4 (.inl ⟨hp, hn⟩)
  · exact Classical.byContradiction fun hn => h4 (.inr ⟨hp, hn⟩)
theorem nums_iff {z : Nd} : nums z = true ↔ inr z.cr = true ∧ inr z.ch = true ∧ inr z.kd = true ∧ inr z.ver = true ∧ inr z.ks = true ∧ inr z.own = true ∧ inr z.nx = true := by
  simp only [nums, Bool.and_eq_true, and_assoc]
theorem get_pre {pre r : Tr} {z : Nd} (hs : Srt (pre ++ z :: r)) {q : Txt} (hq : q < z.path) : get (pre ++ z :: r) q = get pre q := by
  unfold get
  rw [List.find?_append]
  have hn : (z :: r).find? (fun x => x.path == q) = none := by
    rw [List.find?_eq_none]
    intro x hx
    have h2 := (List.pairwise_append.1 hs).2.1
    obtain ⟨h3, _⟩ := List.pairwise_cons.1 h2
    rcases List.mem_cons.1 hx with rfl | hx
    · have := lt_ne hq; simpa using fun e => this e.symm
    · have := lt_ne (lt_tr hq (h3 x hx)); simpa using fun e => this e.symm
  rw [hn]
  cases List.find? (fun x => x.path == q) pre <;> rfl
theorem last_lt {pre r : Tr} {z : Nd} (hs : Srt (pre ++ z :: r)) : lastLe pre z = false := by
  unfold lastLe
  cases h : pre.getLast? with
  | none => rfl
  | some a =>
    have ha : a ∈ pre := List.mem_of_getLast? h
    have := (List.pairwise_append.1 hs).2.2 a ha z (by simp)
    simp [this]
theorem chkGo_good {T : Tr} (hg : Good T) : ∀ (rest pre : Tr), T = pre ++ rest → chkGo pre rest = 0
  | [], _, _ => rfl
  | z :: r, pre, e => by
    have hs : Srt (pre ++ z :: r) := by rw [← e]; exact hg.srt
    have hz : z ∈ T := by rw [e]; simp
    have ho := hg.each z hz
    have h0 : chk1 pre z = 0 := by
      rw [chk1_zero]
      refine ⟨ho.path, last_lt hs, fun hp => ?_, fun hp => ?_, ho.data, nums_iff.2 ⟨ho.cr, ho.ch, ho.kd, ho.ver, ho.ks, ho.own, ho.nx⟩⟩
      · obtain ⟨p, h1, h2⟩ := hg.par z hz hp
        rw [e, get_pre hs (parent_lt hp)] at h1
        exact ⟨p, h1, h2⟩
      · have hr : z.path = [47] := Classical.byContradiction fun hn => by rw [valid_parent ho.path hn] at hp; cases hp
        obtain ⟨x, h1, h2⟩ := hg.root
        rw [← hr, get_mem hg.srt hz] at h1
        obtain rfl := Option.some.inj h1
        exact h2
    rw [chkGo, if_neg (by rw [h0]; simp)]
    exact chkGo_good hg r (pre ++ [z]) (by rw [e]; simp)
theorem root_lt {p : Txt} (h : valid p = true) : p = [47] ∨ [47] < p := by
  by_cases e : p = [47]
  · exact .inl e
  · obtain ⟨ps, hp⟩ := valid_some h
    obtain ⟨h1, -⟩ := names_tail hp e
    refine .inr ?_
    rw [h1]
    cases ht : p.tail with
    | nil => rw [ht] at h1; exact absurd h1 e
    | cons c t => exact List.cons_lt_cons_iff.2 (.inr ⟨rfl, List.nil_lt_cons c t⟩)
theorem good_head {T : Tr} (hg : Good T) : headB T = true := by
  obtain ⟨x, h1, h2⟩ := hg.root
  obtain ⟨hx, hp⟩ := get_some h1
  cases T with
  | nil => cases hx
  | cons z r =>
    show (z.path == [47]) = true
    rcases List.mem_cons.1 hx with rfl | hx
    · simpa using hp
    · have hl := (List.pairwise_cons.1 hg.srt).1 x hx
      rw [hp] at hl
      rcases root_lt (hg.each z (by simp)).path with h | h
      · simpa using h
      · exact absurd (lt_tr h hl) (lt_irr _)
theorem chk_good {T : Tr} (hg : Good T) : chk T = 0 := by
  unfold chk
  rw [if_neg (by rw [good_head hg]; simp), if_neg (by have := hg.len; omega)]
  exact chkGo_good hg T [] rfl
structure Pre (T : Tr) : Prop where
  srt : Srt T
  each : ∀ z ∈ T, NdOk z
  par : ∀ z ∈ T, parentOk z.path = true → ∃ p, get T (parent z.path) = some p ∧ p.own = 0
  rt : ∀ z ∈ T, parentOk z.path = false → z.own = 0
theorem pre_snoc {pre : Tr} {z : Nd} (h : Pre pre) (h0 : chk1 pre z = 0) : Pre (pre ++ [z]) := by
  obtain ⟨h1, h2, h3, h4, h5, h6⟩ := chk1_zero.1 h0
  obtain ⟨n1, n2, n3, n4, n5, n6, n7⟩ := nums_iff.1 h6
  have hlt : ∀ x ∈ pre, x.path < z.path := fun x hx => by
    unfold lastLe at h2
    cases hl : pre.getLast? with
    | none => rw [List.getLast?_eq_none_iff] at hl; rw [hl] at hx; cases hx
    | some a =>
      rw [hl] at h2
      have ha : a.path < z.path := by simpa using h2
      obtain ⟨ini, rfl⟩ := List.getLast?_eq_some_iff.1 hl
      rcases List.mem_append.1 hx with hx | hx
      · exact lt_tr ((List.pairwise_append.1 h.srt).2.2 x hx a (by simp)) ha
      · rcases List.mem_singleton.1 hx with rfl; exact ha
  have hget : ∀ q y, get pre q = some y → get (pre ++ [z]) q = some y := fun q y hy => by
    unfold get at *
    rw [List.find?_append, hy]; rfl
  refine ⟨List.pairwise_append.2 ⟨h.srt, List.pairwise_singleton _ _, fun x hx y hy => by rcases List.mem_singleton.1 hy with rfl; exact hlt x hx⟩, fun x hx => ?_, fun x hx hp => ?_, fun x hx hp => ?_⟩
  · rcases List.mem_append.1 hx with hx | hx
    · exact h.each x hx
    · rcases List.mem_singleton.1 hx with rfl; exact ⟨h1, h5, n1, n2, n3, n4, n5, n6, n7⟩
  · rcases List.mem_append.1 hx with hx | hx
    · obtain ⟨p, a, b⟩ := h.par x hx hp
      exact ⟨p, hget _ _ a, b⟩
    · rcases List.mem_singleton.1 hx with rfl
      obtain ⟨p, a, b⟩ := h3 hp
      exact ⟨p, hget _ _ a, b⟩
  · rcases List.mem_append.1 hx with hx | hx
    · exact h.rt x hx hp
    · rcases List.mem_singleton.1 hx with rfl; exact h4 hp
theorem chkGo_pre : ∀ (rest pre : Tr), Pre pre → chkGo pre rest = 0 → Pre (pre ++ rest)
  | [], pre, h, _ => by simpa using h
  | z :: r, pre, h, h0 => by
    rw [chkGo] at h0
    by_cases h1 : chk1 pre z ≠ 0
    · rw [if_pos h1] at h0; exact absurd h0 h1
    · rw [if_neg h1] at h0
      have := chkGo_pre r (pre ++ [z]) (pre_snoc h (by simpa using h1)) h0
      rwa [List.append_assoc] at this
theorem good_chk {T : Tr} (h : chk T = 0) : Good T := by
  unfold chk at h
  by_cases h1 : headB T = false
  · rw [if_pos h1] at h; cases h
  rw [if_neg h1] at h
  by_cases h2 : 200 < T.length
  · rw [if_pos h2] at h; cases h
  rw [if_neg h2] at h
  have hp := chkGo_pre T [] ⟨List.Pairwise.nil, fun z hz => (by cases hz), fun z hz => (by cases hz), fun z hz => (by cases hz)⟩ h
  rw [List.nil_append] at hp
  refine ⟨hp.srt, ?_, by omega, hp.each, hp.par⟩
  cases T with
  | nil => exact absurd rfl h1
  | cons z r =>
    have e : z.path = [47] := by
      have h3 : (z.path == [47]) = true := by simpa [headB] using h1
      simpa using h3
    exact ⟨z, get_cons_hit e, hp.rt z (by simp) (by rw [e]; exact parentOk_root)⟩
end Go.Proofs.Zt
namespace Go.Proofs.Zt
open Go.Proofs.Zn

end Go.Proofs.Zt
namespace Go.Proofs.Zt
open Go.Proofs.Zn

/-! ### A Do that was refused; one that was not, one by one -/
/-! ### When a session has ended -/
structure Ended (T : Tr) (se : Int) (r : Tr × List Evt) : Prop where
  gone : ∀ z ∈ T, z.own = se → get r.1 z.path = none
  left : ∀ z ∈ T, z.own ≠ se → ∃ x, get r.1 z.path = some x ∧ Alike x z
  none' : owned r.1 se = []
  evs : r.2.length = 2 * (owned T se).length
/-- How many of the first k znodes are the session's. -/
def cnt (se : Int) (T : Tr) : Nat := (T.filter (fun z => decide (z.own = se))).length
/-! ### A list that is loaded -/
theorem chkGo_at {l : Tr} {k : Nat} {z : Nd} (hz : l[k]? = some z) : chkGo (l.take k) (l.drop k) = if chk1 (l.take k) z ≠ 0 then chk1 (l.take k) z else chkGo (l.take (k + 1)) (l.drop (k + 1)) := by
  obtain ⟨hk, rfl⟩ := List.getElem?_eq_some_iff.1 hz
  rw [List.drop_eq_getElem_cons hk, chkGo, List.take_succ_eq_append_getElem hk]
theorem put_snoc {pre : Tr} {z : Nd} (h : Pre (pre ++ [z])) : put pre z = pre ++ [z] := by
  have hs := h.srt
  have hp := (List.pairwise_append.1 hs).2.2
  refine srt_ext (put_srt (List.pairwise_append.1 hs).1 z) hs (fun p => ?_)
  rw [get_put]
  have happ : get (pre ++ [z]) p = (get pre p).or (get [z] p) := by unfold get; rw [List.find?_append]
  rw [happ]
  by_cases e : p = z.path
  · rw [if_pos e]
    have : get pre p = none := get_none.2 (fun x hx e2 => lt_ne (hp x hx z (by simp)) (by rw [e2, e]))
    rw [this, e, get_cons_hit rfl]; rfl
  · rw [if_neg e, get_cons_miss (fun e2 => e e2.symm), get_nil]
    cases get pre p <;> rfl
theorem pre_nil : Pre [] := ⟨List.Pairwise.nil, fun z hz => (by cases hz), fun z hz => (by cases hz), fun z hz => (by cases hz)⟩
end Go.Proofs.Zt
namespace Go.Proofs.Zt
open Go.Proofs.Zn Go.Maps

def entry (z : Nd) : Lit × DataW Nd := (.string z.path, .held z)
def Dm (T : Tr) : DataW Nd := .map (T.map entry)
theorem before_lt (a b : Txt) : bytesBefore a b = decide (a < b) := by
  induction a generalizing b with
  | nil => cases b with
    | nil => simp [bytesBefore]
    | cons c t => simp [bytesBefore]
  | cons x r ih => cases b with
    | nil => simp [bytesBefore]
    | cons c t =>
      rw [bytesBefore, ih, Bool.eq_iff_iff, decide_eq_true_iff, List.cons_lt_cons_iff]
      simp
theorem insert_new {T : Tr} {z : Nd} (h : get T z.path = none) : DataW.insert (entry z) (T.map entry) = (put T z).map entry := by
  induction T with
  | nil => rfl
  | cons y r ih =>
    have hn := get_none.1 h
    have hy := hn y (by simp)
    rw [List.map_cons, DataW.insert]
    have hb : (entry z).1.before (entry y).1 = decide (z.path < y.path) := before_lt _ _
    rw [hb]
    unfold put
    by_cases hlt : y.path < z.path
    · rw [if_pos hlt, if_neg (by simpa using not_lt_of hlt), List.map_cons, ih (get_none.2 fun x hx => hn x (List.mem_cons_of_mem _ hx))]
    · have hlt' : z.path < y.path := (ge_of hlt).resolve_left hy
      rw [if_neg hlt, if_pos (by simpa using hlt'), List.filter_eq_self.2]
      · rfl
      · intro x hx
        simpa using hn x hx
theorem put_wout {T : Tr} (hs : Srt T) (z : Nd) : put (wout T z.path) z = put T z := by
  refine srt_ext (put_srt (wout_srt hs _) z) (put_srt hs z) fun p => ?_
  rw [get_put, get_put, get_wout]
  split <;> rfl
theorem filter_entry (T : Tr) (p : Txt) : (T.map entry).filter (fun q => !q.1.sameKey (.string p)) = (wout T p).map entry := by
  rw [List.filter_map]; rfl
theorem dm_put {T : Tr} (hs : Srt T) (z : Nd) : (Dm T).put (.string z.path) (.held z) = Dm (put T z) := by
  show DataW.map (DataW.insert (entry z) ((T.map entry).filter (fun q => !q.1.sameKey (.string z.path)))) = _
  rw [filter_entry, insert_new (by rw [get_wout, if_pos rfl]), put_wout hs]; rfl
theorem dm_del (T : Tr) (p : Txt) : (Dm T).del (.string p) = Dm (wout T p) := by
  show DataW.map ((T.map entry).filter (fun q => !q.1.sameKey (.string p))) = _
  rw [filter_entry]; rfl
theorem find_entry (T : Tr) (p : Txt) : (T.map entry).find? (fun q => q.1.sameKey (.string p)) = (get T p).map entry := by
  rw [List.find?_map]; rfl
theorem dm_at (T : Tr) (p : Txt) (z0 : Nd) : (Dm T).atKey (.string p) (.held z0) = .held ((get T p).getD z0) := by
  unfold Dm DataW.atKey
  dsimp only
  rw [find_entry]
  cases get T p <;> rfl
theorem dm_has (T : Tr) (p : Txt) : Maps.has (Dm T) (.string p) = (get T p).isSome := by
  show (T.map entry).any (fun q => q.1.sameKey (.string p)) = _
  have e : ((T.map entry).find? (fun q => q.1.sameKey (.string p))).isSome = (T.map entry).any (fun q => q.1.sameKey (.string p)) := by
    rw [Bool.eq_iff_iff, List.find?_isSome, List.any_eq_true]
  rw [← e, find_entry]
  cases get T p <;> rfl
theorem dm_size (T : Tr) : Maps.size (Dm T) = T.length := by
  show (T.map entry).length = _
  rw [List.length_map]
def paths (T : Tr) : List Txt := T.map (·.path)
theorem dm_keys (T : Tr) : strKeys (Dm T) = paths T := by
  show ((T.map entry).map fun p => strOf p.1) = _
  rw [List.map_map]; rfl
theorem paths_lt {T : Tr} (hs : Srt T) : (paths T).Pairwise (· < ·) := List.pairwise_map.2 hs
theorem paths_nodup {T : Tr} (hs : Srt T) : (paths T).Nodup := (paths_lt hs).imp (fun h => lt_ne h)
theorem sort_perm {ss qs : List Txt} (h : ss.Perm qs) (hq : qs.Pairwise (· < ·)) : ss.mergeSort leB = qs := by
  rw [mergeSort_of_perm h]
  have tr : ∀ a b c : List UInt8, leB a b = true → leB b c = true → leB a c = true := fun a b c h1 h2 => by simp only [leB, decide_eq_true_eq] at *; exact List.le_trans h1 h2
  have to : ∀ a b : List UInt8, (leB a b || leB b a) = true := fun a b => by simp only [leB, Bool.or_eq_true, decide_eq_true_eq]; exact List.le_total a b
  refine List.Perm.eq_of_pairwise (le := fun a b => leB a b = true) (fun a b _ _ h1 h2 => ?_) (List.pairwise_mergeSort tr to qs) (hq.imp fun {a b} h => ?_) (List.mergeSort_perm qs leB)
  · simp only [leB, decide_eq_true_eq] at h1 h2
    exact List.le_antisymm h1 h2
  · simp only [leB, decide_eq_true_eq]
    exact List.le_of_lt h
/-- The znodes that are wanted. -/
def sel (f : Nd → Bool) (T : Tr) : Tr := T.filter f
theorem sel_srt {T : Tr} (hs : Srt T) (f : Nd → Bool) : Srt (sel f T) := hs.sublist List.filter_sublist
/-- What was collected of those that have come. -/
def Col (f : Nd → Bool) (T : Tr) (left : Lit → Bool) (ss : List Txt) : Prop :=
  ss.Nodup ∧ ∀ p, p ∈ ss ↔ ∃ z, get T p = some z ∧ f z = true ∧ left (.string p) = false
theorem Col.start (f : Nd → Bool) (T : Tr) : Col f T (Maps.has (Dm T)) [] := by
  refine ⟨List.nodup_nil, fun p => ⟨fun h => (by cases h), fun ⟨z, h1, _, h3⟩ => ?_⟩⟩
  rw [dm_has, h1] at h3
  cases h3
theorem Col.hit {f : Nd → Bool} {T : Tr} {left : Lit → Bool} {ss : List Txt} (h : Col f T left ss) {x : Txt} {z : Nd} (hl : left (.string x) = true) (hz : get T x = some z) (hf : f z = true) :
    Col f T (fun q => left q && !q.sameKey (.string x)) (ss ++ [x]) := by
  have hx : x ∉ ss := fun hm => by
    obtain ⟨_, _, _, h3⟩ := (h.2 x).1 hm
    rw [hl] at h3
    cases h3
  refine ⟨List.nodup_append.2 ⟨h.1, by simp, fun a ha b hb e => by simp at hb; subst hb; subst e; exact hx ha⟩, fun p => ?_⟩
  rw [List.mem_append, h.2 p]
  by_cases e : p = x
  · subst e
    constructor
    · intro _; exact ⟨z, hz, hf, by simp [Lit.sameKey]⟩
    · intro _; exact .inr (by simp)
  · have hs : (Lit.string p).sameKey (.string x) = false := by simp [Lit.sameKey, e]
    simp [hs, e]
theorem Col.miss {f : Nd → Bool} {T : Tr} {left : Lit → Bool} {ss : List Txt} (h : Col f T left ss) {x : Txt} {z : Nd} (hz : get T x = some z) (hf : f z = false) :
    Col f T (fun q => left q && !q.sameKey (.string x)) ss := by
  refine ⟨h.1, fun p => ?_⟩
  rw [h.2 p]
  by_cases e : p = x
  · subst e
    constructor
    · rintro ⟨z', h1, h2, _⟩
      rw [hz] at h1
      obtain rfl := Option.some.inj h1
      rw [hf] at h2; cases h2
    · rintro ⟨z', h1, h2, _⟩
      rw [hz] at h1
      obtain rfl := Option.some.inj h1
      rw [hf] at h2; cases h2
  · have hs : (Lit.string p).sameKey (.string x) = false := by simp [Lit.sameKey, e]
    simp [hs]
theorem Col.end {f : Nd → Bool} {T : Tr} (hs : Srt T) {left : Lit → Bool} {ss : List Txt} (h : Col f T left ss) (hl : ∀ p, left (.string p) = false) : ss.mergeSort leB = paths (sel f T) := by
  refine sort_perm ((List.perm_ext_iff_of_nodup h.1 (paths_nodup (sel_srt hs f))).2 fun p => ?_) (paths_lt (sel_srt hs f))
  rw [h.2 p]
  unfold paths sel
  rw [List.mem_map]
  constructor
  · rintro ⟨z, h1, h2, _⟩
    obtain ⟨h3, h4⟩ := get_some h1
    exact ⟨z, List.mem_filter.2 ⟨h3, h2⟩, h4⟩
  · rintro ⟨z, h1, h2⟩
    obtain ⟨h3, h4⟩ := List.mem_filter.1 h1
    exact ⟨z, by rw [← h2]; exact get_mem hs h3, h4, hl p⟩
theorem Col.length_le {f : Nd → Bool} {T : Tr} {left : Lit → Bool} {ss : List Txt} (h : Col f T left ss) : ss.length ≤ T.length := by
  have hp : ss ⊆ paths T := fun p hp => by
    obtain ⟨z, h1, _⟩ := (h.2 p).1 hp
    obtain ⟨h3, h4⟩ := get_some h1
    exact List.mem_map.2 ⟨z, h3, h4⟩
  have := List.Nodup.length_le_of_subset h.1 hp
  simpa [paths] using this
end Go.Proofs.Zt
