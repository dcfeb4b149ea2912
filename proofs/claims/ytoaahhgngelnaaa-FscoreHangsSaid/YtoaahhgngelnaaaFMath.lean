/-
  Plain mathematics of one file system, as the document has it: inodes in a list, names in another one; what each call makes of them. No condition.
-/
import Derived.Test.YtoaahhgngelnaaaTMath
namespace Go.Proofs.Fz
open Go.Proofs.Sg

abbrev Txt := List UInt8
structure Nod where
  id : Nat
  gen : Nat
  kind : Nat
  mode : Int
  time : Int
  par : Nat
  tg : Txt
  d : Sh
structure Nm where
  dir : Nat
  nm : Txt
  id : Nat
structure Fst where
  room : Nat
  I : List Nod
  N : List Nm
  G : List Nat
structure Hd where
  id : Int
  gen : Int
structure Mk where
  kind : Int
  mode : Int
  time : Int
  tg : Txt
def sh0 : Sh := ⟨0, [], fun _ => 0⟩
abbrev hd0 : Hd := ⟨0, 0⟩
def nod0 : Nod := ⟨0, 0, 0, 0, 0, 0, [], sh0⟩

def nget (I : List Nod) (i : Int) : Option Nod := I.find? (fun x => decide ((x.id : Int) = i))
def entN (N : List Nm) (d : Nat) (s : Txt) : Option Nm := N.find? (fun n => decide (n.dir = d ∧ n.nm = s))
def entry (N : List Nm) (d : Nat) (s : Txt) : Nat := ((entN N d s).map (fun n => n.id)).getD 0
def isD (I : List Nod) (i : Nat) : Bool := match nget I (i : Int) with
  | some x => decide (x.kind = 2)
  | none => false
def many (N : List Nm) (d : Nat) : Nat := N.countP (fun n => decide (n.dir = d))
def links (I : List Nod) (N : List Nm) (x : Nod) : Nat :=
  if x.kind = 2 then 2 + N.countP (fun n => decide (n.dir = x.id) && isD I n.id) else N.countP (fun n => decide (n.id = x.id))
def validN (s : Txt) : Bool := decide (1 ≤ s.length) && decide (s.length ≤ 60) && !s.any (fun b => b == 47 || b == 0) && !decide (s = [46]) && !decide (s = [46, 46])
def isT (t : Int) : Bool := decide (0 ≤ t) && decide (t ≤ 1099511627776)
def badM (m : Mk) : Bool :=
  !(decide (1 ≤ m.kind) && decide (m.kind ≤ 3) && decide (0 ≤ m.mode) && decide (m.mode ≤ 4095) && isT m.time && (if m.kind = 3 then decide (m.tg ≠ []) && decide (m.tg.length ≤ 100) else decide (m.tg = [])))
def gone (I : List Nod) (i : Nat) : List Nod := I.filter (fun x => !decide (x.id = i))
def setI (I : List Nod) (x : Nod) : List Nod := gone I x.id ++ [x]
def unnm (N : List Nm) (d : Nat) (s : Txt) : List Nm := N.filter (fun n => !decide (n.dir = d ∧ n.nm = s))
def addn (N : List Nm) (d : Nat) (s : Txt) (i : Nat) : List Nm := N ++ [⟨d, s, i⟩]
/-- The least number from i on that is free. -/
def least (I : List Nod) : Nat → Nat → Nat
  | 0, i => i
  | k + 1, i => if (nget I (i : Int)).isSome then least I k (i + 1) else i
def padG (G : List Nat) (n : Nat) : List Nat := G ++ List.replicate (n - G.length) 0
def bump (G : List Nat) (i : Nat) : List Nat := (padG G (i + 1)).set i (G.getD i 0 + 1)
def fnd (I : List Nod) (h : Hd) : Option Nod := match nget I h.id with
  | some x => if (x.gen : Int) = h.gen then some x else none
  | none => none
/-- The folder of a handle, or why there is none. -/
def fol (I : List Nod) (h : Hd) : Sum Int Nod := match fnd I h with
  | some x => if x.kind = 2 then .inr x else .inl 173
  | none => .inl 175
/-- The file of a handle, or why there is none. -/
def fil (I : List Nod) (h : Hd) : Sum Int Nod := match fnd I h with
  | some x => if x.kind = 2 then .inl 172 else if x.kind = 3 then .inl 1 else .inr x
  | none => .inl 175
def genO (I : List Nod) (i : Nat) : Nat := match nget I (i : Int) with
  | some x => x.gen
  | none => 0
/-- The handle of a number; zero for none. -/
def hdO (I : List Nod) (i : Nat) : Hd := if i = 0 then hd0 else ⟨i, genO I i⟩
def used (I : List Nod) : Nat := (I.map (fun x => x.d.K.length)).sum

/-! ### The calls -/
def newF (r : Int) : Fst := ⟨r.toNat, [⟨1, 1, 2, 493, 0, 1, [], sh0⟩], [], [0, 1]⟩
def loF (f : Fst) (h : Hd) (s : Txt) : Hd × Int := match fol f.I h with
  | .inl e => (hd0, e)
  | .inr x =>
    if s = [46] then (h, 0) else
    if s = [46, 46] then (hdO f.I x.par, 0) else
    if validN s = false then (hd0, 176) else
    if entry f.N x.id s = 0 then (hd0, 170) else (hdO f.I (entry f.N x.id s), 0)
def mkN (f : Fst) (x : Nod) (m : Mk) : Nod := ⟨least f.I 201 1, f.G.getD (least f.I 201 1) 0 + 1, m.kind.toNat, m.mode, m.time, x.id, m.tg, sh0⟩
def mkS (f : Fst) (x : Nod) (s : Txt) (m : Mk) : Fst := ⟨f.room, setI f.I (mkN f x m), addn f.N x.id s (mkN f x m).id, bump f.G (mkN f x m).id⟩
def mkF (f : Fst) (h : Hd) (s : Txt) (m : Mk) : Fst × Hd × Int := match fol f.I h with
  | .inl e => (f, hd0, e)
  | .inr x =>
    if validN s = false then (f, hd0, 176) else
    if badM m = true then (f, hd0, 1) else
    if entry f.N x.id s ≠ 0 then (f, hd0, 171) else
    if m.kind = 2 ∧ 20 ≤ links f.I f.N x then (f, hd0, 179) else
    if 200 ≤ f.I.length then (f, hd0, 177) else
    (mkS f x s m, ⟨(mkN f x m).id, (mkN f x m).gen⟩, 0)
def lkF (f : Fst) (h g : Hd) (s : Txt) : Fst × Int := match fnd f.I h with
  | none => (f, 175)
  | some x => match fol f.I g with
    | .inl e => (f, e)
    | .inr d =>
      if validN s = false then (f, 176) else
      if x.kind = 2 then (f, 172) else
      if entry f.N d.id s ≠ 0 then (f, 171) else
      if 20 ≤ links f.I f.N x then (f, 179) else
      (⟨f.room, f.I, addn f.N d.id s x.id, f.G⟩, 0)
/-- A name of y is taken away. -/
def drp (f : Fst) (d : Nat) (s : Txt) (y : Nod) : Fst :=
  if y.kind = 2 ∨ links f.I (unnm f.N d s) y = 0 then ⟨f.room, gone f.I y.id, unnm f.N d s, f.G⟩ else ⟨f.room, f.I, unnm f.N d s, f.G⟩
def mayC (f : Fst) (y : Nod) (dir : Bool) : Int :=
  if y.kind = 2 ∧ dir = false then 172 else
  if y.kind ≠ 2 ∧ dir = true then 173 else
  if y.kind = 2 ∧ 0 < many f.N y.id then 174 else 0
def rmF (f : Fst) (h : Hd) (s : Txt) (dir : Bool) : Fst × Int := match fol f.I h with
  | .inl e => (f, e)
  | .inr d =>
    if validN s = false then (f, 176) else
    match nget f.I (entry f.N d.id s : Int) with
    | none => (f, 170)
    | some y => if mayC f y dir ≠ 0 then (f, mayC f y dir) else (drp f d.id s y, 0)
/-- One folder is another one, or lies below it. -/
inductive Bel (I : List Nod) (t : Nat) : Nat → Prop
  | here : Bel I t t
  | up {i : Nat} {y : Nod} : nget I (i : Int) = some y → i ≠ 1 → Bel I t y.par → Bel I t i
def putS (f : Fst) (p q : Nat) (s t : Txt) (x : Nod) : Fst :=
  ⟨f.room, if x.kind = 2 then setI f.I { x with par := q } else f.I, addn (unnm f.N p s) q t x.id, f.G⟩
open Classical in
noncomputable def rnF (f : Fst) (a : Hd) (s : Txt) (b : Hd) (t : Txt) : Fst × Int :=
  if fnd f.I a = none ∨ fnd f.I b = none then (f, 175) else
  match fol f.I a, fol f.I b with
  | .inr p, .inr q =>
    if validN s = false ∨ validN t = false then (f, 176) else
    match nget f.I (entry f.N p.id s : Int) with
    | none => (f, 170)
    | some x =>
      if entry f.N p.id s = entry f.N q.id t then (f, 0) else
      if x.kind = 2 ∧ Bel f.I x.id q.id then (f, 178) else
      match nget f.I (entry f.N q.id t : Int) with
      | some y => if mayC f y (decide (x.kind = 2)) ≠ 0 then (f, mayC f y (decide (x.kind = 2))) else (putS (drp f q.id t y) p.id q.id s t x, 0)
      | none => if x.kind = 2 ∧ p.id ≠ q.id ∧ 20 ≤ links f.I f.N q then (f, 179) else (putS f p.id q.id s t x, 0)
  | _, _ => (f, 173)

/-! ### What holds of each file system -/
structure Gd (f : Fst) : Prop where
  ids : (f.I.map (fun x => x.id)).Nodup
  rng : ∀ x ∈ f.I, 1 ≤ x.id ∧ x.id ≤ 200
  root : ∃ x ∈ f.I, x.id = 1 ∧ x.gen = 1 ∧ x.kind = 2 ∧ x.par = 1
  gen : ∀ x ∈ f.I, 1 ≤ x.gen ∧ x.gen ≤ f.G.getD x.id 0
  kind : ∀ x ∈ f.I, x.kind = 1 ∨ x.kind = 2 ∨ x.kind = 3
  dat : ∀ x ∈ f.I, GoodS x.d ∧ (x.kind ≠ 1 → x.d = sh0)
  tgt : ∀ x ∈ f.I, x.tg.length ≤ 100
  nmu : f.N.Pairwise (fun a b => ¬ (a.dir = b.dir ∧ a.nm = b.nm))
  nmd : ∀ n ∈ f.N, isD f.I n.dir = true
  nmi : ∀ n ∈ f.N, (nget f.I (n.id : Int)).isSome = true ∧ n.id ≠ 1
  nmv : ∀ n ∈ f.N, validN n.nm = true
  has : ∀ x ∈ f.I, x.id ≠ 1 → ∃ n ∈ f.N, n.id = x.id
  uni : f.N.Pairwise (fun a b => ¬ (a.id = b.id ∧ isD f.I a.id = true))
  one : ∀ n ∈ f.N, ∀ x ∈ f.I, x.id = n.id → x.kind = 2 → x.par = n.dir
  lnk : ∀ x ∈ f.I, links f.I f.N x ≤ 20
  rnk : ∃ r : Nat → Nat, ∀ x ∈ f.I, x.kind = 2 → x.id ≠ 1 → r x.par < r x.id
  cnt : f.I.length ≤ 200
  rom : used f.I ≤ f.room
/-- How much was ever done. -/
structure Bd (f : Fst) (T : Nat) : Prop where
  nms : f.N.length ≤ T
  gns : ∀ i, f.G.getD i 0 ≤ T + 1
  gsz : f.G.length ≤ 201

/-! ### Lists of inodes -/
theorem nget_mem {I : List Nod} {i : Int} {x : Nod} (h : nget I i = some x) : x ∈ I ∧ (x.id : Int) = i := by
  unfold nget at h
  exact ⟨List.mem_of_find?_eq_some h, by simpa using List.find?_some h⟩
theorem nget_none {I : List Nod} {i : Int} : nget I i = none ↔ ∀ x ∈ I, (x.id : Int) ≠ i := by
  unfold nget; simp
theorem nget_of {I : List Nod} (h : (I.map (fun x => x.id)).Nodup) {x : Nod} (hx : x ∈ I) : nget I (x.id : Int) = some x := by
  induction I with
  | nil => cases hx
  | cons y l ih =>
    rw [List.map_cons, List.nodup_cons] at h
    unfold nget
    rw [List.find?_cons]
    rcases List.mem_cons.1 hx with rfl | hx
    · simp
    · have hne : y.id ≠ x.id := fun e => h.1 (by rw [e]; exact List.mem_map.2 ⟨x, hx, rfl⟩)
      have : decide ((y.id : Int) = (x.id : Int)) = false := by simp only [decide_eq_false_iff_not]; omega
      rw [this]
      exact ih h.2 hx
theorem nget_iff {I : List Nod} (h : (I.map (fun x => x.id)).Nodup) {i : Int} {x : Nod} : nget I i = some x ↔ x ∈ I ∧ (x.id : Int) = i :=
  ⟨nget_mem, fun ⟨h1, h2⟩ => h2 ▸ nget_of h h1⟩
theorem mem_gone {I : List Nod} {i : Nat} {x : Nod} : x ∈ gone I i ↔ x ∈ I ∧ x.id ≠ i := by unfold gone; rw [List.mem_filter]; simp
theorem mem_setI {I : List Nod} {x y : Nod} : y ∈ setI I x ↔ (y ∈ I ∧ y.id ≠ x.id) ∨ y = x := by unfold setI; rw [List.mem_append, mem_gone, List.mem_singleton]
theorem nodup_gone {I : List Nod} (h : (I.map (fun x => x.id)).Nodup) (i : Nat) : ((gone I i).map (fun x => x.id)).Nodup :=
  (List.Sublist.map _ List.filter_sublist).nodup h
theorem nodup_setI {I : List Nod} (h : (I.map (fun x => x.id)).Nodup) (x : Nod) : ((setI I x).map (fun x => x.id)).Nodup := by
  unfold setI
  rw [List.map_append, List.nodup_append]
  refine ⟨nodup_gone h _, by simp, fun a ha b hb => ?_⟩
  obtain ⟨y, hy, rfl⟩ := List.mem_map.1 ha
  simp only [List.map_cons, List.map_nil, List.mem_singleton] at hb
  subst hb
  exact (mem_gone.1 hy).2
theorem nget_gone {I : List Nod} (i : Nat) (j : Int) : nget (gone I i) j = if (i : Int) = j then none else nget I j := by
  split
  · rename_i h
    exact nget_none.2 (fun x hx => by have := (mem_gone.1 hx).2; omega)
  · rename_i h
    unfold nget gone
    rw [List.find?_filter]
    congr 1
    funext x
    by_cases hx : (x.id : Int) = j
    · have : x.id ≠ i := by omega
      simp [this, hx]
    · simp [hx]
theorem nget_setI {I : List Nod} (x : Nod) (j : Int) : nget (setI I x) j = if (x.id : Int) = j then some x else nget I j := by
  unfold setI
  have h1 : nget (gone I x.id ++ [x]) j = (nget (gone I x.id) j).or (nget [x] j) := by unfold nget; rw [List.find?_append]
  rw [h1, nget_gone]
  by_cases h : (x.id : Int) = j
  · rw [if_pos h, if_pos h]; unfold nget; simp [h]
  · rw [if_neg h, if_neg h]
    have : nget [x] j = none := by unfold nget; simp [h]
    rw [this]; simp
theorem len_setI_new {I : List Nod} {x : Nod} (h : nget I (x.id : Int) = none) : setI I x = I ++ [x] := by
  unfold setI gone
  rw [List.filter_eq_self.2 (fun y hy => by have := nget_none.1 h y hy; simp; omega)]
theorem isD_iff {I : List Nod} {i : Nat} : isD I i = true ↔ ∃ x, nget I (i : Int) = some x ∧ x.kind = 2 := by
  unfold isD
  rcases nget I (i : Int) with _ | x <;> simp
theorem isD_setI {I : List Nod} (x : Nod) (i : Nat) : isD (setI I x) i = if x.id = i then decide (x.kind = 2) else isD I i := by
  unfold isD
  rw [nget_setI]
  by_cases h : x.id = i
  · rw [if_pos (by omega), if_pos h]
  · rw [if_neg (by omega), if_neg h]
theorem isD_gone {I : List Nod} (i j : Nat) : isD (gone I i) j = if i = j then false else isD I j := by
  unfold isD
  rw [nget_gone]
  by_cases h : i = j
  · rw [if_pos (by omega), if_pos h]
  · rw [if_neg (by omega), if_neg h]
theorem isD_of {I : List Nod} (h : (I.map (fun x => x.id)).Nodup) {x : Nod} (hx : x ∈ I) : isD I x.id = decide (x.kind = 2) := by
  unfold isD; rw [nget_of h hx]

/-! ### Lists of names -/
theorem entN_some {N : List Nm} {d : Nat} {s : Txt} {n : Nm} (h : entN N d s = some n) : n ∈ N ∧ n.dir = d ∧ n.nm = s ∧ entry N d s = n.id := by
  have h1 := List.find?_some h
  simp only [decide_eq_true_eq] at h1
  exact ⟨List.mem_of_find?_eq_some h, h1.1, h1.2, by unfold entry; rw [h]; rfl⟩
theorem entN_none {N : List Nm} {d : Nat} {s : Txt} : entN N d s = none ↔ ∀ n ∈ N, ¬ (n.dir = d ∧ n.nm = s) := by
  unfold entN; rw [List.find?_eq_none]
  constructor
  · intro h n hn; have := h n hn; simpa only [decide_eq_true_eq] using this
  · intro h n hn; simpa only [decide_eq_true_eq] using h n hn
theorem entry_none {N : List Nm} {d : Nat} {s : Txt} (h : entN N d s = none) : entry N d s = 0 := by unfold entry; rw [h]; rfl
theorem entry_some {N : List Nm} {d : Nat} {s : Txt} (h : entry N d s ≠ 0) : ∃ n ∈ N, n.dir = d ∧ n.nm = s ∧ n.id = entry N d s := by
  rcases hq : entN N d s with _ | n
  · exact absurd (entry_none hq) h
  · obtain ⟨h1, h2, h3, h4⟩ := entN_some hq
    exact ⟨n, h1, h2, h3, h4.symm⟩
theorem entN_of {N : List Nm} (h : N.Pairwise (fun a b => ¬ (a.dir = b.dir ∧ a.nm = b.nm))) {n : Nm} (hn : n ∈ N) : entN N n.dir n.nm = some n := by
  induction N with
  | nil => cases hn
  | cons a l ih =>
    rw [List.pairwise_cons] at h
    unfold entN
    rw [List.find?_cons]
    rcases List.mem_cons.1 hn with rfl | hn
    · simp
    · have : decide (a.dir = n.dir ∧ a.nm = n.nm) = false := by simp only [decide_eq_false_iff_not]; exact h.1 n hn
      rw [this]
      exact ih h.2 hn
theorem entry_of {N : List Nm} (h : N.Pairwise (fun a b => ¬ (a.dir = b.dir ∧ a.nm = b.nm))) {n : Nm} (hn : n ∈ N) : entry N n.dir n.nm = n.id := by
  unfold entry; rw [entN_of h hn]; rfl
theorem entry_zero {N : List Nm} (hz : ∀ n ∈ N, n.id ≠ 0) {d : Nat} {s : Txt} : entry N d s = 0 ↔ entN N d s = none := by
  refine ⟨fun h => ?_, entry_none⟩
  rcases hq : entN N d s with _ | n
  · rfl
  · obtain ⟨h1, h2, h3, h4⟩ := entN_some hq
    exact absurd (h4.symm.trans h) (hz n h1)
theorem mem_unnm {N : List Nm} {d : Nat} {s : Txt} {n : Nm} : n ∈ unnm N d s ↔ n ∈ N ∧ ¬ (n.dir = d ∧ n.nm = s) := by
  unfold unnm; rw [List.mem_filter]
  by_cases h : n.dir = d ∧ n.nm = s <;> simp [h]
theorem entN_unnm {N : List Nm} {d d' : Nat} {s s' : Txt} : entN (unnm N d s) d' s' = if d = d' ∧ s = s' then none else entN N d' s' := by
  by_cases h : d = d' ∧ s = s'
  · rw [if_pos h]
    obtain ⟨rfl, rfl⟩ := h
    exact entN_none.2 (fun n hn => (mem_unnm.1 hn).2)
  · rw [if_neg h]
    unfold entN unnm
    rw [List.find?_filter]
    congr 1
    funext n
    by_cases h2 : n.dir = d' ∧ n.nm = s'
    · have h3 : ¬ (n.dir = d ∧ n.nm = s) := fun e => h ⟨e.1.symm.trans h2.1, e.2.symm.trans h2.2⟩
      rw [decide_eq_true h2, decide_eq_false h3]; rfl
    · rw [decide_eq_false h2]; simp
theorem entry_unnm {N : List Nm} {d d' : Nat} {s s' : Txt} : entry (unnm N d s) d' s' = if d = d' ∧ s = s' then 0 else entry N d' s' := by
  unfold entry
  rw [entN_unnm]
  split <;> rfl
theorem entN_addn {N : List Nm} {d d' : Nat} {s s' : Txt} {i : Nat} (h0 : entN N d s = none) : entN (addn N d s i) d' s' = if d = d' ∧ s = s' then some ⟨d, s, i⟩ else entN N d' s' := by
  have h1 : entN (addn N d s i) d' s' = (entN N d' s').or (entN [⟨d, s, i⟩] d' s') := by unfold addn entN; rw [List.find?_append]
  rw [h1]
  by_cases h : d = d' ∧ s = s'
  · rw [if_pos h]
    obtain ⟨rfl, rfl⟩ := h
    rw [h0]
    unfold entN; simp
  · rw [if_neg h]
    have : entN [⟨d, s, i⟩] d' s' = none := entN_none.2 (fun n hn => by rw [List.mem_singleton.1 hn]; exact h)
    rw [this]
    simp
theorem entry_addn {N : List Nm} {d d' : Nat} {s s' : Txt} {i : Nat} (h0 : entN N d s = none) : entry (addn N d s i) d' s' = if d = d' ∧ s = s' then i else entry N d' s' := by
  unfold entry
  rw [entN_addn h0]
  split <;> rfl
end Go.Proofs.Fz
