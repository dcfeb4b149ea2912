/-
  Plain mathematics of what the coordination knows: transactions on a tree, on leases, on what was last done. No program in it; no condition.
-/
import Derived.Test.YtflgemlhocjipaaGreatDoorTree3
import Derived.Test.YtflgemlhocjipaaGreatDoorLEq
namespace Go.Proofs.Zs
open Go.Proofs.Zn Go.Proofs.Zt

structure Rep where
  c : Int
  s : Int
  ps : List Txt
structure Lst where
  s : Int
  n : Int
  r : Rep
structure Tx where
  k : Int
  s : Int
  n : Int
  sp : Int
  now : Int
  l : List Chg
structure St where
  z : Int
  T : Tr
  L : Le.Tb
  D : List Lst
def r0 : Rep := ⟨0, 0, []⟩
def er (c : Int) : Rep := ⟨c, 0, []⟩
def lk (D : List Lst) (s : Int) : Option Lst := D.find? (fun x => x.s == s)
def fd (D : List Lst) (s : Int) : Lst := (lk D s).getD ⟨s, 0, r0⟩
def fg (D : List Lst) (s : Int) : List Lst := D.filter (fun x => !(x.s == s))
def chg (S : St) (t : Tx) : St × Rep × List Evt :=
  if t.n < 1 ∨ mx < t.n ∨ t.n < (fd S.D t.s).n ∨ 6 < t.l.length then (S, er 1, [])
  else if t.n = (fd S.D t.s).n then (S, (fd S.D t.s).r, [])
  else (⟨S.z, (doL S.T S.z t.s t.l).T, S.L, fg S.D t.s ++ [⟨t.s, t.n, ⟨(doL S.T S.z t.s t.l).e, 0, (doL S.T S.z t.s t.l).ps⟩⟩]⟩, ⟨(doL S.T S.z t.s t.l).e, 0, (doL S.T S.z t.s t.l).ps⟩, (doL S.T S.z t.s t.l).es)
def fin (S : St) (s : Int) : St × Rep × List Evt := (⟨S.z, (endL S.T S.z s).1, (Le.cls S.L s).1, fg S.D s⟩, er (Le.cls S.L s).2, (endL S.T S.z s).2)
def opnS (S : St) (sp now : Int) : St × Rep × List Evt :=
  (⟨S.z, S.T, (Le.opn S.L ⟨S.z, sp, now⟩).1, S.D⟩, if (Le.opn S.L ⟨S.z, sp, now⟩).2 ≠ 0 then er (Le.opn S.L ⟨S.z, sp, now⟩).2 else ⟨0, S.z, []⟩, [])
def renS (S : St) (s now : Int) : St × Rep × List Evt := (⟨S.z, S.T, (Le.ren S.L s now).1, S.D⟩, er (Le.ren S.L s now).2, [])
def forS (S : St) (t : Tx) : St × Rep × List Evt := match Le.has S.L t.s with
  | none => (S, er 100, [])
  | some x => if t.k = 4 then chg S t else if t.k = 5 ∧ x.l ≠ t.now then (S, er 1, []) else fin S t.s
def doS (S : St) (t : Tx) : St × Rep × List Evt :=
  if t.k = 1 then opnS S t.sp t.now else if t.k = 2 then renS S t.s t.now else if t.k < 3 ∨ 5 < t.k then (S, er 1, []) else forS S t
def badZ (S : St) (zx : Int) : Bool := decide (zx ≤ S.z) || decide (mx < zx)
def app (S : St) (zx : Int) (t : Tx) : St × Rep × List Evt := if badZ S zx = true then (S, er 1, []) else doS ⟨zx, S.T, S.L, S.D⟩ t
def new : St := ⟨0, Zt.new, [], []⟩

/-! ### What is last done -/
theorem lk_some {D : List Lst} {s : Int} {x : Lst} (h : lk D s = some x) : x ∈ D ∧ x.s = s := ⟨List.mem_of_find?_eq_some h, by simpa using List.find?_some h⟩
theorem lk_none {D : List Lst} {s : Int} : lk D s = none ↔ ∀ x ∈ D, x.s ≠ s := by unfold lk; rw [List.find?_eq_none]; simp
theorem mem_fg {D : List Lst} {s : Int} {x : Lst} : x ∈ fg D s ↔ x ∈ D ∧ x.s ≠ s := by unfold fg; rw [List.mem_filter]; simp
theorem lk_fg (D : List Lst) (s a : Int) : lk (fg D s) a = if a = s then none else lk D a := by
  split
  · rename_i h
    subst h
    exact lk_none.2 fun x hx => (mem_fg.1 hx).2
  · rename_i h
    unfold lk fg
    rw [List.find?_filter]
    congr 1
    funext x
    by_cases hx : x.s = a
    · have : ¬ x.s = s := fun e => h (hx.symm.trans e)
      simp [hx, h]
    · simp [hx]
theorem lk_snoc (D : List Lst) (x : Lst) (a : Int) : lk (D ++ [x]) a = (lk D a).or (if x.s = a then some x else none) := by
  unfold lk
  rw [List.find?_append]
  congr 1
  by_cases h : x.s = a <;> simp [h]
theorem fd_put (D : List Lst) (x : Lst) (a : Int) : fd (fg D x.s ++ [x]) a = if a = x.s then x else fd D a := by
  unfold fd
  rw [lk_snoc, lk_fg]
  by_cases h : a = x.s
  · subst h; simp
  · have h' : ¬ x.s = a := fun e => h e.symm
    rw [if_neg h, if_neg h', if_neg h]; simp
theorem fd_fg (D : List Lst) (s a : Int) : fd (fg D s) a = if a = s then ⟨a, 0, r0⟩ else fd D a := by
  unfold fd
  rw [lk_fg]
  split <;> rfl
theorem fd_zero {D : List Lst} {s : Int} (h : lk D s = none) : fd D s = ⟨s, 0, r0⟩ := by unfold fd; rw [h]; rfl
theorem fd_some {D : List Lst} {s : Int} {x : Lst} (h : lk D s = some x) : fd D s = x := by unfold fd; rw [h]; rfl
/-! ### Which leases there are -/
theorem is_iff {T : Le.Tb} {a : Int} : (Le.has T a).isSome = true ↔ ∃ x ∈ T, x.i = a := by
  cases h : Le.has T a with
  | none =>
    have := Le.has_none.1 h
    simp only [Option.isSome_none, Bool.false_eq_true, false_iff]
    rintro ⟨x, hx, e⟩
    exact this x hx e
  | some x => exact ⟨fun _ => ⟨x, (Le.has_mem h).1, (Le.has_mem h).2⟩, fun _ => rfl⟩
theorem is_bool {T T' : Le.Tb} {a b : Int} (h : (∃ x ∈ T, x.i = a) ↔ (∃ x ∈ T', x.i = b)) : (Le.has T a).isSome = (Le.has T' b).isSome := by
  rw [Bool.eq_iff_iff, is_iff, is_iff]; exact h
theorem is_wit {T : Le.Tb} {x : Le.Ls} (a : Int) : (∃ y ∈ Le.wit T x, y.i = a) ↔ a = x.i ∨ ∃ y ∈ T, y.i = a := by
  constructor
  · rintro ⟨y, hy, e⟩
    rcases Le.mem_wit.1 hy with rfl | ⟨h1, h2⟩
    · exact .inl e.symm
    · exact .inr ⟨y, h1, e⟩
  · rintro (h | ⟨y, hy, e⟩)
    · exact ⟨x, Le.mem_wit.2 (.inl rfl), h.symm⟩
    · by_cases he : y.i = x.i
      · exact ⟨x, Le.mem_wit.2 (.inl rfl), he.symm.trans e⟩
      · exact ⟨y, Le.mem_wit.2 (.inr ⟨hy, he⟩), e⟩
theorem opn_cases {T : Le.Tb} (hg : Le.Good T) (x : Le.Ls) : ((Le.opn T x).2 = 1 ∧ (Le.opn T x).1 = T) ∨ ((Le.opn T x).2 = 0 ∧ Le.okL x = true ∧ Le.has T x.i = none ∧ (Le.opn T x).1 = Le.ins T x ∧ (Le.opn T x).1.length = T.length + 1 ∧ ∀ a, (Le.has (Le.opn T x).1 a).isSome = (decide (a = x.i) || (Le.has T a).isSome)) := by
  by_cases h1 : Le.okL x = false
  · left; unfold Le.opn; rw [if_pos h1]; exact ⟨rfl, rfl⟩
  by_cases h2 : (Le.has T x.i).isSome = true
  · left; unfold Le.opn; rw [if_neg h1, if_pos h2]; exact ⟨rfl, rfl⟩
  by_cases h3 : 100 ≤ T.length
  · left; unfold Le.opn; rw [if_neg h1, if_neg h2, if_pos h3]; exact ⟨rfl, rfl⟩
  right
  have hn : Le.has T x.i = none := by simpa using h2
  have e : Le.opn T x = (Le.ins T x, 0) := by unfold Le.opn; rw [if_neg h1, if_neg h2, if_neg h3]
  rw [e]
  refine ⟨rfl, by simpa using h1, hn, rfl, Le.ins_len T x, fun a => ?_⟩
  dsimp only
  rw [Le.ins_wit hg.srt hn]
  have h := is_wit (T := T) (x := x) a
  rw [← is_iff, ← is_iff] at h
  rw [Bool.eq_iff_iff, h]
  simp
theorem ren_is {T : Le.Tb} (hg : Le.Good T) (s now a : Int) : (Le.has (Le.ren T s now).1 a).isSome = (Le.has T a).isSome ∧ (Le.ren T s now).1.length = T.length := by
  unfold Le.ren
  split
  · exact ⟨rfl, rfl⟩
  · cases h : Le.has T s with
    | none => exact ⟨rfl, rfl⟩
    | some x =>
      dsimp only
      refine ⟨?_, by unfold Le.upd; simp⟩
      rw [Le.upd_wit hg.srt (x := ⟨s, x.s, max x.l now⟩) h]
      refine is_bool ((is_wit a).trans ⟨fun h' => ?_, .inr⟩)
      rcases h' with rfl | h'
      · exact ⟨x, (Le.has_mem h).1, (Le.has_mem h).2⟩
      · exact h'
theorem cls_some {T : Le.Tb} (hg : Le.Good T) {s : Int} {x : Le.Ls} (h : Le.has T s = some x) : (Le.cls T s).2 = 0 ∧ (Le.cls T s).1.length + 1 = T.length ∧ ∀ a, (Le.has (Le.cls T s).1 a).isSome = (!decide (a = s) && (Le.has T a).isSome) := by
  have e : Le.cls T s = (Le.del T s, 0) := by unfold Le.cls; rw [h]
  rw [e]
  have hp := Le.has_pos hg.srt h
  have hlt : Le.pos T s < T.length := (List.getElem?_eq_some_iff.1 hp).1
  refine ⟨rfl, by unfold Le.del; rw [List.length_eraseIdx, if_pos hlt]; omega, fun a => ?_⟩
  dsimp only
  rw [Le.del_filter hg.srt h, Bool.eq_iff_iff, is_iff]
  rw [Bool.and_eq_true, is_iff]
  constructor
  · rintro ⟨y, hy, e⟩
    obtain ⟨h1, h2⟩ := List.mem_filter.1 hy
    have h2 : y.i ≠ s := by simpa using h2
    exact ⟨by subst e; simpa using h2, y, h1, e⟩
  · rintro ⟨h1, y, hy, e⟩
    have h1 : a ≠ s := by simpa using h1
    refine ⟨y, List.mem_filter.2 ⟨hy, ?_⟩, e⟩
    have : y.i ≠ s := by rw [e]; exact h1
    simpa using this

/-! ### What stays true -/
structure Gd (S : St) : Prop where
  z0 : 0 ≤ S.z
  z1 : S.z ≤ mx
  T : Zt.Good S.T
  L : Le.Good S.L
  mem : ∀ x ∈ S.D, (Le.has S.L x.s).isSome = true
  ps : ∀ x ∈ S.D, x.r.ps.length ≤ 6 ∧ 1 ≤ x.n ∧ x.r.s = 0
theorem new_gd : Gd new := ⟨by decide, by decide, Zt.new_good, Le.good_nil, fun x hx => (by cases hx), fun x hx => (by cases hx)⟩
theorem do_ps (T : Tr) (zx se : Int) (l : List Chg) : (doL T zx se l).ps.length ≤ l.length := by
  have h : ∀ (l : List Chg) (now : Tr) (ps : List Txt) (es : List Evt), (doGo T zx se now ps es l).ps.length ≤ ps.length + l.length := by
    intro l
    induction l with
    | nil => intro now ps es; rw [doGo]; simp
    | cons c r ih =>
      intro now ps es
      rw [doGo]
      split
      · simp
      · refine Nat.le_trans (ih _ _ _) ?_
        simp; omega
  unfold doL
  split
  · simp
  · have := h l T [] []
    simpa using this
theorem chg_gd {S : St} (h : Gd S) {t : Tx} (hs : (Le.has S.L t.s).isSome = true) : Gd (chg S t).1 := by
  unfold chg
  split
  · exact h
  · rename_i h1
    have h1 : 1 ≤ t.n ∧ t.l.length ≤ 6 := by omega
    split
    · exact h
    · refine ⟨h.z0, h.z1, doL_good h.T _ _ _, h.L, fun x hx => ?_, fun x hx => ?_⟩
      · rcases List.mem_append.1 hx with hx | hx
        · exact h.mem x (mem_fg.1 hx).1
        · rw [List.mem_singleton.1 hx]; exact hs
      · rcases List.mem_append.1 hx with hx | hx
        · exact h.ps x (mem_fg.1 hx).1
        · rw [List.mem_singleton.1 hx]
          exact ⟨Nat.le_trans (do_ps _ _ _ _) h1.2, h1.1, rfl⟩
theorem fin_gd {S : St} (h : Gd S) {s : Int} {x : Le.Ls} (hx : Le.has S.L s = some x) : Gd (fin S s).1 := by
  obtain ⟨-, -, h3⟩ := cls_some h.L hx
  refine ⟨h.z0, h.z1, endL_good h.T _ _, Le.cls_good h.L s, fun y hy => ?_, fun y hy => h.ps y (mem_fg.1 hy).1⟩
  obtain ⟨h1, h2⟩ := mem_fg.1 hy
  show (Le.has (Le.cls S.L s).1 y.s).isSome = true
  rw [h3, h.mem y h1]
  simp [h2]
theorem for_gd {S : St} (h : Gd S) (t : Tx) : Gd (forS S t).1 := by
  unfold forS
  cases hx : Le.has S.L t.s with
  | none => exact h
  | some x =>
    dsimp only
    split
    · exact chg_gd h (by rw [hx]; rfl)
    · split
      · exact h
      · exact fin_gd h hx
theorem opn_gd {S : St} (h : Gd S) (sp now : Int) : Gd (opnS S sp now).1 := by
  refine ⟨h.z0, h.z1, h.T, Le.opn_good h.L _, fun x hx => ?_, h.ps⟩
  show (Le.has (Le.opn S.L ⟨S.z, sp, now⟩).1 x.s).isSome = true
  rcases opn_cases h.L ⟨S.z, sp, now⟩ with ⟨-, e⟩ | ⟨-, -, -, -, -, e⟩
  · rw [e]; exact h.mem x hx
  · rw [e, h.mem x hx]; simp
theorem ren_gd {S : St} (h : Gd S) (s now : Int) : Gd (renS S s now).1 := by
  refine ⟨h.z0, h.z1, h.T, Le.ren_good h.L _ _, fun x hx => ?_, h.ps⟩
  show (Le.has (Le.ren S.L s now).1 x.s).isSome = true
  rw [(ren_is h.L s now x.s).1]; exact h.mem x hx
theorem do_gd {S : St} (h : Gd S) (t : Tx) : Gd (doS S t).1 := by
  unfold doS
  split
  · exact opn_gd h _ _
  · split
    · exact ren_gd h _ _
    · split
      · exact h
      · exact for_gd h t
theorem badZ_false {S : St} {zx : Int} (h : badZ S zx = false) : S.z < zx ∧ zx ≤ mx := by
  unfold badZ at h
  simp only [Bool.or_eq_false_iff, decide_eq_false_iff_not] at h
  omega
theorem set_gd {S : St} (h : Gd S) {zx : Int} (h1 : 0 ≤ zx) (h2 : zx ≤ mx) : Gd ⟨zx, S.T, S.L, S.D⟩ := ⟨h1, h2, h.T, h.L, h.mem, h.ps⟩
theorem app_gd {S : St} (h : Gd S) (zx : Int) (t : Tx) : Gd (app S zx t).1 := by
  unfold app
  split
  · exact h
  · rename_i hb
    have hb := badZ_false (by simpa using hb)
    exact do_gd (set_gd h (by have := h.z0; omega) hb.2) t
/-! ### Scripts -/
structure Cl where
  zx : Int
  t : Tx
def stp (S : St) (o : Cl) : St := (app S o.zx o.t).1
def run (S : St) (l : List Cl) : St := l.foldl stp S
theorem run_step {S : St} {l : List Cl} {k : Nat} {o : Cl} (h : l[k]? = some o) : run S (l.take (k + 1)) = stp (run S (l.take k)) o := by
  obtain ⟨hk, rfl⟩ := List.getElem?_eq_some_iff.1 h
  unfold run
  rw [List.take_succ_eq_append_getElem hk, List.foldl_append]; rfl
end Go.Proofs.Zs
