/-
  Plain mathematics of tables of leases: rows by rising ids; what is opened, renewed, closed; who has ended. No program in it; no condition.
  Words for memory: rows of the call's own; parts of one length; leases and calls as cells. No condition.
  Rows of leases that are written in their middle, cut, cleared; copies of elements. No condition.
  Leases compared. No condition.
-/
import Derived.Test.YtflgemlhocjipaaGreatDoorRows
import Derived.WalkKit
import Derived.ProofKit
import Derived.OpenShut
import Derived.Lib.Hide
import Derived.Outline
import Derived.Below
import Derived.OwnWalk
import Derived.OneCell
import Derived.Deep.LoopGhost
import Derived.Deep.Draws
import Derived.Deep.Slices
import Derived.Deep.MidRow
import Derived.Deep.Heap
import Derived.RegionTactic
import Derived.Deep.RegionHeld3
import Derived.StillTailTactics
import Derived.BigQuiet
import Derived.Deep.QuietTactic
import Derived.IntWalk
import Derived.Laws.AppendOwnNone
import Derived.Laws.StructEq
import Derived.Laws.CopyOwn
import Derived.Lib.LazyBuf
import Derived.Lib.MinMax
import Derived.Lib.SliceRun
import Derived.Maps.OwnSet
import Derived.Maps.Views
import Derived.Maps.RangeWalk
import Derived.StringKeys
import Derived.Deep.DeepCutAuto
import Derived.Deep.AppendLies
import Derived.Maps.AppendAt
import Derived.Deep.AppendSrc
import Derived.Deep.Upon
import Derived.Lib.Overlaps
import Derived.Laws.Externs
import Derived.Laws.IdiomCopy
namespace Go.Proofs.Le

/-- A lease. -/
structure Ls where
  i : Int
  s : Int
  l : Int
theorem ls_eq {a b : Ls} : a = b ↔ a.i = b.i ∧ a.s = b.s ∧ a.l = b.l := by
  constructor
  · rintro rfl; exact ⟨rfl, rfl, rfl⟩
  · rintro ⟨h1, h2, h3⟩
    cases a; cases b
    simp only at h1 h2 h3
    subst h1 h2 h3
    rfl
instance : DecidableEq Ls := fun _ _ => decidable_of_iff _ ls_eq.symm
abbrev Tb := List Ls
def z0 : Ls := ⟨0, 0, 0⟩
def Srt (T : Tb) : Prop := T.Pairwise (fun a b => a.i < b.i)
def okT (n : Int) : Bool := decide (0 ≤ n) && decide (n ≤ 1099511627776)
def okL (x : Ls) : Bool := decide (1 ≤ x.i) && decide (x.i ≤ 4611686018427387904) && decide (1 ≤ x.s) && decide (x.s ≤ 1000000) && okT x.l
theorem okL_pos {x : Ls} (h : okL x = true) : 1 ≤ x.i ∧ 1 ≤ x.s := by
  unfold okL at h
  simp only [Bool.and_eq_true, decide_eq_true_eq] at h
  exact ⟨h.1.1.1.1, h.1.1.2⟩
theorem okL_ne {x : Ls} (h : okL x = true) : x ≠ z0 := by
  rintro rfl
  have := (okL_pos h).1
  simp [z0] at this
/-- How many leases have a lesser id. -/
def pos (T : Tb) (id : Int) : Nat := (T.filter (fun x => decide (x.i < id))).length
def has (T : Tb) (id : Int) : Option Ls := T.find? (fun x => x.i == id)
theorem pos_le (T : Tb) (id : Int) : pos T id ≤ T.length := List.length_filter_le _ _
theorem pos_cons_lt {y : Ls} {T : Tb} {id : Int} (h : y.i < id) : pos (y :: T) id = pos T id + 1 := by
  unfold pos; rw [List.filter_cons, if_pos (by simpa using h), List.length_cons]
theorem pos_cons_ge {y : Ls} {T : Tb} {id : Int} (hs : Srt (y :: T)) (h : id ≤ y.i) : pos (y :: T) id = 0 := by
  unfold pos
  rw [List.filter_eq_nil_iff.2]
  · rfl
  · intro x hx
    rcases List.mem_cons.1 hx with rfl | hx
    · simp; omega
    · have := (List.pairwise_cons.1 hs).1 x hx
      simp; omega
theorem pos_lt : ∀ {T : Tb}, Srt T → ∀ {id : Int} {k : Nat} {x : Ls}, T[k]? = some x → decide (x.i < id) = decide (k < pos T id)
  | [], _, _, _, _, h => by simp at h
  | y :: T, hs, id, k, x, h => by
    by_cases hy : y.i < id
    · rw [pos_cons_lt hy]
      cases k with
      | zero => simp at h; subst h; simp [hy]
      | succ k =>
        rw [pos_lt (List.pairwise_cons.1 hs).2 (by simpa using h)]
        simp
    · rw [pos_cons_ge hs (by omega)]
      have hx : y.i ≤ x.i := by
        rcases List.mem_cons.1 (List.mem_of_getElem? h) with rfl | hx
        · exact Int.le_refl _
        · have := (List.pairwise_cons.1 hs).1 x hx; omega
      simp; omega
theorem has_mem {T : Tb} {id : Int} {x : Ls} (h : has T id = some x) : x ∈ T ∧ x.i = id := ⟨List.mem_of_find?_eq_some h, by simpa using List.find?_some h⟩
theorem has_none {T : Tb} {id : Int} : has T id = none ↔ ∀ x ∈ T, x.i ≠ id := by
  unfold has
  rw [List.find?_eq_none]
  exact ⟨fun h x hx e => h x hx (by simpa using e), fun h x hx e => h x hx (by simpa using e)⟩
theorem at_pos {T : Tb} (hs : Srt T) {x : Ls} (hx : x ∈ T) : T[pos T x.i]? = some x := by
  obtain ⟨k, hk, e⟩ := List.getElem_of_mem hx
  have h1 := pos_lt hs (id := x.i) (List.getElem?_eq_getElem hk)
  rw [e] at h1
  have h2 : pos T x.i ≤ k := by simpa using h1.symm
  rcases Nat.lt_or_ge (pos T x.i) k with h3 | h3
  · have h4 := (List.pairwise_iff_getElem.1 hs) (pos T x.i) k (by omega) hk h3
    rw [e] at h4
    have h5 := pos_lt hs (id := x.i) (List.getElem?_eq_getElem (show pos T x.i < T.length by omega))
    simp [h4] at h5
  · have : k = pos T x.i := by omega
    rw [← this, List.getElem?_eq_getElem hk, e]
theorem has_of {T : Tb} (hs : Srt T) {x : Ls} (hx : x ∈ T) : has T x.i = some x := by
  cases h : has T x.i with
  | none => exact absurd rfl (has_none.1 h x hx)
  | some y =>
    obtain ⟨h1, h2⟩ := has_mem h
    have e1 := at_pos hs hx
    have e2 := at_pos hs h1
    rw [h2, e1] at e2
    exact e2.symm
theorem has_pos {T : Tb} (hs : Srt T) {id : Int} {x : Ls} (h : has T id = some x) : T[pos T id]? = some x := by
  obtain ⟨h1, rfl⟩ := has_mem h
  exact at_pos hs h1
/-! ### What calls make -/
def ins (T : Tb) (x : Ls) : Tb := T.take (pos T x.i) ++ x :: T.drop (pos T x.i)
def upd (T : Tb) (x : Ls) : Tb := T.set (pos T x.i) x
def del (T : Tb) (id : Int) : Tb := T.eraseIdx (pos T id)
def opn (T : Tb) (x : Ls) : Tb × Int := if okL x = false then (T, 1) else if (has T x.i).isSome = true then (T, 1) else if 100 ≤ T.length then (T, 1) else (ins T x, 0)
def ren (T : Tb) (id now : Int) : Tb × Int := if okT now = false then (T, 1) else match has T id with
  | none => (T, 100)
  | some x => (upd T ⟨id, x.s, max x.l now⟩, 0)
def cls (T : Tb) (id : Int) : Tb × Int := match has T id with
  | none => (T, 100)
  | some _ => (del T id, 0)
/-- With a lease, by its place. -/
def wit (T : Tb) (x : Ls) : Tb := T.filter (fun y => decide (y.i < x.i)) ++ x :: T.filter (fun y => decide (x.i < y.i))
theorem all_above {y : Ls} {T : Tb} (hs : Srt (y :: T)) {id : Int} (h : id ≤ y.i) : T.filter (fun z => decide (z.i < id)) = [] ∧ T.filter (fun z => decide (id < z.i)) = T := by
  have h1 := (List.pairwise_cons.1 hs).1
  refine ⟨List.filter_eq_nil_iff.2 (fun x hx => ?_), List.filter_eq_self.2 (fun x hx => ?_)⟩
  · have := h1 x hx; simp; omega
  · have := h1 x hx; simp; omega
theorem ins_wit : ∀ {T : Tb}, Srt T → ∀ {x : Ls}, has T x.i = none → ins T x = wit T x
  | [], _, x, _ => by simp [ins, wit, pos]
  | y :: T, hs, x, h => by
    have hne := has_none.1 h
    by_cases hy : y.i < x.i
    · have ih := ins_wit (List.pairwise_cons.1 hs).2 (x := x) (has_none.2 (fun z hz => hne z (by simp [hz])))
      unfold ins at ih ⊢
      rw [pos_cons_lt hy, List.take_succ_cons, List.drop_succ_cons, List.cons_append, ih]
      have hn : ¬ x.i < y.i := by omega
      simp [wit, hy, hn]
    · have h1 := hne y (by simp)
      obtain ⟨h2, h3⟩ := all_above hs (show x.i ≤ y.i by omega)
      have hg : x.i < y.i := by omega
      unfold ins
      rw [pos_cons_ge hs (by omega)]
      simp [wit, hy, hg, h2, h3]
theorem upd_wit : ∀ {T : Tb}, Srt T → ∀ {x z : Ls}, has T x.i = some z → upd T x = wit T x
  | [], _, x, z, h => by simp [has] at h
  | y :: T, hs, x, z, h => by
    by_cases hy : y.i < x.i
    · have hh : has T x.i = some z := by
        unfold has at h ⊢
        rw [List.find?_cons_of_neg (by simp; omega)] at h
        exact h
      have ih := upd_wit (List.pairwise_cons.1 hs).2 (x := x) hh
      unfold upd at ih ⊢
      rw [pos_cons_lt hy, List.set_cons_succ, ih]
      have hn : ¬ x.i < y.i := by omega
      simp [wit, hy, hn]
    · obtain ⟨h2, h3⟩ := all_above hs (show x.i ≤ y.i by omega)
      have he : y.i = x.i := by
        obtain ⟨h4, h5⟩ := has_mem h
        rcases List.mem_cons.1 h4 with rfl | h4
        · exact h5
        · have := (List.pairwise_cons.1 hs).1 z h4; omega
      unfold upd
      rw [pos_cons_ge hs (by omega)]
      have hn : ¬ x.i < y.i := by omega
      simp [wit, hy, hn, h2, h3]
theorem del_filter : ∀ {T : Tb}, Srt T → ∀ {id : Int} {z : Ls}, has T id = some z → del T id = T.filter (fun y => !(y.i == id))
  | [], _, id, z, h => by simp [has] at h
  | y :: T, hs, id, z, h => by
    by_cases hy : y.i < id
    · have hh : has T id = some z := by
        unfold has at h ⊢
        rw [List.find?_cons_of_neg (by simp; omega)] at h
        exact h
      have ih := del_filter (List.pairwise_cons.1 hs).2 hh
      unfold del at ih ⊢
      have hn : ¬ y.i = id := by omega
      rw [pos_cons_lt hy, List.eraseIdx_cons_succ, ih]
      simp [hn]
    · have he : y.i = id := by
        obtain ⟨h4, h5⟩ := has_mem h
        rcases List.mem_cons.1 h4 with rfl | h4
        · exact h5
        · have := (List.pairwise_cons.1 hs).1 z h4; omega
      unfold del
      rw [pos_cons_ge hs (by omega), List.eraseIdx_cons_zero, List.filter_cons, if_neg (by simp [he])]
      symm
      refine List.filter_eq_self.2 (fun x hx => ?_)
      have := (List.pairwise_cons.1 hs).1 x hx
      have hn : ¬ x.i = id := by omega
      simp [hn]
theorem mem_wit {T : Tb} {x y : Ls} : y ∈ wit T x ↔ y = x ∨ (y ∈ T ∧ y.i ≠ x.i) := by
  unfold wit
  simp only [List.mem_append, List.mem_cons, List.mem_filter, decide_eq_true_eq]
  constructor
  · rintro (h | h | h)
    · exact .inr ⟨h.1, by omega⟩
    · exact .inl h
    · exact .inr ⟨h.1, by omega⟩
  · rintro (h | ⟨h1, h2⟩)
    · exact .inr (.inl h)
    · rcases Int.lt_or_lt_of_ne h2 with h3 | h3
      · exact .inl ⟨h1, h3⟩
      · exact .inr (.inr ⟨h1, h3⟩)
theorem wit_srt {T : Tb} (hs : Srt T) (x : Ls) : Srt (wit T x) := by
  unfold wit
  refine List.pairwise_append.2 ⟨hs.sublist List.filter_sublist, List.pairwise_cons.2 ⟨fun y hy => ?_, hs.sublist List.filter_sublist⟩, fun y hy z hz => ?_⟩
  · have := (List.mem_filter.1 hy).2; simpa using this
  · have h1 := (List.mem_filter.1 hy).2
    simp only [decide_eq_true_eq] at h1
    rcases List.mem_cons.1 hz with rfl | hz
    · exact h1
    · have h2 := (List.mem_filter.1 hz).2
      simp only [decide_eq_true_eq] at h2
      omega
theorem ins_len (T : Tb) (x : Ls) : (ins T x).length = T.length + 1 := by
  unfold ins
  have := pos_le T x.i
  rw [List.length_append, List.length_cons, List.length_take, List.length_drop]
  omega
/-- A table: it rises; each of its leases may be; there is room. -/
structure Good (T : Tb) : Prop where
  srt : Srt T
  len : T.length ≤ 100
  each : ∀ x ∈ T, okL x = true
theorem good_nil : Good [] := ⟨List.Pairwise.nil, by simp, fun x hx => (by cases hx)⟩
theorem opn_good {T : Tb} (hg : Good T) (x : Ls) : Good (opn T x).1 := by
  unfold opn
  split
  · exact hg
  split
  · exact hg
  split
  · exact hg
  · rename_i h1 h2 h3
    have hn : has T x.i = none := by simpa using h2
    refine ⟨by rw [ins_wit hg.srt hn]; exact wit_srt hg.srt x, by show (ins T x).length ≤ 100; rw [ins_len]; omega, fun y hy => ?_⟩
    have hy' : y ∈ ins T x := hy
    rw [ins_wit hg.srt hn] at hy'
    rcases mem_wit.1 hy' with rfl | hy
    · simpa using h1
    · exact hg.each y hy.1
theorem okT_max {a b : Int} (ha : okT a = true) (hb : okT b = true) : okT (max a b) = true := by
  rcases Int.le_total a b with h | h
  · rw [Int.max_eq_right h]; exact hb
  · rw [Int.max_eq_left h]; exact ha
theorem ren_ok {T : Tb} (hg : Good T) {id now : Int} {x : Ls} (hx : has T id = some x) (hn : okT now = true) : okL ⟨id, x.s, max x.l now⟩ = true := by
  obtain ⟨h1, rfl⟩ := has_mem hx
  have h2 := hg.each x h1
  unfold okL at h2 ⊢
  simp only [Bool.and_eq_true] at h2 ⊢
  exact ⟨h2.1, okT_max h2.2 hn⟩
theorem ren_good {T : Tb} (hg : Good T) (id now : Int) : Good (ren T id now).1 := by
  unfold ren
  split
  · exact hg
  · rename_i h1
    have hn : okT now = true := by simpa using h1
    cases hx : has T id with
    | none => exact hg
    | some x =>
      have hk := ren_ok hg hx hn
      have e := upd_wit hg.srt (x := ⟨id, x.s, max x.l now⟩) hx
      refine ⟨by show Srt (upd T _); rw [e]; exact wit_srt hg.srt _, by show (upd T _).length ≤ 100; unfold upd; rw [List.length_set]; exact hg.len, fun y hy => ?_⟩
      have hy' : y ∈ upd T ⟨id, x.s, max x.l now⟩ := hy
      rw [e] at hy'
      rcases mem_wit.1 hy' with rfl | hy
      · exact hk
      · exact hg.each y hy.1
theorem filter_good {T : Tb} (hg : Good T) (f : Ls → Bool) : Good (T.filter f) := ⟨hg.srt.sublist List.filter_sublist, Nat.le_trans (List.length_filter_le _ _) hg.len, fun x hx => hg.each x (List.mem_filter.1 hx).1⟩
theorem cls_good {T : Tb} (hg : Good T) (id : Int) : Good (cls T id).1 := by
  unfold cls
  cases hx : has T id with
  | none => exact hg
  | some x => show Good (del T id); rw [del_filter hg.srt hx]; exact filter_good hg _
/-! ### Scripts -/
/-- A call of a script. -/
structure Cal where
  k : Int
  i : Int
  s : Int
  n : Int
def stepE (T : Tb) (o : Cal) : Tb × Int := if o.k = 0 then opn T ⟨o.i, o.s, o.n⟩ else if o.k = 1 then ren T o.i o.n else if o.k = 2 then cls T o.i else (T, 0)
def runT (T : Tb) (l : List Cal) : Tb := l.foldl (fun T o => (stepE T o).1) T
theorem run_step {T : Tb} {l : List Cal} {k : Nat} {o : Cal} (h : l[k]? = some o) : runT T (l.take (k + 1)) = (stepE (runT T (l.take k)) o).1 := by
  obtain ⟨hk, rfl⟩ := List.getElem?_eq_some_iff.1 h
  unfold runT
  rw [List.take_succ_eq_append_getElem hk, List.foldl_append]; rfl
/-! ### The document's with, piece by piece -/
/-! ### Who has ended -/
/-! ### Lists that are loaded -/
def lst (T : Tb) : Int := match T.getLast? with
  | none => 0
  | some x => x.i
theorem lst_snoc (T : Tb) (x : Ls) : lst (T ++ [x]) = x.i := by unfold lst; simp
theorem lst_all {T : Tb} (hs : Srt T) : ∀ x ∈ T, x.i ≤ lst T := by
  rcases List.eq_nil_or_concat T with rfl | ⟨A, y, rfl⟩
  · intro x hx; cases hx
  · rw [List.concat_eq_append] at *
    rw [lst_snoc]
    intro x hx
    rcases List.mem_append.1 hx with hx | hx
    · have := (List.pairwise_append.1 hs).2.2 x hx y (by simp); omega
    · rcases List.mem_singleton.1 hx with rfl; exact Int.le_refl _
theorem srt_snoc {T : Tb} (hs : Srt T) {x : Ls} (h : ∀ y ∈ T, y.i < x.i) : Srt (T ++ [x]) :=
  List.pairwise_append.2 ⟨hs, List.pairwise_singleton _ _, fun y hy z hz => by rcases List.mem_singleton.1 hz with rfl; exact h y hy⟩
theorem ins_last {T : Tb} {x : Ls} (h : ∀ y ∈ T, y.i < x.i) : ins T x = T ++ [x] := by
  have : pos T x.i = T.length := by
    unfold pos
    rw [List.filter_eq_self.2 (fun y hy => by simpa using h y hy)]
  unfold ins
  rw [this, List.take_length, List.drop_length]
theorem good_take {T : Tb} (hg : Good T) (k : Nat) : Good (T.take k) := ⟨hg.srt.sublist (List.take_sublist _ _), by rw [List.length_take]; have := hg.len; omega, fun x hx => hg.each x (List.mem_of_mem_take hx)⟩
/-- One more of a list that is loaded. -/
theorem load_more {A : Tb} (hg : Good A) {x : Ls} (h : lst A < x.i) : opn A x = if okL x = false then (A, 1) else if 100 ≤ A.length then (A, 1) else (A ++ [x], 0) := by
  have hall : ∀ y ∈ A, y.i < x.i := fun y hy => by have := lst_all hg.srt y hy; omega
  have hn : has A x.i = none := has_none.2 (fun y hy => by have := hall y hy; omega)
  unfold opn
  rw [hn, ins_last hall]
  simp
theorem load_good {A : Tb} (hg : Good A) {x : Ls} (h : lst A < x.i) (h0 : (opn A x).2 = 0) : Good (A ++ [x]) ∧ opn A x = (A ++ [x], 0) := by
  rw [load_more hg h] at h0 ⊢
  split at h0
  · simp at h0
  split at h0
  · simp at h0
  · rename_i h1 h2
    rw [if_neg h1, if_neg h2]
    refine ⟨⟨srt_snoc hg.srt (fun y hy => by have := lst_all hg.srt y hy; omega), by rw [List.length_append]; simp; omega, fun y hy => ?_⟩, rfl⟩
    rcases List.mem_append.1 hy with hy | hy
    · exact hg.each y hy
    · rcases List.mem_singleton.1 hy with rfl; simpa using h1
theorem load_bad {A : Tb} {x : Ls} (h : x.i ≤ lst A ∨ (lst A < x.i ∧ (opn A x).2 ≠ 0)) : ¬ Good (A ++ [x]) := by
  intro hg
  have hA : Good A := by have := good_take hg A.length; rwa [List.take_left] at this
  have hx := hg.each x (by simp)
  rcases h with h | ⟨h, h2⟩
  · rcases List.eq_nil_or_concat A with rfl | ⟨C, y, rfl⟩
    · have := (okL_pos hx).1
      simp [lst] at h
      omega
    · rw [List.concat_eq_append, lst_snoc] at h
      rw [List.concat_eq_append] at hg
      have := (List.pairwise_append.1 hg.srt).2.2 y (by simp) x (by simp)
      omega
  · have hl := hg.len
    rw [List.length_append, List.length_singleton] at hl
    rw [load_more hA h, if_neg (by rw [hx]; simp), if_neg (by omega)] at h2
    exact h2 rfl
theorem good_prefix {T : Tb} {k : Nat} {x : Ls} (hx : T[k]? = some x) (h : ¬ Good (T.take k ++ [x])) : ¬ Good T := by
  intro hg
  apply h
  obtain ⟨hk, rfl⟩ := List.getElem?_eq_some_iff.1 hx
  rw [← List.take_succ_eq_append_getElem hk]
  exact good_take hg _
/-! ### As many as there may be -/
def may (s n : Int) : Bool := decide (1 ≤ s) && decide (s ≤ 1000000) && okT n
/-! ### What a search finds -/
theorem take_some {α : Type} {L : List α} {j : Nat} {x : α} (h : L[j]? = some x) : L.take (j + 1) = L.take j ++ [x] := by
  obtain ⟨h1, rfl⟩ := List.getElem?_eq_some_iff.1 h
  exact List.take_succ_eq_append_getElem h1
/-- Where the search ends at a place. -/
theorem find_at {T : Tb} (hs : Srt T) {id : Int} {k : Nat} {x : Ls} (hx : T[k]? = some x) (hp : ∀ y ∈ T.take k, y.i < id) (h : id ≤ x.i) : pos T id = k := by
  have hk := (List.getElem?_eq_some_iff.1 hx).1
  have h1 := pos_lt hs (id := id) hx
  have h2 : pos T id ≤ k := by
    have : ¬ x.i < id := by omega
    simpa [this] using h1.symm
  rcases Nat.lt_or_ge (pos T id) k with h3 | h3
  · have h4 := pos_lt hs (id := id) (List.getElem?_eq_getElem (show pos T id < T.length by omega))
    have h5 := hp T[pos T id] (List.mem_take_iff_getElem.2 ⟨pos T id, by omega, rfl⟩)
    simp [h5] at h4
  · omega
theorem find_hit {T : Tb} (hs : Srt T) {id : Int} {k : Nat} {x : Ls} (hx : T[k]? = some x) (hp : ∀ y ∈ T.take k, y.i < id) (h : x.i = id) : pos T id = k ∧ has T id = some x :=
  ⟨find_at hs hx hp (by omega), by rw [← h]; exact has_of hs (List.mem_of_getElem? hx)⟩
theorem find_over {T : Tb} (hs : Srt T) {id : Int} {k : Nat} {x : Ls} (hx : T[k]? = some x) (hp : ∀ y ∈ T.take k, y.i < id) (h : id < x.i) : pos T id = k ∧ has T id = none := by
  have e := find_at hs hx hp (by omega)
  refine ⟨e, ?_⟩
  cases hh : has T id with
  | none => rfl
  | some y =>
    have h1 := has_pos hs hh
    rw [e, hx] at h1
    have h2 := (has_mem hh).2
    rw [← Option.some.inj h1] at h2
    omega
theorem find_end {T : Tb} {id : Int} (hp : ∀ y ∈ T, y.i < id) : pos T id = T.length ∧ has T id = none := by
  refine ⟨?_, has_none.2 (fun y hy => by have := hp y hy; omega)⟩
  unfold pos
  rw [List.filter_eq_self.2 (fun y hy => by simpa using hp y hy)]
end Go.Proofs.Le
namespace Go.Proofs.YtflgemlhocjipaaGreatDoor.Lq
set_option maxRecDepth 100000
open Go.ChangeShapes Go.WideShapes Go.ChangeAt Go.RowKit Go.Proofs.Le

theorem cell_lt {w : World} {b : Nat} {o : Nat} {v : Value} (h : w.cell? ⟨b, o, none⟩ = some v) : b < w.heap.size := by
  rcases Nat.lt_or_ge b w.heap.size with h' | h'
  · exact h'
  · simp [World.cell?, Array.getElem?_eq_none h'] at h
theorem below_drewN {B : Nat} {a w : World} (h : Below B a w) (n : Nat) : Below B a (w.drewN n) := ⟨h.os, h.tape, h.output, h.size, h.block⟩
theorem new_block (w : World) (o : Obj) : (w.alloc o).heap[w.heap.size]? = some o := heap_alloc_new w o

/-! ### Rows of the call's own -/
theorem own_ge {w : World} {base e size n : Nat} {v : Value} {xs : List Value} (h : w.ownsRow base e size v n xs) : ∀ k, v.ownBlock = some k → base ≤ k := fun k hk => (h.lt k hk).1
theorem own_base {w : World} {b b' e size n : Nat} {v : Value} {xs : List Value} (h : w.ownsRow b e size v n xs) (hb : b' ≤ b) : w.ownsRow b' e size v n xs := by
  refine ⟨h.1, ?_⟩
  rcases h.2 with hn | ⟨g, cap, cur, rfl, hbg, rest⟩
  · exact .inl hn
  · exact .inr ⟨g, cap, cur, rfl, by omega, rest⟩
theorem own_below {w w' : World} {base e size n : Nat} {v : Value} {xs : List Value} (h : w.ownsRow base e size v n xs) (hb : Below w.heap.size w w') : w'.ownsRow base e size v n xs := by
  refine ⟨h.1, ?_⟩
  rcases h.2 with hn | ⟨g, cap, cur, rfl, hbg, hg, rest⟩
  · exact .inl hn
  · exact .inr ⟨g, cap, cur, rfl, hbg, (hb.block g (Array.getElem?_eq_some_iff.1 hg).1).trans hg, rest⟩
theorem own_ne {w : World} {base e size n : Nat} {v : Value} {xs : List Value} (h : w.ownsRow base e size v n xs) {k : Nat} {cs : Array Value} {t : TypeId} {fr : Nat × Nat} (hk : w.heap[k]? = some (.cells cs t fr)) (ht : t ≠ e) : v.ownBlock ≠ some k := by
  intro e'
  rcases h.2 with ⟨rfl, _⟩ | ⟨g, cap, cur, rfl, _, hg, _⟩
  · simp [Value.ownBlock] at e'
  · simp only [Value.ownBlock, Option.some.injEq] at e'
    subst e'
    rw [hk] at hg
    injection hg with hg
    injection hg with _ h2
    exact ht h2
/-- A row is a slice; where it has an element it has a block. -/
theorem own_form {w : World} {base e size n : Nat} {v : Value} {xs : List Value} (h : w.ownsRow base e size v n xs) : ∃ A c, v = .slice A n c ∧ n ≤ c ∧ c ≤ maxLen ∧ (0 < n → ∃ g, A = some ⟨g, 0, none⟩) := by
  rcases h.2 with ⟨rfl, rfl⟩ | ⟨g, cap, cur, rfl, hbg, hg, hn, hc, hs, ht⟩
  · exact ⟨none, 0, rfl, by omega, by unfold maxLen; omega, fun h => absurd h (by omega)⟩
  · exact ⟨_, cap, rfl, hn, hc, fun _ => ⟨g, rfl⟩⟩
theorem own_cell {w : World} {base e size n g c : Nat} {xs : List Value} (h : w.ownsRow base e size (.slice (some ⟨g, 0, none⟩) n c) n xs) (j : Nat) (v : Value) (hv : xs[j]? = some v) : w.cell? ⟨g, j, none⟩ = some v := by
  have := h.cells (g := g) rfl j v hv
  rwa [Go.WideShapes.add_plain, Nat.zero_add] at this
/-- A list of parts of one length: its k-th part. -/
theorem part_at {α : Type} (f : α → List Value) (m : Nat) : ∀ (l : List α) (k : Nat) (hk : k < l.length), (∀ x ∈ l, (f x).length = m) → ((l.flatMap f).drop (k * m)).take m = f l[k]
  | x :: l, 0, _, h => by
    rw [Nat.zero_mul, List.drop_zero, List.flatMap_cons, List.take_append_of_le_length (by rw [h x (by simp)]; exact Nat.le_refl _), List.take_of_length_le (by rw [h x (by simp)]; exact Nat.le_refl _)]; rfl
  | x :: l, k + 1, hk, h => by
    have hx := h x (by simp)
    rw [List.flatMap_cons, show (k + 1) * m = (f x).length + k * m by rw [hx, Nat.succ_mul]; omega, List.drop_append, List.drop_eq_nil_of_le (by omega), List.nil_append, Nat.add_sub_cancel_left]
    exact part_at f m l k (by simpa using hk) (fun y hy => h y (by simp [hy]))
theorem part_get {α : Type} (f : α → List Value) (m : Nat) (l : List α) (k : Nat) (hk : k < l.length) (h : ∀ x ∈ l, (f x).length = m) (j : Nat) (hj : j < m) : (l.flatMap f)[k * m + j]? = (f l[k])[j]? := by
  rw [← part_at f m l k hk h, List.getElem?_take, if_pos hj, List.getElem?_drop]
theorem parts_length {α : Type} (f : α → List Value) (m : Nat) : ∀ (l : List α), (∀ x ∈ l, (f x).length = m) → (l.flatMap f).length = l.length * m
  | [], _ => by simp
  | x :: l, h => by
    rw [List.flatMap_cons, List.length_append, h x (by simp), parts_length f m l (fun y hy => h y (by simp [hy])), List.length_cons, Nat.succ_mul]; omega
theorem ret_b {a b : Bool} (h : a = b) : Ending.returned (.bool a) = Ending.returned (.bool b) := by rw [h]
theorem ret_i {a b : Int} (h : a = b) : Ending.returned (.int .i64 a) = Ending.returned (.int .i64 b) := by rw [h]
theorem cell_of {w : World} {p j : Nat} {cs : Array Value} {t : TypeId} {v : Value} (h : w.heap[p]? = some (.cells cs t (0, 0))) (hv : cs[j]? = some v) : w.cell? ⟨p, j, none⟩ = some v := by
  rw [cell_of_row w p j cs t _ h]; exact hv
theorem getD_eq {α : Type} {l : List α} {k : Nat} (d : α) (h : k < l.length) : l.getD k d = l[k] := by
  rw [List.getD_eq_getElem?_getD, List.getElem?_eq_getElem h]; rfl

/-! ### Leases, calls as cells -/
def lcell (x : Ls) : List Value := [.int .i64 x.i, .int .i64 x.s, .int .i64 x.l]
def lcells (l : Tb) : List Value := l.flatMap lcell
theorem lcells_length (l : Tb) : (lcells l).length = l.length * 3 := parts_length lcell 3 l (fun _ _ => rfl)
theorem lcells_append (a b : Tb) : lcells (a ++ b) = lcells a ++ lcells b := by simp [lcells]
theorem lcell_one (x : Ls) : ∀ u ∈ lcell x, u.oneCell' = true := fun u hu => by
  simp only [lcell, List.mem_cons, List.not_mem_nil, or_false] at hu
  rcases hu with rfl | rfl | rfl <;> rfl
theorem lcells_one (L : Tb) : ∀ u ∈ lcells L, u.oneCell' = true := fun u hu => by
  obtain ⟨x, _, hx⟩ := List.mem_flatMap.1 hu
  exact lcell_one x u hx
theorem lcells_split (L : Tb) (i : Nat) : lcells L = lcells (L.take i) ++ lcells (L.drop i) := by rw [← lcells_append, List.take_append_drop]
theorem infoL : (Tryz.prog.info? 100).map (fun i => (i.zero, i.size, i.bytes)) = some (some (.agg #[.int .i64 0, .int .i64 0, .int .i64 0]), 3, 24) := by kernel_rfl
theorem infoD : (Tryz.prog.info? 82).map (fun i => (i.zero, i.size, i.bytes)) = some (some (.agg #[.int .i64 0, .int .i64 0, .int .i64 0]), 3, 24) := by kernel_rfl
theorem box_below (w : World) (o : Obj) : Below w.heap.size w (w.alloc o) := (Below.refl _ _).alloc (Nat.le_refl _) _
theorem below_step {a b c : World} (h : Below a.heap.size a b) (k : Below b.heap.size b c) : Below a.heap.size a c := h.trans (k.mono h.size)
theorem box2 (w : World) (o1 o2 : Obj) : Below w.heap.size w ((w.alloc o1).alloc o2) := ((Below.refl _ _).alloc (Nat.le_refl _) _).alloc (by simp) _
theorem blk_alloc {w : World} {q : Nat} {o : Obj} (h : w.heap[q]? = some o) (o' : Obj) : (w.alloc o').heap[q]? = some o := ((box_below w o').block q (Array.getElem?_eq_some_iff.1 h).1).trans h
theorem blk_lt {w : World} {q : Nat} {o : Obj} (h : w.heap[q]? = some o) : q < w.heap.size := (Array.getElem?_eq_some_iff.1 h).1
theorem blk_below {w w' : World} {q : Nat} {o : Obj} (h : w.heap[q]? = some o) (hb : Below w.heap.size w w') : w'.heap[q]? = some o := (hb.block q (blk_lt h)).trans h
/-- Two boxes, one behind the other. -/
theorem two_box (w : World) (o1 o2 : Obj) : ∃ w2, w2 = (w.alloc o1).alloc o2 ∧ Below w.heap.size w w2 ∧ w2.heap[w.heap.size]? = some o1 ∧ w2.heap[w.heap.size + 1]? = some o2 ∧ w2.heap.size = w.heap.size + 2 :=
  ⟨_, rfl, box2 w o1 o2, blk_alloc (new_block w o1) o2, by have := new_block (w.alloc o1) o2; simpa using this, by simp⟩
/-- A znode is laid into a box of the call's own. -/
structure Wr (r : Nat) (w w' : World) : Prop where
  below : Below r w w'
  rest : ∀ k, k ≠ r → w'.heap[k]? = w.heap[k]?
theorem Wr.refl (r : Nat) (w : World) : Wr r w w := ⟨Below.refl _ _, fun _ _ => rfl⟩
theorem Wr.set {r : Nat} {w w' : World} (h : Wr r w w') (j : Nat) (v : Value) : Wr r w (w'.setCell ⟨r, j, none⟩ v) :=
  ⟨h.below.setCell (Nat.le_refl r) v, fun k hk => (Go.Deep.blk_setCell_other w' _ _ k hk).trans (h.rest k hk)⟩
theorem Wr.gb {r : Nat} {w w' : World} (h : Wr r w w') : w.grownBy w' (some r) := ⟨h.below.os, h.below.tape, h.below.output, h.below.size, fun k _ hk => h.rest k (by simpa using hk)⟩
def setRow (r : Nat) : World → Nat → List Value → World
  | w, _, [] => w
  | w, j, v :: vs => setRow r (w.setCell ⟨r, j, none⟩ v) (j + 1) vs
theorem setRow_any {r : Nat} {t : TypeId} : ∀ (vs : List Value) {w0 w : World} (j : Nat) (pre rest : List Value), Wr r w0 w → pre.length = j → rest.length = vs.length → w.heap[r]? = some (.cells (pre ++ rest).toArray t (0, 0)) →
    Wr r w0 (setRow r w j vs) ∧ (setRow r w j vs).heap[r]? = some (.cells (pre ++ vs).toArray t (0, 0))
  | [], w0, w, j, pre, rest, hw, _, hl, hb => by
    have : rest = [] := List.eq_nil_of_length_eq_zero hl
    subst this
    exact ⟨hw, hb⟩
  | v :: vs, w0, w, j, pre, rest, hw, hj, hl, hb => by
    cases rest with
    | nil => simp at hl
    | cons x rest =>
      have h1 := heap_setCell_same w r j _ t v hb
      have e : (pre ++ x :: rest).toArray.setIfInBounds j v = ((pre ++ [v]) ++ rest).toArray := by
        apply Array.ext'
        simp [hj.symm]
      rw [e] at h1
      have := setRow_any vs (j + 1) (pre ++ [v]) rest (hw.set j v) (by simp [hj]) (by simpa using hl) h1
      rw [List.append_assoc] at this
      exact this
theorem gb_below {w w' : World} (h : Below w.heap.size w w') (row : Option Nat) : w.grownBy w' row := ⟨h.os, h.tape, h.output, h.size, fun k hk _ => h.block k hk⟩
theorem gb_trans {a b c : World} {x : Nat} (h : a.grownBy b (some x)) (k : b.grownBy c (some x)) : a.grownBy c (some x) := h.andThen k (fun _ hj => .inr hj)
theorem gb_drew {w : World} {row : Option Nat} : w.grownBy w.drew row := ⟨rfl, rfl, rfl, Nat.le_refl _, fun _ _ _ => rfl⟩
theorem gb_to {w w' : World} {x B : Nat} (h : w.grownBy w' (some x)) (hx : B ≤ x) (hw : B ≤ w.heap.size) : Below B w w' := ⟨h.os, h.tape, h.output, h.size, fun k hk => h.block k (by omega) (by simp; omega)⟩
theorem gb_cells {w w' : World} {x k : Nat} (h : w.grownBy w' (some x)) (hk : k ≠ x) {o : Obj} (ho : w.heap[k]? = some o) : w'.heap[k]? = some o := (h.block k (Array.getElem?_eq_some_iff.1 ho).1 (by simpa using hk)).trans ho
theorem own_new {w : World} {g e sz n base : Nat} {cs : Array Value} (h : w.heap[g]? = some (.cells cs e (0, 0))) (hb : base ≤ g) (hn : n ≤ maxLen) (hs : cs.size = n * sz) : w.ownsRow base e sz (.slice (some ⟨g, 0, none⟩) n n) n cs.toList :=
  ⟨by simpa using hs, .inr ⟨g, n, cs, rfl, hb, h, Nat.le_refl _, hn, hs, by rw [List.take_of_length_le (by simp [hs])]⟩⟩
/-- Memory holds a list, each of its elements in cells that stand in a row. -/
structure Rd {α : Type} (cell : α → List Value) (sz : Nat) (w : World) (A : Option Addr) (n : Nat) (l : List α) : Prop where
  len : l.length = n
  cells : 0 < n → ∃ b off, A = some ⟨b, off, none⟩ ∧ ∀ i (hi : i < l.length) j v, (cell l[i])[j]? = some v → w.cell? ⟨b, off + i * sz + j, none⟩ = some v
theorem Rd.below {α : Type} {cell : α → List Value} {sz : Nat} {w w' : World} {A : Option Addr} {n : Nat} {l : List α} (h : Rd cell sz w A n l) (hb : Below w.heap.size w w') : Rd cell sz w' A n l := by
  refine ⟨h.len, fun hn => ?_⟩
  obtain ⟨b, off, e, hc⟩ := h.cells hn
  refine ⟨b, off, e, fun i hi j v hv => ?_⟩
  have hx := hc i hi j v hv
  exact (hb.cell (p := ⟨b, off + i * sz + j, none⟩) (cell_lt hx)).trans hx
theorem Rd.at {α : Type} {cell : α → List Value} {sz : Nat} {w : World} {A : Option Addr} {n : Nat} {l : List α} (h : Rd cell sz w A n l) {k : Nat} (hk : k < n) :
    ∃ b off x, A = some ⟨b, off, none⟩ ∧ l[k]? = some x ∧ ∀ j v, (cell x)[j]? = some v → w.cell? ⟨b, off + k * sz + j, none⟩ = some v := by
  obtain ⟨b, off, e, hc⟩ := h.cells (by omega)
  have hk' : k < l.length := by rw [h.len]; exact hk
  exact ⟨b, off, l[k], e, List.getElem?_eq_getElem hk', hc k hk'⟩
theorem Rd.nil {α : Type} (cell : α → List Value) (sz : Nat) (w : World) (A : Option Addr) : Rd cell sz w A 0 [] := ⟨rfl, fun h => absurd h (by omega)⟩
theorem Rd.of_own {α : Type} {cell : α → List Value} {sz : Nat} {w : World} {base e n c : Nat} {A : Option Addr} {l : List α} (h : w.ownsRow base e sz (.slice A n c) n (l.flatMap cell)) (hl : ∀ x ∈ l, (cell x).length = sz) (hs : 0 < sz) : Rd cell sz w A n l := by
  have hlen : l.length = n := by
    have := h.1
    rw [parts_length cell sz l hl] at this
    exact Nat.eq_of_mul_eq_mul_right hs this
  refine ⟨hlen, fun hn => ?_⟩
  obtain ⟨A', c', e', -, -, hA⟩ := own_form h
  obtain ⟨g, hg⟩ := hA hn
  injection e' with e1 _ e3
  subst e1 e3
  subst hg
  refine ⟨g, 0, rfl, fun i hi j v hv => ?_⟩
  have hj : j < sz := by
    have := (List.getElem?_eq_some_iff.1 hv).1
    rw [hl l[i] (List.getElem_mem hi)] at this
    exact this
  have := part_get cell sz l i hi hl j hj
  rw [hv] at this
  rw [Nat.zero_add]
  exact own_cell h (i * sz + j) v this
/-- A row, or a list that is read, is laid behind a row. -/
theorem run_append_rd {P : Program} {α : Type} {cell : α → List Value} (w : World) (base : Nat) (t ty e : TypeId) (i : TypeInfo) (z : Value) (size bytes : Nat) (ht : P.underlying t = some (.slice e)) (hi : P.info? e = some i) (hz : i.zero = some z)
    (hsize : i.size = size) (hby : i.bytes = bytes) (hzs : z.cells.size = size) (hsz : 0 < size) (v : Value) (n : Nat) (xs : List Value) (hown : w.ownsRow base e size v n xs) (A : Option Addr) (m c : Nat) (l : List α) (hr : Rd cell size w A m l)
    (hl : ∀ x ∈ l, (cell x).length = size) (h1 : ∀ x, ∀ u ∈ cell x, u.oneCell' = true) (hA : A = none → c = 0) (h63 : n + m ≤ maxLen) (hbytes : (n + m) * bytes ≤ 140737488355328) (hbase : base ≤ w.heap.size) :
    ∃ v' w', (Builtin.append_ #[t, t] ty #[v, .slice A m c]).run P w = .ok v' w' ∧ w'.ownsRow base e size v' (n + m) (xs ++ l.flatMap cell) ∧ w.grownBy w' v.ownBlock := by
  have hlen : (l.flatMap cell).length = m * size := by rw [parts_length cell size l hl, hr.len]
  have hone : ∀ u ∈ l.flatMap cell, u.oneCell' = true := fun u hu => by
    obtain ⟨x, _, hx⟩ := List.mem_flatMap.1 hu
    exact h1 x u hx
  have hcells : 0 < m → ∃ a, A = some a ∧ ∀ j u, (l.flatMap cell)[j]? = some u → w.cell? (a.add j) = some u := fun hm => by
    obtain ⟨b, off, e, hc⟩ := hr.cells hm
    refine ⟨_, e, fun j u hu => ?_⟩
    have hj : j < (l.flatMap cell).length := (List.getElem?_eq_some_iff.1 hu).1
    have hd : j / size < l.length := by rw [hr.len]; exact Nat.div_lt_of_lt_mul (by rw [Nat.mul_comm]; omega)
    have hm' : j % size < size := Nat.mod_lt _ hsz
    have hsplit : j = j / size * size + j % size := by rw [Nat.mul_comm]; exact (Nat.div_add_mod j size).symm
    have := part_get cell size l (j / size) hd hl (j % size) hm'
    rw [← hsplit, hu] at this
    have h2 := hc (j / size) hd (j % size) u this.symm
    rw [Go.WideShapes.add_plain]
    rw [Nat.add_assoc, ← hsplit] at h2
    exact h2
  rcases Nat.eq_zero_or_pos m with h0 | h0
  · subst h0
    have hn : l = [] := List.eq_nil_of_length_eq_zero hr.len
    subst hn
    have hv : ∃ b s c', v = .slice b s c' ∧ s ≤ c' := by
      rcases hown.2 with ⟨rfl, _⟩ | ⟨g, cap, cur, rfl, _, _, hle, _⟩
      · exact ⟨none, 0, 0, rfl, Nat.le_refl _⟩
      · exact ⟨_, n, cap, rfl, hle⟩
    obtain ⟨b, s, c', rfl, hle⟩ := hv
    have hs : Src P i.size t (.slice A 0 c) 0 [] w := by
      cases A with
      | none => exact Src.ofNil w ht c
      | some a => exact Src.ofSlice w ht a 0 c [] (by simp) (fun j u hu => by simp at hu) (fun u hu => by cases hu)
    exact ⟨_, w, run_append_nothing w t t ty e i ht hi b s c' hle _ hs, by simpa using hown, World.grownBy.refl w _⟩
  · obtain ⟨a, rfl, hc⟩ := hcells h0
    obtain ⟨v', w', hrun, g2, g3, _⟩ := run_append_own (P := P) w base t ty e i z size bytes ht hi hz hsize hby hzs hsz v n xs hown a m c (l.flatMap cell) hlen hc hone h63 hbytes hbase
    exact ⟨v', w', hrun, g2, g3⟩
theorem wpList_append_rd {P : Program} {α : Type} {cell : α → List Value} {w : World} {ops : Array Oper} {rest : List Oper} {o : Oper} {a : Act} {Q : Exit → Act → World → Prop} (hgd : o.guard = none) (s x : Operand) (t : TypeId)
    (ho : o.op = .call { callee := .builtin .append, args := #[s, x], argTypes := #[t, t] }) (base : Nat) (e : TypeId) (i : TypeInfo) (z : Value) (size bytes : Nat) (ht : P.underlying t = some (.slice e)) (hi : P.info? e = some i) (hz : i.zero = some z)
    (hsize : i.size = size) (hby : i.bytes = bytes) (hzs : z.cells.size = size) (hsz : 0 < size) (v : Value) (n : Nat) (xs : List Value) (hs : a.eval s = v) (hown : w.ownsRow base e size v n xs) (A : Option Addr) (m c : Nat) (l : List α) (hx : a.eval x = .slice A m c) (hr : Rd cell size w A m l)
    (hl : ∀ x ∈ l, (cell x).length = size) (h1 : ∀ x, ∀ u ∈ cell x, u.oneCell' = true) (hA : A = none → c = 0) (h63 : n + m ≤ maxLen) (hbytes : (n + m) * bytes ≤ 140737488355328) (hbase : base ≤ w.heap.size)
    (h : ∀ v' w', w'.ownsRow base e size v' (n + m) (xs ++ l.flatMap cell) → w.grownBy w' v.ownBlock → wpList P ops Q rest (a.put o.dst v') w') : wpList P ops Q (o :: rest) a w := by
  refine wpList_plain hgd fun K hK => ?_
  obtain ⟨v', w', hr', h2, h3⟩ := run_append_rd (P := P) w base t o.type e i z size bytes ht hi hz hsize hby hzs hsz v n xs hown A m c l hr hl h1 hA h63 hbytes hbase
  unfold Oper.wp execOp
  simp only [ho, resolve, invoke, builtin, Sem.run_bind, Sem.run_pure, Result.andThen_ok, List.map_toArray, List.map_cons, List.map_nil, hs, hx, hr']
  exact hK _ _ (h v' w' h2 h3)
theorem own_gb {w w' : World} {base e sz n x : Nat} {v : Value} {xs : List Value} (h : w.ownsRow base e sz v n xs) (hg : w.grownBy w' (some x)) (hne : v.ownBlock ≠ some x) : w'.ownsRow base e sz v n xs := by
  refine ⟨h.1, ?_⟩
  rcases h.2 with hn | ⟨g, cap, cur, rfl, hbg, hgc, rest⟩
  · exact .inl hn
  · exact .inr ⟨g, cap, cur, rfl, hbg, gb_cells hg (fun e => hne (by rw [← e]; rfl)) hgc, rest⟩
theorem own_gb' {w w' : World} {base e sz n : Nat} {v u : Value} {xs : List Value} (h : w.ownsRow base e sz v n xs) (hg : w.grownBy w' u.ownBlock) (hne : ∀ k, u.ownBlock = some k → v.ownBlock ≠ some k) : w'.ownsRow base e sz v n xs := by
  rcases hu : u.ownBlock with _ | k
  · rw [hu] at hg; exact own_below h ⟨hg.os, hg.tape, hg.output, hg.size, fun k hk => hg.block k hk (by simp)⟩
  · rw [hu] at hg; exact own_gb h hg (hne k hu)
/-- Two rows of other elements lie in other blocks. -/
theorem own_apart {w : World} {b1 e1 s1 n1 b2 e2 s2 n2 : Nat} {v u : Value} {xs ys : List Value} (h : w.ownsRow b1 e1 s1 v n1 xs) (k : w.ownsRow b2 e2 s2 u n2 ys) (hne : e1 ≠ e2) : ∀ j, u.ownBlock = some j → v.ownBlock ≠ some j := fun j hj => by
  rcases k.2 with ⟨rfl, _⟩ | ⟨g, cap, cur, rfl, _, hg, _⟩
  · simp [Value.ownBlock] at hj
  · simp only [Value.ownBlock, Option.some.injEq] at hj
    subst hj
    exact own_ne h hg (Ne.symm hne)
theorem gb_own {w w' : World} {base e sz n B : Nat} {v : Value} {xs : List Value} (h : w.ownsRow base e sz v n xs) (hg : w.grownBy w' v.ownBlock) (hB : B ≤ base) (hw : B ≤ w.heap.size) : Below B w w' :=
  ⟨hg.os, hg.tape, hg.output, hg.size, fun k hk => hg.block k (by omega) (fun e => by have := own_ge h k e.symm; omega)⟩
end Go.Proofs.YtflgemlhocjipaaGreatDoor.Lq
namespace Go.Proofs.YtflgemlhocjipaaGreatDoor.Lq
set_option maxRecDepth 100000
open Go.ChangeShapes Go.WideShapes Go.ChangeAt Go.RowKit Go.Proofs.Le

theorem part_set {α : Type} (f : α → List Value) (m : Nat) : ∀ (l : List α) (k : Nat) (_ : k < l.length) (y : α), (∀ x ∈ l, (f x).length = m) → (f y).length = m → splice (l.flatMap f) (k * m) (f y) = (l.set k y).flatMap f
  | x :: l, 0, _, y, h, hy => by
    have hx := h x (by simp)
    simp only [splice, Nat.zero_mul, List.take_zero, List.nil_append, Nat.zero_add, List.flatMap_cons, List.set_cons_zero]
    rw [List.drop_append, List.drop_eq_nil_of_le (by omega), List.nil_append, hx, hy, Nat.sub_self, List.drop_zero]
  | x :: l, k + 1, hk, y, h, hy => by
    have hx := h x (by simp)
    have ih := part_set f m l k (by simpa using hk) y (fun z hz => h z (by simp [hz])) hy
    simp only [List.set_cons_succ, List.flatMap_cons]
    rw [← ih]
    have e1 : (k + 1) * m = (f x).length + k * m := by rw [hx, Nat.succ_mul]; omega
    simp only [splice]
    rw [e1, List.take_append, List.take_of_length_le (by omega), Nat.add_sub_cancel_left, List.append_assoc, Nat.add_assoc, List.drop_append, List.drop_eq_nil_of_le (by omega), List.nil_append, Nat.add_sub_cancel_left]

theorem setCells_grown {g : Nat} : ∀ (vs : List Value) (o : Nat) (w : World), w.grownBy (w.setCells g o vs) (some g)
  | [], _, w => World.grownBy.refl w _
  | v :: vs, o, w => by
    have h1 : w.grownBy (w.setCell ⟨g, o, none⟩ v) (some g) := ⟨rfl, rfl, rfl, by rw [Go.Deep.nblk_setCell]; exact Nat.le_refl _, fun k _ hk => Go.Deep.blk_setCell_other w _ _ k (by intro e; apply hk; rw [e])⟩
    have h2 := setCells_grown (g := g) vs (o + 1) (w.setCell ⟨g, o, none⟩ v)
    exact ⟨h2.os.trans h1.os, h2.tape.trans h1.tape, h2.output.trans h1.output, Nat.le_trans h1.size h2.size, fun k hk hn => (h2.block k (Nat.lt_of_lt_of_le hk h1.size) hn).trans (h1.block k hk hn)⟩
theorem setCells_block {g t : Nat} {fr : Nat × Nat} : ∀ (vs : List Value) (o : Nat) (w : World) (cur : Array Value), w.heap[g]? = some (.cells cur t fr) → o + vs.length ≤ cur.size → (w.setCells g o vs).heap[g]? = some (.cells (splice cur.toList o vs).toArray t fr)
  | [], o, w, cur, h, _ => by
    have : splice cur.toList o [] = cur.toList := by simp [splice]
    rw [this]; simpa [World.setCells] using h
  | v :: vs, o, w, cur, h, hl => by
    have h1 : (w.setCell ⟨g, o, none⟩ v).heap[g]? = some (.cells (cur.setIfInBounds o v) t fr) := by
      simp only [World.setCell, Array.getElem?_modify, h]
      simp
    have h2 := setCells_block vs (o + 1) _ _ h1 (by rw [Array.size_setIfInBounds]; simp at hl; omega)
    refine (show ((w.setCell ⟨g, o, none⟩ v).setCells g (o + 1) vs).heap[g]? = _ from h2).trans ?_
    congr 2
    have hlt : o < cur.size := by simp at hl; omega
    have : splice (cur.setIfInBounds o v).toList (o + 1) vs = splice cur.toList o (v :: vs) := by
      have hlt' : o < cur.toList.length := by rw [Array.length_toList]; exact hlt
      have e1 : (cur.toList.set o v).take (o + 1) = cur.toList.take o ++ [v] := by
        rw [List.take_succ_eq_append_getElem (by rw [List.length_set]; exact hlt'), List.getElem_set_self, List.take_set_of_le (Nat.le_refl _)]
      have e2 : (cur.toList.set o v).drop (o + 1 + vs.length) = cur.toList.drop (o + (v :: vs).length) := by
        rw [List.drop_set_of_lt (by omega), List.length_cons]
        congr 1
        omega
      rw [Array.toList_setIfInBounds]
      unfold splice
      rw [e1, e2, List.append_assoc]
      rfl
    rw [this]
theorem own_at {w : World} {B e size n g c : Nat} {xs : List Value} (h : w.ownsRow B e size (.slice (some ⟨g, 0, none⟩) n c) n xs) : ∃ cur, w.heap[g]? = some (.cells cur e (0, 0)) ∧ B ≤ g ∧ n ≤ c ∧ c ≤ maxLen ∧ cur.size = c * size ∧ cur.toList.take (n * size) = xs ∧ xs.length = n * size := by
  rcases h.2 with ⟨h0, _⟩ | ⟨g', cap, cur', e1, hbg, hgg, hnc, hcm, hcs, ht⟩
  · cases h0
  · simp only [Value.slice.injEq, Option.some.injEq, Addr.mk.injEq] at e1
    obtain ⟨⟨rfl, _⟩, _, rfl⟩ := e1
    exact ⟨cur', hgg, hbg, hnc, hcm, hcs, ht, h.1⟩
theorem own_set_cells {w : World} {B e size n g c : Nat} {xs : List Value} (h : w.ownsRow B e size (.slice (some ⟨g, 0, none⟩) n c) n xs) (off : Nat) (vs : List Value) (hf : off + vs.length ≤ n * size) :
    (w.setCells g off vs).ownsRow B e size (.slice (some ⟨g, 0, none⟩) n c) n (splice xs off vs) := by
  obtain ⟨cur, hg, hB, hnc, hcm, hcs, ht, hx⟩ := own_at h
  have hle : n * size ≤ c * size := Nat.mul_le_mul_right _ hnc
  have hcl : cur.toList.length = c * size := by rw [Array.length_toList]; exact hcs
  have hb := setCells_block (fr := (0, 0)) vs off w cur hg (by omega)
  refine ⟨by rw [length_splice _ _ _ (by omega)]; exact hx, .inr ⟨g, c, _, rfl, hB, hb, hnc, hcm, by rw [List.size_toArray, length_splice _ _ _ (by omega)]; exact hcl, ?_⟩⟩
  show (splice cur.toList off vs).take (n * size) = splice xs off vs
  rw [← ht]
  unfold splice
  rw [List.take_append, List.length_take, Nat.min_eq_left (by omega), List.take_take, Nat.min_eq_right (by omega), List.take_append, List.take_of_length_le (show vs.length ≤ n * size - off by omega), List.take_take, Nat.min_eq_left (by omega), List.drop_take]
  congr 3
  omega
theorem own_short {w : World} {B e size n m g c : Nat} {xs : List Value} (h : w.ownsRow B e size (.slice (some ⟨g, 0, none⟩) n c) n xs) (hm : m ≤ n) : w.ownsRow B e size (.slice (some ⟨g, 0, none⟩) m c) m (xs.take (m * size)) := by
  obtain ⟨cur, hg, hB, hnc, hcm, hcs, ht, hx⟩ := own_at h
  have hle : m * size ≤ n * size := Nat.mul_le_mul_right _ hm
  refine ⟨by rw [List.length_take]; omega, .inr ⟨g, c, cur, rfl, hB, hg, by omega, hcm, hcs, ?_⟩⟩
  rw [← ht, List.take_take, Nat.min_eq_left hle]
theorem own_cells {w : World} {B n g c e : Nat} {xs : List Value} (h : w.ownsRow B e 3 (.slice (some ⟨g, 0, none⟩) n c) n xs) (i : Nat) (hi : i < n * 3) : (w.cell? ⟨g, i, none⟩).isSome = true ∧ w.frozen? ⟨g, i, none⟩ = false := by
  obtain ⟨cur, hg, hB, hnc, hcm, hcs, ht, hx⟩ := own_at h
  refine ⟨?_, frozen_of_row w g i _ _ hg⟩
  rw [cell_of_row w g i cur e _ hg, Array.getElem?_eq_getElem (by omega)]
  rfl
theorem slice_toW (g n c k : Nat) (hk : k ≤ c) (W : World) : (Instr.slice 98 (.slice (some ⟨g, 0, none⟩) n c) none (some (.int .i64 (k : Int))) none).run Tryz.prog W = .ok (.slice (some ⟨g, 0, none⟩) k c) W := by
  obtain ⟨i0, hi, hz0, hz1, hz2⟩ := info_parts infoL
  have e : Tryz.prog.elem 98 = 100 := by kernel_rfl
  rw [run_slice_h (P := Tryz.prog) (w := W) 98 (some ⟨g, 0, none⟩) n c Tryz.underlying98 .i64 (k : Int) (by omega) (by omega)]
  simp [e, sizeOf, typeInfo, hi, hz1, sliced, Go.WideShapes.add_plain]
theorem slice_fromW (g n c k : Nat) (hk : k ≤ n) (hc : n ≤ c) : ∃ A : Addr, (∀ W : World, (Instr.slice 98 (.slice (some ⟨g, 0, none⟩) n c) (some (.int .i64 (k : Int))) none none).run Tryz.prog W = .ok (.slice (some A) (n - k) (c - k)) W) ∧ (k < c → A = ⟨g, k * 3, none⟩) := by
  obtain ⟨i0, hi, hz0, hz1, hz2⟩ := info_parts infoL
  have e : Tryz.prog.elem 98 = 100 := by kernel_rfl
  by_cases h : c = k
  · refine ⟨⟨g, 0, none⟩, fun W => ?_, fun h' => absurd h (by omega)⟩
    rw [run_slice_l (P := Tryz.prog) (w := W) 98 (some ⟨g, 0, none⟩) n c Tryz.underlying98 .i64 (k : Int) (by omega) (by omega)]
    simp [e, sizeOf, typeInfo, hi, hz1, sliced, h]
  · refine ⟨⟨g, k * 3, none⟩, fun W => ?_, fun _ => rfl⟩
    rw [run_slice_l (P := Tryz.prog) (w := W) 98 (some ⟨g, 0, none⟩) n c Tryz.underlying98 .i64 (k : Int) (by omega) (by omega)]
    simp [e, sizeOf, typeInfo, hi, hz1, sliced, h, Go.WideShapes.add_plain]
theorem slice_lhm (g n c l h m : Nat) (h1 : l ≤ h) (h2 : h ≤ m) (h3 : m ≤ c) : ∃ v, ∀ W : World, (Instr.slice 98 (.slice (some ⟨g, 0, none⟩) n c) (some (.int .i64 (l : Int))) (some (.int .i64 (h : Int))) (some (.int .i64 (m : Int)))).run Tryz.prog W = .ok v W := by
  obtain ⟨i0, hi, hz0, hz1, hz2⟩ := info_parts infoL
  have e : Tryz.prog.elem 98 = 100 := by kernel_rfl
  refine ⟨.slice (if m = l then some ⟨g, 0, none⟩ else some ⟨g, l * 3, none⟩) (h - l) (m - l), fun W => ?_⟩
  rw [run_slice_lhm (P := Tryz.prog) (w := W) 98 (some ⟨g, 0, none⟩) n c Tryz.underlying98 .i64 .i64 .i64 (l : Int) (h : Int) (m : Int) (by omega) (by omega) (by omega) (by omega)]
  by_cases hh : m = l
  · simp [e, sizeOf, typeInfo, hi, hz1, sliced, hh]
  · simp [e, sizeOf, typeInfo, hi, hz1, sliced, hh, Go.WideShapes.add_plain]
theorem slice_lh (g n c l h : Nat) (h1 : l ≤ h) (h2 : h ≤ c) : ∃ A : Addr, (∀ W : World, (Instr.slice 98 (.slice (some ⟨g, 0, none⟩) n c) (some (.int .i64 (l : Int))) (some (.int .i64 (h : Int))) none).run Tryz.prog W = .ok (.slice (some A) (h - l) (c - l)) W) ∧ (l < c → A = ⟨g, l * 3, none⟩) := by
  obtain ⟨i0, hi, hz0, hz1, hz2⟩ := info_parts infoL
  have e : Tryz.prog.elem 98 = 100 := by kernel_rfl
  by_cases hh : c = l
  · refine ⟨⟨g, 0, none⟩, fun W => ?_, fun h' => absurd hh (by omega)⟩
    rw [run_slice_lh (P := Tryz.prog) (w := W) 98 (some ⟨g, 0, none⟩) n c Tryz.underlying98 .i64 .i64 (l : Int) (h : Int) (by omega) (by omega) (by omega)]
    simp [e, sizeOf, typeInfo, hi, hz1, sliced, hh]
  · refine ⟨⟨g, l * 3, none⟩, fun W => ?_, fun _ => rfl⟩
    rw [run_slice_lh (P := Tryz.prog) (w := W) 98 (some ⟨g, 0, none⟩) n c Tryz.underlying98 .i64 .i64 (l : Int) (h : Int) (by omega) (by omega) (by omega)]
    simp [e, sizeOf, typeInfo, hi, hz1, sliced, hh, Go.WideShapes.add_plain]
theorem run_clear_rowW (w : World) (g o m c : Nat) (hm : 0 < m) (hc : ∀ j, j < m * 3 → (w.cell? ⟨g, o + j, none⟩).isSome = true ∧ w.frozen? ⟨g, o + j, none⟩ = false) :
    ∃ vs : List Value, vs.length = m * 3 ∧ ∀ ty : TypeId, (Builtin.clear_ #[98] ty #[.slice (some ⟨g, o, none⟩) m c]).run Tryz.prog w = .ok (.tuple #[]) (w.setCells g o vs) := by
  obtain ⟨vs, hvs⟩ : ∃ vs, vs = (Builtin.zeroCells (Value.agg #[.int .i64 0, .int .i64 0, .int .i64 0]).cells m).toList := ⟨_, rfl⟩
  have hl : vs.length = m * 3 := by rw [hvs]; simp [Builtin.zeroCells, Value.cells]
  have h1 : ∀ v ∈ vs, v.oneCell' = true := fun v hv => by
    rw [hvs] at hv
    simp only [Builtin.zeroCells, Value.cells, Array.mem_toList_iff, Array.mem_map] at hv
    obtain ⟨i, _, rfl⟩ := hv
    have : i % 3 = 0 ∨ i % 3 = 1 ∨ i % 3 = 2 := by omega
    rcases this with e | e | e <;> simp [e] <;> rfl
  refine ⟨vs, hl, fun ty => ?_⟩
  have hst := run_storeCells_cells (P := Tryz.prog) g o vs 0 w (fun j hj => by simpa using (hc j (by omega)).1) (fun j hj => by simpa using (hc j (by omega)).2) h1
  simp only [Nat.add_zero] at hst
  obtain ⟨k, rfl⟩ : ∃ n, m = n + 1 := ⟨m - 1, by omega⟩
  rw [hvs] at hst ⊢
  simp [Builtin.clear_, run_underlying Tryz.underlying98, hst]
theorem own_cap {w : World} {base e sz n c : Nat} {A : Option Addr} {xs : List Value} (h : w.ownsRow base e sz (.slice A n c) n xs) (hA : A = none) : c = 0 := by
  rcases h.2 with ⟨e1, _⟩ | ⟨g, cap, cur, e1, _⟩
  · injection e1
  · subst hA
    injection e1 with e1 _ _
    cases e1
/-- A copy of elements of any size: all is read before anything is written. -/
theorem run_copy_size {P : Program} (w : World) (dT sT ty elem : TypeId) (b o dLen dCap : Nat) (a : Addr) (sLen sCap sz : Nat) (cs : List Value)
    (hu : P.underlying dT = some (.slice elem)) (hs : (P.info? elem).map (·.size) = some sz) (hn : cs.length = Nat.min sLen dLen * sz)
    (hsrc : ∀ j v, cs[j]? = some v → w.cell? (a.add j) = some v) (hc : ∀ j, j < cs.length → (w.cell? ⟨b, o + j, none⟩).isSome = true) (hf : ∀ j, j < cs.length → w.frozen? ⟨b, o + j, none⟩ = false) (h1 : ∀ v ∈ cs, v.oneCell' = true) :
    (Builtin.copy_ #[dT, sT] ty #[.slice (some ⟨b, o, none⟩) dLen dCap, .slice (some a) sLen sCap]).run P w = .ok (goInt (Nat.min sLen dLen)) (w.setCells b o cs) := by
  have hl := run_loadCells_list (P := P) w a cs hsrc
  have hst := run_storeCells_cells (P := P) b o cs 0 w (by simpa using hc) (by simpa using hf) h1
  rw [Nat.add_zero] at hst
  cases hq : P.info? elem with
  | none => simp [hq] at hs
  | some i =>
    have hi : i.size = sz := by simpa [hq] using hs
    rw [hn] at hl
    simp [Builtin.copy_, run_underlying hu, Builtin.lenOf, Builtin.firstCells, sizeOf, typeInfo, hq, hi, hl, hst]
theorem lcells_cut (L : Tb) (k : Nat) (hk : k < L.length) (vs : List Value) : (splice (splice (lcells L) (k * 3) ((lcells L).drop ((k + 1) * 3))) ((L.length - 1) * 3) vs).take ((L.length - 1) * 3) = lcells (L.eraseIdx k) := by
  have hl := lcells_length L
  have e : lcells (L.eraseIdx k) = (lcells L).take (k * 3) ++ (lcells L).drop ((k + 1) * 3) := by
    have h1 : L = L.take (k + 1) ++ L.drop (k + 1) := (List.take_append_drop _ _).symm
    have h2 : L = L.take k ++ L.drop k := (List.take_append_drop _ _).symm
    have e1 : (lcells L).take (k * 3) = lcells (L.take k) := by
      conv => lhs; rw [h2, lcells_append]
      rw [List.take_append_of_le_length (by rw [lcells_length, List.length_take]; omega), List.take_of_length_le (by rw [lcells_length, List.length_take]; omega)]
    have e2 : (lcells L).drop ((k + 1) * 3) = lcells (L.drop (k + 1)) := by
      conv => lhs; rw [h1, lcells_append]
      have hn : (lcells (L.take (k + 1))).length = (k + 1) * 3 := by rw [lcells_length, List.length_take, Nat.min_eq_left (by omega)]
      rw [List.drop_append, List.drop_eq_nil_of_le (by omega), List.nil_append, hn, Nat.sub_self, List.drop_zero]
    rw [e1, e2, ← lcells_append, List.eraseIdx_eq_take_drop_succ]
  rw [e]
  unfold splice
  rw [List.take_append_of_le_length (by simp; omega), List.take_take, Nat.min_self, List.take_append, List.take_of_length_le (show ((lcells L).take (k * 3)).length ≤ (L.length - 1) * 3 by rw [List.length_take]; omega)]
  congr 1
  rw [List.take_append_of_le_length (by simp; omega), List.take_of_length_le (by simp; omega)]
end Go.Proofs.YtflgemlhocjipaaGreatDoor.Lq
namespace Go.Proofs.YtflgemlhocjipaaGreatDoor.Lq
set_option maxRecDepth 100000
open Go.ChangeShapes Go.WideShapes Go.ChangeAt Go.RowKit Go.Proofs.Le

theorem eqlL (x y : Ls) (w : World) : (binOp .eql 100 (.agg #[.int .i64 x.i, .int .i64 x.s, .int .i64 x.l]) (.agg #[.int .i64 y.i, .int .i64 y.s, .int .i64 y.l])).run Tryz.prog w = .ok (.bool (decide (x = y))) w := by
  have hS : Tryz.prog.underlying 100 = some (.struct (Tryz.prog.fieldsOf 100)) := by kernel_rfl
  have hp : Tryz.prog.stoodInHeld 100 = false := by kernel_rfl
  have hui := Tryz.underlying3
  have hai := Tryz.isAgg3
  have hzi := Tryz.sizeOf3
  rw [run_eql_struct, show (10000 : Nat) = 9999 + 1 from rfl, run_equalIn_agg w 9999 100 _ _ hS hp]
  simp only [Program.fieldsOf, Tryz.underlying100]
  go_simp
  obtain ⟨a, b, c⟩ := x
  obtain ⟨a', b', c'⟩ := y
  by_cases h1 : a = a' <;> by_cases h2 : b = b' <;> by_cases h3 : c = c' <;> simp [h1, h2, h3, ls_eq]
theorem guard_eqlL : Tryz.prog.eqGuardType Tryz.prog.depth 100 = false := by kernel_rfl
theorem neqL (x y : Ls) (w : World) : (binOp .neq 100 (.agg #[.int .i64 x.i, .int .i64 x.s, .int .i64 x.l]) (.agg #[.int .i64 y.i, .int .i64 y.s, .int .i64 y.l])).run Tryz.prog w = .ok (.bool (!decide (x = y))) w := by
  have hS : Tryz.prog.underlying 100 = some (.struct (Tryz.prog.fieldsOf 100)) := by kernel_rfl
  have hp : Tryz.prog.stoodInHeld 100 = false := by kernel_rfl
  have hui := Tryz.underlying3
  have hai := Tryz.isAgg3
  have hzi := Tryz.sizeOf3
  rw [run_neq_struct, show (10000 : Nat) = 9999 + 1 from rfl, run_equalIn_agg w 9999 100 _ _ hS hp]
  simp only [Program.fieldsOf, Tryz.underlying100]
  go_simp
  obtain ⟨a, b, c⟩ := x
  obtain ⟨a', b', c'⟩ := y
  by_cases h1 : a = a' <;> by_cases h2 : b = b' <;> by_cases h3 : c = c' <;> simp [h1, h2, h3, ls_eq]
theorem guard_neqL : Tryz.prog.eqGuardType Tryz.prog.depth 100 = false := by kernel_rfl
theorem neqD (x y : Ls) (w : World) : (binOp .neq 82 (.agg #[.int .i64 x.i, .int .i64 x.s, .int .i64 x.l]) (.agg #[.int .i64 y.i, .int .i64 y.s, .int .i64 y.l])).run Tryz.prog w = .ok (.bool (!decide (x = y))) w := by
  have hS : Tryz.prog.underlying 82 = some (.struct (Tryz.prog.fieldsOf 82)) := by kernel_rfl
  have hp : Tryz.prog.stoodInHeld 82 = false := by kernel_rfl
  have hui := Tryz.underlying3
  have hai := Tryz.isAgg3
  have hzi := Tryz.sizeOf3
  rw [run_neq_struct, show (10000 : Nat) = 9999 + 1 from rfl, run_equalIn_agg w 9999 82 _ _ hS hp]
  simp only [Program.fieldsOf, Tryz.underlying82]
  go_simp
  obtain ⟨a, b, c⟩ := x
  obtain ⟨a', b', c'⟩ := y
  by_cases h1 : a = a' <;> by_cases h2 : b = b' <;> by_cases h3 : c = c' <;> simp [h1, h2, h3, ls_eq]
theorem guard_neqD : Tryz.prog.eqGuardType Tryz.prog.depth 82 = false := by kernel_rfl
end Go.Proofs.YtflgemlhocjipaaGreatDoor.Lq
