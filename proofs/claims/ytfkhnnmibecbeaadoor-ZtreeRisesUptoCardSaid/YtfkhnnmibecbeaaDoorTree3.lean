/-
  A tree of znodes as a map has it: its keys, its entries; what was collected, sorted. No program in it; no condition.
-/
import Derived.Test.YtfkhnnmibecbeaaDoorTree2
import Derived.Maps.OwnSet
import Derived.Maps.Views
import Derived.Sort.KeysCollected
namespace Go.Proofs.Zt
open Go.Proofs.Zn Go.Maps

def entry (z : Nd) : Lit × DataW Nd := (.string z.path, .held z)
def Dm (T : Tr) : DataW Nd := .map (T.map entry)
theorem before_lt (a b : Txt) : bytesBefore a b = decide (a < b) := by
  induction a generalizing b with
  | nil => cases b with
    | nil => simp [bytesBefore]
    | cons c t => simp [bytesBefore]
  | cons x r ih => cases b with
    | nil => simp [bytesBefore]
    | cons c t =>
      rw [bytesBefore, ih, Bool.eq_iff_iff, decide_eq_true_iff, List.cons_lt_cons_iff]
      simp
theorem insert_new {T : Tr} {z : Nd} (h : get T z.path = none) : DataW.insert (entry z) (T.map entry) = (put T z).map entry := by
  induction T with
  | nil => rfl
  | cons y r ih =>
    have hn := get_none.1 h
    have hy := hn y (by simp)
    rw [List.map_cons, DataW.insert]
    have hb : (entry z).1.before (entry y).1 = decide (z.path < y.path) := before_lt _ _
    rw [hb]
    unfold put
    by_cases hlt : y.path < z.path
    · rw [if_pos hlt, if_neg (by simpa using not_lt_of hlt), List.map_cons, ih (get_none.2 fun x hx => hn x (List.mem_cons_of_mem _ hx))]
    · have hlt' : z.path < y.path := (ge_of hlt).resolve_left hy
      rw [if_neg hlt, if_pos (by simpa using hlt'), List.filter_eq_self.2]
      · rfl
      · intro x hx
        simpa using hn x hx
theorem put_wout {T : Tr} (hs : Srt T) (z : Nd) : put (wout T z.path) z = put T z := by
  refine srt_ext (put_srt (wout_srt hs _) z) (put_srt hs z) fun p => ?_
  rw [get_put, get_put, get_wout]
  split <;> rfl
theorem filter_entry (T : Tr) (p : Txt) : (T.map entry).filter (fun q => !q.1.sameKey (.string p)) = (wout T p).map entry := by
  rw [List.filter_map]; rfl
theorem dm_put {T : Tr} (hs : Srt T) (z : Nd) : (Dm T).put (.string z.path) (.held z) = Dm (put T z) := by
  show DataW.map (DataW.insert (entry z) ((T.map entry).filter (fun q => !q.1.sameKey (.string z.path)))) = _
  rw [filter_entry, insert_new (by rw [get_wout, if_pos rfl]), put_wout hs]; rfl
theorem dm_del (T : Tr) (p : Txt) : (Dm T).del (.string p) = Dm (wout T p) := by
  show DataW.map ((T.map entry).filter (fun q => !q.1.sameKey (.string p))) = _
  rw [filter_entry]; rfl
theorem find_entry (T : Tr) (p : Txt) : (T.map entry).find? (fun q => q.1.sameKey (.string p)) = (get T p).map entry := by
  rw [List.find?_map]; rfl
theorem dm_at (T : Tr) (p : Txt) (z0 : Nd) : (Dm T).atKey (.string p) (.held z0) = .held ((get T p).getD z0) := by
  unfold Dm DataW.atKey
  dsimp only
  rw [find_entry]
  cases get T p <;> rfl
theorem dm_has (T : Tr) (p : Txt) : Maps.has (Dm T) (.string p) = (get T p).isSome := by
  show (T.map entry).any (fun q => q.1.sameKey (.string p)) = _
  have e : ((T.map entry).find? (fun q => q.1.sameKey (.string p))).isSome = (T.map entry).any (fun q => q.1.sameKey (.string p)) := by
    rw [Bool.eq_iff_iff, List.find?_isSome, List.any_eq_true]
  rw [← e, find_entry]
  cases get T p <;> rfl
theorem dm_size (T : Tr) : Maps.size (Dm T) = T.length := by
  show (T.map entry).length = _
  rw [List.length_map]
def paths (T : Tr) : List Txt := T.map (·.path)
theorem dm_keys (T : Tr) : strKeys (Dm T) = paths T := by
  show ((T.map entry).map fun p => strOf p.1) = _
  rw [List.map_map]; rfl
theorem paths_lt {T : Tr} (hs : Srt T) : (paths T).Pairwise (· < ·) := List.pairwise_map.2 hs
theorem paths_nodup {T : Tr} (hs : Srt T) : (paths T).Nodup := (paths_lt hs).imp (fun h => lt_ne h)
theorem sort_perm {ss qs : List Txt} (h : ss.Perm qs) (hq : qs.Pairwise (· < ·)) : ss.mergeSort leB = qs := by
  rw [mergeSort_of_perm h]
  have tr : ∀ a b c : List UInt8, leB a b = true → leB b c = true → leB a c = true := fun a b c h1 h2 => by simp only [leB, decide_eq_true_eq] at *; exact List.le_trans h1 h2
  have to : ∀ a b : List UInt8, (leB a b || leB b a) = true := fun a b => by simp only [leB, Bool.or_eq_true, decide_eq_true_eq]; exact List.le_total a b
  refine List.Perm.eq_of_pairwise (le := fun a b => leB a b = true) (fun a b _ _ h1 h2 => ?_) (List.pairwise_mergeSort tr to qs) (hq.imp fun {a b} h => ?_) (List.mergeSort_perm qs leB)
  · simp only [leB, decide_eq_true_eq] at h1 h2
    exact List.le_antisymm h1 h2
  · simp only [leB, decide_eq_true_eq]
    exact List.le_of_lt h
/-- The znodes that are wanted. -/
def sel (f : Nd → Bool) (T : Tr) : Tr := T.filter f
theorem sel_srt {T : Tr} (hs : Srt T) (f : Nd → Bool) : Srt (sel f T) := hs.sublist List.filter_sublist
/-- What was collected of those that have come. -/
def Col (f : Nd → Bool) (T : Tr) (left : Lit → Bool) (ss : List Txt) : Prop :=
  ss.Nodup ∧ ∀ p, p ∈ ss ↔ ∃ z, get T p = some z ∧ f z = true ∧ left (.string p) = false
theorem Col.start (f : Nd → Bool) (T : Tr) : Col f T (Maps.has (Dm T)) [] := by
  refine ⟨List.nodup_nil, fun p => ⟨fun h => (by cases h), fun ⟨z, h1, _, h3⟩ => ?_⟩⟩
  rw [dm_has, h1] at h3
  cases h3
theorem Col.hit {f : Nd → Bool} {T : Tr} {left : Lit → Bool} {ss : List Txt} (h : Col f T left ss) {x : Txt} {z : Nd} (hl : left (.string x) = true) (hz : get T x = some z) (hf : f z = true) :
    Col f T (fun q => left q && !q.sameKey (.string x)) (ss ++ [x]) := by
  have hx : x ∉ ss := fun hm => by
    obtain ⟨_, _, _, h3⟩ := (h.2 x).1 hm
    rw [hl] at h3
    cases h3
  refine ⟨List.nodup_append.2 ⟨h.1, by simp, fun a ha b hb e => by simp at hb; subst hb; subst e; exact hx ha⟩, fun p => ?_⟩
  rw [List.mem_append, h.2 p]
  by_cases e : p = x
  · subst e
    constructor
    · intro _; exact ⟨z, hz, hf, by simp [Lit.sameKey]⟩
    · intro _; exact .inr (by simp)
  · have hs : (Lit.string p).sameKey (.string x) = false := by simp [Lit.sameKey, e]
    simp [hs, e]
theorem Col.miss {f : Nd → Bool} {T : Tr} {left : Lit → Bool} {ss : List Txt} (h : Col f T left ss) {x : Txt} {z : Nd} (hz : get T x = some z) (hf : f z = false) :
    Col f T (fun q => left q && !q.sameKey (.string x)) ss := by
  refine ⟨h.1, fun p => ?_⟩
  rw [h.2 p]
  by_cases e : p = x
  · subst e
    constructor
    · rintro ⟨z', h1, h2, _⟩
      rw [hz] at h1
      obtain rfl := Option.some.inj h1
      rw [hf] at h2; cases h2
    · rintro ⟨z', h1, h2, _⟩
      rw [hz] at h1
      obtain rfl := Option.some.inj h1
      rw [hf] at h2; cases h2
  · have hs : (Lit.string p).sameKey (.string x) = false := by simp [Lit.sameKey, e]
    simp [hs]
theorem Col.end {f : Nd → Bool} {T : Tr} (hs : Srt T) {left : Lit → Bool} {ss : List Txt} (h : Col f T left ss) (hl : ∀ p, left (.string p) = false) : ss.mergeSort leB = paths (sel f T) := by
  refine sort_perm ((List.perm_ext_iff_of_nodup h.1 (paths_nodup (sel_srt hs f))).2 fun p => ?_) (paths_lt (sel_srt hs f))
  rw [h.2 p]
  unfold paths sel
  rw [List.mem_map]
  constructor
  · rintro ⟨z, h1, h2, _⟩
    obtain ⟨h3, h4⟩ := get_some h1
    exact ⟨z, List.mem_filter.2 ⟨h3, h2⟩, h4⟩
  · rintro ⟨z, h1, h2⟩
    obtain ⟨h3, h4⟩ := List.mem_filter.1 h1
    exact ⟨z, by rw [← h2]; exact get_mem hs h3, h4, hl p⟩
theorem Col.length_le {f : Nd → Bool} {T : Tr} {left : Lit → Bool} {ss : List Txt} (h : Col f T left ss) : ss.length ≤ T.length := by
  have hp : ss ⊆ paths T := fun p hp => by
    obtain ⟨z, h1, _⟩ := (h.2 p).1 hp
    obtain ⟨h3, h4⟩ := get_some h1
    exact List.mem_map.2 ⟨z, h3, h4⟩
  have := List.Nodup.length_le_of_subset h.1 hp
  simpa [paths] using this
end Go.Proofs.Zt
