/-
  Plain mathematics of tables of leases: rows by rising ids; what is opened, renewed, closed; who has ended. No program in it; no condition.
-/
namespace Go.Proofs.Le

/-- A lease. -/
structure Ls where
  i : Int
  s : Int
  l : Int
theorem ls_eq {a b : Ls} : a = b ↔ a.i = b.i ∧ a.s = b.s ∧ a.l = b.l := by
  constructor
  · rintro rfl; exact ⟨rfl, rfl, rfl⟩
  · rintro ⟨h1, h2, h3⟩
    cases a; cases b
    simp only at h1 h2 h3
    subst h1 h2 h3
    rfl
instance : DecidableEq Ls := fun _ _ => decidable_of_iff _ ls_eq.symm
abbrev Tb := List Ls
def z0 : Ls := ⟨0, 0, 0⟩
def Srt (T : Tb) : Prop := T.Pairwise (fun a b => a.i < b.i)
def okT (n : Int) : Bool := decide (0 ≤ n) && decide (n ≤ 1099511627776)
def okL (x : Ls) : Bool := decide (1 ≤ x.i) && decide (x.i ≤ 4611686018427387904) && decide (1 ≤ x.s) && decide (x.s ≤ 1000000) && okT x.l
theorem okL_pos {x : Ls} (h : okL x = true) : 1 ≤ x.i ∧ 1 ≤ x.s := by
  unfold okL at h
  simp only [Bool.and_eq_true, decide_eq_true_eq] at h
  exact ⟨h.1.1.1.1, h.1.1.2⟩
theorem okL_ne {x : Ls} (h : okL x = true) : x ≠ z0 := by
  rintro rfl
  have := (okL_pos h).1
  simp [z0] at this
/-- How many leases have a lesser id. -/
def pos (T : Tb) (id : Int) : Nat := (T.filter (fun x => decide (x.i < id))).length
def has (T : Tb) (id : Int) : Option Ls := T.find? (fun x => x.i == id)
theorem pos_le (T : Tb) (id : Int) : pos T id ≤ T.length := List.length_filter_le _ _
theorem pos_cons_lt {y : Ls} {T : Tb} {id : Int} (h : y.i < id) : pos (y :: T) id = pos T id + 1 := by
  unfold pos; rw [List.filter_cons, if_pos (by simpa using h), List.length_cons]
theorem pos_cons_ge {y : Ls} {T : Tb} {id : Int} (hs : Srt (y :: T)) (h : id ≤ y.i) : pos (y :: T) id = 0 := by
  unfold pos
  rw [List.filter_eq_nil_iff.2]
  · rfl
  · intro x hx
    rcases List.mem_cons.1 hx with rfl | hx
    · simp; omega
    · have := (List.pairwise_cons.1 hs).1 x hx
      simp; omega
theorem pos_lt : ∀ {T : Tb}, Srt T → ∀ {id : Int} {k : Nat} {x : Ls}, T[k]? = some x → decide (x.i < id) = decide (k < pos T id)
  | [], _, _, _, _, h => by simp at h
  | y :: T, hs, id, k, x, h => by
    by_cases hy : y.i < id
    · rw [pos_cons_lt hy]
      cases k with
      | zero => simp at h; subst h; simp [hy]
      | succ k =>
        rw [pos_lt (List.pairwise_cons.1 hs).2 (by simpa using h)]
        simp
    · rw [pos_cons_ge hs (by omega)]
      have hx : y.i ≤ x.i := by
        rcases List.mem_cons.1 (List.mem_of_getElem? h) with rfl | hx
        · exact Int.le_refl _
        · have := (List.pairwise_cons.1 hs).1 x hx; omega
      simp; omega
theorem has_mem {T : Tb} {id : Int} {x : Ls} (h : has T id = some x) : x ∈ T ∧ x.i = id := ⟨List.mem_of_find?_eq_some h, by simpa using List.find?_some h⟩
theorem has_none {T : Tb} {id : Int} : has T id = none ↔ ∀ x ∈ T, x.i ≠ id := by
  unfold has
  rw [List.find?_eq_none]
  exact ⟨fun h x hx e => h x hx (by simpa using e), fun h x hx e => h x hx (by simpa using e)⟩
theorem at_pos {T : Tb} (hs : Srt T) {x : Ls} (hx : x ∈ T) : T[pos T x.i]? = some x := by
  obtain ⟨k, hk, e⟩ := List.getElem_of_mem hx
  have h1 := pos_lt hs (id := x.i) (List.getElem?_eq_getElem hk)
  rw [e] at h1
  have h2 : pos T x.i ≤ k := by simpa using h1.symm
  rcases Nat.lt_or_ge (pos T x.i) k with h3 | h3
  · have h4 := (List.pairwise_iff_getElem.1 hs) (pos T x.i) k (by omega) hk h3
    rw [e] at h4
    have h5 := pos_lt hs (id := x.i) (List.getElem?_eq_getElem (show pos T x.i < T.length by omega))
    simp [h4] at h5
  · have : k = pos T x.i := by omega
    rw [← this, List.getElem?_eq_getElem hk, e]
theorem has_of {T : Tb} (hs : Srt T) {x : Ls} (hx : x ∈ T) : has T x.i = some x := by
  cases h : has T x.i with
  | none => exact absurd rfl (has_none.1 h x hx)
  | some y =>
    obtain ⟨h1, h2⟩ := has_mem h
    have e1 := at_pos hs hx
    have e2 := at_pos hs h1
    rw [h2, e1] at e2
    exact e2.symm
theorem has_pos {T : Tb} (hs : Srt T) {id : Int} {x : Ls} (h : has T id = some x) : T[pos T id]? = some x := by
  obtain ⟨h1, rfl⟩ := has_mem h
  exact at_pos hs h1
/-! ### What calls make -/
def ins (T : Tb) (x : Ls) : Tb := T.take (pos T x.i) ++ x :: T.drop (pos T x.i)
def upd (T : Tb) (x : Ls) : Tb := T.set (pos T x.i) x
def del (T : Tb) (id : Int) : Tb := T.eraseIdx (pos T id)
def opn (T : Tb) (x : Ls) : Tb × Int := if okL x = false then (T, 1) else if (has T x.i).isSome = true then (T, 1) else if 100 ≤ T.length then (T, 1) else (ins T x, 0)
def ren (T : Tb) (id now : Int) : Tb × Int := if okT now = false then (T, 1) else match has T id with
  | none => (T, 100)
  | some x => (upd T ⟨id, x.s, max x.l now⟩, 0)
def cls (T : Tb) (id : Int) : Tb × Int := match has T id with
  | none => (T, 100)
  | some _ => (del T id, 0)
/-- With a lease, by its place. -/
def wit (T : Tb) (x : Ls) : Tb := T.filter (fun y => decide (y.i < x.i)) ++ x :: T.filter (fun y => decide (x.i < y.i))
theorem all_above {y : Ls} {T : Tb} (hs : Srt (y :: T)) {id : Int} (h : id ≤ y.i) : T.filter (fun z => decide (z.i < id)) = [] ∧ T.filter (fun z => decide (id < z.i)) = T := by
  have h1 := (List.pairwise_cons.1 hs).1
  refine ⟨List.filter_eq_nil_iff.2 (fun x hx => ?_), List.filter_eq_self.2 (fun x hx => ?_)⟩
  · have := h1 x hx; simp; omega
  · have := h1 x hx; simp; omega
theorem ins_wit : ∀ {T : Tb}, Srt T → ∀ {x : Ls}, has T x.i = none → ins T x = wit T x
  | [], _, x, _ => by simp [ins, wit, pos]
  | y :: T, hs, x, h => by
    have hne := has_none.1 h
    by_cases hy : y.i < x.i
    · have ih := ins_wit (List.pairwise_cons.1 hs).2 (x := x) (has_none.2 (fun z hz => hne z (by simp [hz])))
      unfold ins at ih ⊢
      rw [pos_cons_lt hy, List.take_succ_cons, List.drop_succ_cons, List.cons_append, ih]
      have hn : ¬ x.i < y.i := by omega
      simp [wit, hy, hn]
    · have h1 := hne y (by simp)
      obtain ⟨h2, h3⟩ := all_above hs (show x.i ≤ y.i by omega)
      have hg : x.i < y.i := by omega
      unfold ins
      rw [pos_cons_ge hs (by omega)]
      simp [wit, hy, hg, h2, h3]
theorem upd_wit : ∀ {T : Tb}, Srt T → ∀ {x z : Ls}, has T x.i = some z → upd T x = wit T x
  | [], _, x, z, h => by simp [has] at h
  | y :: T, hs, x, z, h => by
    by_cases hy : y.i < x.i
    · have hh : has T x.i = some z := by
        unfold has at h ⊢
        rw [List.find?_cons_of_neg (by simp; omega)] at h
        exact h
      have ih := upd_wit (List.pairwise_cons.1 hs).2 (x := x) hh
      unfold upd at ih ⊢
      rw [pos_cons_lt hy, List.set_cons_succ, ih]
      have hn : ¬ x.i < y.i := by omega
      simp [wit, hy, hn]
    · obtain ⟨h2, h3⟩ := all_above hs (show x.i ≤ y.i by omega)
      have he : y.i = x.i := by
        obtain ⟨h4, h5⟩ := has_mem h
        rcases List.mem_cons.1 h4 with rfl | h4
        · exact h5
        · have := (List.pairwise_cons.1 hs).1 z h4; omega
      unfold upd
      rw [pos_cons_ge hs (by omega)]
      have hn : ¬ x.i < y.i := by omega
      simp [wit, hy, hn, h2, h3]
theorem del_filter : ∀ {T : Tb}, Srt T → ∀ {id : Int} {z : Ls}, has T id = some z → del T id = T.filter (fun y => !(y.i == id))
  | [], _, id, z, h => by simp [has] at h
  | y :: T, hs, id, z, h => by
    by_cases hy : y.i < id
    · have hh : has T id = some z := by
        unfold has at h ⊢
        rw [List.find?_cons_of_neg (by simp; omega)] at h
        exact h
      have ih := del_filter (List.pairwise_cons.1 hs).2 hh
      unfold del at ih ⊢
      have hn : ¬ y.i = id := by omega
      rw [pos_cons_lt hy, List.eraseIdx_cons_succ, ih]
      simp [hn]
    · have he : y.i = id := by
        obtain ⟨h4, h5⟩ := has_mem h
        rcases List.mem_cons.1 h4 with rfl | h4
        · exact h5
        · have := (List.pairwise_cons.1 hs).1 z h4; omega
      unfold del
      rw [pos_cons_ge hs (by omega), List.eraseIdx_cons_zero, List.filter_cons, if_neg (by simp [he])]
      symm
      refine List.filter_eq_self.2 (fun x hx => ?_)
      have := (List.pairwise_cons.1 hs).1 x hx
      have hn : ¬ x.i = id := by omega
      simp [hn]
theorem mem_wit {T : Tb} {x y : Ls} : y ∈ wit T x ↔ y = x ∨ (y ∈ T ∧ y.i ≠ x.i) := by
  unfold wit
  simp only [List.mem_append, List.mem_cons, List.mem_filter, decide_eq_true_eq]
  constructor
  · rintro (h | h | h)
    · exact .inr ⟨h.1, by omega⟩
    · exact .inl h
    · exact .inr ⟨h.1, by omega⟩
  · rintro (h | ⟨h1, h2⟩)
    · exact .inr (.inl h)
    · rcases Int.lt_or_lt_of_ne h2 with h3 | h3
      · exact .inl ⟨h1, h3⟩
      · exact .inr (.inr ⟨h1, h3⟩)
theorem wit_srt {T : Tb} (hs : Srt T) (x : Ls) : Srt (wit T x) := by
  unfold wit
  refine List.pairwise_append.2 ⟨hs.sublist List.filter_sublist, List.pairwise_cons.2 ⟨fun y hy => ?_, hs.sublist List.filter_sublist⟩, fun y hy z hz => ?_⟩
  · have := (List.mem_filter.1 hy).2; simpa using this
  · have h1 := (List.mem_filter.1 hy).2
    simp only [decide_eq_true_eq] at h1
    rcases List.mem_cons.1 hz with rfl | hz
    · exact h1
    · have h2 := (List.mem_filter.1 hz).2
      simp only [decide_eq_true_eq] at h2
      omega
theorem ins_len (T : Tb) (x : Ls) : (ins T x).length = T.length + 1 := by
  unfold ins
  have := pos_le T x.i
  rw [List.length_append, List.length_cons, List.length_take, List.length_drop]
  omega
/-- A table: it rises; each of its leases may be; there is room. -/
structure Good (T : Tb) : Prop where
  srt : Srt T
  len : T.length ≤ 100
  each : ∀ x ∈ T, okL x = true
theorem good_nil : Good [] := ⟨List.Pairwise.nil, by simp, fun x hx => (by cases hx)⟩
theorem opn_good {T : Tb} (hg : Good T) (x : Ls) : Good (opn T x).1 := by
  unfold opn
  split
  · exact hg
  split
  · exact hg
  split
  · exact hg
  · rename_i h1 h2 h3
    have hn : has T x.i = none := by simpa using h2
    refine ⟨by rw [ins_wit hg.srt hn]; exact wit_srt hg.srt x, by show (ins T x).length ≤ 100; rw [ins_len]; omega, fun y hy => ?_⟩
    have hy' : y ∈ ins T x := hy
    rw [ins_wit hg.srt hn] at hy'
    rcases mem_wit.1 hy' with rfl | hy
    · simpa using h1
    · exact hg.each y hy.1
theorem okT_max {a b : Int} (ha : okT a = true) (hb : okT b = true) : okT (max a b) = true := by
  rcases Int.le_total a b with h | h
  · rw [Int.max_eq_right h]; exact hb
  · rw [Int.max_eq_left h]; exact ha
theorem ren_ok {T : Tb} (hg : Good T) {id now : Int} {x : Ls} (hx : has T id = some x) (hn : okT now = true) : okL ⟨id, x.s, max x.l now⟩ = true := by
  obtain ⟨h1, rfl⟩ := has_mem hx
  have h2 := hg.each x h1
  unfold okL at h2 ⊢
  simp only [Bool.and_eq_true] at h2 ⊢
  exact ⟨h2.1, okT_max h2.2 hn⟩
theorem ren_good {T : Tb} (hg : Good T) (id now : Int) : Good (ren T id now).1 := by
  unfold ren
  split
  · exact hg
  · rename_i h1
    have hn : okT now = true := by simpa using h1
    cases hx : has T id with
    | none => exact hg
    | some x =>
      have hk := ren_ok hg hx hn
      have e := upd_wit hg.srt (x := ⟨id, x.s, max x.l now⟩) hx
      refine ⟨by show Srt (upd T _); rw [e]; exact wit_srt hg.srt _, by show (upd T _).length ≤ 100; unfold upd; rw [List.length_set]; exact hg.len, fun y hy => ?_⟩
      have hy' : y ∈ upd T ⟨id, x.s, max x.l now⟩ := hy
      rw [e] at hy'
      rcases mem_wit.1 hy' with rfl | hy
      · exact hk
      · exact hg.each y hy.1
theorem filter_good {T : Tb} (hg : Good T) (f : Ls → Bool) : Good (T.filter f) := ⟨hg.srt.sublist List.filter_sublist, Nat.le_trans (List.length_filter_le _ _) hg.len, fun x hx => hg.each x (List.mem_filter.1 hx).1⟩
theorem cls_good {T : Tb} (hg : Good T) (id : Int) : Good (cls T id).1 := by
  unfold cls
  cases hx : has T id with
  | none => exact hg
  | some x => show Good (del T id); rw [del_filter hg.srt hx]; exact filter_good hg _
/-! ### Scripts -/
/-- A call of a script. -/
structure Cal where
  k : Int
  i : Int
  s : Int
  n : Int
def stepE (T : Tb) (o : Cal) : Tb × Int := if o.k = 0 then opn T ⟨o.i, o.s, o.n⟩ else if o.k = 1 then ren T o.i o.n else if o.k = 2 then cls T o.i else (T, 0)
theorem step_good {T : Tb} (hg : Good T) (o : Cal) : Good (stepE T o).1 := by
  unfold stepE
  split
  · exact opn_good hg _
  split
  · exact ren_good hg _ _
  split
  · exact cls_good hg _
  · exact hg
def runT (T : Tb) (l : List Cal) : Tb := l.foldl (fun T o => (stepE T o).1) T
theorem run_good {T : Tb} (hg : Good T) (l : List Cal) : Good (runT T l) := by
  induction l generalizing T with
  | nil => exact hg
  | cons o l ih => exact ih (step_good hg o)
theorem run_step {T : Tb} {l : List Cal} {k : Nat} {o : Cal} (h : l[k]? = some o) : runT T (l.take (k + 1)) = (stepE (runT T (l.take k)) o).1 := by
  obtain ⟨hk, rfl⟩ := List.getElem?_eq_some_iff.1 h
  unfold runT
  rw [List.take_succ_eq_append_getElem hk, List.foldl_append]; rfl
/-! ### The document's with, piece by piece -/
def wstep (x : Ls) (st : Tb × Bool) (y : Ls) : Tb × Bool :=
  if st.2 = false ∧ x.i ≤ y.i then (if y.i = x.i then (st.1 ++ [x], true) else ((st.1 ++ [x]) ++ [y], true)) else (if y.i = x.i then st else (st.1 ++ [y], st.2))
def wrun (T : Tb) (x : Ls) : Tb × Bool := T.foldl (wstep x) ([], false)
def wend (x : Ls) (st : Tb × Bool) : Tb := if st.2 = false then st.1 ++ [x] else st.1
theorem wrun_step {T : Tb} {x y : Ls} {k : Nat} (h : T[k]? = some y) : wrun (T.take (k + 1)) x = wstep x (wrun (T.take k) x) y := by
  obtain ⟨hk, rfl⟩ := List.getElem?_eq_some_iff.1 h
  unfold wrun
  rw [List.take_succ_eq_append_getElem hk, List.foldl_append]; rfl
theorem wstep_len (x : Ls) (st : Tb × Bool) (y : Ls) : (wstep x st y).1.length ≤ st.1.length + 2 := by
  unfold wstep
  split <;> split <;> simp
theorem wrun_len (x : Ls) : ∀ (T : Tb) (st : Tb × Bool), (T.foldl (wstep x) st).1.length ≤ st.1.length + 2 * T.length
  | [], st => by simp
  | y :: T, st => by
    have h1 := wrun_len x T (wstep x st y)
    have h2 := wstep_len x st y
    rw [List.foldl_cons, List.length_cons]; omega
theorem wrun_done (x : Ls) : ∀ (T acc : Tb), (∀ y ∈ T, x.i < y.i) → T.foldl (wstep x) (acc, true) = (acc ++ T, true)
  | [], acc, _ => by simp
  | y :: T, acc, h => by
    have h1 := h y (by simp)
    have hs : wstep x (acc, true) y = (acc ++ [y], true) := by unfold wstep; rw [if_neg (by simp), if_neg (by omega)]
    rw [List.foldl_cons, hs, wrun_done x T _ (fun z hz => h z (by simp [hz])), List.append_assoc]; rfl
theorem wrun_all (x : Ls) : ∀ (T acc : Tb), Srt T → wend x (T.foldl (wstep x) (acc, false)) = acc ++ wit T x
  | [], acc, _ => by simp [wend, wit]
  | y :: T, acc, hs => by
    have h1 := (List.pairwise_cons.1 hs).1
    by_cases hy : y.i < x.i
    · have e : wstep x (acc, false) y = (acc ++ [y], false) := by unfold wstep; rw [if_neg (by simp; omega), if_neg (by omega)]
      have hn : ¬ x.i < y.i := by omega
      rw [List.foldl_cons, e, wrun_all x T _ (List.pairwise_cons.1 hs).2]
      simp [wit, hy, hn]
    · obtain ⟨h2, h3⟩ := all_above hs (show x.i ≤ y.i by omega)
      by_cases he : y.i = x.i
      · have e : wstep x (acc, false) y = (acc ++ [x], true) := by unfold wstep; rw [if_pos ⟨rfl, by omega⟩, if_pos he]
        have hn : ¬ x.i < y.i := by omega
        rw [List.foldl_cons, e, wrun_done x T _ (fun z hz => by have := h1 z hz; omega)]
        simp [wend, wit, hy, hn, h2, h3]
      · have e : wstep x (acc, false) y = ((acc ++ [x]) ++ [y], true) := by unfold wstep; rw [if_pos ⟨rfl, by omega⟩, if_neg he]
        have hg : x.i < y.i := by omega
        rw [List.foldl_cons, e, wrun_done x T _ (fun z hz => by have := h1 z hz; omega)]
        simp [wend, wit, hy, hg, h2, h3]
theorem wend_wit {T : Tb} (hs : Srt T) (x : Ls) : wend x (wrun T x) = wit T x := by
  unfold wrun; rw [wrun_all x T [] hs]; rfl
/-! ### Who has ended -/
def overB (now : Int) (x : Ls) : Bool := decide (x.s < now - x.l)
def overs (T : Tb) (now : Int) : List Int := (T.filter (overB now)).map (·.i)
def endd (T : Tb) (now : Int) : List Int := if okT now = true then overs T now else []
theorem overs_snoc (T : Tb) (x : Ls) (now : Int) : overs (T ++ [x]) now = overs T now ++ (if overB now x = true then [x.i] else []) := by
  unfold overs
  rw [List.filter_append, List.map_append]
  cases h : overB now x <;> simp [h]
theorem overs_len (T : Tb) (now : Int) : (overs T now).length ≤ T.length := by
  unfold overs; rw [List.length_map]; exact List.length_filter_le _ _
theorem endd_len (T : Tb) (now : Int) : (endd T now).length ≤ T.length := by
  unfold endd
  split
  · exact overs_len T now
  · simp
theorem mem_endd {T : Tb} {now a : Int} : a ∈ endd T now ↔ okT now = true ∧ ∃ x ∈ T, x.i = a ∧ x.s < now - x.l := by
  unfold endd
  split
  · rename_i h
    simp only [overs, List.mem_map, List.mem_filter, overB, decide_eq_true_eq]
    exact ⟨fun ⟨x, ⟨h1, h2⟩, h3⟩ => ⟨h, x, h1, h3, h2⟩, fun ⟨_, x, h1, h3, h2⟩ => ⟨x, ⟨h1, h2⟩, h3⟩⟩
  · rename_i h
    exact ⟨fun h' => (by cases h'), fun h' => absurd h'.1 h⟩
theorem okT_iff {n : Int} : okT n = true ↔ 0 ≤ n ∧ n ≤ 1099511627776 := by unfold okT; simp
theorem late_any {T : Tb} (hg : Good T) {now later a : Int} (h1 : now ≤ later) (h2 : later ≤ 1099511627776) (ha : a ∈ endd T now) : ∃ x, has T a = some x ∧ x.s < now - x.l ∧ a ∈ endd T later := by
  obtain ⟨hk, x, hx, rfl, hl⟩ := mem_endd.1 ha
  have hk' := okT_iff.1 hk
  exact ⟨x, has_of hg.srt hx, hl, mem_endd.2 ⟨okT_iff.2 ⟨by omega, h2⟩, x, hx, rfl, by omega⟩⟩
theorem ren_ends {T : Tb} (hg : Good T) {id now : Int} (h : (ren T id now).2 = 0) : id ∉ endd (ren T id now).1 now := by
  intro hm
  obtain ⟨hk, y, hy, rfl, hl⟩ := mem_endd.1 hm
  unfold ren at h hy
  rw [if_neg (by rw [hk]; simp)] at h hy
  cases hx : has T y.i with
  | none => rw [hx] at h; simp at h
  | some x =>
    rw [hx] at hy
    have hy' : y ∈ upd T ⟨y.i, x.s, max x.l now⟩ := hy
    rw [upd_wit hg.srt (x := ⟨y.i, x.s, max x.l now⟩) hx] at hy'
    rcases mem_wit.1 hy' with e | ⟨_, e⟩
    · have e2 := congrArg Ls.s e
      have e3 := congrArg Ls.l e
      simp only at e2 e3
      have h1 := (okL_pos (hg.each x (has_mem hx).1)).2
      have h2 := Int.le_max_right x.l now
      omega
    · exact e rfl
theorem cls_none {T : Tb} (hg : Good T) (id : Int) : has (cls T id).1 id = none := by
  unfold cls
  cases hx : has T id with
  | none => exact hx
  | some x =>
    show has (del T id) id = none
    rw [del_filter hg.srt hx]
    refine has_none.2 (fun y hy => ?_)
    have := (List.mem_filter.1 hy).2
    simpa using this
theorem none_ends {T : Tb} {id now : Int} (h : has T id = none) : id ∉ endd T now := by
  intro hm
  obtain ⟨_, y, hy, e, _⟩ := mem_endd.1 hm
  exact has_none.1 h y hy e
theorem ren_none {T : Tb} {id : Int} (h : has T id = none) : ren T id 0 = (T, 100) := by
  unfold ren
  rw [if_neg (by decide), h]
/-! ### Lists that are loaded -/
def lst (T : Tb) : Int := match T.getLast? with
  | none => 0
  | some x => x.i
theorem lst_snoc (T : Tb) (x : Ls) : lst (T ++ [x]) = x.i := by unfold lst; simp
theorem lst_all {T : Tb} (hs : Srt T) : ∀ x ∈ T, x.i ≤ lst T := by
  rcases List.eq_nil_or_concat T with rfl | ⟨A, y, rfl⟩
  · intro x hx; cases hx
  · rw [List.concat_eq_append] at *
    rw [lst_snoc]
    intro x hx
    rcases List.mem_append.1 hx with hx | hx
    · have := (List.pairwise_append.1 hs).2.2 x hx y (by simp); omega
    · rcases List.mem_singleton.1 hx with rfl; exact Int.le_refl _
theorem srt_snoc {T : Tb} (hs : Srt T) {x : Ls} (h : ∀ y ∈ T, y.i < x.i) : Srt (T ++ [x]) :=
  List.pairwise_append.2 ⟨hs, List.pairwise_singleton _ _, fun y hy z hz => by rcases List.mem_singleton.1 hz with rfl; exact h y hy⟩
theorem ins_last {T : Tb} {x : Ls} (h : ∀ y ∈ T, y.i < x.i) : ins T x = T ++ [x] := by
  have : pos T x.i = T.length := by
    unfold pos
    rw [List.filter_eq_self.2 (fun y hy => by simpa using h y hy)]
  unfold ins
  rw [this, List.take_length, List.drop_length]
theorem good_take {T : Tb} (hg : Good T) (k : Nat) : Good (T.take k) := ⟨hg.srt.sublist (List.take_sublist _ _), by rw [List.length_take]; have := hg.len; omega, fun x hx => hg.each x (List.mem_of_mem_take hx)⟩
/-- One more of a list that is loaded. -/
theorem load_more {A : Tb} (hg : Good A) {x : Ls} (h : lst A < x.i) : opn A x = if okL x = false then (A, 1) else if 100 ≤ A.length then (A, 1) else (A ++ [x], 0) := by
  have hall : ∀ y ∈ A, y.i < x.i := fun y hy => by have := lst_all hg.srt y hy; omega
  have hn : has A x.i = none := has_none.2 (fun y hy => by have := hall y hy; omega)
  unfold opn
  rw [hn, ins_last hall]
  simp
theorem load_good {A : Tb} (hg : Good A) {x : Ls} (h : lst A < x.i) (h0 : (opn A x).2 = 0) : Good (A ++ [x]) ∧ opn A x = (A ++ [x], 0) := by
  rw [load_more hg h] at h0 ⊢
  split at h0
  · simp at h0
  split at h0
  · simp at h0
  · rename_i h1 h2
    rw [if_neg h1, if_neg h2]
    refine ⟨⟨srt_snoc hg.srt (fun y hy => by have := lst_all hg.srt y hy; omega), by rw [List.length_append]; simp; omega, fun y hy => ?_⟩, rfl⟩
    rcases List.mem_append.1 hy with hy | hy
    · exact hg.each y hy
    · rcases List.mem_singleton.1 hy with rfl; simpa using h1
theorem load_bad {A : Tb} {x : Ls} (h : x.i ≤ lst A ∨ (lst A < x.i ∧ (opn A x).2 ≠ 0)) : ¬ Good (A ++ [x]) := by
  intro hg
  have hA : Good A := by have := good_take hg A.length; rwa [List.take_left] at this
  have hx := hg.each x (by simp)
  rcases h with h | ⟨h, h2⟩
  · rcases List.eq_nil_or_concat A with rfl | ⟨C, y, rfl⟩
    · have := (okL_pos hx).1
      simp [lst] at h
      omega
    · rw [List.concat_eq_append, lst_snoc] at h
      rw [List.concat_eq_append] at hg
      have := (List.pairwise_append.1 hg.srt).2.2 y (by simp) x (by simp)
      omega
  · have hl := hg.len
    rw [List.length_append, List.length_singleton] at hl
    rw [load_more hA h, if_neg (by rw [hx]; simp), if_neg (by omega)] at h2
    exact h2 rfl
theorem good_prefix {T : Tb} {k : Nat} {x : Ls} (hx : T[k]? = some x) (h : ¬ Good (T.take k ++ [x])) : ¬ Good T := by
  intro hg
  apply h
  obtain ⟨hk, rfl⟩ := List.getElem?_eq_some_iff.1 hx
  rw [← List.take_succ_eq_append_getElem hk]
  exact good_take hg _
/-! ### As many as there may be -/
def fullT (s n : Int) (k : Nat) : Tb := (List.range k).map (fun (j : Nat) => (⟨(j : Int) + 1, s, n⟩ : Ls))
theorem fullT_len (s n : Int) (k : Nat) : (fullT s n k).length = k := by unfold fullT; simp
theorem fullT_succ (s n : Int) (k : Nat) : fullT s n (k + 1) = fullT s n k ++ [⟨(k : Int) + 1, s, n⟩] := by
  unfold fullT; rw [List.range_succ, List.map_append]; rfl
theorem mem_full {s n : Int} {k : Nat} {x : Ls} (h : x ∈ fullT s n k) : ∃ j, j < k ∧ x = ⟨(j : Int) + 1, s, n⟩ := by
  unfold fullT at h
  obtain ⟨j, hj, rfl⟩ := List.mem_map.1 h
  exact ⟨j, List.mem_range.1 hj, rfl⟩
def may (s n : Int) : Bool := decide (1 ≤ s) && decide (s ≤ 1000000) && okT n
theorem okL_full (s n : Int) (k : Nat) (hk : k ≤ 1000) : okL ⟨(k : Int) + 1, s, n⟩ = may s n := by
  unfold okL may
  have h1 : decide ((1 : Int) ≤ (k : Int) + 1) = true := by simp; omega
  have h2 : decide ((k : Int) + 1 ≤ 4611686018427387904) = true := by simp; omega
  simp only [h1, h2, Bool.true_and]
theorem full_srt (s n : Int) : ∀ k, Srt (fullT s n k)
  | 0 => (List.Pairwise.nil : Srt [])
  | k + 1 => by
    rw [fullT_succ]
    exact srt_snoc (full_srt s n k) (fun y hy => by obtain ⟨j, hj, rfl⟩ := mem_full hy; show (j : Int) + 1 < (k : Int) + 1; omega)
theorem full_good {s n : Int} (h : may s n = true) (k : Nat) (hk : k ≤ 100) : Good (fullT s n k) :=
  ⟨full_srt s n k, by rw [fullT_len]; exact hk, fun x hx => by obtain ⟨j, hj, rfl⟩ := mem_full hx; rw [okL_full s n j (by omega)]; exact h⟩
theorem full_opn {s n : Int} (h : may s n = true) (k : Nat) (hk : k ≤ 1000) : opn (fullT s n (min k 100)) ⟨(k : Int) + 1, s, n⟩ = (fullT s n (min (k + 1) 100), if k < 100 then 0 else 1) := by
  have hn : has (fullT s n (min k 100)) ((k : Int) + 1) = none := has_none.2 (fun y hy => by obtain ⟨j, hj, rfl⟩ := mem_full hy; show (j : Int) + 1 ≠ (k : Int) + 1; omega)
  unfold opn
  rw [if_neg (by rw [okL_full s n k hk, h]; simp), if_neg (by rw [hn]; simp), fullT_len]
  by_cases h1 : k < 100
  · rw [if_neg (by omega), if_pos h1, Nat.min_eq_left (by omega), Nat.min_eq_left (by omega), fullT_succ]
    rw [ins_last (fun y hy => by obtain ⟨j, hj, rfl⟩ := mem_full hy; show (j : Int) + 1 < (k : Int) + 1; omega)]
  · rw [if_pos (by omega), if_neg h1, Nat.min_eq_right (by omega), Nat.min_eq_right (by omega)]
theorem none_opn {s n : Int} (h : may s n = false) (k : Nat) (hk : k ≤ 1000) : opn [] ⟨(k : Int) + 1, s, n⟩ = ([], 1) := by
  unfold opn
  rw [if_pos (by rw [okL_full s n k hk, h])]
/-! ### What a search finds -/
theorem take_some {α : Type} {L : List α} {j : Nat} {x : α} (h : L[j]? = some x) : L.take (j + 1) = L.take j ++ [x] := by
  obtain ⟨h1, rfl⟩ := List.getElem?_eq_some_iff.1 h
  exact List.take_succ_eq_append_getElem h1
/-- Where the search ends at a place. -/
theorem find_at {T : Tb} (hs : Srt T) {id : Int} {k : Nat} {x : Ls} (hx : T[k]? = some x) (hp : ∀ y ∈ T.take k, y.i < id) (h : id ≤ x.i) : pos T id = k := by
  have hk := (List.getElem?_eq_some_iff.1 hx).1
  have h1 := pos_lt hs (id := id) hx
  have h2 : pos T id ≤ k := by
    have : ¬ x.i < id := by omega
    simpa [this] using h1.symm
  rcases Nat.lt_or_ge (pos T id) k with h3 | h3
  · have h4 := pos_lt hs (id := id) (List.getElem?_eq_getElem (show pos T id < T.length by omega))
    have h5 := hp T[pos T id] (List.mem_take_iff_getElem.2 ⟨pos T id, by omega, rfl⟩)
    simp [h5] at h4
  · omega
theorem find_hit {T : Tb} (hs : Srt T) {id : Int} {k : Nat} {x : Ls} (hx : T[k]? = some x) (hp : ∀ y ∈ T.take k, y.i < id) (h : x.i = id) : pos T id = k ∧ has T id = some x :=
  ⟨find_at hs hx hp (by omega), by rw [← h]; exact has_of hs (List.mem_of_getElem? hx)⟩
theorem find_over {T : Tb} (hs : Srt T) {id : Int} {k : Nat} {x : Ls} (hx : T[k]? = some x) (hp : ∀ y ∈ T.take k, y.i < id) (h : id < x.i) : pos T id = k ∧ has T id = none := by
  have e := find_at hs hx hp (by omega)
  refine ⟨e, ?_⟩
  cases hh : has T id with
  | none => rfl
  | some y =>
    have h1 := has_pos hs hh
    rw [e, hx] at h1
    have h2 := (has_mem hh).2
    rw [← Option.some.inj h1] at h2
    omega
theorem find_end {T : Tb} {id : Int} (hp : ∀ y ∈ T, y.i < id) : pos T id = T.length ∧ has T id = none := by
  refine ⟨?_, has_none.2 (fun y hy => by have := hp y hy; omega)⟩
  unfold pos
  rw [List.filter_eq_self.2 (fun y hy => by simpa using hp y hy)]
end Go.Proofs.Le
