/-
  Rows that are read, and rows that are laid behind others. No condition.
-/
import Derived.Test.YtfkhnnmibecbeaaDoorSmall
import Derived.Deep.AppendSrc
import Derived.Deep.Upon
namespace Go.Proofs.YtfkhnnmibecbeaaDoor
set_option maxRecDepth 100000
open Go.ChangeShapes Go.WideShapes Go.ChangeAt Go.RowKit Go.Proofs.Zn Go.Proofs.Zt

/-- Memory holds a list, each of its elements in cells that stand in a row. -/
structure Rd {α : Type} (cell : α → List Value) (sz : Nat) (w : World) (A : Option Addr) (n : Nat) (l : List α) : Prop where
  len : l.length = n
  cells : 0 < n → ∃ b off, A = some ⟨b, off, none⟩ ∧ ∀ i (hi : i < l.length) j v, (cell l[i])[j]? = some v → w.cell? ⟨b, off + i * sz + j, none⟩ = some v
theorem Rd.below {α : Type} {cell : α → List Value} {sz : Nat} {w w' : World} {A : Option Addr} {n : Nat} {l : List α} (h : Rd cell sz w A n l) (hb : Below w.heap.size w w') : Rd cell sz w' A n l := by
  refine ⟨h.len, fun hn => ?_⟩
  obtain ⟨b, off, e, hc⟩ := h.cells hn
  refine ⟨b, off, e, fun i hi j v hv => ?_⟩
  have hx := hc i hi j v hv
  exact (hb.cell (p := ⟨b, off + i * sz + j, none⟩) (cell_lt hx)).trans hx
theorem Rd.at {α : Type} {cell : α → List Value} {sz : Nat} {w : World} {A : Option Addr} {n : Nat} {l : List α} (h : Rd cell sz w A n l) {k : Nat} (hk : k < n) :
    ∃ b off x, A = some ⟨b, off, none⟩ ∧ l[k]? = some x ∧ ∀ j v, (cell x)[j]? = some v → w.cell? ⟨b, off + k * sz + j, none⟩ = some v := by
  obtain ⟨b, off, e, hc⟩ := h.cells (by omega)
  have hk' : k < l.length := by rw [h.len]; exact hk
  exact ⟨b, off, l[k], e, List.getElem?_eq_getElem hk', hc k hk'⟩
theorem Rd.nil {α : Type} (cell : α → List Value) (sz : Nat) (w : World) (A : Option Addr) : Rd cell sz w A 0 [] := ⟨rfl, fun h => absurd h (by omega)⟩
theorem Rd.of_own {α : Type} {cell : α → List Value} {sz : Nat} {w : World} {base e n c : Nat} {A : Option Addr} {l : List α} (h : w.ownsRow base e sz (.slice A n c) n (l.flatMap cell)) (hl : ∀ x ∈ l, (cell x).length = sz) (hs : 0 < sz) : Rd cell sz w A n l := by
  have hlen : l.length = n := by
    have := h.1
    rw [parts_length cell sz l hl] at this
    exact Nat.eq_of_mul_eq_mul_right hs this
  refine ⟨hlen, fun hn => ?_⟩
  obtain ⟨A', c', e', -, -, hA⟩ := own_form h
  obtain ⟨g, hg⟩ := hA hn
  injection e' with e1 _ e3
  subst e1 e3
  subst hg
  refine ⟨g, 0, rfl, fun i hi j v hv => ?_⟩
  have hj : j < sz := by
    have := (List.getElem?_eq_some_iff.1 hv).1
    rw [hl l[i] (List.getElem_mem hi)] at this
    exact this
  have := part_get cell sz l i hi hl j hj
  rw [hv] at this
  rw [Nat.zero_add]
  exact own_cell h (i * sz + j) v this
/-- A row, or a list that is read, is laid behind a row. -/
theorem run_append_rd {P : Program} {α : Type} {cell : α → List Value} (w : World) (base : Nat) (t ty e : TypeId) (i : TypeInfo) (z : Value) (size bytes : Nat) (ht : P.underlying t = some (.slice e)) (hi : P.info? e = some i) (hz : i.zero = some z)
    (hsize : i.size = size) (hby : i.bytes = bytes) (hzs : z.cells.size = size) (hsz : 0 < size) (v : Value) (n : Nat) (xs : List Value) (hown : w.ownsRow base e size v n xs) (A : Option Addr) (m c : Nat) (l : List α) (hr : Rd cell size w A m l)
    (hl : ∀ x ∈ l, (cell x).length = size) (h1 : ∀ x, ∀ u ∈ cell x, u.oneCell' = true) (hA : A = none → c = 0) (h63 : n + m ≤ maxLen) (hbytes : (n + m) * bytes ≤ 140737488355328) (hbase : base ≤ w.heap.size) :
    ∃ v' w', (Builtin.append_ #[t, t] ty #[v, .slice A m c]).run P w = .ok v' w' ∧ w'.ownsRow base e size v' (n + m) (xs ++ l.flatMap cell) ∧ w.grownBy w' v.ownBlock := by
  have hlen : (l.flatMap cell).length = m * size := by rw [parts_length cell size l hl, hr.len]
  have hone : ∀ u ∈ l.flatMap cell, u.oneCell' = true := fun u hu => by
    obtain ⟨x, _, hx⟩ := List.mem_flatMap.1 hu
    exact h1 x u hx
  have hcells : 0 < m → ∃ a, A = some a ∧ ∀ j u, (l.flatMap cell)[j]? = some u → w.cell? (a.add j) = some u := fun hm => by
    obtain ⟨b, off, e, hc⟩ := hr.cells hm
    refine ⟨_, e, fun j u hu => ?_⟩
    have hj : j < (l.flatMap cell).length := (List.getElem?_eq_some_iff.1 hu).1
    have hd : j / size < l.length := by rw [hr.len]; exact Nat.div_lt_of_lt_mul (by rw [Nat.mul_comm]; omega)
    have hm' : j % size < size := Nat.mod_lt _ hsz
    have hsplit : j = j / size * size + j % size := by rw [Nat.mul_comm]; exact (Nat.div_add_mod j size).symm
    have := part_get cell size l (j / size) hd hl (j % size) hm'
    rw [← hsplit, hu] at this
    have h2 := hc (j / size) hd (j % size) u this.symm
    rw [Go.WideShapes.add_plain]
    rw [Nat.add_assoc, ← hsplit] at h2
    exact h2
  rcases Nat.eq_zero_or_pos m with h0 | h0
  · subst h0
    have hn : l = [] := List.eq_nil_of_length_eq_zero hr.len
    subst hn
    have hv : ∃ b s c', v = .slice b s c' ∧ s ≤ c' := by
      rcases hown.2 with ⟨rfl, _⟩ | ⟨g, cap, cur, rfl, _, _, hle, _⟩
      · exact ⟨none, 0, 0, rfl, Nat.le_refl _⟩
      · exact ⟨_, n, cap, rfl, hle⟩
    obtain ⟨b, s, c', rfl, hle⟩ := hv
    have hs : Src P i.size t (.slice A 0 c) 0 [] w := by
      cases A with
      | none => exact Src.ofNil w ht c
      | some a => exact Src.ofSlice w ht a 0 c [] (by simp) (fun j u hu => by simp at hu) (fun u hu => by cases hu)
    exact ⟨_, w, run_append_nothing w t t ty e i ht hi b s c' hle _ hs, by simpa using hown, World.grownBy.refl w _⟩
  · obtain ⟨a, rfl, hc⟩ := hcells h0
    obtain ⟨v', w', hrun, g2, g3, _⟩ := run_append_own (P := P) w base t ty e i z size bytes ht hi hz hsize hby hzs hsz v n xs hown a m c (l.flatMap cell) hlen hc hone h63 hbytes hbase
    exact ⟨v', w', hrun, g2, g3⟩
theorem wpList_append_rd {P : Program} {α : Type} {cell : α → List Value} {w : World} {ops : Array Oper} {rest : List Oper} {o : Oper} {a : Act} {Q : Exit → Act → World → Prop} (hgd : o.guard = none) (s x : Operand) (t : TypeId)
    (ho : o.op = .call { callee := .builtin .append, args := #[s, x], argTypes := #[t, t] }) (base : Nat) (e : TypeId) (i : TypeInfo) (z : Value) (size bytes : Nat) (ht : P.underlying t = some (.slice e)) (hi : P.info? e = some i) (hz : i.zero = some z)
    (hsize : i.size = size) (hby : i.bytes = bytes) (hzs : z.cells.size = size) (hsz : 0 < size) (v : Value) (n : Nat) (xs : List Value) (hs : a.eval s = v) (hown : w.ownsRow base e size v n xs) (A : Option Addr) (m c : Nat) (l : List α) (hx : a.eval x = .slice A m c) (hr : Rd cell size w A m l)
    (hl : ∀ x ∈ l, (cell x).length = size) (h1 : ∀ x, ∀ u ∈ cell x, u.oneCell' = true) (hA : A = none → c = 0) (h63 : n + m ≤ maxLen) (hbytes : (n + m) * bytes ≤ 140737488355328) (hbase : base ≤ w.heap.size)
    (h : ∀ v' w', w'.ownsRow base e size v' (n + m) (xs ++ l.flatMap cell) → w.grownBy w' v.ownBlock → wpList P ops Q rest (a.put o.dst v') w') : wpList P ops Q (o :: rest) a w := by
  refine wpList_plain hgd fun K hK => ?_
  obtain ⟨v', w', hr', h2, h3⟩ := run_append_rd (P := P) w base t o.type e i z size bytes ht hi hz hsize hby hzs hsz v n xs hown A m c l hr hl h1 hA h63 hbytes hbase
  unfold Oper.wp execOp
  simp only [ho, resolve, invoke, builtin, Sem.run_bind, Sem.run_pure, Result.andThen_ok, List.map_toArray, List.map_cons, List.map_nil, hs, hx, hr']
  exact hK _ _ (h v' w' h2 h3)
theorem ecell_one (x : Evt) : ∀ u ∈ ecell x, u.oneCell' = true := fun u hu => by
  simp only [ecell, List.mem_cons, List.not_mem_nil, or_false] at hu
  rcases hu with rfl | rfl | rfl <;> rfl
theorem ncell_one (x : Nd) : ∀ u ∈ ncell x, u.oneCell' = true := fun u hu => by
  simp only [ncell, List.mem_cons, List.not_mem_nil, or_false] at hu
  rcases hu with rfl | rfl | rfl | rfl | rfl | rfl | rfl | rfl | rfl <;> rfl
theorem own_gb {w w' : World} {base e sz n x : Nat} {v : Value} {xs : List Value} (h : w.ownsRow base e sz v n xs) (hg : w.grownBy w' (some x)) (hne : v.ownBlock ≠ some x) : w'.ownsRow base e sz v n xs := by
  refine ⟨h.1, ?_⟩
  rcases h.2 with hn | ⟨g, cap, cur, rfl, hbg, hgc, rest⟩
  · exact .inl hn
  · exact .inr ⟨g, cap, cur, rfl, hbg, gb_cells hg (fun e => hne (by rw [← e]; rfl)) hgc, rest⟩
theorem own_gb' {w w' : World} {base e sz n : Nat} {v u : Value} {xs : List Value} (h : w.ownsRow base e sz v n xs) (hg : w.grownBy w' u.ownBlock) (hne : ∀ k, u.ownBlock = some k → v.ownBlock ≠ some k) : w'.ownsRow base e sz v n xs := by
  rcases hu : u.ownBlock with _ | k
  · rw [hu] at hg; exact own_below h ⟨hg.os, hg.tape, hg.output, hg.size, fun k hk => hg.block k hk (by simp)⟩
  · rw [hu] at hg; exact own_gb h hg (hne k hu)
theorem own_ne_map {w : World} {base e sz n mb : Nat} {v : Value} {xs : List Value} {T : Tr} (h : w.ownsRow base e sz v n xs) (hm : MapT w mb T) : v.ownBlock ≠ some mb := fun e' => by
  rcases h.2 with ⟨rfl, _⟩ | ⟨g, cap, cur, rfl, _, hg, _⟩
  · simp [Value.ownBlock] at e'
  · simp only [Value.ownBlock, Option.some.injEq] at e'
    exact hm.ne_cells hg e'
/-- Two rows of other elements lie in other blocks. -/
theorem own_apart {w : World} {b1 e1 s1 n1 b2 e2 s2 n2 : Nat} {v u : Value} {xs ys : List Value} (h : w.ownsRow b1 e1 s1 v n1 xs) (k : w.ownsRow b2 e2 s2 u n2 ys) (hne : e1 ≠ e2) : ∀ j, u.ownBlock = some j → v.ownBlock ≠ some j := fun j hj => by
  rcases k.2 with ⟨rfl, _⟩ | ⟨g, cap, cur, rfl, _, hg, _⟩
  · simp [Value.ownBlock] at hj
  · simp only [Value.ownBlock, Option.some.injEq] at hj
    subst hj
    exact own_ne h hg (Ne.symm hne)
theorem gb_own {w w' : World} {base e sz n B : Nat} {v : Value} {xs : List Value} (h : w.ownsRow base e sz v n xs) (hg : w.grownBy w' v.ownBlock) (hB : B ≤ base) (hw : B ≤ w.heap.size) : Below B w w' :=
  ⟨hg.os, hg.tape, hg.output, hg.size, fun k hk => hg.block k (by omega) (fun e => by have := own_ge h k e.symm; omega)⟩
theorem TreeW.gbo {w w' : World} {tp mb : Nat} {T : Tr} {base e sz n : Nat} {v : Value} {xs : List Value} (h : TreeW w tp mb T) (ho : w.ownsRow base e sz v n xs) (hg : w.grownBy w' v.ownBlock) (he : 52 ≠ e) : TreeW w' tp mb T :=
  ⟨(hg.block tp h.lt (fun e' => own_ne ho h.here he e'.symm)).trans h.here, h.map.of_block (hg.block mb h.map.lt (fun e' => own_ne_map ho h.map e'.symm))⟩
end Go.Proofs.YtfkhnnmibecbeaaDoor
