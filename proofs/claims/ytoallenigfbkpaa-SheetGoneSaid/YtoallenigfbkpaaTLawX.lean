/-
  What the law Back needs: an own row of bytes is written while the file stays; what was written is read. No condition.
-/
import Derived.Test.YtoallenigfbkpaaTLawV
namespace Go.Proofs.Ytoallenigfbkpaa
set_option maxRecDepth 100000
open Go.ChangeShapes Go.WideShapes Go.ChangeAt Go.RowKit Go.Proofs.Sg

theorem run_append_rx {P : Program} {α : Type} {cell : α → List Value} (w : World) (base : Nat) (t ty e : TypeId) (i : TypeInfo) (z : Value) (size bytes : Nat) (ht : P.underlying t = some (.slice e)) (hi : P.info? e = some i) (hz : i.zero = some z)
    (hsize : i.size = size) (hby : i.bytes = bytes) (hzs : z.cells.size = size) (hsz : 0 < size) (v : Value) (n : Nat) (xs : List Value) (hown : w.ownsRow base e size v n xs) (A : Option Addr) (m c : Nat) (l : List α) (hr : Rd cell size w A m l)
    (hl : ∀ x ∈ l, (cell x).length = size) (h1 : ∀ x, ∀ u ∈ cell x, u.oneCell' = true) (h63 : n + m ≤ maxLen) (hbytes : (n + m) * bytes ≤ 140737488355328) (hbase : base ≤ w.heap.size) :
    ∃ v' w', (Builtin.append_ #[t, t] ty #[v, .slice A m c]).run P w = .ok v' w' ∧ w'.ownsRow base e size v' (n + m) (xs ++ l.flatMap cell) ∧ w.grownBy w' v.ownBlock := by
  have hlen : (l.flatMap cell).length = m * size := by rw [parts_length cell size l hl, hr.len]
  have hone : ∀ u ∈ l.flatMap cell, u.oneCell' = true := fun u hu => by
    obtain ⟨x, _, hx⟩ := List.mem_flatMap.1 hu
    exact h1 x u hx
  have hcells : 0 < m → ∃ a, A = some a ∧ ∀ j u, (l.flatMap cell)[j]? = some u → w.cell? (a.add j) = some u := fun hm => by
    obtain ⟨b, off, e, hc⟩ := hr.cells hm
    refine ⟨_, e, fun j u hu => ?_⟩
    have hj : j < (l.flatMap cell).length := (List.getElem?_eq_some_iff.1 hu).1
    have hd : j / size < l.length := by rw [hr.len]; exact Nat.div_lt_of_lt_mul (by rw [Nat.mul_comm]; omega)
    have hm' : j % size < size := Nat.mod_lt _ hsz
    have hsplit : j = j / size * size + j % size := by rw [Nat.mul_comm]; exact (Nat.div_add_mod j size).symm
    have := part_get cell size l (j / size) hd hl (j % size) hm'
    rw [← hsplit, hu] at this
    have h2 := hc (j / size) hd (j % size) u this.symm
    rw [Go.WideShapes.add_plain]
    rw [Nat.add_assoc, ← hsplit] at h2
    exact h2
  rcases Nat.eq_zero_or_pos m with h0 | h0
  · subst h0
    have hn : l = [] := List.eq_nil_of_length_eq_zero hr.len
    subst hn
    have hv : ∃ b s c', v = .slice b s c' ∧ s ≤ c' := by
      rcases hown.2 with ⟨rfl, _⟩ | ⟨g, cap, cur, rfl, _, _, hle, _⟩
      · exact ⟨none, 0, 0, rfl, Nat.le_refl _⟩
      · exact ⟨_, n, cap, rfl, hle⟩
    obtain ⟨b, s, c', rfl, hle⟩ := hv
    have hs : Src P i.size t (.slice A 0 c) 0 [] w := by
      cases A with
      | none => exact Src.ofNil w ht c
      | some a => exact Src.ofSlice w ht a 0 c [] (by simp) (fun j u hu => by simp at hu) (fun u hu => by cases hu)
    exact ⟨_, w, run_append_nothing w t t ty e i ht hi b s c' hle _ hs, by simpa using hown, World.grownBy.refl w _⟩
  · obtain ⟨a, rfl, hc⟩ := hcells h0
    obtain ⟨v', w', hrun, g2, g3, _⟩ := run_append_own (P := P) w base t ty e i z size bytes ht hi hz hsize hby hzs hsz v n xs hown a m c (l.flatMap cell) hlen hc hone h63 hbytes hbase
    exact ⟨v', w', hrun, g2, g3⟩
theorem wpList_append_rx {P : Program} {α : Type} {cell : α → List Value} {w : World} {ops : Array Oper} {rest : List Oper} {o : Oper} {a : Act} {Q : Exit → Act → World → Prop} (hgd : o.guard = none) (s x : Operand) (t : TypeId)
    (ho : o.op = .call { callee := .builtin .append, args := #[s, x], argTypes := #[t, t] }) (base : Nat) (e : TypeId) (i : TypeInfo) (z : Value) (size bytes : Nat) (ht : P.underlying t = some (.slice e)) (hi : P.info? e = some i) (hz : i.zero = some z)
    (hsize : i.size = size) (hby : i.bytes = bytes) (hzs : z.cells.size = size) (hsz : 0 < size) (v : Value) (n : Nat) (xs : List Value) (hs : a.eval s = v) (hown : w.ownsRow base e size v n xs) (A : Option Addr) (m c : Nat) (l : List α) (hx : a.eval x = .slice A m c) (hr : Rd cell size w A m l)
    (hl : ∀ x ∈ l, (cell x).length = size) (h1 : ∀ x, ∀ u ∈ cell x, u.oneCell' = true) (h63 : n + m ≤ maxLen) (hbytes : (n + m) * bytes ≤ 140737488355328) (hbase : base ≤ w.heap.size)
    (h : ∀ v' w', w'.ownsRow base e size v' (n + m) (xs ++ l.flatMap cell) → w.grownBy w' v.ownBlock → wpList P ops Q rest (a.put o.dst v') w') : wpList P ops Q (o :: rest) a w := by
  refine wpList_plain hgd fun K hK => ?_
  obtain ⟨v', w', hr', h2, h3⟩ := run_append_rx (P := P) w base t o.type e i z size bytes ht hi hz hsize hby hzs hsz v n xs hown A m c l hr hl h1 h63 hbytes hbase
  unfold Oper.wp execOp
  simp only [ho, resolve, invoke, builtin, Sem.run_bind, Sem.run_pure, Result.andThen_ok, List.map_toArray, List.map_cons, List.map_nil, hs, hx, hr']
  exact hK _ _ (h v' w' h2 h3)
theorem bk_all {S : Sh} (h : S.n ≤ 1048576) : rd S 0 1048576 = bs S.f S.n := by
  unfold rd
  by_cases h0 : S.n = 0
  · rw [if_pos (by omega), h0]; rfl
  · rw [if_neg (by omega), show (0 : Int).toNat = 0 from rfl, List.drop_zero, List.take_of_length_le (by rw [bs_len]; exact h)]
theorem bk_n (S : Sh) (p : Nat) (b : List UInt8) : S.n ≤ (wr S p b).n := by
  unfold wr
  split
  · exact Nat.le_refl _
  · exact Nat.le_max_left _ _
theorem bk_same (S : Sh) (p : Nat) (b : List UInt8) {i : Nat} (h : i < p ∨ p + b.length ≤ i) : (wr S p b).f i = S.f i := by
  unfold wr
  split
  · rfl
  · show wF S.f p b i = _
    unfold wF
    rw [if_neg (by omega)]
theorem bk_read (S : Sh) (p : Nat) {b : List UInt8} (h : 0 < b.length) : rd (wr S p b) (p : Int) (b.length : Int) = b := by
  have e : wr S p b = ⟨max S.n (p + b.length), wK S.K p b.length, wF S.f p b⟩ := by unfold wr; rw [if_neg (by omega)]
  rw [e]
  unfold rd
  rw [if_neg (by show ¬ ((p : Int) < 0 ∨ (b.length : Int) < 0 ∨ ((max S.n (p + b.length) : Nat) : Int) ≤ (p : Int)); omega), Int.toNat_natCast, Int.toNat_natCast]
  show ((bs (wF S.f p b) (max S.n (p + b.length))).drop p).take b.length = b
  apply List.ext_getElem?
  intro i
  by_cases hi : i < b.length
  · rw [List.getElem?_take_of_lt hi, List.getElem?_drop, bs_get _ (by omega)]
    unfold wF
    rw [if_pos (by omega), List.getElem?_eq_getElem hi, getD_eq _ (by omega)]
    congr 2
    omega
  · rw [List.getElem?_eq_none (by rw [List.length_take]; omega), List.getElem?_eq_none (by omega)]
theorem wrI_at {S : Sh} {x : Nat} {b : List UInt8} (h : x + b.length ≤ 1048576) : wrI S (x : Int) b = wr S x b := by
  have hf : ft (x : Int) b.length = true := ft_iff.2 (by omega)
  unfold wrI
  rw [if_pos hf, Int.toNat_natCast]
/-- The file, and what was read, while an own row is written. -/
structure BkIn (w : World) (B B3 sp mb : Nat) (T : Sh) (W8 : Option Addr) (c8 : Nat) (l : List UInt8) (wr : World) : Prop where
  sw : SW wr B sp mb T
  was : wr.ownsRow B3 5 1 (.slice W8 l.length c8) l.length (bcells l)
  bl : Below w.heap.size w wr
theorem BkIn.below {w : World} {B B3 sp mb : Nat} {T : Sh} {W8 : Option Addr} {c8 : Nat} {l : List UInt8} {wr w' : World} (h : BkIn w B B3 sp mb T W8 c8 l wr) (hb : Below wr.heap.size wr w') : BkIn w B B3 sp mb T W8 c8 l w' :=
  ⟨h.sw.below hb, own_below h.was hb, h.bl.trans (hb.mono h.bl.size)⟩
theorem BkIn.set {w : World} {B B3 sp mb : Nat} {T : Sh} {W8 : Option Addr} {c8 : Nat} {l : List UInt8} {wr : World} (h : BkIn w B B3 sp mb T W8 c8 l wr) {g : Nat} (hg : w.heap.size ≤ g) (h1 : g ≠ sp) (h2 : g ≠ mb) (h3 : ∀ k, (Value.slice W8 l.length c8).ownBlock = some k → k ≠ g) (j : Nat) (v : Value) : BkIn w B B3 sp mb T W8 c8 l (wr.setCell ⟨g, j, none⟩ v) := by
  have hgr : wr.grownBy (wr.setCell ⟨g, j, none⟩ v) (some g) := setCells_grown (g := g) [v] j wr
  exact ⟨⟨gb_cells hgr (Ne.symm h1) h.sw.here, h.sw.map.gb hgr h2, h.sw.good, h.sw.gsp, h.sw.gmb⟩, own_gb h.was hgr (fun e => h3 g e rfl), h.bl.trans (gb_to hgr hg h.bl.size)⟩
end Go.Proofs.Ytoallenigfbkpaa
