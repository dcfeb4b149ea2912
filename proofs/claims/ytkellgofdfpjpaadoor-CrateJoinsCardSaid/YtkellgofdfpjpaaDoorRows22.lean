/-
  Rows of slices laid behind a row of the call's own; what an element of a held list reads as. No condition.
-/
import Derived.Test.YtkellgofdfpjpaaDoorSplit
namespace Go.Proofs.YtkellgofdfpjpaaDoor
open Go.ChangeShapes Go.WideShapes Go.ChangeAt Go.RowKit Go.Proofs.Crc

theorem run_append_row (w : World) (base b2 ty : Nat) (i : TypeInfo) (hi : Tryd.prog.info? 22 = some i) (hz : i.zero = some (.slice none 0 0)) (hsize : i.size = 1) (hby : i.bytes = 24)
    (v : Value) (n : Nat) (xs : List Value) (hown : w.ownsRow base 22 1 v n xs) (s : Value) (m : Nat) (ys : List Value) (hs : w.ownsRow b2 22 1 s m ys) (hone : ∀ u ∈ ys, u.oneCell' = true) (h47 : (n + m) * 24 ≤ 140737488355328) (hbase : base ≤ w.heap.size) :
    ∃ v' w', (Builtin.append_ #[31, 31] ty #[v, s]).run Tryd.prog w = .ok v' w' ∧ w'.ownsRow base 22 1 v' (n + m) (xs ++ ys) ∧ w.grownBy w' v.ownBlock := by
  rcases hs.2 with ⟨rfl, rfl⟩ | ⟨g, cap, cur, rfl, _, hg, hnc, hcm, _, _⟩
  · have hn : ys = [] := List.eq_nil_of_length_eq_zero (by have := hs.1; omega)
    subst hn
    refine ⟨v, w, ?_, by simpa using hown, World.grownBy.refl w _⟩
    rcases hown.2 with ⟨rfl, rfl⟩ | ⟨g, cap, cur, rfl, _, _, hnc, _⟩
    · simp [Builtin.append_, run_underlying Tryd.underlying31, sizeOf, typeInfo, hi, Builtin.lenOf, Builtin.firstCells]
    · simp [Builtin.append_, run_underlying Tryd.underlying31, sizeOf, typeInfo, hi, Builtin.lenOf, Builtin.firstCells, hnc, storeCells]
  · obtain ⟨v', w', hrun, h2, h3, _⟩ := run_append_own (P := Tryd.prog) w base 31 ty 22 i (.slice none 0 0) 1 24 Tryd.underlying31 hi hz hsize hby rfl (by decide) v n xs hown ⟨g, 0, none⟩ m cap ys hs.1 (hs.cells (g := g) rfl) hone (by unfold maxLen; omega) (by omega) hbase
    exact ⟨v', w', hrun, h2, h3⟩
theorem wpList_append_row {w : World} {ops : Array Oper} {rest : List Oper} {o : Oper} {a : Act} {Q : Exit → Act → World → Prop} (hgd : o.guard = none) (sv x : Operand)
    (ho : o.op = .call { callee := .builtin .append, args := #[sv, x], argTypes := #[31, 31] })
    (base b2 : Nat) (i : TypeInfo) (hi : Tryd.prog.info? 22 = some i) (hz : i.zero = some (.slice none 0 0)) (hsize : i.size = 1) (hby : i.bytes = 24)
    (v : Value) (n : Nat) (xs : List Value) (hs : a.eval sv = v) (hown : w.ownsRow base 22 1 v n xs) (s : Value) (m : Nat) (ys : List Value) (hx : a.eval x = s) (hsrc : w.ownsRow b2 22 1 s m ys) (hone : ∀ u ∈ ys, u.oneCell' = true) (h47 : (n + m) * 24 ≤ 140737488355328) (hbase : base ≤ w.heap.size)
    (h : ∀ v' w', w'.ownsRow base 22 1 v' (n + m) (xs ++ ys) → w.grownBy w' v.ownBlock → wpList Tryd.prog ops Q rest (a.put o.dst v') w') : wpList Tryd.prog ops Q (o :: rest) a w := by
  refine wpList_plain hgd fun K hK => ?_
  obtain ⟨v', w', hrun, h2, h3⟩ := run_append_row w base b2 o.type i hi hz hsize hby v n xs hown s m ys hsrc hone h47 hbase
  unfold Oper.wp execOp
  simp only [ho, resolve, invoke, builtin, Sem.run_bind, Sem.run_pure, Result.andThen_ok, List.map_toArray, List.map_cons, List.map_nil, hs, hx, hrun]
  exact hK _ _ (h v' w' h2 h3)
/-- A row of slices is a slice; its cells. -/
theorem row_slice {w : World} {base n : Nat} {v : Value} {ys : List Value} (h : w.ownsRow base 22 1 v n ys) : ∃ A c, v = .slice A n c ∧ (0 < n → ∃ b, A = some ⟨b, 0, none⟩ ∧ ∀ i u, ys[i]? = some u → w.cell? ⟨b, i, none⟩ = some u) := by
  rcases h.2 with ⟨rfl, rfl⟩ | ⟨g, cap, cur, rfl, hbg, hg, hn, hc, hs, ht⟩
  · exact ⟨none, 0, rfl, fun h => absurd h (by omega)⟩
  · refine ⟨_, cap, rfl, fun _ => ⟨g, rfl, fun i u hu => ?_⟩⟩
    have := h.cells (g := g) rfl i u hu
    rwa [Go.WideShapes.add_plain, Nat.zero_add] at this
/-- Elements are slices. -/
theorem held_one {w : World} {base b1 : Nat} {v : Value} {xs : List El} (h : Held w base b1 v xs) : ∀ u ∈ xs.map (·.1), u.oneCell' = true := by
  intro u hu
  obtain ⟨x, hx, rfl⟩ := List.mem_map.1 hu
  rcases (h.2 x hx).2 with ⟨e, _⟩ | ⟨g, c, cur, e, _⟩ <;> rw [e] <;> rfl
/-- What an element reads as. -/
theorem held_at {w : World} {base b1 : Nat} {v : Value} {xs : List El} (h : Held w base b1 v xs) (hB : ∀ b ∈ xs.map (·.2.2), Bys b) (i : Nat) (hi : i < xs.length) : ∃ A n c, xs[i].1 = .slice A n c ∧ Reads w A n xs[i].2.2 ∧ (xs.map (·.1))[i]? = some (.slice A n c) := by
  have hm := List.getElem_mem hi
  obtain ⟨A, c, e, h1, -, -⟩ := own_reads (h.2 _ hm) (hB _ (List.mem_map.2 ⟨_, hm, rfl⟩))
  exact ⟨A, xs[i].2.1, c, e, h1, by rw [List.getElem?_map, List.getElem?_eq_getElem hi]; exact congrArg some e⟩
theorem Held.append {w : World} {base b1 b2 b3 n : Nat} {v1 v2 v3 : Value} {xs ys : List El} (h1 : Held w base b1 v1 xs) (h2 : Held w base b2 v2 ys) (h3 : w.ownsRow b3 22 1 v3 n (xs.map (·.1) ++ ys.map (·.1))) : Held w base b3 v3 (xs ++ ys) := by
  have hn : n = (xs ++ ys).length := by
    have := h3.1
    rw [List.length_append, List.length_map, List.length_map] at this
    rw [List.length_append]; omega
  refine ⟨by rw [← hn, List.map_append]; exact h3, fun x hx => ?_⟩
  rcases List.mem_append.1 hx with hx | hx
  · exact h1.2 x hx
  · exact h2.2 x hx
end Go.Proofs.YtkellgofdfpjpaaDoor
