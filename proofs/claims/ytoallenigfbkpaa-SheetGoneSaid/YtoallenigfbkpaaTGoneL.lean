/-
  What the law Gone needs: bytes appended to a part of an own row that need not begin at its beginning; bytes that are 0. No condition.
-/
import Derived.Test.YtoallenigfbkpaaTLawX
namespace Go.Proofs.Ytoallenigfbkpaa
set_option maxRecDepth 100000
open Go.ChangeShapes Go.WideShapes Go.ChangeAt Go.RowKit Go.Proofs.Sg

theorem bcells_append' (l b : List UInt8) : bcells (l ++ b) = bcells l ++ bcells b := by unfold bcells; rw [List.flatMap_append]
theorem bcells_len' (l : List UInt8) : (bcells l).length = l.length := by rw [bcells_length]
/-- A part of an own row, as it is read. -/
theorem rd_drop {w : World} {B g N c k : Nat} {l : List UInt8} (h : w.ownsRow B 5 1 (.slice (some ⟨g, 0, none⟩) N c) N (bcells l)) (hk : k ≤ N) : Rd bcell 1 w (some ⟨g, k, none⟩) (N - k) (l.drop k) := by
  have hl : l.length = N := by have := h.1; rw [bcells_len'] at this; omega
  refine ⟨by rw [List.length_drop, hl], fun _ => ⟨g, k, rfl, fun i hi j v hv => ?_⟩⟩
  rw [List.length_drop] at hi
  have hj : j = 0 := by
    have := (List.getElem?_eq_some_iff.1 hv).1
    simp [bcell] at this
    exact this
  subst hj
  have e : k + i * 1 + 0 = k + i := by omega
  rw [e]
  refine own_cell h (k + i) v ?_
  rw [bcells_get, List.getElem?_eq_getElem (by omega)]
  rw [List.getElem_drop] at hv
  exact hv
theorem append_part {w : World} {B N c k m c2 : Nat} {A A2 : Option Addr} {l b : List UInt8} (h : w.ownsRow B 5 1 (.slice A N c) N (bcells l)) (hB : B ≤ w.heap.size) (hk : k ≤ N) (hr : Rd bcell 1 w A2 m b) (hN : N + m ≤ 1000000) :
    ∃ A1, (∀ W : World, (Instr.slice 27 (.slice A N c) (some (.int .i64 (k : Int))) none none).run Try.prog W = .ok (.slice A1 (N - k) (c - k)) W) ∧
      ∃ A3 c3 w', (∀ ty, (Builtin.append_ #[27, 27] ty #[.slice A1 (N - k) (c - k), .slice A2 m c2]).run Try.prog w = .ok (.slice A3 (N - k + m) c3) w') ∧ Rd bcell 1 w' A3 (N - k + m) (l.drop k ++ b) ∧ Below B w w' := by
  obtain ⟨i0, hi, hz0, hz1, hz2⟩ := info_parts infoB
  have he : Try.prog.elem 27 = 5 := by kernel_rfl
  have hl : l.length = N := by have := h.1; rw [bcells_len'] at this; omega
  have hbl := hr.len
  have hall : ∀ x ∈ b, (bcell x).length = 1 := fun _ _ => rfl
  have hsl : ∀ W : World, (Instr.slice 27 (.slice A N c) (some (.int .i64 (k : Int))) none none).run Try.prog W = .ok (sliced A k N c 1) W := fun W => by
    rw [run_slice_l (P := Try.prog) (w := W) 27 A N c Try.underlying27 .i64 (k : Int) (by omega) (by omega)]
    simp [he, sizeOf, typeInfo, hi, hz1]
  rcases h.2 with ⟨e, hN0⟩ | ⟨g, cap, cur, e, hBg, hg, hnc, hcm, hsz, ht⟩
  · injection e with e1 e2 e3
    subst e1; subst e2; subst e3
    obtain rfl : k = 0 := by omega
    obtain ⟨v', w', hrun, g2, g3⟩ := run_append_rx (P := Try.prog) w B 27 27 5 i0 _ 1 1 Try.underlying27 hi hz0 hz1 hz2 rfl (by decide) _ 0 (bcells l) h A2 m c2 b hr hall bcell_one (by unfold maxLen; omega) (by omega) hB
    obtain ⟨A3, c3, rfl, hc3, -, -⟩ := own_form g2
    have hrun2 : ∀ ty, (Builtin.append_ #[27, 27] ty #[.slice none (0 - 0) (0 - 0), .slice A2 m c2]).run Try.prog w = .ok (.slice A3 (0 - 0 + m) c3) w' := fun ty => by
      obtain ⟨v2, w2, r2, -, -⟩ := run_append_rx (P := Try.prog) w B 27 ty 5 i0 _ 1 1 Try.underlying27 hi hz0 hz1 hz2 rfl (by decide) _ 0 (bcells l) h A2 m c2 b hr hall bcell_one (by unfold maxLen; omega) (by omega) hB
      have e9 : (Builtin.append_ #[27, 27] ty #[.slice none 0 0, .slice A2 m c2]) = (Builtin.append_ #[27, 27] 27 #[.slice none 0 0, .slice A2 m c2]) := rfl
      simp only [Nat.sub_zero]
      rw [e9, hrun]
    refine ⟨none, fun W => by rw [hsl W]; rfl, A3, c3, w', hrun2, ?_, gb_own h g3 (Nat.le_refl _) hB⟩
    have hl0 : l = [] := List.eq_nil_of_length_eq_zero hl
    subst hl0
    have g4 : w'.ownsRow B 5 1 (.slice A3 (0 + m) c3) (0 + m) (b.flatMap bcell) := g2
    exact Rd.of_own g4 (fun _ _ => rfl) (by omega)
  · injection e with e1 e2 e3
    subst e1; subst e3
    obtain ⟨A1, hA1⟩ : ∃ A1 : Option Addr, A1 = (if c = k then some ⟨g, 0, none⟩ else some ⟨g, k, none⟩) := ⟨_, rfl⟩
    have hslA : ∀ W : World, (Instr.slice 27 (.slice (some ⟨g, 0, none⟩) N c) (some (.int .i64 (k : Int))) none none).run Try.prog W = .ok (.slice A1 (N - k) (c - k)) W := fun W => by
      rw [hsl W, hA1]
      unfold sliced
      by_cases hc : c = k
      · rw [if_pos hc, if_pos hc]
      · rw [if_neg hc, if_neg hc]
        simp [Go.WideShapes.add_plain]
    have hcs : ∀ j u, (bcells (l.drop k))[j]? = some u → ∃ a, A1 = some a ∧ w.cell? (a.add j) = some u := fun j u hu => by
      have hj := (List.getElem?_eq_some_iff.1 hu).1
      rw [bcells_len', List.length_drop] at hj
      have hc : c ≠ k := by omega
      refine ⟨⟨g, k, none⟩, by rw [hA1, if_neg hc], ?_⟩
      rw [Go.WideShapes.add_plain]
      refine own_cell h (k + j) u ?_
      rw [bcells_get, List.getElem?_drop] at hu
      rw [bcells_get]
      exact hu
    have hRdA : Rd bcell 1 w A1 (N - k) (l.drop k) := by
      by_cases hc : c = k
      · have : N - k = 0 := by omega
        exact ⟨by rw [List.length_drop, hl], fun h0 => by omega⟩
      · rw [hA1, if_neg hc]; exact rd_drop h hk
    obtain ⟨a1, ha1⟩ : ∃ a, A1 = some a := by rw [hA1]; split <;> exact ⟨_, rfl⟩
    rcases Nat.eq_zero_or_pos m with h0 | h0
    · subst h0
      have hb0 : b = [] := List.eq_nil_of_length_eq_zero hbl
      subst hb0
      have hs : Src Try.prog i0.size 27 (.slice A2 0 c2) 0 [] w := by
        cases A2 with
        | none => exact Src.ofNil w Try.underlying27 c2
        | some a => exact Src.ofSlice w Try.underlying27 a 0 c2 [] (by simp) (fun j u hu => by simp at hu) (fun u hu => by cases hu)
      exact ⟨A1, hslA, A1, c - k, w, fun ty => run_append_nothing w 27 27 ty 5 i0 Try.underlying27 hi A1 (N - k) (c - k) (by omega) _ hs, by simpa using hRdA, Below.refl _ _⟩
    · obtain ⟨sb, so, e2, hsrc⟩ := hr.cells h0
      subst e2
      have hnews : ∀ j u, (bcells b)[j]? = some u → w.cell? ((⟨sb, so, none⟩ : Addr).add j) = some u := fun j u hu => by
        have hj := (List.getElem?_eq_some_iff.1 hu).1
        rw [bcells_len'] at hj
        rw [bcells_get, List.getElem?_eq_getElem hj] at hu
        have := hsrc j hj 0 u hu
        rw [Go.WideShapes.add_plain]
        simpa using this
      have hone : ∀ u ∈ bcells b, u.oneCell' = true := fun u hu => by
        obtain ⟨x, _, hx⟩ := List.mem_flatMap.1 hu
        exact bcell_one x u hx
      by_cases hroom : N - k + m ≤ c - k
      · have hc : c ≠ k := by omega
        have hA1' : A1 = some ⟨g, k, none⟩ := by rw [hA1, if_neg hc]
        obtain ⟨v', w', hrun, g2, g3⟩ := run_append_rx (P := Try.prog) w B 27 27 5 i0 _ 1 1 Try.underlying27 hi hz0 hz1 hz2 rfl (by decide) _ N (bcells l) h (some ⟨sb, so, none⟩) m c2 b hr hall bcell_one (by unfold maxLen; omega) (by omega) hB
        have hcell : ∀ q, q < c → (w.cell? ⟨g, q, none⟩).isSome = true := fun q hq => by
          rw [cell_of_row w g q _ _ _ hg, Array.getElem?_eq_getElem (by omega)]; rfl
        have hfr : ∀ q, w.frozen? ⟨g, q, none⟩ = false := fun q => frozen_of_row w g _ _ _ hg
        have r1 := run_append_room_cells (P := Try.prog) (w := w) 27 27 5 i0 Try.underlying27 hi g 0 N c ⟨sb, so, none⟩ m c2 (bcells b) (by rw [bcells_len', hbl, hz1]; omega) hnews hone (by omega) (fun j hj => hcell _ (by rw [bcells_len', hbl] at hj; rw [hz1]; omega)) (fun j _ => hfr _)
        have r2 : ∀ ty, (Builtin.append_ #[27, 27] ty #[.slice (some ⟨g, k, none⟩) (N - k) (c - k), .slice (some ⟨sb, so, none⟩) m c2]).run Try.prog w = .ok (.slice (some ⟨g, k, none⟩) (N - k + m) (c - k)) (w.setCells g (k + (N - k) * i0.size) (bcells b)) := fun ty => run_append_room_cells (P := Try.prog) (w := w) 27 ty 5 i0 Try.underlying27 hi g k (N - k) (c - k) ⟨sb, so, none⟩ m c2 (bcells b) (by rw [bcells_len', hbl, hz1]; omega) hnews hone hroom (fun j hj => hcell _ (by rw [bcells_len', hbl] at hj; rw [hz1]; omega)) (fun j _ => hfr _)
        rw [hrun] at r1
        injection r1 with q1 q2
        subst q1
        have e5 : 0 + N * i0.size = k + (N - k) * i0.size := by rw [hz1]; omega
        rw [e5] at q2
        refine ⟨A1, hslA, some ⟨g, k, none⟩, c - k, w', fun ty => by rw [hA1', r2 ty, q2], ?_, gb_own h g3 (Nat.le_refl _) hB⟩
        have g4 : w'.ownsRow B 5 1 (.slice (some ⟨g, 0, none⟩) (N + m) c) (N + m) (bcells (l ++ b)) := by rw [bcells_append']; exact g2
        have g5 := rd_drop g4 (by omega : k ≤ N + m)
        rw [List.drop_append_of_le_length (by omega)] at g5
        have e6 : N + m - k = N - k + m := by omega
        rw [e6] at g5
        exact g5
      · subst ha1
        have hgr : ∀ ty, ∃ v' w', (Builtin.append_ #[27, 27] ty #[.slice (some a1) (N - k) (c - k), .slice (some ⟨sb, so, none⟩) m c2]).run Try.prog w = .ok v' w' ∧ w'.ownsRow w.heap.size 5 1 v' (N - k + m) (bcells (l.drop k) ++ bcells b) ∧ w.grownBy w' none := fun ty =>
          run_append_arg_grows (P := Try.prog) w 27 ty 5 i0 _ 1 1 Try.underlying27 hi hz0 hz1 hz2 rfl (by decide) a1 (N - k) (c - k) (bcells (l.drop k)) (by rw [bcells_len', List.length_drop, hl]; omega) (fun j u hu => by
            obtain ⟨a, e7, h7⟩ := hcs j u hu
            injection e7 with e7
            rw [e7]; exact h7) ⟨sb, so, none⟩ m c2 (bcells b) (by rw [bcells_len', hbl]; omega) hnews (by omega) (by unfold maxLen; omega) (by omega)
        obtain ⟨v', w', r1, g2, g3⟩ := hgr 27
        obtain ⟨A3, c3, rfl, -, -, -⟩ := own_form g2
        refine ⟨some a1, hslA, A3, c3, w', fun ty => ?_, ?_, ⟨g3.os, g3.tape, g3.output, g3.size, fun q hq => g3.block q (by omega) (by simp)⟩⟩
        · have e9 : (Builtin.append_ #[27, 27] ty #[.slice (some a1) (N - k) (c - k), .slice (some ⟨sb, so, none⟩) m c2]) = (Builtin.append_ #[27, 27] 27 #[.slice (some a1) (N - k) (c - k), .slice (some ⟨sb, so, none⟩) m c2]) := rfl
          rw [e9, r1]
        · have g4 : w'.ownsRow w.heap.size 5 1 (.slice A3 (N - k + m) c3) (N - k + m) ((l.drop k ++ b).flatMap bcell) := by
            have e8 : (l.drop k ++ b).flatMap bcell = bcells (l.drop k) ++ bcells b := by rw [List.flatMap_append]; rfl
            rw [e8]; exact g2
          exact Rd.of_own g4 (fun _ _ => rfl) (by omega)
theorem wpList_append_run {P : Program} {w : World} {ops : Array Oper} {rest : List Oper} {o : Oper} {a : Act} {Q : Exit → Act → World → Prop} (hgd : o.guard = none) (s x : Operand) (t : TypeId)
    (ho : o.op = .call { callee := .builtin .append, args := #[s, x], argTypes := #[t, t] }) (v u : Value) (hs : a.eval s = v) (hx : a.eval x = u) (v' : Value) (w' : World) (hrun : ∀ ty, (Builtin.append_ #[t, t] ty #[v, u]).run P w = .ok v' w')
    (h : wpList P ops Q rest (a.put o.dst v') w') : wpList P ops Q (o :: rest) a w := by
  refine wpList_plain hgd fun K hK => ?_
  unfold Oper.wp execOp
  simp only [ho, resolve, invoke, builtin, Sem.run_bind, Sem.run_pure, Result.andThen_ok, List.map_toArray, List.map_cons, List.map_nil, hs, hx, hrun]
  exact hK _ _ h
end Go.Proofs.Ytoallenigfbkpaa
