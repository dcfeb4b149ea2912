/-
  Rows of leases that are written in their middle, cut, cleared; copies of elements. No condition.
-/
import Derived.Test.YtocobanallohjaaLMem
namespace Go.Proofs.Ytocobanallohjaa
set_option maxRecDepth 100000
open Go.ChangeShapes Go.WideShapes Go.ChangeAt Go.RowKit Go.Proofs.Le

theorem part_set {α : Type} (f : α → List Value) (m : Nat) : ∀ (l : List α) (k : Nat) (_ : k < l.length) (y : α), (∀ x ∈ l, (f x).length = m) → (f y).length = m → splice (l.flatMap f) (k * m) (f y) = (l.set k y).flatMap f
  | x :: l, 0, _, y, h, hy => by
    have hx := h x (by simp)
    simp only [splice, Nat.zero_mul, List.take_zero, List.nil_append, Nat.zero_add, List.flatMap_cons, List.set_cons_zero]
    rw [List.drop_append, List.drop_eq_nil_of_le (by omega), List.nil_append, hx, hy, Nat.sub_self, List.drop_zero]
  | x :: l, k + 1, hk, y, h, hy => by
    have hx := h x (by simp)
    have ih := part_set f m l k (by simpa using hk) y (fun z hz => h z (by simp [hz])) hy
    simp only [List.set_cons_succ, List.flatMap_cons]
    rw [← ih]
    have e1 : (k + 1) * m = (f x).length + k * m := by rw [hx, Nat.succ_mul]; omega
    simp only [splice]
    rw [e1, List.take_append, List.take_of_length_le (by omega), Nat.add_sub_cancel_left, List.append_assoc, Nat.add_assoc, List.drop_append, List.drop_eq_nil_of_le (by omega), List.nil_append, Nat.add_sub_cancel_left]

theorem setCells_grown {g : Nat} : ∀ (vs : List Value) (o : Nat) (w : World), w.grownBy (w.setCells g o vs) (some g)
  | [], _, w => World.grownBy.refl w _
  | v :: vs, o, w => by
    have h1 : w.grownBy (w.setCell ⟨g, o, none⟩ v) (some g) := ⟨rfl, rfl, rfl, by rw [Go.Deep.nblk_setCell]; exact Nat.le_refl _, fun k _ hk => Go.Deep.blk_setCell_other w _ _ k (by intro e; apply hk; rw [e])⟩
    have h2 := setCells_grown (g := g) vs (o + 1) (w.setCell ⟨g, o, none⟩ v)
    exact ⟨h2.os.trans h1.os, h2.tape.trans h1.tape, h2.output.trans h1.output, Nat.le_trans h1.size h2.size, fun k hk hn => (h2.block k (Nat.lt_of_lt_of_le hk h1.size) hn).trans (h1.block k hk hn)⟩
theorem setCells_block {g t : Nat} {fr : Nat × Nat} : ∀ (vs : List Value) (o : Nat) (w : World) (cur : Array Value), w.heap[g]? = some (.cells cur t fr) → o + vs.length ≤ cur.size → (w.setCells g o vs).heap[g]? = some (.cells (splice cur.toList o vs).toArray t fr)
  | [], o, w, cur, h, _ => by
    have : splice cur.toList o [] = cur.toList := by simp [splice]
    rw [this]; simpa [World.setCells] using h
  | v :: vs, o, w, cur, h, hl => by
    have h1 : (w.setCell ⟨g, o, none⟩ v).heap[g]? = some (.cells (cur.setIfInBounds o v) t fr) := by
      simp only [World.setCell, Array.getElem?_modify, h]
      simp
    have h2 := setCells_block vs (o + 1) _ _ h1 (by rw [Array.size_setIfInBounds]; simp at hl; omega)
    refine (show ((w.setCell ⟨g, o, none⟩ v).setCells g (o + 1) vs).heap[g]? = _ from h2).trans ?_
    congr 2
    have hlt : o < cur.size := by simp at hl; omega
    have : splice (cur.setIfInBounds o v).toList (o + 1) vs = splice cur.toList o (v :: vs) := by
      have hlt' : o < cur.toList.length := by rw [Array.length_toList]; exact hlt
      have e1 : (cur.toList.set o v).take (o + 1) = cur.toList.take o ++ [v] := by
        rw [List.take_succ_eq_append_getElem (by rw [List.length_set]; exact hlt'), List.getElem_set_self, List.take_set_of_le (Nat.le_refl _)]
      have e2 : (cur.toList.set o v).drop (o + 1 + vs.length) = cur.toList.drop (o + (v :: vs).length) := by
        rw [List.drop_set_of_lt (by omega), List.length_cons]
        congr 1
        omega
      rw [Array.toList_setIfInBounds]
      unfold splice
      rw [e1, e2, List.append_assoc]
      rfl
    rw [this]
theorem own_at {w : World} {B e size n g c : Nat} {xs : List Value} (h : w.ownsRow B e size (.slice (some ⟨g, 0, none⟩) n c) n xs) : ∃ cur, w.heap[g]? = some (.cells cur e (0, 0)) ∧ B ≤ g ∧ n ≤ c ∧ c ≤ maxLen ∧ cur.size = c * size ∧ cur.toList.take (n * size) = xs ∧ xs.length = n * size := by
  rcases h.2 with ⟨h0, _⟩ | ⟨g', cap, cur', e1, hbg, hgg, hnc, hcm, hcs, ht⟩
  · cases h0
  · simp only [Value.slice.injEq, Option.some.injEq, Addr.mk.injEq] at e1
    obtain ⟨⟨rfl, _⟩, _, rfl⟩ := e1
    exact ⟨cur', hgg, hbg, hnc, hcm, hcs, ht, h.1⟩
theorem own_set_cells {w : World} {B e size n g c : Nat} {xs : List Value} (h : w.ownsRow B e size (.slice (some ⟨g, 0, none⟩) n c) n xs) (off : Nat) (vs : List Value) (hf : off + vs.length ≤ n * size) :
    (w.setCells g off vs).ownsRow B e size (.slice (some ⟨g, 0, none⟩) n c) n (splice xs off vs) := by
  obtain ⟨cur, hg, hB, hnc, hcm, hcs, ht, hx⟩ := own_at h
  have hle : n * size ≤ c * size := Nat.mul_le_mul_right _ hnc
  have hcl : cur.toList.length = c * size := by rw [Array.length_toList]; exact hcs
  have hb := setCells_block (fr := (0, 0)) vs off w cur hg (by omega)
  refine ⟨by rw [length_splice _ _ _ (by omega)]; exact hx, .inr ⟨g, c, _, rfl, hB, hb, hnc, hcm, by rw [List.size_toArray, length_splice _ _ _ (by omega)]; exact hcl, ?_⟩⟩
  show (splice cur.toList off vs).take (n * size) = splice xs off vs
  rw [← ht]
  unfold splice
  rw [List.take_append, List.length_take, Nat.min_eq_left (by omega), List.take_take, Nat.min_eq_right (by omega), List.take_append, List.take_of_length_le (show vs.length ≤ n * size - off by omega), List.take_take, Nat.min_eq_left (by omega), List.drop_take]
  congr 3
  omega
theorem own_short {w : World} {B e size n m g c : Nat} {xs : List Value} (h : w.ownsRow B e size (.slice (some ⟨g, 0, none⟩) n c) n xs) (hm : m ≤ n) : w.ownsRow B e size (.slice (some ⟨g, 0, none⟩) m c) m (xs.take (m * size)) := by
  obtain ⟨cur, hg, hB, hnc, hcm, hcs, ht, hx⟩ := own_at h
  have hle : m * size ≤ n * size := Nat.mul_le_mul_right _ hm
  refine ⟨by rw [List.length_take]; omega, .inr ⟨g, c, cur, rfl, hB, hg, by omega, hcm, hcs, ?_⟩⟩
  rw [← ht, List.take_take, Nat.min_eq_left hle]
theorem own_cells {w : World} {B n g c e : Nat} {xs : List Value} (h : w.ownsRow B e 3 (.slice (some ⟨g, 0, none⟩) n c) n xs) (i : Nat) (hi : i < n * 3) : (w.cell? ⟨g, i, none⟩).isSome = true ∧ w.frozen? ⟨g, i, none⟩ = false := by
  obtain ⟨cur, hg, hB, hnc, hcm, hcs, ht, hx⟩ := own_at h
  refine ⟨?_, frozen_of_row w g i _ _ hg⟩
  rw [cell_of_row w g i cur e _ hg, Array.getElem?_eq_getElem (by omega)]
  rfl
theorem slice_toW (g n c k : Nat) (hk : k ≤ c) (W : World) : (Instr.slice 38 (.slice (some ⟨g, 0, none⟩) n c) none (some (.int .i64 (k : Int))) none).run Try.prog W = .ok (.slice (some ⟨g, 0, none⟩) k c) W := by
  obtain ⟨i0, hi, hz0, hz1, hz2⟩ := info_parts infoL
  have e : Try.prog.elem 38 = 30 := by kernel_rfl
  rw [run_slice_h (P := Try.prog) (w := W) 38 (some ⟨g, 0, none⟩) n c Try.underlying38 .i64 (k : Int) (by omega) (by omega)]
  simp [e, sizeOf, typeInfo, hi, hz1, sliced, Go.WideShapes.add_plain]
theorem slice_fromW (g n c k : Nat) (hk : k ≤ n) (hc : n ≤ c) : ∃ A : Addr, (∀ W : World, (Instr.slice 38 (.slice (some ⟨g, 0, none⟩) n c) (some (.int .i64 (k : Int))) none none).run Try.prog W = .ok (.slice (some A) (n - k) (c - k)) W) ∧ (k < c → A = ⟨g, k * 3, none⟩) := by
  obtain ⟨i0, hi, hz0, hz1, hz2⟩ := info_parts infoL
  have e : Try.prog.elem 38 = 30 := by kernel_rfl
  by_cases h : c = k
  · refine ⟨⟨g, 0, none⟩, fun W => ?_, fun h' => absurd h (by omega)⟩
    rw [run_slice_l (P := Try.prog) (w := W) 38 (some ⟨g, 0, none⟩) n c Try.underlying38 .i64 (k : Int) (by omega) (by omega)]
    simp [e, sizeOf, typeInfo, hi, hz1, sliced, h]
  · refine ⟨⟨g, k * 3, none⟩, fun W => ?_, fun _ => rfl⟩
    rw [run_slice_l (P := Try.prog) (w := W) 38 (some ⟨g, 0, none⟩) n c Try.underlying38 .i64 (k : Int) (by omega) (by omega)]
    simp [e, sizeOf, typeInfo, hi, hz1, sliced, h, Go.WideShapes.add_plain]
theorem slice_lhm (g n c l h m : Nat) (h1 : l ≤ h) (h2 : h ≤ m) (h3 : m ≤ c) : ∃ v, ∀ W : World, (Instr.slice 38 (.slice (some ⟨g, 0, none⟩) n c) (some (.int .i64 (l : Int))) (some (.int .i64 (h : Int))) (some (.int .i64 (m : Int)))).run Try.prog W = .ok v W := by
  obtain ⟨i0, hi, hz0, hz1, hz2⟩ := info_parts infoL
  have e : Try.prog.elem 38 = 30 := by kernel_rfl
  refine ⟨.slice (if m = l then some ⟨g, 0, none⟩ else some ⟨g, l * 3, none⟩) (h - l) (m - l), fun W => ?_⟩
  rw [run_slice_lhm (P := Try.prog) (w := W) 38 (some ⟨g, 0, none⟩) n c Try.underlying38 .i64 .i64 .i64 (l : Int) (h : Int) (m : Int) (by omega) (by omega) (by omega) (by omega)]
  by_cases hh : m = l
  · simp [e, sizeOf, typeInfo, hi, hz1, sliced, hh]
  · simp [e, sizeOf, typeInfo, hi, hz1, sliced, hh, Go.WideShapes.add_plain]
theorem slice_lh (g n c l h : Nat) (h1 : l ≤ h) (h2 : h ≤ c) : ∃ A : Addr, (∀ W : World, (Instr.slice 38 (.slice (some ⟨g, 0, none⟩) n c) (some (.int .i64 (l : Int))) (some (.int .i64 (h : Int))) none).run Try.prog W = .ok (.slice (some A) (h - l) (c - l)) W) ∧ (l < c → A = ⟨g, l * 3, none⟩) := by
  obtain ⟨i0, hi, hz0, hz1, hz2⟩ := info_parts infoL
  have e : Try.prog.elem 38 = 30 := by kernel_rfl
  by_cases hh : c = l
  · refine ⟨⟨g, 0, none⟩, fun W => ?_, fun h' => absurd hh (by omega)⟩
    rw [run_slice_lh (P := Try.prog) (w := W) 38 (some ⟨g, 0, none⟩) n c Try.underlying38 .i64 .i64 (l : Int) (h : Int) (by omega) (by omega) (by omega)]
    simp [e, sizeOf, typeInfo, hi, hz1, sliced, hh]
  · refine ⟨⟨g, l * 3, none⟩, fun W => ?_, fun _ => rfl⟩
    rw [run_slice_lh (P := Try.prog) (w := W) 38 (some ⟨g, 0, none⟩) n c Try.underlying38 .i64 .i64 (l : Int) (h : Int) (by omega) (by omega) (by omega)]
    simp [e, sizeOf, typeInfo, hi, hz1, sliced, hh, Go.WideShapes.add_plain]
/-- 'clear' of a part of a row. -/
theorem zero31W (w : World) : (zeroValue 30).run Try.prog w = .ok (.agg #[.int .i64 0, .int .i64 0, .int .i64 0]) w := by kernel_rfl
theorem run_clear_rowW (w : World) (g o m c : Nat) (hm : 0 < m) (hc : ∀ j, j < m * 3 → (w.cell? ⟨g, o + j, none⟩).isSome = true ∧ w.frozen? ⟨g, o + j, none⟩ = false) :
    ∃ vs : List Value, vs.length = m * 3 ∧ ∀ ty : TypeId, (Builtin.clear_ #[38] ty #[.slice (some ⟨g, o, none⟩) m c]).run Try.prog w = .ok (.tuple #[]) (w.setCells g o vs) := by
  obtain ⟨vs, hvs⟩ : ∃ vs, vs = (Builtin.zeroCells (Value.agg #[.int .i64 0, .int .i64 0, .int .i64 0]).cells m).toList := ⟨_, rfl⟩
  have hl : vs.length = m * 3 := by rw [hvs]; simp [Builtin.zeroCells, Value.cells]
  have h1 : ∀ v ∈ vs, v.oneCell' = true := fun v hv => by
    rw [hvs] at hv
    simp only [Builtin.zeroCells, Value.cells, Array.mem_toList_iff, Array.mem_map] at hv
    obtain ⟨i, _, rfl⟩ := hv
    have : i % 3 = 0 ∨ i % 3 = 1 ∨ i % 3 = 2 := by omega
    rcases this with e | e | e <;> simp [e] <;> rfl
  refine ⟨vs, hl, fun ty => ?_⟩
  have hst := run_storeCells_cells (P := Try.prog) g o vs 0 w (fun j hj => by simpa using (hc j (by omega)).1) (fun j hj => by simpa using (hc j (by omega)).2) h1
  simp only [Nat.add_zero] at hst
  obtain ⟨k, rfl⟩ : ∃ n, m = n + 1 := ⟨m - 1, by omega⟩
  rw [hvs] at hst ⊢
  simp [Builtin.clear_, run_underlying Try.underlying38, hst]
theorem own_cap {w : World} {base e sz n c : Nat} {A : Option Addr} {xs : List Value} (h : w.ownsRow base e sz (.slice A n c) n xs) (hA : A = none) : c = 0 := by
  rcases h.2 with ⟨e1, _⟩ | ⟨g, cap, cur, e1, _⟩
  · injection e1
  · subst hA
    injection e1 with e1 _ _
    cases e1
/-- A copy of elements of any size: all is read before anything is written. -/
theorem run_copy_size {P : Program} (w : World) (dT sT ty elem : TypeId) (b o dLen dCap : Nat) (a : Addr) (sLen sCap sz : Nat) (cs : List Value)
    (hu : P.underlying dT = some (.slice elem)) (hs : (P.info? elem).map (·.size) = some sz) (hn : cs.length = Nat.min sLen dLen * sz)
    (hsrc : ∀ j v, cs[j]? = some v → w.cell? (a.add j) = some v) (hc : ∀ j, j < cs.length → (w.cell? ⟨b, o + j, none⟩).isSome = true) (hf : ∀ j, j < cs.length → w.frozen? ⟨b, o + j, none⟩ = false) (h1 : ∀ v ∈ cs, v.oneCell' = true) :
    (Builtin.copy_ #[dT, sT] ty #[.slice (some ⟨b, o, none⟩) dLen dCap, .slice (some a) sLen sCap]).run P w = .ok (goInt (Nat.min sLen dLen)) (w.setCells b o cs) := by
  have hl := run_loadCells_list (P := P) w a cs hsrc
  have hst := run_storeCells_cells (P := P) b o cs 0 w (by simpa using hc) (by simpa using hf) h1
  rw [Nat.add_zero] at hst
  cases hq : P.info? elem with
  | none => simp [hq] at hs
  | some i =>
    have hi : i.size = sz := by simpa [hq] using hs
    rw [hn] at hl
    simp [Builtin.copy_, run_underlying hu, Builtin.lenOf, Builtin.firstCells, sizeOf, typeInfo, hq, hi, hl, hst]
theorem lcells_cut (L : Tb) (k : Nat) (hk : k < L.length) (vs : List Value) : (splice (splice (lcells L) (k * 3) ((lcells L).drop ((k + 1) * 3))) ((L.length - 1) * 3) vs).take ((L.length - 1) * 3) = lcells (L.eraseIdx k) := by
  have hl := lcells_length L
  have e : lcells (L.eraseIdx k) = (lcells L).take (k * 3) ++ (lcells L).drop ((k + 1) * 3) := by
    have h1 : L = L.take (k + 1) ++ L.drop (k + 1) := (List.take_append_drop _ _).symm
    have h2 : L = L.take k ++ L.drop k := (List.take_append_drop _ _).symm
    have e1 : (lcells L).take (k * 3) = lcells (L.take k) := by
      conv => lhs; rw [h2, lcells_append]
      rw [List.take_append_of_le_length (by rw [lcells_length, List.length_take]; omega), List.take_of_length_le (by rw [lcells_length, List.length_take]; omega)]
    have e2 : (lcells L).drop ((k + 1) * 3) = lcells (L.drop (k + 1)) := by
      conv => lhs; rw [h1, lcells_append]
      have hn : (lcells (L.take (k + 1))).length = (k + 1) * 3 := by rw [lcells_length, List.length_take, Nat.min_eq_left (by omega)]
      rw [List.drop_append, List.drop_eq_nil_of_le (by omega), List.nil_append, hn, Nat.sub_self, List.drop_zero]
    rw [e1, e2, ← lcells_append, List.eraseIdx_eq_take_drop_succ]
  rw [e]
  unfold splice
  rw [List.take_append_of_le_length (by simp; omega), List.take_take, Nat.min_self, List.take_append, List.take_of_length_le (show ((lcells L).take (k * 3)).length ≤ (L.length - 1) * 3 by rw [List.length_take]; omega)]
  congr 1
  rw [List.take_append_of_le_length (by simp; omega), List.take_of_length_le (by simp; omega)]
end Go.Proofs.Ytocobanallohjaa
