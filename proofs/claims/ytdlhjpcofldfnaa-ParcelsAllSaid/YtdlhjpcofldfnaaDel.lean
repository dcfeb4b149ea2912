/-
  What slices.Delete of one message leaves of a row. No condition.
-/
import Derived.Test.YtdlhjpcofldfnaaSend
import Derived.Deep.RegionLaw
namespace Go.Proofs.Ytdlhjpcofldfnaa
set_option maxRecDepth 100000
open Go.ChangeShapes Go.WideShapes Go.ChangeAt Go.RowKit

theorem setCells_grown {g : Nat} : ∀ (vs : List Value) (o : Nat) (w : World), w.grownBy (w.setCells g o vs) (some g)
  | [], _, w => World.grownBy.refl w _
  | v :: vs, o, w => by
    have h1 : w.grownBy (w.setCell ⟨g, o, none⟩ v) (some g) := ⟨rfl, rfl, rfl, by rw [Go.Deep.nblk_setCell]; exact Nat.le_refl _, fun k _ hk => Go.Deep.blk_setCell_other w _ _ k (by intro e; apply hk; rw [e])⟩
    have h2 := setCells_grown (g := g) vs (o + 1) (w.setCell ⟨g, o, none⟩ v)
    exact ⟨h2.os.trans h1.os, h2.tape.trans h1.tape, h2.output.trans h1.output, Nat.le_trans h1.size h2.size, fun k hk hn => (h2.block k (Nat.lt_of_lt_of_le hk h1.size) hn).trans (h1.block k hk hn)⟩
theorem setCells_block {g t : Nat} {fr : Nat × Nat} : ∀ (vs : List Value) (o : Nat) (w : World) (cur : Array Value), w.heap[g]? = some (.cells cur t fr) → o + vs.length ≤ cur.size → (w.setCells g o vs).heap[g]? = some (.cells (splice cur.toList o vs).toArray t fr)
  | [], o, w, cur, h, _ => by
    have : splice cur.toList o [] = cur.toList := by simp [splice]
    rw [this]; simpa [World.setCells] using h
  | v :: vs, o, w, cur, h, hl => by
    have h1 : (w.setCell ⟨g, o, none⟩ v).heap[g]? = some (.cells (cur.setIfInBounds o v) t fr) := by
      simp only [World.setCell, Array.getElem?_modify, h]
      simp
    have h2 := setCells_block vs (o + 1) _ _ h1 (by rw [Array.size_setIfInBounds]; simp at hl; omega)
    refine (show ((w.setCell ⟨g, o, none⟩ v).setCells g (o + 1) vs).heap[g]? = _ from h2).trans ?_
    congr 2
    have hlt : o < cur.size := by simp at hl; omega
    have : splice (cur.setIfInBounds o v).toList (o + 1) vs = splice cur.toList o (v :: vs) := by
      have hlt' : o < cur.toList.length := by rw [Array.length_toList]; exact hlt
      have e1 : (cur.toList.set o v).take (o + 1) = cur.toList.take o ++ [v] := by
        rw [List.take_succ_eq_append_getElem (by rw [List.length_set]; exact hlt'), List.getElem_set_self, List.take_set_of_le (Nat.le_refl _)]
      have e2 : (cur.toList.set o v).drop (o + 1 + vs.length) = cur.toList.drop (o + (v :: vs).length) := by
        rw [List.drop_set_of_lt (by omega), List.length_cons]
        congr 1
        omega
      rw [Array.toList_setIfInBounds]
      unfold splice
      rw [e1, e2, List.append_assoc]
      rfl
    rw [this]
theorem own_at {w : World} {B e size n g c : Nat} {xs : List Value} (h : w.ownsRow B e size (.slice (some ⟨g, 0, none⟩) n c) n xs) : ∃ cur, w.heap[g]? = some (.cells cur e (0, 0)) ∧ B ≤ g ∧ n ≤ c ∧ c ≤ maxLen ∧ cur.size = c * size ∧ cur.toList.take (n * size) = xs ∧ xs.length = n * size := by
  rcases h.2 with ⟨h0, _⟩ | ⟨g', cap, cur', e1, hbg, hgg, hnc, hcm, hcs, ht⟩
  · cases h0
  · simp only [Value.slice.injEq, Option.some.injEq, Addr.mk.injEq] at e1
    obtain ⟨⟨rfl, _⟩, _, rfl⟩ := e1
    exact ⟨cur', hgg, hbg, hnc, hcm, hcs, ht, h.1⟩
theorem own_set_cells {w : World} {B e size n g c : Nat} {xs : List Value} (h : w.ownsRow B e size (.slice (some ⟨g, 0, none⟩) n c) n xs) (off : Nat) (vs : List Value) (hf : off + vs.length ≤ n * size) :
    (w.setCells g off vs).ownsRow B e size (.slice (some ⟨g, 0, none⟩) n c) n (splice xs off vs) := by
  obtain ⟨cur, hg, hB, hnc, hcm, hcs, ht, hx⟩ := own_at h
  have hle : n * size ≤ c * size := Nat.mul_le_mul_right _ hnc
  have hcl : cur.toList.length = c * size := by rw [Array.length_toList]; exact hcs
  have hb := setCells_block (fr := (0, 0)) vs off w cur hg (by omega)
  refine ⟨by rw [length_splice _ _ _ (by omega)]; exact hx, .inr ⟨g, c, _, rfl, hB, hb, hnc, hcm, by rw [List.size_toArray, length_splice _ _ _ (by omega)]; exact hcl, ?_⟩⟩
  show (splice cur.toList off vs).take (n * size) = splice xs off vs
  rw [← ht]
  unfold splice
  rw [List.take_append, List.length_take, Nat.min_eq_left (by omega), List.take_take, Nat.min_eq_right (by omega), List.take_append, List.take_of_length_le (show vs.length ≤ n * size - off by omega), List.take_take, Nat.min_eq_left (by omega), List.drop_take]
  congr 3
  omega
theorem own_short {w : World} {B e size n m g c : Nat} {xs : List Value} (h : w.ownsRow B e size (.slice (some ⟨g, 0, none⟩) n c) n xs) (hm : m ≤ n) : w.ownsRow B e size (.slice (some ⟨g, 0, none⟩) m c) m (xs.take (m * size)) := by
  obtain ⟨cur, hg, hB, hnc, hcm, hcs, ht, hx⟩ := own_at h
  have hle : m * size ≤ n * size := Nat.mul_le_mul_right _ hm
  refine ⟨by rw [List.length_take]; omega, .inr ⟨g, c, cur, rfl, hB, hg, by omega, hcm, hcs, ?_⟩⟩
  rw [← ht, List.take_take, Nat.min_eq_left hle]
theorem own_cells {w : World} {B n g c : Nat} {xs : List Value} (h : w.ownsRow B 31 3 (.slice (some ⟨g, 0, none⟩) n c) n xs) (i : Nat) (hi : i < n * 3) : (w.cell? ⟨g, i, none⟩).isSome = true ∧ w.frozen? ⟨g, i, none⟩ = false := by
  obtain ⟨cur, hg, hB, hnc, hcm, hcs, ht, hx⟩ := own_at h
  refine ⟨?_, frozen_of_row w g i _ _ hg⟩
  rw [cell_of_row w g i cur 31 _ hg, Array.getElem?_eq_getElem (by omega)]
  rfl
/-! ### Parts of a row -/
theorem slice_to (g n c k : Nat) (hk : k ≤ c) (W : World) : (Instr.slice 26 (.slice (some ⟨g, 0, none⟩) n c) none (some (.int .i64 (k : Int))) none).run Try.prog W = .ok (.slice (some ⟨g, 0, none⟩) k c) W := by
  obtain ⟨i0, hi, hz0, hz1, hz2⟩ := info_parts info31
  have e : Try.prog.elem 26 = 31 := by kernel_rfl
  rw [run_slice_h (P := Try.prog) (w := W) 26 (some ⟨g, 0, none⟩) n c Try.underlying26 .i64 (k : Int) (by omega) (by omega)]
  simp [e, sizeOf, typeInfo, hi, hz1, sliced, Go.WideShapes.add_plain]
theorem slice_from (g n c k : Nat) (hk : k ≤ n) (hc : n ≤ c) : ∃ A : Addr, (∀ W : World, (Instr.slice 26 (.slice (some ⟨g, 0, none⟩) n c) (some (.int .i64 (k : Int))) none none).run Try.prog W = .ok (.slice (some A) (n - k) (c - k)) W) ∧ (k < c → A = ⟨g, k * 3, none⟩) := by
  obtain ⟨i0, hi, hz0, hz1, hz2⟩ := info_parts info31
  have e : Try.prog.elem 26 = 31 := by kernel_rfl
  by_cases h : c = k
  · refine ⟨⟨g, 0, none⟩, fun W => ?_, fun h' => absurd h (by omega)⟩
    rw [run_slice_l (P := Try.prog) (w := W) 26 (some ⟨g, 0, none⟩) n c Try.underlying26 .i64 (k : Int) (by omega) (by omega)]
    simp [e, sizeOf, typeInfo, hi, hz1, sliced, h]
  · refine ⟨⟨g, k * 3, none⟩, fun W => ?_, fun _ => rfl⟩
    rw [run_slice_l (P := Try.prog) (w := W) 26 (some ⟨g, 0, none⟩) n c Try.underlying26 .i64 (k : Int) (by omega) (by omega)]
    simp [e, sizeOf, typeInfo, hi, hz1, sliced, h, Go.WideShapes.add_plain]
theorem slice_lhm (g n c l h m : Nat) (h1 : l ≤ h) (h2 : h ≤ m) (h3 : m ≤ c) : ∃ v, ∀ W : World, (Instr.slice 26 (.slice (some ⟨g, 0, none⟩) n c) (some (.int .i64 (l : Int))) (some (.int .i64 (h : Int))) (some (.int .i64 (m : Int)))).run Try.prog W = .ok v W := by
  obtain ⟨i0, hi, hz0, hz1, hz2⟩ := info_parts info31
  have e : Try.prog.elem 26 = 31 := by kernel_rfl
  refine ⟨.slice (if m = l then some ⟨g, 0, none⟩ else some ⟨g, l * 3, none⟩) (h - l) (m - l), fun W => ?_⟩
  rw [run_slice_lhm (P := Try.prog) (w := W) 26 (some ⟨g, 0, none⟩) n c Try.underlying26 .i64 .i64 .i64 (l : Int) (h : Int) (m : Int) (by omega) (by omega) (by omega) (by omega)]
  by_cases hh : m = l
  · simp [e, sizeOf, typeInfo, hi, hz1, sliced, hh]
  · simp [e, sizeOf, typeInfo, hi, hz1, sliced, hh, Go.WideShapes.add_plain]
theorem slice_lh (g n c l h : Nat) (h1 : l ≤ h) (h2 : h ≤ c) : ∃ A : Addr, (∀ W : World, (Instr.slice 26 (.slice (some ⟨g, 0, none⟩) n c) (some (.int .i64 (l : Int))) (some (.int .i64 (h : Int))) none).run Try.prog W = .ok (.slice (some A) (h - l) (c - l)) W) ∧ (l < c → A = ⟨g, l * 3, none⟩) := by
  obtain ⟨i0, hi, hz0, hz1, hz2⟩ := info_parts info31
  have e : Try.prog.elem 26 = 31 := by kernel_rfl
  by_cases hh : c = l
  · refine ⟨⟨g, 0, none⟩, fun W => ?_, fun h' => absurd hh (by omega)⟩
    rw [run_slice_lh (P := Try.prog) (w := W) 26 (some ⟨g, 0, none⟩) n c Try.underlying26 .i64 .i64 (l : Int) (h : Int) (by omega) (by omega) (by omega)]
    simp [e, sizeOf, typeInfo, hi, hz1, sliced, hh]
  · refine ⟨⟨g, l * 3, none⟩, fun W => ?_, fun _ => rfl⟩
    rw [run_slice_lh (P := Try.prog) (w := W) 26 (some ⟨g, 0, none⟩) n c Try.underlying26 .i64 .i64 (l : Int) (h : Int) (by omega) (by omega) (by omega)]
    simp [e, sizeOf, typeInfo, hi, hz1, sliced, hh, Go.WideShapes.add_plain]
/-- 'clear' of a part of a row. -/
theorem zero31 (w : World) : (zeroValue 31).run Try.prog w = .ok (.agg #[.int .i64 0, .int .i64 0, .string ⟨#[]⟩]) w := by kernel_rfl
theorem run_clear_row (w : World) (g o m c : Nat) (hm : 0 < m) (hc : ∀ j, j < m * 3 → (w.cell? ⟨g, o + j, none⟩).isSome = true ∧ w.frozen? ⟨g, o + j, none⟩ = false) :
    ∃ vs : List Value, vs.length = m * 3 ∧ ∀ ty : TypeId, (Builtin.clear_ #[26] ty #[.slice (some ⟨g, o, none⟩) m c]).run Try.prog w = .ok (.tuple #[]) (w.setCells g o vs) := by
  obtain ⟨vs, hvs⟩ : ∃ vs, vs = (Builtin.zeroCells (Value.agg #[.int .i64 0, .int .i64 0, .string ⟨#[]⟩]).cells m).toList := ⟨_, rfl⟩
  have hl : vs.length = m * 3 := by rw [hvs]; simp [Builtin.zeroCells, Value.cells]
  have h1 : ∀ v ∈ vs, v.oneCell' = true := fun v hv => by
    rw [hvs] at hv
    simp only [Builtin.zeroCells, Value.cells, Array.mem_toList_iff, Array.mem_map] at hv
    obtain ⟨i, _, rfl⟩ := hv
    have : i % 3 = 0 ∨ i % 3 = 1 ∨ i % 3 = 2 := by omega
    rcases this with e | e | e <;> simp [e] <;> rfl
  refine ⟨vs, hl, fun ty => ?_⟩
  have hst := run_storeCells_cells (P := Try.prog) g o vs 0 w (fun j hj => by simpa using (hc j (by omega)).1) (fun j hj => by simpa using (hc j (by omega)).2) h1
  simp only [Nat.add_zero] at hst
  obtain ⟨k, rfl⟩ : ∃ n, m = n + 1 := ⟨m - 1, by omega⟩
  rw [hvs] at hst ⊢
  simp [Builtin.clear_, run_underlying Try.underlying26, hst]
theorem pcells_cut (L : List Pk) (k : Nat) (hk : k < L.length) (vs : List Value) : (splice (splice (pcells L) (k * 3) ((pcells L).drop ((k + 1) * 3))) ((L.length - 1) * 3) vs).take ((L.length - 1) * 3) = pcells (L.eraseIdx k) := by
  have hl := pcells_length L
  have e : pcells (L.eraseIdx k) = (pcells L).take (k * 3) ++ (pcells L).drop ((k + 1) * 3) := by
    have h1 : L = L.take (k + 1) ++ L.drop (k + 1) := (List.take_append_drop _ _).symm
    have h2 : L = L.take k ++ L.drop k := (List.take_append_drop _ _).symm
    have e1 : (pcells L).take (k * 3) = pcells (L.take k) := by
      conv => lhs; rw [h2, pcells_append]
      rw [List.take_append_of_le_length (by rw [pcells_length, List.length_take]; omega), List.take_of_length_le (by rw [pcells_length, List.length_take]; omega)]
    have e2 : (pcells L).drop ((k + 1) * 3) = pcells (L.drop (k + 1)) := by
      conv => lhs; rw [h1, pcells_append]
      have hn : (pcells (L.take (k + 1))).length = (k + 1) * 3 := by rw [pcells_length, List.length_take, Nat.min_eq_left (by omega)]
      rw [List.drop_append, List.drop_eq_nil_of_le (by omega), List.nil_append, hn, Nat.sub_self, List.drop_zero]
    rw [e1, e2, ← pcells_append, List.eraseIdx_eq_take_drop_succ]
  rw [e]
  unfold splice
  rw [List.take_append_of_le_length (by simp; omega), List.take_take, Nat.min_self, List.take_append, List.take_of_length_le (show ((pcells L).take (k * 3)).length ≤ (L.length - 1) * 3 by rw [List.length_take]; omega)]
  congr 1
  rw [List.take_append_of_le_length (by simp; omega), List.take_of_length_le (by simp; omega)]
set_option maxHeartbeats 2000000 in
theorem del_any {w : World} {B g c : Nat} {L : List Pk} (h : w.ownsRow B 31 3 (.slice (some ⟨g, 0, none⟩) L.length c) L.length (pcells L)) (k : Nat) (hk : k < L.length) (hL : L.length ≤ 2000) :
    Calls Try.prog 32 #[.slice (some ⟨g, 0, none⟩) L.length c, .int .i64 (k : Int), .int .i64 ((k : Int) + 1)] w fun e w' => e = .returned (.slice (some ⟨g, 0, none⟩) (L.length - 1) c) ∧
      w'.ownsRow B 31 3 (.slice (some ⟨g, 0, none⟩) (L.length - 1) c) (L.length - 1) (pcells (L.eraseIdx k)) ∧ w.grownBy w' (some g) := by
  obtain ⟨i0, hi, hz0, hz1, hz2⟩ := info_parts info31
  obtain ⟨cur, -, -, hnc, -⟩ := own_at h
  have hj : ((k + 1 : Nat) : Int) = (k : Int) + 1 := by omega
  obtain ⟨v1, hs1⟩ := slice_lhm g L.length c k (k + 1) L.length (by omega) (by omega) hnc
  have hs2 := slice_to g L.length c k (by omega)
  obtain ⟨A, hs3, hA⟩ := slice_from g L.length c (k + 1) (by omega) hnc
  rw [hj] at hs1 hs3
  obtain ⟨m, hm⟩ : ∃ m, m = L.length - 1 := ⟨_, rfl⟩
  have hmm : k + (L.length - (k + 1)) = m := by omega
  obtain ⟨A2, hs4, hA2⟩ := slice_lh g m c m L.length (by omega) (by omega)
  have hA2' := hA2 (by omega)
  subst hA2'
  rw [show L.length - m = 1 by omega] at hs4
  obtain ⟨news, hnews⟩ : ∃ news, news = (pcells L).drop ((k + 1) * 3) := ⟨_, rfl⟩
  have hpl := pcells_length L
  have hnl : news.length = (L.length - (k + 1)) * 3 := by rw [hnews, List.length_drop, hpl]; omega
  have s1 : Hid (news.length = (L.length - (k + 1)) * 3) := Lib.hid hnl
  have s2 : Hid (∀ u ∈ news, u.oneCell' = true) := Lib.hid (fun u hu => pcells_one L u (by rw [hnews] at hu; exact List.mem_of_mem_drop hu))
  have s3 : Hid (∀ j u, news[j]? = some u → w.drew.cell? (A.add j) = some u) := Lib.hid (fun j u hu => by
    have hlt := (List.getElem?_eq_some_iff.1 hu).1
    rw [hA (by omega), Go.WideShapes.add_plain]
    refine own_cell h _ _ ?_
    rw [hnews, List.getElem?_drop] at hu
    exact hu)
  have s4 : Hid (∀ j, j < news.length → (w.drew.cell? ⟨g, 0 + k * 3 + j, none⟩).isSome = true ∧ w.drew.frozen? ⟨g, 0 + k * 3 + j, none⟩ = false) := Lib.hid (fun j hj' => own_cells h _ (by omega))
  obtain ⟨w2, hw2⟩ : ∃ w2, w2 = w.drew.setCells g (k * 3) news := ⟨_, rfl⟩
  have hd : w.drew.ownsRow B 31 3 (.slice (some ⟨g, 0, none⟩) L.length c) L.length (pcells L) := h
  have hown2 : w2.ownsRow B 31 3 (.slice (some ⟨g, 0, none⟩) L.length c) L.length (splice (pcells L) (k * 3) news) := by
    rw [hw2]; exact own_set_cells hd _ _ (by omega)
  obtain ⟨vs, hvl, hclr⟩ := run_clear_row w2 g (m * 3) 1 (c - m) (by omega) (fun j hj' => own_cells hown2 _ (by omega))
  have HE : Hid ((w2.setCells g (m * 3) vs).ownsRow B 31 3 (.slice (some ⟨g, 0, none⟩) m c) m (pcells (L.eraseIdx k)) ∧ w.grownBy (w2.setCells g (m * 3) vs) (some g)) := Lib.hid (by
    constructor
    · have h3 := own_short (own_set_cells hown2 (m * 3) vs (by omega)) (show m ≤ L.length by omega)
      rw [hnews, hm, pcells_cut L k hk vs] at h3
      rw [hm]; exact h3
    · have g1 : w.grownBy w.drew (some g) := ⟨rfl, rfl, rfl, Nat.le_refl _, fun _ _ _ => rfl⟩
      have g2 : w.drew.grownBy w2 (some g) := by rw [hw2]; exact setCells_grown _ _ _
      have g3 : w2.grownBy (w2.setCells g (m * 3) vs) (some g) := setCells_grown _ _ _
      have gt : ∀ {a b c : World}, a.grownBy b (some g) → b.grownBy c (some g) → a.grownBy c (some g) := fun x y => ⟨y.os.trans x.os, y.tape.trans x.tape, y.output.trans x.output, Nat.le_trans x.size y.size, fun k hk hn => (y.block k (Nat.lt_of_lt_of_le hk x.size) hn).trans (x.block k hk hn)⟩
      exact gt (gt g1 g2) g3)
  have HM := Lib.hid hm
  have HW2 := Lib.hid hw2
  have hne : ((k : Int) == (k : Int) + 1) = false := by rw [beq_eq_false_iff_ne]; omega
  have hroom : k + (L.length - (k + 1)) ≤ c := by omega
  have HRM := Lib.hid hroom
  have HMM := Lib.hid hmm
  clear h hj hnews hpl hnl hA hA2 hm hw2 hd hown2 hvl hroom hmm
  rw [← HM.out]
  go_enter Try.func32, Try.ntmps32
  go_wp2_with fail
  go_region_law (first
    | (refine step_append_room rfl (.tmp 22) (.tmp 25) 26 rfl 31 i0 3 Try.underlying26 hi hz1 g 0 k c (by simp [Act.eval, Act.put]) A (L.length - (k + 1)) (c - (k + 1)) news (by simp [Act.eval, Act.put]) s1.out s3.out s2.out HRM.out s4.out ?_)
    | fail)
  rw [← HW2.out, HMM.out]
  go_wp2_with fail
  go_ret
  exact ⟨rfl, HE.out.1, HE.out.2⟩
end Go.Proofs.Ytdlhjpcofldfnaa
