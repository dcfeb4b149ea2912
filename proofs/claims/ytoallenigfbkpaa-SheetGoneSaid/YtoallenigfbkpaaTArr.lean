/-
  A block of sixteen bytes by value: loads, allocations, stores; copies of bytes into a block that is known whole; its parts as slices. No condition.
-/
import Derived.Test.YtoallenigfbkpaaTMem
namespace Go.Proofs.Ytoallenigfbkpaa
set_option maxRecDepth 100000
open Go.ChangeShapes Go.WideShapes Go.ChangeAt Go.RowKit Go.Proofs.Sg

theorem sizeB : (Try.prog.info? 5).map (·.size) = some 1 := by kernel_rfl
theorem sizeK : (Try.prog.info? 61).map (·.size) = some 16 := by kernel_rfl
theorem z16_size : Z16.size = 16 := by kernel_rfl
theorem run_allocK (w : World) (v : Value) : (Instr.alloc 61 true v).run Try.prog w = .ok (.pointer (some ⟨w.heap.size, 0, none⟩)) (w.alloc (.cells Z16 61)) := by
  obtain ⟨i0, hi, hz0, hz1, hz2⟩ := info_parts infoK
  have hzc : (Value.agg Z16).cells = Z16 := rfl
  simp [Instr.alloc, zeroValue, typeInfo, hi, hz0, newVar, newRow, hzc]
theorem wpList_allocK {ops : Array Oper} {rest : List Oper} {o : Oper} {a : Act} {w : World} {Q : Exit → Act → World → Prop} (hgd : o.guard = none) (ho : o.op = .alloc 61)
    (h : wpList Try.prog ops Q rest (a.put o.dst (.pointer (some ⟨w.heap.size, 0, none⟩))) (w.alloc (.cells Z16 61))) : wpList Try.prog ops Q (o :: rest) a w :=
  wpList_plain hgd fun K hK => by
    unfold Oper.wp execOp
    simp only [ho]
    rw [Sem.run_bind, run_allocK w]
    exact hK _ _ h
/-- A whole value into the block that was made last. -/
theorem wpList_store_new {ops : Array Oper} {rest : List Oper} {o : Oper} {a : Act} {w : World} {Q : Exit → Act → World → Prop} (hgd : o.guard = none) (t : TypeId) (x y : Operand) (ho : o.op = .store t x y) (c c' : Array Value)
    (hx : a.eval x = .pointer (some ⟨w.heap.size, 0, none⟩)) (hy : a.eval y = .agg c') (hi : (Try.prog.info? t).map (·.size) = some c'.size) (hs : c.size = c'.size) (h1 : c'.all (·.oneCell') = true)
    (h : wpList Try.prog ops Q rest (a.put o.dst undef) (w.alloc (.cells c' t))) : wpList Try.prog ops Q (o :: rest) a (w.alloc (.cells c t)) :=
  wpList_plain hgd fun K hK => by
    unfold Oper.wp execOp
    simp only [ho, hx, hy]
    rw [Sem.run_bind, run_storeAt_new w t c c' hi hs h1]
    exact hK _ _ h
theorem setRow_grown {w : World} {g : Nat} (cs : Array Value) : w.grownBy (w.setRow g cs) (some g) :=
  ⟨rfl, rfl, rfl, by simp [World.setRow], fun k _ hk => setRow_other w g k cs (fun e => hk (by rw [e]))⟩
/-- A copy into a row that is known whole: nothing else turns. -/
theorem run_copy_grown {w : World} (ty : TypeId) (dp sp : Option Addr) (dLen dCap sLen sCap : Nat) (g off : Nat) (cur : List Value) (t : TypeId) (hg : w.heap[g]? = some (.cells cur.toArray t (0, 0))) (cs : List Value) (hn : cs.length = Nat.min sLen dLen)
    (hpos : 0 < cs.length → dp = some ⟨g, off, none⟩ ∧ ∃ ad, sp = some ad ∧ ∀ j v, cs[j]? = some v → w.cell? (ad.add j) = some v) (hfit : off + cs.length ≤ cur.length) (h1 : ∀ v ∈ cs, v.oneCell' = true) :
    ∃ w', (Builtin.copy_ #[27, 27] ty #[.slice dp dLen dCap, .slice sp sLen sCap]).run Try.prog w = .ok (goInt cs.length) w' ∧ w'.heap[g]? = some (.cells (splice cur off cs).toArray t (0, 0)) ∧ w.grownBy w' (some g) := by
  by_cases h0 : cs.length = 0
  · obtain rfl : cs = [] := List.eq_nil_of_length_eq_zero h0
    exact ⟨w, run_copy_none (P := Try.prog) w 27 27 ty 5 dp sp dLen dCap sLen sCap Try.underlying27 sizeB (by simpa using hn.symm), by simpa [splice] using hg, World.grownBy.refl w _⟩
  · obtain ⟨rfl, ad, rfl, hsrc⟩ := hpos (by omega)
    have hrun := run_copy_row (P := Try.prog) w 27 27 ty 5 g off dLen dCap ad sLen sCap cur.toArray t cs Try.underlying27 sizeB hg hn hsrc (by simpa using hfit) h1
    exact ⟨_, hrun, by simpa [splice] using setRow_heap w g _ (cur.toArray.toList.take off ++ (cs ++ cur.toArray.toList.drop (off + cs.length))).toArray t _ hg, setRow_grown _⟩
/-- The end of an array as a slice. -/
theorem arr_from (g i : Nat) (hb : i < 16) : ∀ W : World, (Instr.sliceAt 61 (.pointer (some ⟨g, 0, none⟩)) (some (.int .i64 (i : Int))) none none).run Try.prog W = .ok (.slice (some ⟨g, i, none⟩) (16 - i) (16 - i)) W := fun W => by
  obtain ⟨i0, hi, hz0, hz1, hz2⟩ := info_parts infoB
  have ha : Try.prog.arrayLen 61 = 16 := by kernel_rfl
  have he : Try.prog.elem 61 = 5 := by kernel_rfl
  have hu : Try.prog.underlying 61 = some (.array (Try.prog.arrayLen 61) (Try.prog.elem 61)) := by kernel_rfl
  have hne : ¬ 16 = i := by omega
  rw [run_sliceAt_array_l (P := Try.prog) W 61 ⟨g, 0, none⟩ hu .i64 (i : Int) (by omega) (by rw [ha]; omega), ha, he]
  simp [sizeOf, typeInfo, hi, hz1, slicedAt, hne, Go.WideShapes.add_plain]
/-- The middle of an array as a slice. -/
theorem arr_mid (g i h : Nat) (hb : i ≤ h) (hh : h ≤ 16) (hi16 : i < 16) : ∀ W : World, (Instr.sliceAt 61 (.pointer (some ⟨g, 0, none⟩)) (some (.int .i64 (i : Int))) (some (.int .i64 (h : Int))) none).run Try.prog W = .ok (.slice (some ⟨g, i, none⟩) (h - i) (16 - i)) W := fun W => by
  obtain ⟨i0, hi, hz0, hz1, hz2⟩ := info_parts infoB
  have ha : Try.prog.arrayLen 61 = 16 := by kernel_rfl
  have he : Try.prog.elem 61 = 5 := by kernel_rfl
  have hu : Try.prog.underlying 61 = some (.array (Try.prog.arrayLen 61) (Try.prog.elem 61)) := by kernel_rfl
  have hne : ¬ 16 = i := by omega
  rw [run_sliceAt_array_lh (P := Try.prog) W 61 ⟨g, 0, none⟩ hu .i64 .i64 (i : Int) (h : Int) (by omega) (by omega) (by rw [ha]; omega), ha, he]
  simp [sizeOf, typeInfo, hi, hz1, slicedAt, hne, Go.WideShapes.add_plain]
/-- The end of bytes as a slice. -/
theorem bytes_from (b o n c k : Nat) (hk : k < n) (hc : n ≤ c) : ∀ W : World, (Instr.slice 27 (.slice (some ⟨b, o, none⟩) n c) (some (.int .i64 (k : Int))) none none).run Try.prog W = .ok (.slice (some ⟨b, o + k, none⟩) (n - k) (c - k)) W := fun W => by
  obtain ⟨i0, hi, hz0, hz1, hz2⟩ := info_parts infoB
  have e : Try.prog.elem 27 = 5 := by kernel_rfl
  have hne : ¬ c = k := by omega
  rw [run_slice_l (P := Try.prog) (w := W) 27 (some ⟨b, o, none⟩) n c Try.underlying27 .i64 (k : Int) (by omega) (by omega)]
  simp [e, sizeOf, typeInfo, hi, hz1, sliced, hne, Go.WideShapes.add_plain]
/-- 'clear' of a part of a block. -/
theorem run_clear_bytes (w : World) (g o m c : Nat) (hm : 0 < m) (hc : ∀ j, j < m → (w.cell? ⟨g, o + j, none⟩).isSome = true ∧ w.frozen? ⟨g, o + j, none⟩ = false) (ty : TypeId) :
    (Builtin.clear_ #[27] ty #[.slice (some ⟨g, o, none⟩) m c]).run Try.prog w = .ok (.tuple #[]) (w.setCells g o (bcells (List.replicate m 0))) := by
  obtain ⟨vs, hvs⟩ : ∃ vs, vs = (Builtin.zeroCells (Value.int .u8 0).cells m).toList := ⟨_, rfl⟩
  have hv : vs = bcells (List.replicate m 0) := by
    rw [hvs, bcells_map]
    apply List.ext_getElem?
    intro j
    simp [Builtin.zeroCells, Value.cells, List.getElem?_replicate]
    by_cases h : j < m
    · simp [h]
      have : j % 1 = 0 := by omega
      simp [this]
    · simp [h]
  have h1 : ∀ v ∈ vs, v.oneCell' = true := by rw [hv]; exact bcells_one _
  have hl : vs.length = m := by rw [hv, bcells_length, List.length_replicate]
  have hst := run_storeCells_cells (P := Try.prog) g o vs 0 w (fun j hj => by simpa using (hc j (by omega)).1) (fun j hj => by simpa using (hc j (by omega)).2) h1
  simp only [Nat.add_zero] at hst
  obtain ⟨k, rfl⟩ : ∃ n, m = n + 1 := ⟨m - 1, by omega⟩
  rw [← hv]
  rw [hvs] at hst ⊢
  obtain ⟨i0, hi, hz0, hz1, hz2⟩ := info_parts infoB
  simp [Builtin.clear_, run_underlying Try.underlying27, zeroValue, typeInfo, hi, hz0, hst]
end Go.Proofs.Ytoallenigfbkpaa
