/-
  Words for memory: bytes that read are kept where older memory is; a part of them reads as the part; rows of the call's own read; bytes laid behind such a row; bytes as a string. No condition.
-/
import Derived.Test.YtkellgofdfpjpaaDoorSums
import Derived.Below
import Derived.OwnWalk
import Derived.Deep.Draws
import Derived.RegionTactic
import Derived.Maps.AppendAt
import Derived.Laws.AppendOwnNone
import Derived.Laws.BytesArg
import Derived.Lib.AppendStr
import Derived.Deep.Slices
namespace Go.Proofs.YtkellgofdfpjpaaDoor
open Go.ChangeShapes Go.WideShapes Go.ChangeAt Go.RowKit Go.Proofs.Crc

/-- All are bytes. -/
def Bys (l : List Int) : Prop := ∀ z ∈ l, 0 ≤ z ∧ z ≤ 255
theorem bys_nil : Bys [] := fun _ h => by cases h
theorem bys_append {a b : List Int} (ha : Bys a) (hb : Bys b) : Bys (a ++ b) := fun z h => (List.mem_append.1 h).elim (ha z) (hb z)
theorem bys_take {a : List Int} (n : Nat) (ha : Bys a) : Bys (a.take n) := fun z h => ha z (List.mem_of_mem_take h)
theorem bys_drop {a : List Int} (n : Nat) (ha : Bys a) : Bys (a.drop n) := fun z h => ha z (List.mem_of_mem_drop h)
theorem bys_getD {zs : List Int} (h : Bys zs) (k : Nat) : 0 ≤ zs.getD k 0 ∧ zs.getD k 0 ≤ 255 := by
  rw [List.getD_eq_getElem?_getD]
  by_cases hk : k < zs.length
  · rw [List.getElem?_eq_getElem hk]; exact h _ (List.getElem_mem hk)
  · rw [List.getElem?_eq_none (by omega)]; decide
theorem getD_bys {zs : List Int} (h : ∀ k, 0 ≤ zs.getD k 0 ∧ zs.getD k 0 ≤ 255) : Bys zs := fun z hz => by
  obtain ⟨i, hi, rfl⟩ := List.mem_iff_getElem.1 hz
  have := h i
  rwa [List.getD_eq_getElem?_getD, List.getElem?_eq_getElem hi] at this
theorem Reads.bys {w : World} {ad : Option Addr} {len : Nat} {zs : List Int} (h : Reads w ad len zs) : Bys zs := getD_bys h.2.2
theorem reads_mk {w : World} {ad : Option Addr} {len : Nat} {zs : List Int} (h1 : zs.length = len) (h2 : 0 < len → ∃ b off, ad = some ⟨b, off, none⟩ ∧ ∀ i, i < len → w.cell? ⟨b, off + i, none⟩ = some (.int .u8 (zs.getD i 0))) (h3 : Bys zs) : Reads w ad len zs := ⟨h1, h2, bys_getD h3⟩
theorem reads_none (w : World) : Reads w none 0 [] := reads_mk rfl (fun h => absurd h (by omega)) bys_nil
theorem cell_lt {w : World} {b : Nat} {o : Nat} {v : Value} (h : w.cell? ⟨b, o, none⟩ = some v) : b < w.heap.size := by
  rcases Nat.lt_or_ge b w.heap.size with h' | h'
  · exact h'
  · simp [World.cell?, Array.getElem?_eq_none h'] at h
theorem Reads.kept {w w' : World} {ad : Option Addr} {len : Nat} {zs : List Int} (hR : Reads w ad len zs) (hb : Below w.heap.size w w') : Reads w' ad len zs := by
  obtain ⟨h1, h2, h3⟩ := hR
  refine ⟨h1, fun hl => ?_, h3⟩
  obtain ⟨b, off, e, hc⟩ := h2 hl
  exact ⟨b, off, e, fun i hi => (hb.cell (p := ⟨b, off + i, none⟩) (cell_lt (hc i hi))).trans (hc i hi)⟩
theorem Table.kept {w w' : World} (hT : Table w) (hb : Below w.heap.size w w') : Table w' := fun k hk =>
  (hb.cell (p := ⟨0, k, none⟩) (cell_lt (hT k hk))).trans (hT k hk)
theorem below_drewN {B : Nat} {a w : World} (h : Below B a w) (n : Nat) : Below B a (w.drewN n) := ⟨h.os, h.tape, h.output, h.size, h.block⟩
theorem box_below (w : World) (o : Obj) : Below w.heap.size w (w.alloc o) := (Below.refl _ _).alloc (Nat.le_refl _) _

theorem info5 : (Tryd.prog.info? 5).map (fun i => (i.zero, i.size, i.bytes)) = some (some (.int .u8 0), 1, 1) := by kernel_rfl
theorem info22 : (Tryd.prog.info? 22).map (fun i => (i.zero, i.size, i.bytes)) = some (some (.slice none 0 0), 1, 24) := by kernel_rfl

/-! ### Rows of the call's own -/
theorem own_ge {w : World} {base e size n : Nat} {v : Value} {xs : List Value} (h : w.ownsRow base e size v n xs) : ∀ k, v.ownBlock = some k → base ≤ k := by
  intro k hk
  rcases h.2 with ⟨rfl, _⟩ | ⟨g, cap, cur, rfl, hb, _⟩
  · simp [Value.ownBlock] at hk
  · simp [Value.ownBlock] at hk; omega
theorem own_below {w w' : World} {base e size n : Nat} {v : Value} {xs : List Value} (h : w.ownsRow base e size v n xs) (hb : Below w.heap.size w w') : w'.ownsRow base e size v n xs := by
  refine ⟨h.1, ?_⟩
  rcases h.2 with hn | ⟨g, cap, cur, rfl, hbg, hg, rest⟩
  · exact .inl hn
  · exact .inr ⟨g, cap, cur, rfl, hbg, (hb.block g (Array.getElem?_eq_some_iff.1 hg).1).trans hg, rest⟩
theorem own_base {w : World} {b b' e size n : Nat} {v : Value} {xs : List Value} (h : w.ownsRow b e size v n xs) (hb : b' ≤ b) : w.ownsRow b' e size v n xs := by
  refine ⟨h.1, ?_⟩
  rcases h.2 with hn | ⟨g, cap, cur, rfl, hbg, rest⟩
  · exact .inl hn
  · exact .inr ⟨g, cap, cur, rfl, by omega, rest⟩
theorem own_reads {w : World} {base n : Nat} {v : Value} {zs : List Int} (h : w.ownsRow base 5 1 v n (zs.map (Value.int .u8))) (hB : Bys zs) : ∃ A c, v = .slice A n c ∧ Reads w A n zs ∧ n ≤ c ∧ c ≤ maxLen := by
  have hl : zs.length = n := by have := h.1; rw [List.length_map] at this; omega
  rcases h.2 with ⟨rfl, rfl⟩ | ⟨g, cap, cur, rfl, hbg, hg, hn, hc, hs, ht⟩
  · exact ⟨none, 0, rfl, reads_mk hl (fun h => absurd h (by omega)) hB, by omega, by unfold maxLen; omega⟩
  · refine ⟨_, cap, rfl, reads_mk hl (fun _ => ⟨g, 0, rfl, fun i hi => ?_⟩) hB, hn, hc⟩
    have hc : w.cell? ⟨g, 0 + i, none⟩ = (zs.map (Value.int .u8))[i]? := by
      rw [Nat.zero_add]
      have := h.cells (g := g) rfl i
      rw [Go.WideShapes.add_plain, Nat.zero_add] at this
      have hlt : i < (zs.map (Value.int .u8)).length := by rw [List.length_map]; omega
      rw [List.getElem?_eq_getElem hlt] at this ⊢
      exact this _ rfl
    rw [hc, List.getElem?_map, List.getD_eq_getElem?_getD, List.getElem?_eq_getElem (by omega)]
    rfl
theorem own_bytes {w : World} {base n : Nat} {v : Value} {zs : List Int} (h : w.ownsRow base 5 1 v n (zs.map (Value.int .u8))) : zs.length = n := by
  have := h.1; rw [List.length_map] at this; omega

/-! ### Bytes laid behind a row -/
theorem ints_cells {w : World} {b off len : Nat} {zs : List Int} (hR : Reads w (some ⟨b, off, none⟩) len zs) : ∀ j u, (zs.map (Value.int .u8))[j]? = some u → w.cell? (Addr.add ⟨b, off, none⟩ j) = some u := by
  intro j u hu
  obtain ⟨h1, h2, _⟩ := hR
  rw [List.getElem?_map] at hu
  have hj : j < zs.length := by
    rcases Nat.lt_or_ge j zs.length with h | h
    · exact h
    · rw [List.getElem?_eq_none h] at hu; cases hu
  obtain ⟨b', off', e, hc⟩ := h2 (by omega)
  have e' := Option.some.inj e
  injection e' with eb eo
  subst eb eo
  rw [Go.WideShapes.add_plain, hc j (by omega)]
  rw [List.getElem?_eq_getElem hj] at hu
  rw [← hu, List.getD_eq_getElem?_getD, List.getElem?_eq_getElem hj]
  rfl
theorem ints_one (zs : List Int) : ∀ u ∈ zs.map (Value.int .u8), u.oneCell' = true := by
  intro u hu
  obtain ⟨z, _, rfl⟩ := List.mem_map.1 hu
  rfl
theorem run_append_rd (w : World) (base ty : Nat) (i : TypeInfo) (hi : Tryd.prog.info? 5 = some i) (hz : i.zero = some (.int .u8 0)) (hsize : i.size = 1) (hby : i.bytes = 1)
    (v : Value) (n : Nat) (xs : List Value) (hown : w.ownsRow base 5 1 v n xs) (A : Option Addr) (m c : Nat) (zs : List Int) (hr : Reads w A m zs) (h47 : n + m ≤ 140737488355328) (hbase : base ≤ w.heap.size) :
    ∃ v' w', (Builtin.append_ #[22, 22] ty #[v, .slice A m c]).run Tryd.prog w = .ok v' w' ∧ w'.ownsRow base 5 1 v' (n + m) (xs ++ zs.map (Value.int .u8)) ∧ w.grownBy w' v.ownBlock := by
  rcases A with _ | ad
  · have hm : m = 0 := by
      rcases Nat.eq_zero_or_pos m with h0 | h0
      · exact h0
      · obtain ⟨b, off, h, _⟩ := hr.2.1 h0
        cases h
    subst hm
    have hn : zs = [] := List.eq_nil_of_length_eq_zero hr.1
    subst hn
    refine ⟨v, w, ?_, by simpa using hown, World.grownBy.refl w _⟩
    rcases hown.2 with ⟨rfl, rfl⟩ | ⟨g, cap, cur, rfl, _, _, hnc, _⟩
    · simp [Builtin.append_, run_underlying Tryd.underlying22, sizeOf, typeInfo, hi, Builtin.lenOf, Builtin.firstCells]
    · simp [Builtin.append_, run_underlying Tryd.underlying22, sizeOf, typeInfo, hi, Builtin.lenOf, Builtin.firstCells, hnc, storeCells]
  · have hcells : ∀ j u, (zs.map (Value.int .u8))[j]? = some u → w.cell? (ad.add j) = some u := by
      intro j u hu
      rcases Nat.eq_zero_or_pos m with h0 | h0
      · have hn : zs = [] := List.eq_nil_of_length_eq_zero (hr.1.trans h0)
        subst hn
        simp at hu
      · obtain ⟨b, off, h, _⟩ := hr.2.1 h0
        injection h with h
        subst h
        exact ints_cells hr j u hu
    obtain ⟨v', w', hrun, h2, h3, _⟩ := run_append_own (P := Tryd.prog) w base 22 ty 5 i (.int .u8 0) 1 1 Tryd.underlying22 hi hz hsize hby rfl (by decide) v n xs hown ad m c (zs.map (Value.int .u8)) (by rw [List.length_map, hr.1, Nat.mul_one]) hcells (ints_one zs) (by unfold maxLen; omega) (by omega) hbase
    exact ⟨v', w', hrun, h2, h3⟩
/-- By how much a row grows at most. -/
theorem grows_quarter {need old : Nat} (h : old < need) : Builtin.nextslicecap need old ≤ need + need / 4 + 512 := by
  unfold Builtin.nextslicecap
  split
  · omega
  · split
    · omega
    · rw [growBy_four]
      repeat' split
      all_goals omega
/-- Bytes laid behind a row of the call's own where both together may take some more than 2^47 bytes. -/
theorem run_append_wide (w : World) (base ty : Nat) (i : TypeInfo) (hi : Tryd.prog.info? 5 = some i) (hz : i.zero = some (.int .u8 0)) (hsize : i.size = 1) (hby : i.bytes = 1)
    (v : Value) (n : Nat) (xs : List Value) (hown : w.ownsRow base 5 1 v n xs) (A : Option Addr) (m c : Nat) (zs : List Int) (hr : Reads w A m zs) (hn : n ≤ 1048576) (hm : m ≤ 140737488355328) (hbase : base ≤ w.heap.size) :
    ∃ v' w', (Builtin.append_ #[22, 22] ty #[v, .slice A m c]).run Tryd.prog w = .ok v' w' ∧ w'.ownsRow base 5 1 v' (n + m) (xs ++ zs.map (Value.int .u8)) ∧ w.grownBy w' v.ownBlock := by
  by_cases hsmall : n + m ≤ 140737488355328
  · exact run_append_rd w base ty i hi hz hsize hby v n xs hown A m c zs hr hsmall hbase
  have hm0 : 0 < m := by omega
  obtain ⟨b, off, rfl, _⟩ := hr.2.1 hm0
  have hnews : ∀ j u, (zs.map (Value.int .u8))[j]? = some u → w.cell? ((⟨b, off, none⟩ : Addr).add j) = some u := ints_cells hr
  have hl : (zs.map (Value.int .u8)).length = m * 1 := by rw [List.length_map, hr.1, Nat.mul_one]
  rcases hown.2 with ⟨rfl, h0⟩ | ⟨g, cap, cur, rfl, hbg, hg, hnc, hcm, hcs, ht⟩
  · omega
  · by_cases hroom : n + m ≤ cap
    · obtain ⟨w', h1, h2, h3⟩ := run_append_fits (P := Tryd.prog) w base 22 ty 5 i 1 Tryd.underlying22 hi hsize g n cap xs hown ⟨b, off, none⟩ m c _ hl hnews (ints_one zs) hroom
      exact ⟨_, w', h1, h2, h3⟩
    · have hfit : Builtin.nextslicecap (n + m) cap * i.bytes ≤ 281474976710656 := by
        have := grows_quarter (show cap < n + m by omega)
        rw [hby]; omega
      have hxl : xs.length = n := by have := hown.1; omega
      have hrun := run_append_grow (P := Tryd.prog) w 22 ty 5 i (.int .u8 0) Tryd.underlying22 hi hz ⟨g, 0, none⟩ n cap xs (by rw [hsize]; exact hown.1) (hown.cells (g := g) rfl) ⟨b, off, none⟩ m c (zs.map (Value.int .u8)) (by rw [hsize]; exact hl) hnews (by omega) (by omega) hfit
      refine ⟨_, _, hrun, ⟨by rw [List.length_append, hxl, List.length_map, hr.1, Nat.mul_one], .inr ⟨w.heap.size, _, _, rfl, hbase, heap_alloc_new w.drew _, grownCap_ge w _ _ _, grownCap_le_maxLen w _ _ _ (by unfold maxLen; omega), ?_, ?_⟩⟩,
        ⟨rfl, rfl, rfl, by simp, fun k hk _ => Below.heap_alloc w.drew _ k hk⟩⟩
      · have hge := grownCap_ge w (n + m) cap 5
        have hone : (Value.int .u8 0).cells.size = 1 := rfl
        rw [Array.size_append, Array.size_append, size_zeroCells, hone, List.size_toArray, List.size_toArray, hxl, List.length_map, hr.1]
        omega
      · rw [Array.toList_append, Array.toList_append, List.take_append_of_le_length (by simp [hxl, hr.1]), List.take_of_length_le (by simp [hxl, hr.1])]
theorem wpList_append_wide {w : World} {ops : Array Oper} {rest : List Oper} {o : Oper} {a : Act} {Q : Exit → Act → World → Prop} (hgd : o.guard = none) (s x : Operand)
    (ho : o.op = .call { callee := .builtin .append, args := #[s, x], argTypes := #[22, 22] })
    (base : Nat) (i : TypeInfo) (hi : Tryd.prog.info? 5 = some i) (hz : i.zero = some (.int .u8 0)) (hsize : i.size = 1) (hby : i.bytes = 1)
    (v : Value) (n : Nat) (xs : List Value) (hs : a.eval s = v) (hown : w.ownsRow base 5 1 v n xs) (A : Option Addr) (m c : Nat) (zs : List Int) (hx : a.eval x = .slice A m c) (hr : Reads w A m zs) (hn : n ≤ 1048576) (hm : m ≤ 140737488355328) (hbase : base ≤ w.heap.size)
    (h : ∀ v' w', w'.ownsRow base 5 1 v' (n + m) (xs ++ zs.map (Value.int .u8)) → w.grownBy w' v.ownBlock → wpList Tryd.prog ops Q rest (a.put o.dst v') w') : wpList Tryd.prog ops Q (o :: rest) a w := by
  refine wpList_plain hgd fun K hK => ?_
  obtain ⟨v', w', hrun, h2, h3⟩ := run_append_wide w base o.type i hi hz hsize hby v n xs hown A m c zs hr hn hm hbase
  unfold Oper.wp execOp
  simp only [ho, resolve, invoke, builtin, Sem.run_bind, Sem.run_pure, Result.andThen_ok, List.map_toArray, List.map_cons, List.map_nil, hs, hx, hrun]
  exact hK _ _ (h v' w' h2 h3)

/-! ### Parts -/
/-- A part of bytes that read reads as the part. -/
theorem sub_any {w : World} {A : Option Addr} {len cap : Nat} {zs : List Int} (hR : Reads w A len zs) (hc : len ≤ cap) (l h : Nat) (hlh : l ≤ h) (hh : h ≤ len) :
    ∃ A' c', (∀ W : World, (Instr.slice 22 (.slice A len cap) (some (.int .i64 (l : Int))) (some (.int .i64 (h : Int))) none).run Tryd.prog W = .ok (.slice A' (h - l) c') W) ∧
      Reads w A' (h - l) ((zs.drop l).take (h - l)) ∧ h - l ≤ c' ∧ c' ≤ cap ∧ (A ≠ none → A' ≠ none) := by
  obtain ⟨i0, hi, hz0, hz1, hz2⟩ := info_parts info5
  refine ⟨if cap = l then A else A.map (·.add (l * 1)), cap - l, fun W => ?_, ?_, by omega, by omega, fun hA => ?_⟩
  · rw [run_slice_lh (P := Tryd.prog) (w := W) 22 A len cap Tryd.underlying22 .i64 .i64 (l : Int) (h : Int) (by omega) (by omega) (by omega)]
    have e : Tryd.prog.elem 22 = 5 := by kernel_rfl
    simp [e, sizeOf, typeInfo, hi, hz1, sliced]
  · have hB := hR.bys
    obtain ⟨h1, h2, _⟩ := hR
    refine reads_mk (by rw [List.length_take, List.length_drop]; omega) (fun hp => ?_) (bys_take _ (bys_drop _ hB))
    obtain ⟨b, off, rfl, hcell⟩ := h2 (by omega)
    rw [if_neg (by omega)]
    refine ⟨b, off + l, by simp [Go.WideShapes.add_plain], fun i hi => ?_⟩
    rw [Nat.add_assoc, hcell (l + i) (by omega), List.getD_eq_getElem?_getD, List.getD_eq_getElem?_getD, List.getElem?_take, if_pos hi, List.getElem?_drop]
  · split
    · exact hA
    · cases A with
      | none => exact absurd rfl hA
      | some a => simp
theorem sub_from {w : World} {A : Option Addr} {len cap : Nat} {zs : List Int} (hR : Reads w A len zs) (hc : len ≤ cap) (l : Nat) (hl : l ≤ len) :
    ∃ A' c', (∀ W : World, (Instr.slice 22 (.slice A len cap) (some (.int .i64 (l : Int))) none none).run Tryd.prog W = .ok (.slice A' (len - l) c') W) ∧
      Reads w A' (len - l) (zs.drop l) ∧ len - l ≤ c' ∧ c' ≤ cap := by
  obtain ⟨A', c', h1, h2, h3, h4, _⟩ := sub_any hR hc l len hl (Nat.le_refl _)
  refine ⟨A', c', fun W => ?_, ?_, h3, h4⟩
  · rw [← h1 W, run_slice_lh (P := Tryd.prog) (w := W) 22 A len cap Tryd.underlying22 .i64 .i64 (l : Int) (len : Int) (by omega) (by omega) (by omega),
      run_slice_l (P := Tryd.prog) (w := W) 22 A len cap Tryd.underlying22 .i64 (l : Int) (by omega) (by omega)]
    simp
  · rw [List.take_of_length_le (by rw [List.length_drop, hR.1]; exact Nat.le_refl _)] at h2
    exact h2
theorem sub_to {w : World} {A : Option Addr} {len cap : Nat} {zs : List Int} (hR : Reads w A len zs) (hc : len ≤ cap) (h : Nat) (hh : h ≤ len) :
    ∃ A' c', (∀ W : World, (Instr.slice 22 (.slice A len cap) none (some (.int .i64 (h : Int))) none).run Tryd.prog W = .ok (.slice A' h c') W) ∧ Reads w A' h (zs.take h) ∧ h ≤ c' ∧ c' ≤ cap := by
  obtain ⟨A', c', h1, h2, h3, h4, _⟩ := sub_any hR hc 0 h (by omega) hh
  refine ⟨A', c', fun W => ?_, h2, h3, h4⟩
  rw [show (h : Nat) - 0 = h from rfl] at h1
  rw [← h1 W, run_slice_lh (P := Tryd.prog) (w := W) 22 A len cap Tryd.underlying22 .i64 .i64 ((0 : Nat) : Int) (h : Int) (by omega) (by omega) (by omega),
    run_slice_h (P := Tryd.prog) (w := W) 22 A len cap Tryd.underlying22 .i64 (h : Int) (by omega) (by omega)]
  simp

/-! ### Bytes as a string -/
theorem conv_reads {W : World} {A : Option Addr} {m c : Nat} {zs : List Int} (hR : Reads W A m zs) : (convert 22 9 (.slice A m c)).run Tryd.prog W = .ok (.string (strOfNums zs)) W := by
  obtain ⟨h1, h2, _⟩ := id hR
  rcases Nat.eq_zero_or_pos m with h0 | h0
  · subst h0
    have hz : zs = [] := List.eq_nil_of_length_eq_zero h1
    subst hz
    cases A with
    | none => exact run_convert_bytes_nil W 22 5 Tryd.underlying22 Tryd.underlying5 0 c 9 Tryd.underlying9
    | some ad =>
      rw [run_convert_bytes_string W 22 9 5 (some ad) 0 c Tryd.underlying22 Tryd.underlying5 Tryd.underlying9, run_bytesToString W ad 0 c [] (by simp [loadCells, loadCellsFrom, Sem.run_pure])]
      rfl
  · obtain ⟨b, off, rfl, hc⟩ := h2 h0
    exact run_convert_bytes_arg W 22 5 Tryd.underlying22 Tryd.underlying5 b off m c zs h1 hc 9 Tryd.underlying9
/-- The bytes of a string. -/
def sb (s : ByteArray) : List Int := s.data.toList.map fun c => (c.toNat : Int)
theorem sb_bys (s : ByteArray) : Bys (sb s) := fun z h => by
  obtain ⟨c, _, rfl⟩ := List.mem_map.1 h
  have : c.toNat < 256 := c.toNat_lt
  omega
theorem sb_str {l : List Int} (h : Bys l) : sb (strOfNums l) = l := by
  simp only [strOfNums, sb, List.map_map]
  conv => rhs; rw [← List.map_id l]
  apply List.map_congr_left
  intro c hc
  have := h c hc
  simp only [Function.comp, id]
  have e : (UInt8.ofNat c.toNat).toNat = c.toNat % 256 := by simp
  rw [e]; omega
theorem str_inj {a b : List Int} (ha : Bys a) (hb : Bys b) (h : strOfNums a = strOfNums b) : a = b := by
  rw [← sb_str ha, ← sb_str hb, h]
theorem strCells_sb (s : ByteArray) : Lib.strCells s = (sb s).map (Value.int .u8) := by
  simp [Lib.strCells, sb, List.map_map, Function.comp]
theorem str_size (l : List Int) : (strOfNums l).size = l.length := by
  simp [strOfNums, ByteArray.size]
end Go.Proofs.YtkellgofdfpjpaaDoor
