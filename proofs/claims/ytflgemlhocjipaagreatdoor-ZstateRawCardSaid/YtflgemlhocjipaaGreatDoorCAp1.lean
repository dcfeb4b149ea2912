/-
  What slices.Repeat returns of six numbers, at most six times. Condition: memory holds them.
  A range over a function whose body always goes on, where the body is told what the iterator knows of the world in which it hands an element over. No condition.
  What slices.Collect returns of slices.Chunk over at most six times six fields: the pieces, six by six. Condition: memory holds them.
  What apart returns of a head, a part of six fields and bytes that read. Conditions: the head has fields, no more than a hundred; the slice fits.
-/
import Derived.Test.YtflgemlhocjipaaGreatDoorCMath
import Derived.Test.YtflgemlhocjipaaGreatDoorShelf
import Derived.Test.YtflgemlhocjipaaGreatDoorLEq
import Derived.Test.YtflgemlhocjipaaGreatDoorQKinds
import Derived.Shelf.Bits.Mul64
import Derived.RangeFuncNested
import Derived.RangeFuncBound
import Derived.RangeFuncCalls
import Derived.RangeFuncLeaves
import Derived.RangeFuncBox
import Derived.Test.YtflgemlhocjipaaGreatDoorSMem
import Derived.Shelf.Abstract
import Derived.Shelf.RegionOpen
import Derived.OwnWalkIn
import Derived.TacticsInMore
import Derived.LoopNIn
import Derived.LoopIn
import Derived.Maps.AppendAt
import Derived.Sort.QuietIn
import Derived.BigRegionIn
import Derived.Lib.MinMax
import Derived.Test.YtflgemlhocjipaaGreatDoorQDec
namespace Go.Proofs.YtflgemlhocjipaaGreatDoor.P1
set_option maxRecDepth 100000
open Go.ChangeShapes Go.WideShapes Go.ChangeAt Go.RowKit Go.Proofs.Zn Go.Proofs.Zt
open Go.Proofs.Zs (St Lst Rep Tx)
open Pq (Fld FReads Reads fcs errL bytL)

theorem bmul_any1 (x y : Nat) (hx : x < 18446744073709551616) (hy : y < 18446744073709551616) (w : World) :
    Calls Tryz.prog 135 #[.int .u64 x, .int .u64 y] w fun e w' => e = .returned (.tuple #[.int .u64 ((x * y / 18446744073709551616 : Nat) : Int), .int .u64 ((x * y % 18446744073709551616 : Nat) : Int)]) ∧ w' = w := Any.bits_Mul lays212 x y hx hy w
theorem rep_get1 {xs : List Int} (h6 : xs.length = 1) : ∀ (m i : Nat), i < m * 1 → (rep m xs)[i]? = xs[i % 1]?
  | 0, i, h => absurd h (by omega)
  | m + 1, i, h => by
    rw [rep_succ]
    by_cases hi : i < 1
    · rw [List.getElem?_append_left (by omega), Nat.mod_eq_of_lt hi]
    · rw [List.getElem?_append_right (by omega), h6, rep_get1 h6 m (i - 1) (by omega)]
      congr 1
      omega
theorem rep_is1 {xs zs : List Int} {m : Nat} (h6 : xs.length = 1) (hl : zs.length = m * 1) (h : ∀ i, i < m * 1 → zs[i]? = xs[i % 1]?) : zs = rep m xs := by
  apply List.ext_getElem?
  intro i
  by_cases hi : i < m * 1
  · rw [h i hi, rep_get1 h6 m i hi]
  · rw [List.getElem?_eq_none (by omega), List.getElem?_eq_none (by rw [rep_length, h6]; omega)]
theorem reads_blk1 {w : World} {g c : Nat} {zs : List Int} (h : w.heap[g]? = some (.cells (zs.map (Value.int .i64)).toArray 3 (0, 0))) (hl : zs.length = c) : Reads .i64 w (some ⟨g, 0, none⟩) c zs := by
  refine ⟨hl, fun _ => ⟨g, 0, rfl, fun i hi => ?_⟩⟩
  rw [Nat.zero_add]
  refine cell_of h ?_
  have hi' : i < zs.length := by omega
  rw [List.getElem?_toArray, List.getElem?_map, List.getElem?_eq_getElem hi', List.getD_eq_getElem?_getD, List.getElem?_eq_getElem hi']
  rfl
theorem isl_from1 (g n k : Nat) (hk : k < n) (W : World) : (Instr.slice 120 (.slice (some ⟨g, 0, none⟩) n n) (some (.int .i64 (k : Int))) none none).run Tryz.prog W = .ok (.slice (some ⟨g, k, none⟩) (n - k) (n - k)) W := by
  obtain ⟨i0, hi, hz0, hz1, hz2⟩ := info_parts Pq.info3
  have e : Tryz.prog.elem 120 = 3 := by kernel_rfl
  rw [run_slice_l (P := Tryz.prog) (w := W) 120 (some ⟨g, 0, none⟩) n n Tryz.underlying120 .i64 (k : Int) (by omega) (by omega)]
  have hne : ¬ n = k := by omega
  simp [e, sizeOf, typeInfo, hi, hz1, sliced, hne, Go.WideShapes.add_plain]
theorem isl_to1 (g n k : Nat) (hk : k ≤ n) (W : World) : (Instr.slice 120 (.slice (some ⟨g, 0, none⟩) n n) none (some (.int .i64 (k : Int))) none).run Tryz.prog W = .ok (.slice (some ⟨g, 0, none⟩) k n) W := by
  obtain ⟨i0, hi, hz0, hz1, hz2⟩ := info_parts Pq.info3
  have e : Tryz.prog.elem 120 = 3 := by kernel_rfl
  rw [run_slice_h (P := Tryz.prog) (w := W) 120 (some ⟨g, 0, none⟩) n n Tryz.underlying120 .i64 (k : Int) (by omega) (by omega)]
  simp [e, sizeOf, typeInfo, hi, hz1, sliced, Go.WideShapes.add_plain]
/-- A copy into a row of numbers. -/
theorem icopy1 {W : World} {g p dl dc sl sc T : Nat} {a : Addr} {zs ys : List Int} (h : W.heap[g]? = some (.cells (zs.map (Value.int .i64)).toArray 3 (0, 0))) (hz : zs.length = T) (hy : ys.length = Nat.min sl dl) (hf : p + ys.length ≤ T)
    (hs : ∀ j v, ys[j]? = some v → W.cell? (a.add j) = some (.int .i64 v)) (ty : TypeId) :
    (Builtin.copy_ #[120, 120] ty #[.slice (some ⟨g, p, none⟩) dl dc, .slice (some a) sl sc]).run Tryz.prog W = .ok (goInt (Nat.min sl dl)) (W.setCells g p (ys.map (Value.int .i64))) := by
  refine Lq.run_copy_size (P := Tryz.prog) W 120 120 ty 3 g p dl dc a sl sc 1 (ys.map (Value.int .i64)) Tryz.underlying120 (by kernel_rfl) (by rw [List.length_map, hy]; omega) (fun j v hv => ?_) (fun j hj => ?_) (fun j _ => frozen_of_row W g _ _ _ h) (fun v hv => ?_)
  · rw [List.getElem?_map] at hv
    cases e : ys[j]? with
    | none => rw [e] at hv; cases hv
    | some x => rw [e] at hv; injection hv with hv; rw [← hv]; exact hs j x e
  · rw [List.length_map] at hj
    rw [cell_of_row W g (p + j) _ _ _ h, Array.getElem?_eq_getElem (by simp; omega)]
    rfl
  · obtain ⟨x, _, rfl⟩ := List.mem_map.1 hv
    rfl
theorem icopy_blk1 {W : World} {g p T : Nat} {zs ys : List Int} (h : W.heap[g]? = some (.cells (zs.map (Value.int .i64)).toArray 3 (0, 0))) (hz : zs.length = T) (hf : p + ys.length ≤ T) :
    (W.setCells g p (ys.map (Value.int .i64))).heap[g]? = some (.cells ((zs.take p ++ ys ++ zs.drop (p + ys.length)).map (Value.int .i64)).toArray 3 (0, 0)) := by
  rw [Lq.setCells_block _ p W _ h (by simp; omega)]
  simp [splice]
/-- What stands there once k more have been copied. -/
theorem cy_next1 {xs zs : List Int} {p k T : Nat} (hz : zs.length = T) (hp6 : p % 1 = 0) (hkp : k ≤ p) (hk : p + k ≤ T) (h : ∀ i, i < p → zs[i]? = xs[i % 1]?) : ∀ i, i < p + k → (zs.take p ++ zs.take k ++ zs.drop (p + (zs.take k).length))[i]? = xs[i % 1]? := by
  intro i hi
  have l1 : (zs.take p).length = p := by rw [List.length_take]; omega
  have l2 : (zs.take k).length = k := by rw [List.length_take]; omega
  by_cases hip : i < p
  · rw [List.append_assoc, List.getElem?_append_left (by omega), List.getElem?_take, if_pos hip]
    exact h i hip
  · rw [List.append_assoc, List.getElem?_append_right (by omega), l1, List.getElem?_append_left (by omega), List.getElem?_take, if_pos (by omega), h (i - p) (by omega)]
    congr 1
    omega
theorem cy_len1 {zs : List Int} {p k T : Nat} (hz : zs.length = T) (hk : p + k ≤ T) : (zs.take p ++ zs.take k ++ zs.drop (p + (zs.take k).length)).length = T := by
  simp [List.length_take]
  omega
set_option maxHeartbeats 4000000 in
theorem repeat_any1 {w : World} {b off c m : Nat} {xs : List Int} (hR : Reads .i64 w (some ⟨b, off, none⟩) 1 xs) (hm : m ≤ 6) : Calls Tryz.prog 99 #[.slice (some ⟨b, off, none⟩) 1 c, .int .i64 (m : Int)] w fun e w' => ∃ A c', e = .returned (.slice A (m * 1) c') ∧ Reads .i64 w' A (m * 1) (rep m xs) ∧ Below w.heap.size w w' := by
  obtain ⟨T, hT⟩ : ∃ T, T = m * 1 := ⟨_, rfl⟩
  have hT36 : T ≤ 36 := by omega
  obtain ⟨i0, hi, hz0, hz1, hz2⟩ := info_parts Pq.info3
  have hmk := fun (w : World) => run_make (w := w) (P := Tryz.prog) 120 3 i0 (.int .i64 0) Tryz.underlying120 hi hz0 .i64 .i64 (T : Int) (T : Int) (by omega) (Int.le_refl _) (by rw [hz2]; omega) (by omega)
  obtain ⟨w1, hw1⟩ : ∃ w1, w1 = w.alloc (.cells (madeCells #[.int .i64 0] T) 3) := ⟨_, rfl⟩
  obtain ⟨g, eg⟩ : ∃ g, g = w.heap.size := ⟨_, rfl⟩
  have hb1 : Below w.heap.size w w1 := by rw [hw1]; exact box_below w _
  have hg1 : w1.heap[g]? = some (.cells ((List.replicate T (0 : Int)).map (Value.int .i64)).toArray 3 (0, 0)) := by
    rw [hw1, eg]
    have := new_block w (.cells (madeCells #[.int .i64 0] T) 3)
    rw [this]
    congr 2
    apply Array.ext'
    rw [toList_madeCells_one]
    simp
  have h6 : xs.length = 1 := hR.1
  have HR1 := Lib.hid (hR.kept hb1)
  have HB1 := Lib.hid hb1
  have HG1 := Lib.hid hg1
  have HW1 := Lib.hid hw1
  have EG := Lib.hid eg
  have HMU := Lib.hid (fun W => bmul_any1 1 m (by omega) (by omega) W)
  have hhi : (1 * m / 18446744073709551616 : Nat) = 0 := by omega
  have hlo : (1 * m % 18446744073709551616 : Nat) = T := by omega
  rw [hhi, hlo] at HMU
  have HT := Lib.hid hT
  have H6 := Lib.hid h6
  have hTi : (0 : Int) ≤ (T : Int) := by omega
  have hTm : (T : Int) ≤ 36 := by omega
  have hmi : ¬ (m : Int) < 0 := by omega
  have hmj : decide ((m : Int) < 0) = false := by simp
  have hm0 : (0 : Int) ≤ (m : Int) := by omega
  have hm6 : (m : Int) ≤ 6 := by omega
  -- the first copy
  obtain ⟨p, hp⟩ : ∃ p, p = min 1 T := ⟨_, rfl⟩
  have hpm : Nat.min 1 T = p := hp.symm
  have hpT : p ≤ T := by omega
  have hp6 : p % 1 = 0 := by
    by_cases e : m = 0
    · rw [hp, hT, e]; decide
    · have : p = 1 := by omega
      rw [this]
  have HP0 : Hid (p = 0 → T = 0) := Lib.hid (fun e => by omega)
  have hcp : ∀ ty : TypeId, (Builtin.copy_ #[120, 120] ty #[.slice (some ⟨g, 0, none⟩) T T, .slice (some ⟨b, off, none⟩) 1 c]).run Tryz.prog w1 = .ok (goInt p) (w1.setCells g 0 ((xs.take p).map (Value.int .i64))) := fun ty => by
    have := icopy1 (sl := 1) (dl := T) (dc := T) (sc := c) (p := 0) (ys := xs.take p) (a := ⟨b, off, none⟩) hg1 (List.length_replicate ..) (by rw [List.length_take, h6, hpm]; omega) (by rw [List.length_take]; omega) (fun j v hv => by
    obtain ⟨b9, off9, e9, hc9⟩ := HR1.out.2 (by omega)
    injection e9 with e9
    injection e9 with e9 e8
    subst e9; subst e8
    have hj : j < 1 := by
      have := (List.getElem?_eq_some_iff.1 hv).1
      rw [List.length_take] at this
      omega
    have := hc9 j hj
    rw [Go.WideShapes.add_plain, this]
    have hv2 : xs[j]? = some v := by
      rw [List.getElem?_take] at hv
      split at hv
      · exact hv
      · cases hv
    rw [List.getD_eq_getElem?_getD, hv2]
    rfl) ty
    rw [hpm] at this
    exact this
  obtain ⟨w2, hw2⟩ : ∃ w2, w2 = w1.setCells g 0 ((xs.take p).map (Value.int .i64)) := ⟨_, rfl⟩
  have hb2 := icopy_blk1 (p := 0) (ys := xs.take p) hg1 (List.length_replicate ..) (by rw [List.length_take]; omega)
  rw [← hw2] at hb2 hcp
  have HB2 : Hid (Below w.heap.size w w2) := Lib.hid (by rw [hw2]; exact hb1.trans (gb_to (Lq.setCells_grown _ _ _) (Nat.le_of_eq eg.symm) hb1.size))
  have HZ2 : Hid (∃ zs : List Int, zs.length = T ∧ (∀ i, i < p → zs[i]? = xs[i % 1]?) ∧ w2.heap[g]? = some (.cells (zs.map (Value.int .i64)).toArray 3 (0, 0))) := Lib.hid ⟨_, by simp; omega, fun i hi => by
    have hp66 : p ≤ 1 := by omega
    rw [List.take_zero, List.nil_append, List.getElem?_append_left (by rw [List.length_take]; omega), List.getElem?_take, if_pos hi, Nat.mod_eq_of_lt (by omega)], hb2⟩
  clear hR hw1 eg hb1 hg1 hT hw2 hb2 hhi hlo hp hpm h6
  go_enter Tryz.func99, Tryz.ntmps99
  go_wp2_with fail
  refine (HMU.out _).mono ?_
  rintro e w9 ⟨rfl, hw9⟩
  rw [hw9]
  clear hw9
  go_upto_region 7 with fail
  rw [← HW1.out, ← EG.out]
  go_wp2_with fail
  clear hcp
  go_loopw [8] (fun i wr => ∃ (p : Nat), p ≤ T ∧ p % 1 = 0 ∧ (p = 0 → T = 0) ∧ i = .int .i64 p ∧ Hid (∃ zs : List Int, zs.length = T ∧ (∀ i, i < p → zs[i]? = xs[i % 1]?) ∧ wr.heap[g]? = some (.cells (zs.map (Value.int .i64)).toArray 3 (0, 0))) ∧ Hid (Below w.heap.size w wr)) (fun i _ => T - (intOf i).toNat)
  case atStart => exact ⟨p, hpT, hp6, HP0.out, rfl, HZ2, HB2⟩
  case round =>
    obtain ⟨p, hpT, hp6, hp0, rfl, HZ, HX⟩ := hrel
    by_cases hlt : p < T
    · obtain ⟨zs, hz, hc, hb⟩ := HZ.out
      have hpos : 0 < p := by omega
      obtain ⟨k, hk⟩ : ∃ k, k = min p (T - p) := ⟨_, rfl⟩
      have hkm : Nat.min p (T - p) = k := hk.symm
      have hkp : k ≤ p := by omega
      have hkT : p + k ≤ T := by omega
      have hk6 : (p + k) % 1 = 0 := by
        have hT6 : T % 1 = 0 := by rw [HT.out]; omega
        by_cases e : p ≤ T - p
        · have : k = p := by omega
          omega
        · have : k = T - p := by omega
          omega
      have hk1 : 0 < k := by omega
      have HPK : Hid (p + k = 0 → T = 0) := Lib.hid (fun e => by omega)
      have hpi : (p : Int) < (T : Int) := by omega
      have hp00 : (0 : Int) ≤ (p : Int) := by omega
      have hwp : IntKind.i64.wrap ((p : Int) + (k : Int)) = ((p + k : Nat) : Int) := by rw [IntKind.wrap_i64]; omega
      have hs1 := isl_from1 g T p hlt
      have hs2 := isl_to1 g T p hpT
      obtain ⟨w3, hw3⟩ : ∃ w3, w3 = wr.drew.setCells g p ((zs.take k).map (Value.int .i64)) := ⟨_, rfl⟩
      have hbd : wr.drew.heap[g]? = some (.cells (zs.map (Value.int .i64)).toArray 3 (0, 0)) := hb
      have hcp : ∀ ty : TypeId, (Builtin.copy_ #[120, 120] ty #[.slice (some ⟨g, p, none⟩) (T - p) (T - p), .slice (some ⟨g, 0, none⟩) p T]).run Tryz.prog wr.drew = .ok (goInt k) w3 := fun ty => by
        have := icopy1 (W := wr.drew) (sl := p) (dl := T - p) (dc := T - p) (sc := T) (p := p) (ys := zs.take k) (a := ⟨g, 0, none⟩) hbd hz (by rw [List.length_take, hz, hkm]; omega) (by rw [List.length_take]; omega) (fun j v hv => by
          have hj : j < k := by
            have := (List.getElem?_eq_some_iff.1 hv).1
            rw [List.length_take] at this
            omega
          rw [Go.WideShapes.add_plain, Nat.zero_add]
          refine cell_of hbd ?_
          rw [List.getElem?_toArray, List.getElem?_map]
          have hv2 : zs[j]? = some v := by rw [List.getElem?_take, if_pos hj] at hv; exact hv
          rw [hv2]
          rfl) ty
        rw [hkm] at this
        rw [hw3]
        exact this
      have hb3 := icopy_blk1 (p := p) (ys := zs.take k) hbd hz (by rw [List.length_take]; omega)
      rw [← hw3] at hb3
      have HB3 : Hid (Below w.heap.size w w3) := Lib.hid (by rw [hw3]; exact HX.out.drew.trans ((gb_to (Lq.setCells_grown _ _ _) (by rw [EG.out]; exact Nat.le_refl _) HX.out.size)))
      have HZ3 : Hid (∃ zs : List Int, zs.length = T ∧ (∀ i, i < p + k → zs[i]? = xs[i % 1]?) ∧ w3.heap[g]? = some (.cells (zs.map (Value.int .i64)).toArray 3 (0, 0))) := Lib.hid ⟨_, cy_len1 hz hkT, cy_next1 hz hp6 hkp hkT hc, hb3⟩
      clear hz hc hb hbd hb3 hw3 hk hkm hp0
      go_upto_region 9 with fail
      go_region
      all_goals
        go_wp2_with fail
        go_roundw
        case rel => exact ⟨p + k, hkT, hk6, HPK.out, by first | rfl | go_num, HZ3, HB3⟩
        case measure => simp [intOf]; omega
    · obtain rfl : p = T := by omega
      have hpi : ¬ (p : Int) < (p : Int) := by omega
      have HE : Hid (∃ A, (∃ c', (Ending.returned (.slice (some ⟨g, 0, none⟩) p p)) = .returned (.slice A (m * 1) c')) ∧ Reads .i64 wr A (m * 1) (rep m xs) ∧ Below w.heap.size w wr) := Lib.hid (by
        obtain ⟨zs, hz, hc, hb⟩ := HZ.out
        have hT := HT.out
        refine ⟨some ⟨g, 0, none⟩, ⟨p, by rw [hT]⟩, ?_, HX.out⟩
        have e := rep_is1 H6.out (by rw [hz]; exact hT) (by rw [← hT]; exact hc)
        rw [← e]
        exact reads_blk1 hb (by rw [hz]; exact hT))
      go_wp2_with fail
      exact bodyPost_ret (v := .slice (some ⟨g, 0, none⟩) p p) (by simp [results, Tryz.results99, go_sem]) rfl (by simpa using HE.out)
end Go.Proofs.YtflgemlhocjipaaGreatDoor.P1
namespace Go.Proofs.YtflgemlhocjipaaGreatDoor
open Go.RowKit Go.WideShapes

/-- How a round's body may end: where it goes on. -/
def goesOn {α : Type} (B : Nat) (I : List α → World → Prop) (xs : List α) (W : World) (e : Exit) (_ : Act) (W' : World) : Prop := e = .normal ∧ KeepsFrom B W W' ∧ I xs W'
theorem grown_of_below {X Y : World} (h : Below X.heap.size X Y) : X.grownBy Y none := ⟨h.os, h.tape, h.output, h.size, fun k hk _ => h.block k hk⟩
theorem range_on {P : Program} {α : Type} {n : Nat} {g : Operand} {ps : Array Tmp} {assign body : Code} {Q : Exit → Act → World → Prop} {a : Act} {w : World} {gf : Nat} {lb : Array Value}
    (hg : a.eval g = .func (.func gf) #[] lb) (eg : ∀ args w, (callFunc gf args).run P w = .ok (.enter gf args) w) {encs : α → Array Value} (hps : ∀ x, (encs x).size = ps.size)
    {R : List α → α → World → Prop} (hR : ∀ pre x, OwnFrom w.heap.size (fun (_ : Unit) W => R pre x W)) {S : List α → Prop} {I : List α → World → Prop} (hI : OwnFrom w.heap.size I) (h0 : I [] w)
    (hseq : ∀ (l : Nat) (J : List α → World → Prop), (∀ pre X Y, J pre X → Below X.heap.size X Y → J pre Y) → (∀ pre X, J pre X → I pre X) →
      (∀ pre x X, J pre X → R pre x X → YieldAt Fence.wide (n - 1 - 1) P l (encs x) X fun e Y => e = .returned (.bool true) ∧ J (pre ++ [x]) Y) →
      ∀ W, Below w.heap.size w W → J [] W → CallsIn Fence.wide (n - 1) P gf (#[.func (.yield l) #[] #[]] ++ lb) W fun e Y => (∃ v, e = .returned v) ∧ ∃ xs, S xs ∧ J xs Y)
    (a₁ : α → Act)
    (hassign : ∀ (l : Nat) (x : α) (W : World) (K : Act → World → Prop), K (a₁ x) W →
      assign.wpIn (Fence.wide.inRound l) (n - 1 - 1) P (Exit.then K (fun _ _ _ => False)) { tmps := (ps.zip (encs x)).foldl (fun t (p, v) => t.setIfInBounds p v) a.tmps, defers := [] } W)
    (hbody : ∀ (l : Nat) (pre : List α) (x : α) (W : World), I pre W → R pre x W → body.wpIn (Fence.wide.inRound l) (n - 1 - 1) P (goesOn w.heap.size I (pre ++ [x]) W) (a₁ x) W)
    (hdone : ∀ (D : Nat) (xs : List α) (W : World), w.heap.size ≤ D → S xs → I xs W → W.heap[D]? = some (.deferred (some [])) → Q .normal { a with defers := { target := .collected D, args := #[] } :: a.defers } W) :
    (Code.rangeFunc g ps assign body).wpIn Fence.wide n P Q a w := by
  refine wpIn_rangeFunc fun fn hfn => ?_
  obtain ⟨D, hD⟩ : ∃ D, D = w.heap.size := ⟨_, rfl⟩
  obtain ⟨rc, hrc⟩ : ∃ rc : LoopState → Loop, rc = fun st => { state := st, pending := none, fn, tmps := a.tmps, params := ps, assign, body, defers := D } := ⟨_, rfl⟩
  obtain ⟨w1, hw1⟩ : ∃ w1, w1 = (w.alloc (.deferred (some []))).alloc (.loop (rc .ready)) := ⟨_, rfl⟩
  have hl1 : w1.heap[D + 1]? = some (.loop (rc .ready)) := by
    have h := World.alloc_heap_new (w.alloc (.deferred (some []))) (.loop (rc .ready))
    rw [World.size_alloc, ← hw1, ← hD] at h
    exact h
  have hk1 : w1.heap[D]? = some (.deferred (some [])) := by
    rw [hw1, hD]; exact (Below.heap_alloc _ _ _ (by simp)).trans (World.alloc_heap_new w _)
  have hi1 : I [] w1 := by rw [hw1]; exact hI.alloc _ (hI.alloc _ h0)
  have hb1 : Below w.heap.size w w1 := by rw [hw1]; exact ((Below.refl _ w).alloc (Nat.le_refl _) _).alloc (by simp) _
  have hent : (Instr.enterLoop fn a.tmps ps assign body none).run P w = .ok (D + 1, [{ target := .collected D, args := #[] }]) w1 := by
    rw [hw1, hrc, hD]; exact run_enterLoop_outer _ _ _ _ _
  refine ⟨D + 1, [{ target := .collected D, args := #[] }], w1, { target := .fn (.func gf) lb, args := #[.func (.yield (D + 1)) #[] #[]] }, w1, gf, #[.func (.yield (D + 1)) #[] #[]] ++ lb, w1, hent, ?_, fun _ _ => trivial, ?_, (fun h => by cases h), ?_⟩
  · simp only [resolve, hg]
    simp [go_sem]
  · simp [invoke, go_sem, eg]
  · refine (hseq (D + 1) (fun pre X => I pre X ∧ X.heap[D + 1]? = some (.loop (rc .ready)) ∧ X.heap[D]? = some (.deferred (some []))) ?_ (fun _ _ h => h.1) ?_ w1 hb1 ⟨hi1, hl1, hk1⟩).mono ?_
    · rintro pre X Y ⟨hi, hl, hk⟩ hb
      exact ⟨hI pre X Y none hi (grown_of_below hb) (fun r e => by cases e), (hb.block _ (Array.getElem?_eq_some_iff.1 hl).1).trans hl, (hb.block _ (Array.getElem?_eq_some_iff.1 hk).1).trans hk⟩
    · rintro pre x X ⟨hi, hl, hk⟩ hr
      have hlt := (Array.getElem?_eq_some_iff.1 hl).1
      have hy := run_yield (P := P) (args := encs x) hl (by rw [hrc]; exact hps x)
      rw [hrc] at hy
      obtain ⟨X2, hX2⟩ : ∃ X2, X2 = X.putObj (D + 1) (.loop (rc .busy)) := ⟨_, rfl⟩
      have hbr : (Instr.beginRound (D + 1)).run P X = .ok () X2 := by rw [hX2, run_beginRound hl (by rw [hrc]), hrc]
      have hl2 : X2.heap[D + 1]? = some (.loop (rc .busy)) := by rw [hX2]; exact World.putObj_heap_same hlt
      have hk2 : X2.heap[D]? = some (.deferred (some [])) := by rw [hX2]; exact (World.putObj_heap_other (by omega)).trans hk
      have hi2 : I pre X2 := by rw [hX2]; exact hI.putObj _ hi (by omega) hl rfl
      have hr2 : R pre x X2 := by rw [hX2]; exact (hR pre x).putObj (s := ()) _ hr (by omega) hl rfl
      refine ⟨fn, _, assign, body, hy, roundIn_of_wpIn hfn (hassign _ x X _ ⟨X2, hbr, wpIn_mono (hbody _ pre x X2 hi2 hr2) ?_⟩)⟩
      rintro e a3 X3 ⟨rfl, hkf, hi3⟩
      have hl3 := hkf.same _ _ (by omega) hl2 rfl
      have hk3 := hkf.same _ _ (by omega) hk2 rfl
      have her := run_endRound (P := P) none hl3
      refine ⟨_, _, her, rfl, hI.putObj _ hi3 (by omega) hl3 rfl, ?_, (World.putObj_heap_other (by omega)).trans hk3⟩
      rw [hrc]
      exact World.putObj_heap_same (Array.getElem?_eq_some_iff.1 hl3).1
    · rintro e Y ⟨⟨v, rfl⟩, xs, hS, hi, hl, hk⟩
      have hen := run_endLoop (P := P) hl (by rw [hrc]; simp)
      refine ⟨none, _, (by rw [hrc] at hen; exact hen), ?_⟩
      exact hdone D xs _ (by omega) hS (hI.putObj _ hi (by omega) hl rfl) ((World.putObj_heap_other (by omega)).trans hk)
end Go.Proofs.YtflgemlhocjipaaGreatDoor
namespace Go.Proofs.YtflgemlhocjipaaGreatDoor.P1
set_option maxRecDepth 100000
open Go.ChangeShapes Go.WideShapes Go.ChangeAt Go.RowKit Go.Proofs.Zn Go.Proofs.Zt
open Go.Proofs.Zs (St Lst Rep Tx)
open Pq (Fld FReads Reads fcs errL bytL)

attribute [local go_sem] Oper.semAt_some
def ck1 (b off p : Nat) : Value := .slice (some ⟨b, off + p * 3, none⟩) 1 1
def cks1 (b off m : Nat) : List Value := (List.range m).map (ck1 b off)
theorem cks_len1 (b off m : Nat) : (cks1 b off m).length = m := by simp [cks1]
theorem cks_succ1 (b off p : Nat) : cks1 b off (p + 1) = cks1 b off p ++ [ck1 b off p] := by simp [cks1, List.range_succ]
theorem chunk_any1 (ad : Option Addr) (N c : Nat) (w : World) : Calls Tryz.prog 101 #[.slice ad N c, .int .i64 1] w fun e w' => e = .returned (.func (.func 137) #[] #[.pointer (some ⟨w.heap.size, 0, none⟩), .pointer (some ⟨w.heap.size + 1, 0, none⟩)]) ∧ w' = (w.alloc (.cells #[.slice ad N c] 107)).alloc (.cells #[.int .i64 1] 3) := by
  go_enter Tryz.func101, Tryz.ntmps101
  go_wp2
  go_ret
  exact ⟨rfl, rfl⟩
theorem fsl_from1 (b off k m c : Nat) (hk : k < m) (hc : m ≤ c) (W : World) : (Instr.slice 107 (.slice (some ⟨b, off, none⟩) m c) (some (.int .i64 (k : Int))) none none).run Tryz.prog W = .ok (.slice (some ⟨b, off + k * 3, none⟩) (m - k) (c - k)) W := by
  obtain ⟨i0, hi, hz0, hz1, hz2⟩ := info_parts infoF
  have e : Tryz.prog.elem 107 = 112 := by kernel_rfl
  rw [run_slice_l (P := Tryz.prog) (w := W) 107 (some ⟨b, off, none⟩) m c Tryz.underlying107 .i64 (k : Int) (by omega) (by omega)]
  have hne : ¬ c = k := by omega
  simp [e, sizeOf, typeInfo, hi, hz1, sliced, hne, Go.WideShapes.add_plain]
theorem fsl_six1 (b off k m c : Nat) (hk : k + 1 ≤ m) (hc : m ≤ c) (W : World) : (Instr.slice 107 (.slice (some ⟨b, off, none⟩) m c) (some (.int .i64 (k : Int))) (some (.int .i64 ((k : Int) + 1))) (some (.int .i64 ((k : Int) + 1)))).run Tryz.prog W = .ok (.slice (some ⟨b, off + k * 3, none⟩) 1 1) W := by
  obtain ⟨i0, hi, hz0, hz1, hz2⟩ := info_parts infoF
  have e : Tryz.prog.elem 107 = 112 := by kernel_rfl
  rw [run_slice_lhm (P := Tryz.prog) (w := W) 107 (some ⟨b, off, none⟩) m c Tryz.underlying107 .i64 .i64 .i64 (k : Int) ((k : Int) + 1) ((k : Int) + 1) (by omega) (by omega) (Int.le_refl _) (by omega)]
  have e6 : k + 1 - k = 1 := by omega
  have e7 : ((k : Int) + 1).toNat = k + 1 := by omega
  simp [e, sizeOf, typeInfo, hi, hz1, sliced, e6, e7, Go.WideShapes.add_plain]
/-- The two boxes of what is cut. -/
def Bx1 (B1 B2 : Nat) (ad : Option Addr) (N c : Nat) (X : World) : Prop := Boxed X B1 107 (.slice ad N c) ∧ Boxed X B2 3 (.int .i64 1)
def RC1 (b off m : Nat) (pre : List Value) (x : Value) (_ : World) : Prop := x = ck1 b off pre.length ∧ pre.length < m
set_option maxHeartbeats 1000000 in
theorem citer_in1 (n l B1 B2 : Nat) (hn : 1 ≤ n) (ad : Option Addr) (b off m c : Nat) (hm : m ≤ 6) (hA : 0 < m → ad = some ⟨b, off, none⟩) (hc : m * 1 ≤ c) (J : List Value → World → Prop)
    (hJB : ∀ pre X, J pre X → Bx1 B1 B2 ad (m * 1) c X) (hJd : ∀ pre X Y, J pre X → Below X.heap.size X Y → J pre Y)
    (hY : ∀ pre x X, J pre X → RC1 b off m pre x X → YieldAt Fence.wide (n - 1) Tryz.prog l #[x] X fun e Y => e = .returned (.bool true) ∧ J (pre ++ [x]) Y)
    (W : World) (h0 : J [] W) :
    CallsIn Fence.wide n Tryz.prog 137 #[.func (.yield l) #[] #[], .pointer (some ⟨B1, 0, none⟩), .pointer (some ⟨B2, 0, none⟩)] W fun e Y => (∃ v, e = .returned v) ∧ ∃ xs, xs = cks1 b off m ∧ J xs Y := by
  have HJB := Lib.hid hJB
  have HJD := Lib.hid hJd
  have HY := Lib.hid hY
  have H0 := Lib.hid h0
  have HA := Lib.hid hA
  clear hJB hJd hY h0 hA
  refine callsIn_of_wp Tryz.func137 rfl trivial ?_ rfl
  simp only [Tryz.ntmps137, List.size_toArray, List.length_cons, List.length_nil, Nat.reduceAdd, Nat.reduceSub, Array.replicate_succ, Array.replicate_zero, List.push_toArray, List.append_toArray, List.nil_append, List.cons_append]
  gi_wp2
  gi_loopw [4] (fun i wr => ∃ p : Nat, p ≤ m ∧ i = .int .i64 ((p * 1 : Nat) : Int) ∧ J (cks1 b off p) wr) (fun i _ => m * 1 - (intOf i).toNat)
  case atStart => exact ⟨0, by omega, rfl, H0.out⟩
  case round =>
    obtain ⟨p, hpm, rfl, hj⟩ := hrel
    obtain ⟨k, hk⟩ : ∃ k, k = p * 1 := ⟨_, rfl⟩
    obtain ⟨N, hN⟩ : ∃ N, N = m * 1 := ⟨_, rfl⟩
    have hbx := HJB.out _ _ hj
    rw [← hk]
    rw [← hN] at hbx
    have hcN : N ≤ c := by omega
    have c1 := hbx.1.cell
    have c2 := hbx.2.cell
    have HJJ := Lib.hid hj
    by_cases hlt : p < m
    · have hkN : (k : Int) < (N : Int) := by omega
      have hk0 : (0 : Int) ≤ (k : Int) := by omega
      have ha := HA.out (by omega)
      subst ha
      have hs1 := fsl_from1 b off k N c (by omega) hcN
      have hs2 := fsl_six1 b off k N c (by omega) hcN
      obtain ⟨q, hq⟩ : ∃ q, q = N - k := ⟨_, rfl⟩
      rw [← hq] at hs1
      have hmn : min (1 : Int) (q : Int) = 1 := by omega
      have hwp : IntKind.i64.wrap ((k : Int) + 1) = (k : Int) + 1 := by rw [IntKind.wrap_i64]; omega
      have HNN : Hid (N = m * 1) := Lib.hid hN
      have HP : Hid (k + 1 = (p + 1) * 1) := Lib.hid (by omega)
      have HPM : Hid (p + 1 ≤ m) := Lib.hid hlt
      have HME : Hid (N - (k + 1) < N - k) := Lib.hid (by omega)
      have hck : ck1 b off p = .slice (some ⟨b, off + k * 3, none⟩) 1 1 := by unfold ck1; congr 3; omega
      have HYD : Hid (∀ X, J (cks1 b off p) X → YieldAt Fence.wide (n - 1) Tryz.prog l #[.slice (some ⟨b, off + k * 3, none⟩) 1 1] X fun e Y => e = .returned (.bool true) ∧ J (cks1 b off (p + 1)) Y ∧ Bx1 B1 B2 (some ⟨b, off, none⟩) N c Y) := Lib.hid (fun X hX => by
        have h := HY.out (cks1 b off p) (ck1 b off p) X hX ⟨by rw [cks_len1], by rw [cks_len1]; exact hlt⟩
        rw [hck] at h
        refine h.mono ?_
        rintro e Y ⟨e1, hj⟩
        rw [← hck, ← cks_succ1] at hj
        exact ⟨e1, hj, by rw [hN]; exact HJB.out _ _ hj⟩)
      obtain ⟨fn, tmps, assign, body, hy, hyr⟩ := HYD.out wr.drew (HJD.out _ _ _ HJJ.out (Below.refl _ wr).drew)
      have hy' : (Instr.yield l #[.slice (some ⟨b, off + k * 3, none⟩) 1 1]).run Tryz.prog wr.drew = .ok (.round l fn tmps assign body) wr.drew := hy
      have HYR := Lib.hid hyr
      clear hj hbx hk hN hq hck hlt hpm hy hyr
      gi_wp2
      gi_region
      all_goals
        gi_wp2
        refine HYR.out.mono ?_
        rintro e W3 ⟨rfl, hj3, hb3⟩
        have HJ3 := Lib.hid hj3
        have d1 := hb3.2.cell
        clear hj3 hb3
        gi_wp2
        go_roundw
        case rel => exact ⟨p + 1, HPM.out, by rw [← HP.out]; first | rfl | go_num, HJ3.out⟩
        case measure => simp only [intOf]; have := HME.out; have := HNN.out; omega
    · have hkN : ¬ (k : Int) < (N : Int) := by omega
      have hpm' : p = m := by omega
      subst hpm'
      clear hj hbx hk hN hlt hpm
      gi_wp2
      go_end0
      exact ⟨⟨_, rfl⟩, HJJ.out⟩
theorem c_own_kept1 {w w' : World} {base size n : Nat} {e : TypeId} {v : Value} {xs : List Value} {row : Option Nat} (h : w.ownsRow base e size v n xs) (hg : w.grownBy w' row) (hr : ∀ r, row = some r → ∃ o : Obj, w.heap[r]? = some o ∧ ∀ cur, o ≠ .cells cur e (0, 0)) : w'.ownsRow base e size v n xs := by
  refine h.kept hg ?_
  rcases h.2 with ⟨rfl, _⟩ | ⟨g, cap, cur, rfl, _, hgb, _⟩
  · exact .inl rfl
  · refine .inr fun e' => ?_
    obtain ⟨o, ho, hne⟩ := hr g (by rw [← e']; rfl)
    rw [hgb] at ho
    cases ho
    exact hne _ rfl
/-- What the collector keeps between two rounds. -/
def CI1 (w : World) (B1 B2 : Nat) (ad : Option Addr) (N c : Nat) (pre : List Value) (W : World) : Prop :=
  Below w.heap.size w W ∧ Bx1 B1 B2 ad N c W ∧ ∃ v, Boxed W w.heap.size 115 v ∧ W.ownsRow w.heap.size 107 1 v pre.length pre
theorem ci_own1 (w : World) (B1 B2 : Nat) (ad : Option Addr) (N c B : Nat) (hB : w.heap.size + 1 ≤ B) (h1 : B1 < w.heap.size) (h2 : B2 < w.heap.size) : OwnFrom B (CI1 w B1 B2 ad N c) := by
  rintro pre X Y row ⟨hb, hx, v, h6, h7⟩ hg hr
  refine ⟨hb.grown hg hb.size (fun k e => by have := (hr k e).1; omega), ⟨hx.1.kept hg (fun e => by have := (hr _ e.symm).1; omega), hx.2.kept hg (fun e => by have := (hr _ e.symm).1; omega)⟩, v, h6.kept hg (fun e => by have := (hr _ e.symm).1; omega), c_own_kept1 h7 hg fun r e => ?_⟩
  obtain ⟨_, o, ho, hc⟩ := hr r e
  exact ⟨o, ho, fun cur e => by subst e; cases hc⟩
theorem rc_own1 (b off m : Nat) (pre : List Value) (x : Value) (B : Nat) : OwnFrom B (fun (_ : Unit) W => RC1 b off m pre x W) := by
  rintro _ X Y row h hg hr
  exact h
theorem infoFs1 : (Tryz.prog.info? 107).map (fun i => (i.zero, i.size, i.bytes)) = some (some (.slice none 0 0), 1, 24) := by kernel_rfl
def CoPost1 (w : World) (b off m : Nat) (e : Ending) (w' : World) : Prop := ∃ v, e = .returned v ∧ w'.ownsRow w.heap.size 107 1 v m (cks1 b off m) ∧ Below w.heap.size w w'
theorem co_end1 {w w4 : World} {b off m D : Nat} {v : Value} {xs : List Value} (hs : xs = cks1 b off m) (hb : Below w.heap.size w w4) (ho : w4.ownsRow w.heap.size 107 1 v xs.length xs) (hK : w4.heap[D]? = some (.deferred (some []))) (hD : w.heap.size ≤ D) :
    CoPost1 w b off m (.returned v) (w4.putObj D (.deferred none)) := by
  subst hs
  have hg2 := grownBy_putObj' w4 D (.deferred none)
  rw [cks_len1] at ho
  have h2 := c_own_kept1 ho hg2 (fun r e => by
    cases e
    exact ⟨_, hK, fun cur e => (by cases e)⟩)
  exact ⟨v, rfl, h2, hb.grown hg2 hb.size (fun k e => by cases e; exact hD)⟩
set_option maxRecDepth 100000 in
set_option maxHeartbeats 2000000 in
theorem appseq_any1 (w : World) (B1 B2 : Nat) (ad : Option Addr) (b off m c : Nat) (hm : m ≤ 6) (hA : 0 < m → ad = some ⟨b, off, none⟩) (hc : m * 1 ≤ c) (hX : Bx1 B1 B2 ad (m * 1) c w) :
    Calls Tryz.prog 136 #[.slice none 0 0, .func (.func 137) #[] #[.pointer (some ⟨B1, 0, none⟩), .pointer (some ⟨B2, 0, none⟩)]] w (CoPost1 w b off m) := by
  obtain ⟨i0, hi, hz0, hz1, hz2⟩ := info_parts infoFs1
  have hB1 := hX.1.lt
  have hB2 := hX.2.lt
  have HX := Lib.hid hX
  have HA := Lib.hid hA
  clear hX hA
  refine (callsIn_wide (n := 3)).1 ?_
  refine callsIn_of_wp_marks Tryz.func136 rfl trivial ?_ rfl
  simp only [Tryz.ntmps136, List.size_toArray, List.length_cons, List.length_nil, Nat.reduceAdd, Nat.reduceSub, Array.replicate_succ, Array.replicate_zero, List.push_toArray, List.append_toArray, List.nil_append, List.cons_append]
  gi_wp2
  obtain ⟨w3, hw3⟩ : ∃ w3, w3 = w.alloc (.cells #[.slice none 0 0] 115) := ⟨_, rfl⟩
  rw [← hw3]
  have hs3 : w3.heap.size = w.heap.size + 1 := by rw [hw3]; simp
  have hb3 : Below w.heap.size w w3 := by rw [hw3]; exact (Below.refl _ w).alloc (Nat.le_refl _) _
  have x1 : Boxed w3 w.heap.size 115 (.slice none 0 0) := by rw [hw3]; exact Boxed.new w 115 _
  have x2 : Bx1 B1 B2 ad (m * 1) c w3 := by rw [hw3]; exact ⟨HX.out.1.alloc _, HX.out.2.alloc _⟩
  have hi0 : CI1 w B1 B2 ad (m * 1) c [] w3 := ⟨hb3, x2, .slice none 0 0, x1, World.ownsRow_nil _ _ _ _⟩
  clear hw3 x1 x2

  refine range_on (n := 3) (gf := 137) (lb := #[.pointer (some ⟨B1, 0, none⟩), .pointer (some ⟨B2, 0, none⟩)]) (encs := fun x => #[x]) rfl (enters_of Tryz.func137 (by kernel_rfl) rfl) (fun _ => rfl) (R := RC1 b off m) (fun pre x => rc_own1 b off m pre x _) (S := fun xs => xs = cks1 b off m) (I := CI1 w B1 B2 ad (m * 1) c) (ci_own1 w B1 B2 ad (m * 1) c _ (by omega) hB1 hB2) hi0 ?seq
    (fun x => { tmps := #[.slice none 0 0, .func (.func 137) #[] #[.pointer (some ⟨B1, 0, none⟩), .pointer (some ⟨B2, 0, none⟩)], .pointer (some ⟨w.heap.size, 0, none⟩), undef, .slice none 0 0, x, .func (.func 137) #[] #[.pointer (some ⟨B1, 0, none⟩), .pointer (some ⟨B2, 0, none⟩)], x, undef, undef, undef, undef, undef], defers := [] }) ?assign ?body ?done
  case seq =>
    intro l J hJ hJI hY W hb h0
    exact citer_in1 2 l B1 B2 (by omega) ad b off m c hm HA.out hc J (fun pre X h => (hJI pre X h).2.1) hJ hY W h0
  case assign =>
    intro l x W K hK
    gi_wp2
    exact hK
  case body =>
    rintro l pre x W ⟨hb, hx, v, hvx, hheld⟩ ⟨hx1, hlt⟩
    obtain ⟨A1, e1⟩ : ∃ A1, x = .slice A1 1 1 := ⟨_, hx1⟩
    subst e1
    have h63 : pre.length + 1 ≤ maxLen := by unfold maxLen; omega
    have h47 : (pre.length + 1) * 24 ≤ 140737488355328 := by omega
    have hsz1 : w.heap.size ≤ W.heap.size := by have := hvx.lt; omega
    have hszt : w.heap.size ≤ (W.alloc (.cells #[.slice A1 1 1] 107)).heap.size := by simp; omega
    have hc0 := hvx.cell
    have HXX := Lib.hid hx
    have HVX := Lib.hid hvx
    have HH := Lib.hid hheld
    have HB := Lib.hid hb
    clear hb hx hvx hheld hx1
    gi_wp2_with (gi_at_builtin; refine wpListIn_append_own _ rfl _ _ 115 rfl w.heap.size 107 i0 (.slice none 0 0) 1 24 Tryz.underlying115 hi hz0 hz1 hz2 rfl (by decide) v pre.length pre rfl (HH.out.alloc _) ⟨W.heap.size, 0, none⟩ 1 1 [.slice A1 1 1] rfl rfl (cell_one_new _ _ _) (by simp [Value.oneCell']) h63 h47 hszt ?_; intro v' w1 hown' hgrow _; obtain ⟨g', cap', rfl⟩ := ownsRow_succ hown'; have hmid := HVX.out.appended (by decide) HH.out hsz1 (Nat.le_refl _) hown' hgrow; have f1 := hmid.1.cell; have f2 := hmid.1.frozen; have HX2 := Lib.hid hmid; have HGR := Lib.hid hgrow; clear hmid hown' hgrow)
    exact ⟨rfl, HX2.out.2.2.2.1.from _, HB.out.trans HX2.out.2.2.2.2, ⟨(HX2.out.2.2.2.2.block B1 hB1).trans HXX.out.1, (HX2.out.2.2.2.2.block B2 hB2).trans HXX.out.2⟩, _, HX2.out.2.1, by rw [List.length_append]; exact HX2.out.2.2.1⟩
  case done =>
    rintro D xs W hD hS ⟨hb, hx, v, hvx, ho⟩ hK
    have hd0 := hvx.cell
    have HB := Lib.hid hb
    have HO := Lib.hid ho
    have HK := Lib.hid hK
    have hDw : w.heap.size ≤ D := by omega
    clear hb hx hvx ho hK
    gi_wp2
    refine ⟨by simp, .inl ⟨_, _, rfl, run_takeDeferred (w := W) HK.out, ?_⟩⟩
    exact ⟨_, results_tmp (t := 4) rfl _ _ _, co_end1 hS HB.out HO.out HK.out hDw⟩
theorem collect_any1 (w : World) (B1 B2 : Nat) (ad : Option Addr) (b off m c : Nat) (hm : m ≤ 6) (hA : 0 < m → ad = some ⟨b, off, none⟩) (hc : m * 1 ≤ c) (hX : Bx1 B1 B2 ad (m * 1) c w) :
    Calls Tryz.prog 100 #[.func (.func 137) #[] #[.pointer (some ⟨B1, 0, none⟩), .pointer (some ⟨B2, 0, none⟩)]] w (CoPost1 w b off m) := by
  have HAS := Lib.hid (appseq_any1 w B1 B2 ad b off m c hm hA hc hX)
  clear hA hX
  go_enter Tryz.func100, Tryz.ntmps100
  go_wp2_with fail
  refine HAS.out.mono ?_
  rintro e w' ⟨v, rfl, h1, h2⟩
  have HE := Lib.hid (⟨v, rfl, h1, h2⟩ : CoPost1 w b off m (.returned v) w')
  clear h1 h2
  go_wp2_with fail
  go_ret
  exact HE.out
end Go.Proofs.YtflgemlhocjipaaGreatDoor.P1
namespace Go.Proofs.YtflgemlhocjipaaGreatDoor.P1
set_option maxRecDepth 100000
open Go.ChangeShapes Go.WideShapes Go.ChangeAt Go.RowKit Go.Proofs.Zn Go.Proofs.Zt
open Go.Proofs.Zs (St Lst Rep Tx)
open Pq (Fld FReads Reads fcs ams errL bytL sm dc Sm Bys byts)

def ArPost1 (w : World) (R : Option (List Fld × List Fld)) (e : Ending) (w' : World) : Prop := Below w.heap.size w w' ∧ match R with
  | none => e = .returned (.tuple #[.slice none 0 0, .slice none 0 0, .bool false])
  | some (f, g) => ∃ A c v b off ad m, e = .returned (.tuple #[.slice A f.length c, v, .bool true]) ∧ FReads w' A f.length f ∧ g.length = m * 1 ∧ m ≤ 6 ∧ FReads w' ad (m * 1) g ∧ (0 < m → ad = some ⟨b, off, none⟩) ∧ w'.ownsRow w.heap.size 107 1 v m (cks1 b off m)
theorem ar_none1 {w w' : World} {R : Option (List Fld × List Fld)} (h : R = none) (hb : Below w.heap.size w w') : ArPost1 w R (.returned (.tuple #[.slice none 0 0, .slice none 0 0, .bool false])) w' := by
  subst h; exact ⟨hb, rfl⟩
theorem ar_bad1 {hk pk b : List Int} {er : Int} (h : sm hk b = .bad er) : apS hk pk b = none := by unfold apS; rw [h]
theorem ar_long1 {hk pk b : List Int} (h : 4096 < b.length) : apS hk pk b = none := by
  unfold apS
  split
  · rfl
  · rw [if_pos h]
theorem ar_many1 {hk pk b : List Int} {f : List Fld} {n : Nat} (h : sm hk b = .good f n) (h6 : 6 < lastN f) : apS hk pk b = none := by
  unfold apS
  rw [h]
  simp only
  by_cases h4 : 4096 < b.length
  · rw [if_pos h4]
  · rw [if_neg h4, if_pos h6]
def arD1 (f : List Fld) : Sm → Option (List Fld × List Fld)
  | .bad _ => none
  | .good g _ => some (f, g)
theorem ar_rest1 {hk pk b : List Int} {f : List Fld} {n m : Nat} {d : Sm} (h : sm hk b = .good f n) (h4 : ¬ 4096 < b.length) (hm : lastN f = (m : Int)) (h6 : m ≤ 6) (hd : dc (rep m pk) (b.drop n) = d) : apS hk pk b = arD1 f d := by
  unfold apS
  rw [h]
  simp only
  rw [if_neg h4, if_neg (by omega), hm, Int.toNat_natCast, hd]
  cases d <;> rfl
theorem dc_bad_ne1 {ks b : List Int} {e : Int} (h : dc ks b = .bad e) : e ≠ 0 := by
  unfold dc at h
  cases hs : sm ks b with
  | bad e2 => rw [hs] at h; simp only at h; injection h with h; subst h; exact Pq.sm_bad_ne hs
  | good l n =>
    rw [hs] at h
    simp only at h
    split at h
    · injection h with h; subst h; decide
    · cases h
theorem ar_e1 {hk pk b : List Int} {f : List Fld} {n m : Nat} {d : Sm} (h : sm hk b = .good f n) (h4 : ¬ 4096 < b.length) (hm : lastN f = (m : Int)) (h6 : m ≤ 6) (hd : dc (rep m pk) (b.drop n) = d) (he : d.e ≠ 0) : apS hk pk b = none := by
  rw [ar_rest1 h h4 hm h6 hd]
  cases d with
  | bad _ => rfl
  | good _ _ => exact absurd rfl he
theorem ar_g1 {hk pk b : List Int} {f : List Fld} {n m : Nat} {d : Sm} (hB : Bys b) (hp : pk.length = 1) (h : sm hk b = .good f n) (h4 : ¬ 4096 < b.length) (hm : lastN f = (m : Int)) (h6 : m ≤ 6) (hd : dc (rep m pk) (b.drop n) = d) (he : d.e = 0) : apS hk pk b = some (f, d.l) ∧ d.l.length = m * 1 := by
  rw [ar_rest1 h h4 hm h6 hd]
  cases d with
  | bad e => exact absurd he (dc_bad_ne1 hd)
  | good g l =>
    refine ⟨rfl, ?_⟩
    have := (Pq.sm_good (Pq.bys_drop n hB) (dc_sm hd)).2.2.2
    show g.length = _
    rw [this, rep_length, hp]
theorem c_own_base1 {w : World} {b b' e size n : Nat} {v : Value} {xs : List Value} (h : w.ownsRow b e size v n xs) (hb : b' ≤ b) : w.ownsRow b' e size v n xs := by
  refine ⟨h.1, ?_⟩
  rcases h.2 with hn | ⟨g, cap, cur, rfl, hbg, rest⟩
  · exact .inl hn
  · exact .inr ⟨g, cap, cur, rfl, by omega, rest⟩
theorem last_nn1 {ks b : List Int} {l : List Fld} {n : Nat} (hB : Bys b) (h : sm ks b = .good l n) (hl : 0 < l.length) : 0 ≤ lastN l := by
  have he := (Pq.sm_good hB h).2.1
  have hm := errL_mem he (l.getD (l.length - 1) Pq.z0) (by
    rw [List.getD_eq_getElem?_getD, List.getElem?_eq_getElem (by omega)]
    exact List.getElem_mem _)
  show 0 ≤ (l.getD (l.length - 1) Pq.z0).n
  rcases Pq.ams_zero hm with ⟨_, e, _⟩ | ⟨_, e, _⟩ | ⟨_, e, _⟩ | ⟨_, e, _⟩ <;> omega
set_option maxHeartbeats 4000000 in
theorem apart_any1 {w : World} {ha pa ba : Option Addr} {H hcap pcap bl bc : Nat} {fs ps : List Fld} {zs : List Int} (hF : FReads w ha H fs) (hP : FReads w pa 1 ps) (hR : Reads .u8 w ba bl zs) (hB : Bys zs) (hc : bl ≤ bc) (hcm : bc ≤ maxLen) (hH : 1 ≤ H) (hH2 : H ≤ 100) :
    Calls Tryz.prog 57 #[.slice ha H hcap, .slice pa 1 pcap, .slice ba bl bc] w (ArPost1 w (apS (fs.map (·.k)) (ps.map (·.k)) zs)) := by
  have HF := Lib.hid hF
  have HP := Lib.hid hP
  have HR := Lib.hid hR
  have HB := Lib.hid hB
  have HKC := Lib.hid (Pq.kinds_any ha H hcap fs w hF (by omega))
  have hpl := hP.1
  have hzl := hR.1
  have hfl := hF.1
  obtain ⟨KS, hks⟩ : ∃ KS, fs.map (·.k) = KS := ⟨_, rfl⟩
  obtain ⟨PS, hps⟩ : ∃ PS, ps.map (·.k) = PS := ⟨_, rfl⟩
  have HPS := Lib.hid hps
  have HPL : Hid (PS.length = 1) := Lib.hid (by rw [← hps, List.length_map]; exact hpl)
  have HKL : Hid (KS.length = H) := Lib.hid (by rw [← hks, List.length_map]; exact hfl)
  rw [hks] at HKC ⊢
  rw [hps]
  obtain ⟨R, hr⟩ : ∃ R, apS KS PS zs = R := ⟨_, rfl⟩
  rw [hr]
  have HRR := Lib.hid hr
  have HZL := Lib.hid hzl
  clear hF hP hR hB hks hps hr hpl hzl hfl
  go_enter Tryz.func57, Tryz.ntmps57
  go_wp2_with fail
  refine HKC.out.mono ?_
  rintro e w1 ⟨rfl, hk1, hb1⟩
  have HS := Lib.hid (Pq.some_any _ ba H H bl bc _ zs w1 hk1 (HR.out.kept hb1) HB.out (by omega) hc hcm)
  have HB1 := Lib.hid hb1
  clear hk1 hb1
  go_wp2_with fail
  refine HS.out.mono ?_
  rintro e w2 ⟨A, c, rfl, hf, hb2⟩
  have HB2 : Hid (Below w.heap.size w w2) := Lib.hid (HB1.out.trans (hb2.mono HB1.out.size))
  clear hb2
  cases hs : sm KS zs with
  | bad er =>
    have hne : (er == 0) = false := by simpa using Pq.sm_bad_ne hs
    have hne2 : (er != 0) = true := by simpa using Pq.sm_bad_ne hs
    have HE : Hid (ArPost1 w R (.returned (.tuple #[.slice none 0 0, .slice none 0 0, .bool false])) w2) := Lib.hid (ar_none1 (by rw [← HRR.out]; exact ar_bad1 hs) HB2.out)
    simp only [Sm.e, Sm.l, Sm.n, Pq.Sm.e, Pq.Sm.l, Pq.Sm.n, List.length_nil]
    clear hf hs
    go_wp2_with fail
    exact bodyPost_ret (v := .tuple #[.slice none 0 0, .slice none 0 0, .bool false]) (by simp [results, Tryz.results57, go_sem]) rfl HE.out
  | good f n =>
    rw [hs] at hf
    have hsg := Pq.sm_good HB.out hs
    have hfl : f.length = H := by rw [hsg.2.2.2]; exact HKL.out
    have hnn := last_nn1 HB.out hs (by omega)
    have hnz : n ≤ bl := by have := hsg.1; have := HZL.out; omega
    simp only [Sm.e, Sm.l, Sm.n, Pq.Sm.e, Pq.Sm.l, Pq.Sm.n] at hf ⊢
    have HS2 := Lib.hid hs
    have HFL := Lib.hid hfl
    rw [hfl] at hf ⊢
    obtain ⟨b0, o0, rfl, hcell⟩ := hf.1.2 (by omega)
    have HFF := Lib.hid hf
    obtain ⟨p, hp⟩ : ∃ p, p = H - 1 := ⟨_, rfl⟩
    obtain ⟨k, hk⟩ : ∃ k, k = (f.getD p Pq.z0).n := ⟨_, rfl⟩
    have hcp := (hcell p (by omega)).2.1
    rw [← hk] at hcp
    have hkl : lastN f = k := by unfold lastN; rw [hfl, ← hp, hk]
    rw [hkl] at hnn
    have HKL2 := Lib.hid hkl
    have hHp : (H : Int) - 1 = (p : Int) := by omega
    have hwp : IntKind.i64.wrap ((H : Int) - 1) = (p : Int) := by rw [IntKind.wrap_i64]; omega
    have hpH : (p : Int) < (H : Int) := by omega
    have hp0 : (0 : Int) ≤ (p : Int) := by omega
    have hH0 : (1 : Int) ≤ (H : Int) := by omega
    clear hcell hk hp hf hs hsg hfl hkl
    by_cases hbig : 4096 < bl
    · have HE : Hid (ArPost1 w R (.returned (.tuple #[.slice none 0 0, .slice none 0 0, .bool false])) w2) := Lib.hid (ar_none1 (by rw [← HRR.out]; exact ar_long1 (by rw [HZL.out]; exact hbig)) HB2.out)
      have hbi : decide ((4096 : Int) < (bl : Int)) = true := by simpa using (by omega : (4096 : Int) < (bl : Int))
      have hbn : decide (4096 < bl) = true := by simpa using hbig
      go_wp2_with fail
      exact bodyPost_ret (v := .tuple #[.slice none 0 0, .slice none 0 0, .bool false]) (by simp [results, Tryz.results57, go_sem]) rfl HE.out
    · have hbi : decide ((4096 : Int) < (bl : Int)) = false := by simpa using (by omega : ¬ (4096 : Int) < (bl : Int))
      have hbn : decide (4096 < bl) = false := by simpa using hbig
      by_cases hk6 : 6 < k
      · have HE : Hid (ArPost1 w R (.returned (.tuple #[.slice none 0 0, .slice none 0 0, .bool false])) w2) := Lib.hid (ar_none1 (by rw [← HRR.out]; exact ar_many1 HS2.out (by rw [HKL2.out]; exact hk6)) HB2.out)
        go_wp2_with fail
        exact bodyPost_ret (v := .tuple #[.slice none 0 0, .slice none 0 0, .bool false]) (by simp [results, Tryz.results57, go_sem]) rfl HE.out
      · go_upto_region 7 with fail
        obtain ⟨m, rfl⟩ : ∃ m : Nat, k = (m : Int) := ⟨k.toNat, by omega⟩
        have hm6 : m ≤ 6 := by omega
        obtain ⟨Z, zc, hsl, hZ, hz1, hz2⟩ := Pq.sub_from (HR.out.kept HB2.out) hc n hnz
        obtain ⟨q, hq⟩ : ∃ q, q = bl - n := ⟨_, rfl⟩
        rw [← hq] at hsl hZ hz1
        obtain ⟨T, hT⟩ : ∃ T, T = m * 1 := ⟨_, rfl⟩
        obtain ⟨D, hD⟩ : ∃ D, dc (rep m PS) (zs.drop n) = D := ⟨_, rfl⟩
        obtain ⟨N, hN⟩ : ∃ N, N = D.l.length := ⟨_, rfl⟩
        obtain ⟨ER, hER⟩ : ∃ ER, ER = D.e := ⟨_, rfl⟩
        have HT := Lib.hid hT
        have HD := Lib.hid hD
        have HN := Lib.hid hN
        have HER := Lib.hid hER
        have HZ := Lib.hid hZ
        have HKP : Hid (∀ W, Below w2.heap.size w2 W → Calls Tryz.prog 61 #[.slice pa 1 pcap] W fun e w' => ∃ g, e = .returned (.slice (some ⟨g, 0, none⟩) 1 1) ∧ Reads .i64 w' (some ⟨g, 0, none⟩) 1 PS ∧ Below w2.heap.size w2 w') := Lib.hid (fun W hW => by
          have h := Pq.kinds_any pa 1 pcap ps W (HP.out.kept (HB2.out.trans (hW.mono HB2.out.size))) (by omega)
          rw [HPS.out] at h
          refine h.mono ?_
          rintro e w' ⟨rfl, h1, h2⟩
          exact ⟨_, rfl, h1, hW.trans (h2.mono hW.size)⟩)
        have HRP : Hid (∀ W g, Below w2.heap.size w2 W → Reads .i64 W (some ⟨g, 0, none⟩) 1 PS → Calls Tryz.prog 99 #[.slice (some ⟨g, 0, none⟩) 1 1, .int .i64 (m : Int)] W fun e w' => ∃ A c', e = .returned (.slice A T c') ∧ Reads .i64 w' A T (rep m PS) ∧ Below w2.heap.size w2 w') := Lib.hid (fun W g hW hg => by
          refine (repeat_any1 hg hm6).mono ?_
          rintro e w' ⟨A, c', rfl, h1, h2⟩
          rw [HT.out]
          exact ⟨A, c', rfl, h1, hW.trans (h2.mono hW.size)⟩)
        have HDC : Hid (∀ W A c', Below w2.heap.size w2 W → Reads .i64 W A T (rep m PS) → Calls Tryz.prog 60 #[.slice A T c', .slice Z q zc] W fun e w' => ∃ A2 c2, e = .returned (.tuple #[.slice A2 N c2, .int .i64 ER]) ∧ (FReads w' A2 N D.l ∧ N ≤ c2) ∧ Below w2.heap.size w2 w') := Lib.hid (fun W A c' hW hg => by
          have h := Pq.decode_any A Z T c' q zc (rep m PS) (zs.drop n) W hg (HZ.out.kept hW) (Pq.bys_drop n HB.out) (by rw [HT.out]; omega) hz1 (by omega)
          rw [HD.out] at h
          refine h.mono ?_
          rintro e w' ⟨A2, c2, rfl, h1, h2⟩
          rw [HN.out, HER.out]
          exact ⟨A2, c2, rfl, ⟨h1.1, h1.2.1⟩, hW.trans (h2.mono hW.size)⟩)
        clear hT hD hN hER hZ hq
        go_region_held3 (fun W => Below w2.heap.size w2 W)
          (first
            | exact (Below.refl _ _).drew
            | (with_reducible assumption))
          (first
            | (go_at_call 61; (with_reducible refine (HKP.out _ (by with_reducible assumption)).mono ?_); rintro e w3 ⟨g3, rfl, hk3, hS3⟩)
            | (go_at_call 99; (with_reducible refine (HRP.out _ _ (by with_reducible assumption) (by with_reducible assumption)).mono ?_); rintro e w4 ⟨A4, c4, rfl, hk4, hS4⟩)
            | (go_at_call 60; (with_reducible refine (HDC.out _ _ _ (by with_reducible assumption) (by with_reducible assumption)).mono ?_); rintro e w5 ⟨A5, c5, rfl, hk5, hS5⟩))
        have HB5 : Hid (Below w.heap.size w w5) := Lib.hid (HB2.out.trans (hS5.mono HB2.out.size))
        have HS5 := Lib.hid hS5
        have HK5 := Lib.hid hk5
        have hcd := hk5.2
        clear hS5 hk5 hS4 hk4 hS3 hk3
        by_cases he : ER = 0
        · obtain ⟨hR1, hR2⟩ := ar_g1 HB.out HPL.out HS2.out (by rw [HZL.out]; exact hbig) HKL2.out hm6 HD.out (by rw [← HER.out]; exact he)
          rw [HRR.out] at hR1
          have hNT : N = m * 1 := by rw [HN.out]; exact hR2
          subst hNT
          have hne : (ER == 0) = true := by simpa using he
          have hne2 : (ER != 0) = false := by simpa using he
          obtain ⟨b, off, hA⟩ : ∃ b off, 0 < m → A5 = some ⟨b, off, none⟩ := by
            by_cases h0 : 0 < m
            · obtain ⟨b, off, e, _⟩ := HK5.out.1.2 (by omega)
              exact ⟨b, off, fun _ => e⟩
            · exact ⟨0, 0, fun h => absurd h h0⟩
          obtain ⟨w7, hw7⟩ : ∃ w7, w7 = (w5.alloc (.cells #[.slice A5 (m * 1) c5] 107)).alloc (.cells #[.int .i64 1] 3) := ⟨_, rfl⟩
          have hb7 : Below w5.heap.size w5 w7 := by rw [hw7]; exact ((Below.refl _ w5).alloc (Nat.le_refl _) _).alloc (by simp) _
          have hX : Bx1 w5.heap.size (w5.heap.size + 1) A5 (m * 1) c5 w7 := by
            have h2 := Boxed.new (w5.alloc (.cells #[.slice A5 (m * 1) c5] 107)) 3 (.int .i64 1)
            rw [World.size_alloc] at h2
            rw [hw7]
            exact ⟨(Boxed.new w5 107 _).alloc _, h2⟩
          have HCC := Lib.hid (collect_any1 w7 w5.heap.size (w5.heap.size + 1) A5 b off m c5 hm6 hA hcd hX)
          have HA := Lib.hid hA
          have HR1 := Lib.hid hR1
          have HR2 := Lib.hid hR2
          have HB7 := Lib.hid hb7
          have HW7 := Lib.hid hw7
          have hCH := chunk_any1 A5 (m * 1) c5 w5
          rw [← hw7] at hCH
          have HCH := Lib.hid hCH
          obtain ⟨N, hN⟩ : ∃ N, N = m * 1 := ⟨_, rfl⟩
          have HNM := Lib.hid hN
          rw [← hN] at HCH ⊢
          clear hA hX hR1 hR2 hb7 hw7 hCH hN
          subst he
          go_wp2_with fail
          refine HCH.out.mono ?_
          rintro e w6 ⟨rfl, hw6⟩
          rw [hw6]
          clear hw6
          go_wp2_with fail
          refine HCC.out.mono ?_
          rintro e w8 ⟨v, rfl, ho, hb8⟩
          have HE : Hid (ArPost1 w R (.returned (.tuple #[.slice (some ⟨b0, o0, none⟩) H c, v, .bool true])) w8) := Lib.hid (by
            have hb58 := HB7.out.trans (hb8.mono HB7.out.size)
            have hb28 := HS5.out.trans (hb58.mono HS5.out.size)
            refine ⟨HB5.out.trans (hb58.mono HB5.out.size), ?_⟩
            rw [HR1.out]
            refine ⟨some ⟨b0, o0, none⟩, c, v, b, off, A5, m, by rw [HFL.out], ?_, HR2.out, hm6, HK5.out.1.kept hb58, HA.out, c_own_base1 ho ?_⟩
            · rw [HFL.out]; exact HFF.out.1.kept hb28
            · exact Nat.le_trans HB5.out.size HB7.out.size)
          clear ho hb8
          go_wp2_with fail
          exact bodyPost_ret (v := .tuple #[.slice (some ⟨b0, o0, none⟩) H c, v, .bool true]) (by simp [results, Tryz.results57, go_sem]) rfl HE.out
        · have hne : (ER == 0) = false := by simpa using he
          have hne2 : (ER != 0) = true := by simpa using he
          have HE : Hid (ArPost1 w R (.returned (.tuple #[.slice none 0 0, .slice none 0 0, .bool false])) w5) := Lib.hid (ar_none1 (by rw [← HRR.out]; exact ar_e1 HS2.out (by rw [HZL.out]; exact hbig) HKL2.out hm6 HD.out (by rw [← HER.out]; exact he)) HB5.out)
          go_wp2_with fail
          exact bodyPost_ret (v := .tuple #[.slice none 0 0, .slice none 0 0, .bool false]) (by simp [results, Tryz.results57, go_sem]) rfl HE.out
end Go.Proofs.YtflgemlhocjipaaGreatDoor.P1
