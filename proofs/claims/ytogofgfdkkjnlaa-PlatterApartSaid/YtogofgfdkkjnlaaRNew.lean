/-
  What the document's New returns: a disk of so many sectors of bytes 0. Condition: no more than 60 sectors are asked for.
-/
import Derived.Test.YtogofgfdkkjnlaaRMem
import Derived.Test.YtogofgfdkkjnlaaNew
namespace Go.Proofs.Ytogofgfdkkjnlaa
open Go.ChangeShapes Go.WideShapes Go.ChangeAt Go.RowKit

theorem run_make64 (w : World) : (Instr.makeSlice 36 (.int .i64 64) (.int .i64 64)).run Try.prog w = .ok (.slice (some ⟨w.heap.size, 0, none⟩) 64 64) (w.alloc (.cells Z64 5)) := by
  obtain ⟨i0, hi, hz0, hz1, hz2⟩ := info_parts info5
  have h := run_make (w := w) (P := Try.prog) 36 5 i0 (.int .u8 0) Try.underlying36 hi hz0 .i64 .i64 64 64 (by decide) (by decide) (by rw [hz2]; decide) (by decide)
  have e : madeCells (Value.int .u8 0).cells ((64 : Int).toNat * i0.size) = Z64 := by rw [hz1]; kernel_rfl
  rw [e] at h
  exact h
theorem z64_ints : Z64 = (ints (List.replicate 64 0)).toArray := by kernel_rfl
def Z0 : ByteArray := strOfNums (List.replicate 64 0)
/-- What the document's New leaves. -/
def RnPost (w : World) (n : Nat) (e : Ending) (w' : World) : Prop := ∃ Af cf, e = .returned (.agg #[.slice Af n cf, .slice none 0 0, .int .i64 0, .bool false]) ∧ RDisk w' w.heap.size (.slice Af n cf) (.slice none 0 0) (newD n) ∧ Below w.heap.size w w'
def NRel (w : World) (n : Nat) (vi : Value) (wr : World) : Prop :=
  ∃ (k : Nat) (A : Option Addr) (c : Nat), k ≤ n ∧ vi = .int .i64 k ∧ wr.heap[w.heap.size]? = some (.cells #[.slice none 0 0, .slice none 0 0, .int .i64 0, .bool false] 28 (0, 0)) ∧
    wr.heap[w.heap.size + 1]? = some (.cells #[.slice A k c, .slice none 0 0, .int .i64 0, .bool false] 28 (0, 0)) ∧ wr.ownsRow w.heap.size 9 1 (.slice A k c) k (List.replicate k (.string Z0)) ∧ Below w.heap.size w wr
theorem two_boxes (w : World) (C1 C2 : Array Value) (t1 t2 : TypeId) : ((w.alloc (.cells C1 t1)).alloc (.cells C2 t2)).heap[w.heap.size]? = some (.cells C1 t1 (0, 0)) ∧ ((w.alloc (.cells C1 t1)).alloc (.cells C2 t2)).heap[w.heap.size + 1]? = some (.cells C2 t2 (0, 0)) :=
  ⟨heap_alloc2_old w _ _, heap_alloc2_new w _ _⟩
/-- Behind an append. -/
theorem rnew_round {w wr w2 : World} {n k : Nat} {A A2 : Option Addr} {c c2 : Nat} {O : Obj} (hk : k < n) (h0 : wr.heap[w.heap.size]? = some (.cells #[.slice none 0 0, .slice none 0 0, .int .i64 0, .bool false] 28 (0, 0)))
    (h1 : wr.heap[w.heap.size + 1]? = some (.cells #[.slice A k c, .slice none 0 0, .int .i64 0, .bool false] 28 (0, 0))) (hr : wr.ownsRow w.heap.size 9 1 (.slice A k c) k (List.replicate k (.string Z0))) (hb : Below w.heap.size w wr)
    (h2 : w2.ownsRow w.heap.size 9 1 (.slice A2 (k + 1) c2) (k + 1) (List.replicate k (.string Z0) ++ [.string Z0])) (hg : (wr.alloc O).grownBy w2 (Value.slice A k c).ownBlock) :
    w2.heap[w.heap.size + 1]? = some (.cells #[.slice A k c, .slice none 0 0, .int .i64 0, .bool false] 28 (0, 0)) ∧ NRel w n (.int .i64 ((k : Int) + 1)) (w2.setCell ⟨w.heap.size + 1, 0, none⟩ (.slice A2 (k + 1) c2)) := by
  have hl0 := lt_of_block h0
  have hl1 := lt_of_block h1
  have e0 : w2.heap[w.heap.size]? = some (.cells #[.slice none 0 0, .slice none 0 0, .int .i64 0, .bool false] 28 (0, 0)) := by
    rw [hg.block _ (by simp; omega) (fun e => own_ne hr h0 (by decide) e.symm), Below.heap_alloc _ _ _ hl0]; exact h0
  have e1 : w2.heap[w.heap.size + 1]? = some (.cells #[.slice A k c, .slice none 0 0, .int .i64 0, .bool false] 28 (0, 0)) := by
    rw [hg.block _ (by simp; omega) (fun e => own_ne hr h1 (by decide) e.symm), Below.heap_alloc _ _ _ hl1]; exact h1
  have hb2 : Below w.heap.size w w2 := (hb.alloc (by omega) O).grown hg (by simp; omega) (own_ge hr)
  refine ⟨e1, k + 1, A2, c2, by omega, by go_num, ?_, ?_, ?_, hb2.setCell (by simp) _⟩
  · rw [heap_setCell_other w2 _ _ _ (by simp)]; exact e0
  · exact heap_setCell_same w2 (w.heap.size + 1) 0 _ 28 _ e1
  · rw [List.replicate_succ']
    exact ownsRow_setCell_other h2 (own_ne h2 e1 (by decide)) _
theorem rnew_end {w wr w9 : World} {n : Nat} {A : Option Addr} {c : Nat} (hr : wr.ownsRow w.heap.size 9 1 (.slice A n c) n (List.replicate n (.string Z0))) (hb : Below w.heap.size w wr) (h0 : wr.heap[w.heap.size]? = some (.cells #[.slice none 0 0, .slice none 0 0, .int .i64 0, .bool false] 28 (0, 0)))
    (hk : Below w.heap.size wr w9) (ht : ∀ k, k ≠ w.heap.size → w9.heap[k]? = wr.heap[k]?) : RnPost w n (.returned (.agg #[.slice A n c, .slice none 0 0, .int .i64 0, .bool false])) w9 := by
  refine ⟨A, c, rfl, ⟨?_, World.ownsRow_nil _ _ _ _⟩, hb.trans hk⟩
  show w9.ownsRow w.heap.size 9 1 _ (List.replicate n (List.replicate 64 (0 : Int))).length (strs (List.replicate n (List.replicate 64 0)))
  rw [List.length_replicate]
  have e : strs (List.replicate n (List.replicate 64 0)) = List.replicate n (.string Z0) := by simp only [strs, List.map_replicate]; rfl
  rw [e]
  refine own_tag hr fun k cs hx => ?_
  by_cases hk' : k = w.heap.size
  · subst hk'
    rw [h0] at hx
    injection hx with hx
    injection hx with _ e _
    exact absurd e (by decide)
  · rw [ht k hk']; exact hx
set_option maxHeartbeats 1000000 in
theorem rnew_any (many : Int) (n : Nat) (w : World) (hn : n ≤ 60) (h : (many < 0 ∧ n = 0) ∨ many = (n : Int)) : Calls Try.prog 23 #[.int .i64 many] w (RnPost w n) := by
  have hmk := run_make64
  have hcv : (convert 36 9 (.slice (some ⟨w.heap.size + 1 + 1, 0, none⟩) 64 64)).run Try.prog (((w.alloc (.cells #[.slice none 0 0, .slice none 0 0, .int .i64 0, .bool false] 28)).alloc (.cells #[.slice none 0 0, .slice none 0 0, .int .i64 0, .bool false] 28)).alloc (.cells Z64 5)) = .ok (.string Z0) (((w.alloc (.cells #[.slice none 0 0, .slice none 0 0, .int .i64 0, .bool false] 28)).alloc (.cells #[.slice none 0 0, .slice none 0 0, .int .i64 0, .bool false] 28)).alloc (.cells Z64 5)) := by
    refine conv_reads (zs := List.replicate 64 0) (ints_read' (t := 5) sok_zero ?_)
    rw [← z64_ints]
    have := new_block ((w.alloc (.cells #[.slice none 0 0, .slice none 0 0, .int .i64 0, .bool false] 28)).alloc (.cells #[.slice none 0 0, .slice none 0 0, .int .i64 0, .bool false] 28)) (.cells Z64 5)
    simpa using this
  have hbx := two_boxes w #[.slice none 0 0, .slice none 0 0, .int .i64 0, .bool false] #[.slice none 0 0, .slice none 0 0, .int .i64 0, .bool false] 28 28
  have hbe : Below ((w.alloc (.cells #[.slice none 0 0, .slice none 0 0, .int .i64 0, .bool false] 28)).alloc (.cells #[.slice none 0 0, .slice none 0 0, .int .i64 0, .bool false] 28)).heap.size ((w.alloc (.cells #[.slice none 0 0, .slice none 0 0, .int .i64 0, .bool false] 28)).alloc (.cells #[.slice none 0 0, .slice none 0 0, .int .i64 0, .bool false] 28)) (((w.alloc (.cells #[.slice none 0 0, .slice none 0 0, .int .i64 0, .bool false] 28)).alloc (.cells #[.slice none 0 0, .slice none 0 0, .int .i64 0, .bool false] 28)).alloc (.cells Z64 5)) := box_below _ _
  have HST : Hid (NRel w n (.int .i64 0) (((w.alloc (.cells #[.slice none 0 0, .slice none 0 0, .int .i64 0, .bool false] 28)).alloc (.cells #[.slice none 0 0, .slice none 0 0, .int .i64 0, .bool false] 28)).alloc (.cells Z64 5))) := Lib.hid
    ⟨0, none, 0, Nat.zero_le _, rfl, (hbe.block _ (by simp; omega)).trans hbx.1, (hbe.block _ (by simp)).trans hbx.2, World.ownsRow_nil _ _ _ _, ((box_below w _).trans ((box_below _ _).mono (by simp))).trans (hbe.mono (by simp; omega))⟩
  clear hbx hbe
  have hmany : many ≤ 60 := by omega
  go_enter Try.func23, Try.ntmps23
  go_wp2
  go_loopw [5] (fun vi wr => NRel w n vi wr) (fun vi _ => n - (intOf vi).toNat)
  case atStart => exact HST.out
  case round =>
    obtain ⟨k, A, c, hk, rfl, h0, h1, hr, hb⟩ := hrel
    have HR := Lib.hid hr
    have HB := Lib.hid hb
    have H0 := Lib.hid h0
    have H1 := Lib.hid h1
    by_cases hlt : k < n
    · have hkm : (k : Int) < many := by omega
      have hk6 : (k : Int) < 65536 := by omega
      have q0 := cell_of h1 (j := 0) rfl
      obtain ⟨i0, hi, hz0, hz1, hz2⟩ := info_parts info9
      have HO := Lib.hid (hr.alloc (.cells #[.string Z0] 9))
      have HBS : Hid (w.heap.size ≤ (wr.alloc (.cells #[.string Z0] 9)).heap.size) := Lib.hid (by have := hb.size; simp; omega)
      have HM : Hid (k + 1 ≤ maxLen) := Lib.hid (by unfold maxLen; omega)
      have HM2 : Hid ((k + 1) * 16 ≤ 140737488355328) := Lib.hid (by omega)
      have HNW : Hid (∀ j u, [Value.string Z0][j]? = some u → (wr.alloc (.cells #[.string Z0] 9)).cell? ((⟨wr.heap.size, 0, none⟩ : Addr).add j) = some u) := Lib.hid (World.news_of_block' (new_block wr _))
      clear hr hb h0 h1 h
      go_wp2_with (first
        | (at_builtin; refine wpList_append_own (P := Try.prog) _ rfl (.tmp 18) (.tmp 20) 25 rfl w.heap.size 9 i0 (.string ⟨#[]⟩) 1 16 Try.underlying25 hi hz0 hz1 hz2 rfl (by decide) (.slice A k c) k (List.replicate k (.string Z0)) rfl HO.out ⟨wr.heap.size, 0, none⟩ 1 1 [.string Z0] rfl rfl HNW.out (fun u hu => by rcases List.mem_singleton.1 hu with rfl; rfl) HM.out HM2.out HBS.out ?_; intro v2 w2 h2 h3 _; obtain ⟨A2, c2, rfl, -, -, -⟩ := own_form h2; have HX := Lib.hid (rnew_round hlt H0.out H1.out HR.out HB.out h2 h3); clear h2 h3; have r0 := cell_of HX.out.1 (j := 0) rfl; have r1 := frozen_of_row w2 (w.heap.size + 1) 0 _ _ HX.out.1)
        | fail)
      go_roundw
      case rel => exact HX.out.2
      case measure => simp [intOf] <;> omega
    · obtain rfl : n = k := by omega
      have hkm : ¬ (n : Int) < many := by omega
      have q0 := cell_of h1 (j := 0) rfl
      have q1 := cell_of h1 (j := 1) rfl
      have q2 := cell_of h1 (j := 2) rfl
      have q3 := cell_of h1 (j := 3) rfl
      have p0 := cell_of h0 (j := 0) rfl
      have p1 := cell_of h0 (j := 1) rfl
      have p2 := cell_of h0 (j := 2) rfl
      have p3 := cell_of h0 (j := 3) rfl
      have f0 := frozen_of_row wr w.heap.size 0 _ _ h0
      have f1 := frozen_of_row wr w.heap.size 1 _ _ h0
      have f2 := frozen_of_row wr w.heap.size 2 _ _ h0
      have f3 := frozen_of_row wr w.heap.size 3 _ _ h0
      clear hr hb h0 h1 h
      go_wp2
      (try simp only [Exit.inBlock, Exit.then])
      have hS := set4 H0.out (.slice A n c) (.slice none 0 0) (.int .i64 0) (.bool false)
      refine bodyPost_ret (v := .agg #[.slice A n c, .slice none 0 0, .int .i64 0, .bool false]) (results_cell_row (P := Try.prog) rfl _ _ w.heap.size 28 _ (0, 0) _ rfl hS.1 Try.underlying28 rfl (by kernel_rfl)) rfl ?_
      exact rnew_end HR.out HB.out H0.out (hS.2.2 _ (Nat.le_refl _)) hS.2.1
end Go.Proofs.Ytogofgfdkkjnlaa
