/-
  What the document's Do returns, case by case (arm, neg, big). Condition: not too many sectors and writes.
-/
import Derived.Test.YtogofgfdkkjnlaaRDoBox
namespace Go.Proofs.Ytogofgfdkkjnlaa
open Go.ChangeShapes Go.WideShapes Go.ChangeAt Go.RowKit

set_option maxRecDepth 100000 in
set_option maxHeartbeats 1000000 in
theorem rdo_arm (B : Nat) (Af Aw : Option Addr) (cf cw : Nat) (D : Dk) (n t : Int) (A : Option Addr) (len cap : Nat) (zs : List Int) (w : World) (h : RDisk w B (.slice Af D.firm.length cf) (.slice Aw D.wait.length cw) D) :
    Calls Try.prog 24 #[.agg #[.slice Af D.firm.length cf, .slice Aw D.wait.length cw, .int .i64 D.armed, .bool D.dead], .agg #[.int .i64 3, .int .i64 n, .int .i64 t, .slice A len cap]] w (DoPost w B D 3 n t zs) := by
  have HD : Hid (doD D 3 n t zs = ({ D with armed := max n 0 }, [], 0)) := Lib.hid (by unfold doD; rw [if_pos rfl])
  have H := Lib.hid h
  clear h
  go_enter Try.func24, Try.ntmps24
  go_upto_region 0 with fail
  go_cut [2, 3, 4, 5] (fun s2 s3 s4 s5 wx => DCut w #[.slice Af D.firm.length cf, .slice Aw D.wait.length cw, .int .i64 D.armed, .bool D.dead] 3 n t A len cap s2 s3 s4 s5 wx)
  case first =>
    go_wp2_with fail
    go_meet
    exact dcut_mk _ _ _ _ _ _ _ _
  case rest =>
    obtain ⟨rfl, rfl, rfl, rfl, hbx⟩ := hcut
    have HB := Lib.hid hbx
    have HR := Lib.hid (H.out.kept hbx.below)
    have d0 := cell_of hbx.b0 (j := 0) rfl
    have d1 := cell_of hbx.b0 (j := 1) rfl
    have d2 := cell_of hbx.b0 (j := 2) rfl
    have d3 := cell_of hbx.b0 (j := 3) rfl
    have o0 := cell_of hbx.b1 (j := 0) rfl
    have o1 := cell_of hbx.b1 (j := 1) rfl
    have o2 := cell_of hbx.b1 (j := 2) rfl
    have o3 := cell_of hbx.b1 (j := 3) rfl
    have r0 := cell_of hbx.b2 (j := 0) rfl
    have r1 := cell_of hbx.b2 (j := 1) rfl
    have r2 := cell_of hbx.b2 (j := 2) rfl
    have r3 := cell_of hbx.b2 (j := 3) rfl
    have rf0 := frozen_of_row _ (w.heap.size + 1 + 1) 0 _ _ hbx.b2
    have rf1 := frozen_of_row _ (w.heap.size + 1 + 1) 1 _ _ hbx.b2
    have rf2 := frozen_of_row _ (w.heap.size + 1 + 1) 2 _ _ hbx.b2
    have rf3 := frozen_of_row _ (w.heap.size + 1 + 1) 3 _ _ hbx.b2
    have a0 := cell_of hbx.b3 (j := 0) rfl
    have a1 := cell_of hbx.b3 (j := 1) rfl
    have af0 := frozen_of_row _ (w.heap.size + 1 + 1 + 1) 0 _ _ hbx.b3
    have af1 := frozen_of_row _ (w.heap.size + 1 + 1 + 1) 1 _ _ hbx.b3
    clear hbx
    have df2 := frozen_of_row _ w.heap.size 2 _ _ HB.out.b0
    go_wp2
    have q2 : (wc.setCell ⟨w.heap.size, 2, none⟩ (.int .i64 (max n 0))).heap[w.heap.size + 1 + 1]? = _ := (heap_setCell_other _ _ _ _ (by show w.heap.size + 1 + 1 ≠ w.heap.size; omega)).trans HB.out.b2
    have q3 : (wc.setCell ⟨w.heap.size, 2, none⟩ (.int .i64 (max n 0))).heap[w.heap.size + 1 + 1 + 1]? = _ := (heap_setCell_other _ _ _ _ (by show w.heap.size + 1 + 1 + 1 ≠ w.heap.size; omega)).trans HB.out.b3
    have hX := HR.out.setCell (a := ⟨w.heap.size, 2, none⟩) HB.out.b0 (by decide) (by decide) (.int .i64 (max n 0))
    (try simp only [Exit.inBlock, Exit.then])
    obtain ⟨w9, hw9, s2, s3, hk9, hb9⟩ := do_sets q2 q3 (.slice Af D.firm.length cf) (.slice Aw D.wait.length cw) (.int .i64 (max n 0)) (.bool D.dead) (.string ⟨#[]⟩) (.int .i64 0)
    subst hw9
    refine bodyPost_ret (v := .tuple #[.agg #[.slice Af D.firm.length cf, .slice Aw D.wait.length cw, .int .i64 (max n 0), .bool D.dead], .agg #[.string ⟨#[]⟩, .int .i64 0]]) (results_two rfl _ _ (w.heap.size + 1 + 1) (w.heap.size + 1 + 1 + 1) _ _ rfl rfl s2 s3 rfl rfl) rfl ?_
    exact do_end HD.out rfl rfl rfl rfl hX.firm hX.wait (HB.out.below.setCell (Nat.le_refl _) _) q2 q3 hk9 hb9 ⟨#[]⟩ rfl
set_option maxRecDepth 100000 in
set_option maxHeartbeats 1000000 in
theorem rdo_neg (B : Nat) (Af Aw : Option Addr) (cf cw : Nat) (D : Dk) (k : Int) (n t : Int) (A : Option Addr) (len cap : Nat) (zs : List Int) (w : World) (h : RDisk w B (.slice Af D.firm.length cf) (.slice Aw D.wait.length cw) D) (hk : k < 0) :
    Calls Try.prog 24 #[.agg #[.slice Af D.firm.length cf, .slice Aw D.wait.length cw, .int .i64 D.armed, .bool D.dead], .agg #[.int .i64 k, .int .i64 n, .int .i64 t, .slice A len cap]] w (DoPost w B D k n t zs) := by
  have HD : Hid (doD D k n t zs = (D, [], 0)) := Lib.hid (by unfold doD; rw [if_neg (by omega), if_neg (by omega), if_pos (by omega)])
  have t3 : (k == 3) = false := by simp; omega
  have t4 : (k == 4) = false := by simp; omega
  have H := Lib.hid h
  clear h
  go_enter Try.func24, Try.ntmps24
  go_upto_region 0 with fail
  go_cut [2, 3, 4, 5] (fun s2 s3 s4 s5 wx => DCut w #[.slice Af D.firm.length cf, .slice Aw D.wait.length cw, .int .i64 D.armed, .bool D.dead] k n t A len cap s2 s3 s4 s5 wx)
  case first =>
    go_wp2_with fail
    go_meet
    exact dcut_mk _ _ _ _ _ _ _ _
  case rest =>
    obtain ⟨rfl, rfl, rfl, rfl, hbx⟩ := hcut
    have HB := Lib.hid hbx
    have HR := Lib.hid (H.out.kept hbx.below)
    have d0 := cell_of hbx.b0 (j := 0) rfl
    have d1 := cell_of hbx.b0 (j := 1) rfl
    have d2 := cell_of hbx.b0 (j := 2) rfl
    have d3 := cell_of hbx.b0 (j := 3) rfl
    have o0 := cell_of hbx.b1 (j := 0) rfl
    have o1 := cell_of hbx.b1 (j := 1) rfl
    have o2 := cell_of hbx.b1 (j := 2) rfl
    have o3 := cell_of hbx.b1 (j := 3) rfl
    have r0 := cell_of hbx.b2 (j := 0) rfl
    have r1 := cell_of hbx.b2 (j := 1) rfl
    have r2 := cell_of hbx.b2 (j := 2) rfl
    have r3 := cell_of hbx.b2 (j := 3) rfl
    have rf0 := frozen_of_row _ (w.heap.size + 1 + 1) 0 _ _ hbx.b2
    have rf1 := frozen_of_row _ (w.heap.size + 1 + 1) 1 _ _ hbx.b2
    have rf2 := frozen_of_row _ (w.heap.size + 1 + 1) 2 _ _ hbx.b2
    have rf3 := frozen_of_row _ (w.heap.size + 1 + 1) 3 _ _ hbx.b2
    have a0 := cell_of hbx.b3 (j := 0) rfl
    have a1 := cell_of hbx.b3 (j := 1) rfl
    have af0 := frozen_of_row _ (w.heap.size + 1 + 1 + 1) 0 _ _ hbx.b3
    have af1 := frozen_of_row _ (w.heap.size + 1 + 1 + 1) 1 _ _ hbx.b3
    clear hbx
    go_wp2
    (try simp only [Exit.inBlock, Exit.then])
    obtain ⟨w9, hw9, s2, s3, hk9, hb9⟩ := do_sets HB.out.b2 HB.out.b3 (.slice Af D.firm.length cf) (.slice Aw D.wait.length cw) (.int .i64 (D.armed)) (.bool D.dead) (.string ⟨#[]⟩) (.int .i64 0)
    subst hw9
    refine bodyPost_ret (v := .tuple #[.agg #[.slice Af D.firm.length cf, .slice Aw D.wait.length cw, .int .i64 (D.armed), .bool D.dead], .agg #[.string ⟨#[]⟩, .int .i64 0]]) (results_two rfl _ _ (w.heap.size + 1 + 1) (w.heap.size + 1 + 1 + 1) _ _ rfl rfl s2 s3 rfl rfl) rfl ?_
    exact do_end HD.out rfl rfl rfl rfl HR.out.firm HR.out.wait HB.out.below HB.out.b2 HB.out.b3 hk9 hb9 ⟨#[]⟩ rfl
set_option maxRecDepth 100000 in
set_option maxHeartbeats 1000000 in
theorem rdo_big (B : Nat) (Af Aw : Option Addr) (cf cw : Nat) (D : Dk) (k : Int) (n t : Int) (A : Option Addr) (len cap : Nat) (zs : List Int) (w : World) (h : RDisk w B (.slice Af D.firm.length cf) (.slice Aw D.wait.length cw) D) (hk : 4 < k) :
    Calls Try.prog 24 #[.agg #[.slice Af D.firm.length cf, .slice Aw D.wait.length cw, .int .i64 D.armed, .bool D.dead], .agg #[.int .i64 k, .int .i64 n, .int .i64 t, .slice A len cap]] w (DoPost w B D k n t zs) := by
  have HD : Hid (doD D k n t zs = (D, [], 0)) := Lib.hid (by unfold doD; rw [if_neg (by omega), if_neg (by omega), if_pos (by omega)])
  have t3 : (k == 3) = false := by simp; omega
  have t4 : (k == 4) = false := by simp; omega
  have H := Lib.hid h
  clear h
  go_enter Try.func24, Try.ntmps24
  go_upto_region 0 with fail
  go_cut [2, 3, 4, 5] (fun s2 s3 s4 s5 wx => DCut w #[.slice Af D.firm.length cf, .slice Aw D.wait.length cw, .int .i64 D.armed, .bool D.dead] k n t A len cap s2 s3 s4 s5 wx)
  case first =>
    go_wp2_with fail
    go_meet
    exact dcut_mk _ _ _ _ _ _ _ _
  case rest =>
    obtain ⟨rfl, rfl, rfl, rfl, hbx⟩ := hcut
    have HB := Lib.hid hbx
    have HR := Lib.hid (H.out.kept hbx.below)
    have d0 := cell_of hbx.b0 (j := 0) rfl
    have d1 := cell_of hbx.b0 (j := 1) rfl
    have d2 := cell_of hbx.b0 (j := 2) rfl
    have d3 := cell_of hbx.b0 (j := 3) rfl
    have o0 := cell_of hbx.b1 (j := 0) rfl
    have o1 := cell_of hbx.b1 (j := 1) rfl
    have o2 := cell_of hbx.b1 (j := 2) rfl
    have o3 := cell_of hbx.b1 (j := 3) rfl
    have r0 := cell_of hbx.b2 (j := 0) rfl
    have r1 := cell_of hbx.b2 (j := 1) rfl
    have r2 := cell_of hbx.b2 (j := 2) rfl
    have r3 := cell_of hbx.b2 (j := 3) rfl
    have rf0 := frozen_of_row _ (w.heap.size + 1 + 1) 0 _ _ hbx.b2
    have rf1 := frozen_of_row _ (w.heap.size + 1 + 1) 1 _ _ hbx.b2
    have rf2 := frozen_of_row _ (w.heap.size + 1 + 1) 2 _ _ hbx.b2
    have rf3 := frozen_of_row _ (w.heap.size + 1 + 1) 3 _ _ hbx.b2
    have a0 := cell_of hbx.b3 (j := 0) rfl
    have a1 := cell_of hbx.b3 (j := 1) rfl
    have af0 := frozen_of_row _ (w.heap.size + 1 + 1 + 1) 0 _ _ hbx.b3
    have af1 := frozen_of_row _ (w.heap.size + 1 + 1 + 1) 1 _ _ hbx.b3
    clear hbx
    go_wp2
    (try simp only [Exit.inBlock, Exit.then])
    obtain ⟨w9, hw9, s2, s3, hk9, hb9⟩ := do_sets HB.out.b2 HB.out.b3 (.slice Af D.firm.length cf) (.slice Aw D.wait.length cw) (.int .i64 (D.armed)) (.bool D.dead) (.string ⟨#[]⟩) (.int .i64 0)
    subst hw9
    refine bodyPost_ret (v := .tuple #[.agg #[.slice Af D.firm.length cf, .slice Aw D.wait.length cw, .int .i64 (D.armed), .bool D.dead], .agg #[.string ⟨#[]⟩, .int .i64 0]]) (results_two rfl _ _ (w.heap.size + 1 + 1) (w.heap.size + 1 + 1 + 1) _ _ rfl rfl s2 s3 rfl rfl) rfl ?_
    exact do_end HD.out rfl rfl rfl rfl HR.out.firm HR.out.wait HB.out.below HB.out.b2 HB.out.b3 hk9 hb9 ⟨#[]⟩ rfl
end Go.Proofs.Ytogofgfdkkjnlaa
