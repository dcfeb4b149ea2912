/-
  What the document's Do returns, case by case (badhigh, badlong). Condition: not too many sectors and writes.
-/
import Derived.Test.YtogofgfdkkjnlaaRDoBox
namespace Go.Proofs.Ytogofgfdkkjnlaa
open Go.ChangeShapes Go.WideShapes Go.ChangeAt Go.RowKit

set_option maxRecDepth 100000 in
set_option maxHeartbeats 1000000 in
theorem rdo_badhigh (B : Nat) (Af Aw : Option Addr) (cf cw : Nat) (D : Dk) (k : Int) (n t : Int) (A : Option Addr) (len cap : Nat) (zs : List Int) (w : World) (h : RDisk w B (.slice Af D.firm.length cf) (.slice Aw D.wait.length cw) D) (hk : 0 ≤ k ∧ k ≤ 1) (hd : D.dead = false) (hx : (D.firm.length : Int) ≤ n) (h0 : 0 ≤ n) :
    Calls Try.prog 24 #[.agg #[.slice Af D.firm.length cf, .slice Aw D.wait.length cw, .int .i64 D.armed, .bool D.dead], .agg #[.int .i64 k, .int .i64 n, .int .i64 t, .slice A len cap]] w (DoPost w B D k n t zs) := by
  have HD : Hid (doD D k n t zs = (D, [], 41)) := Lib.hid (by unfold doD; rw [if_neg (by omega), if_neg (by omega), if_neg (by omega), if_neg (by simp [hd]), if_neg (by omega), if_pos (by omega)])
  have t3 : (k == 3) = false := by simp; omega
  have t4 : (k == 4) = false := by simp; omega
  have t2 : (k == 2) = false := by simp; omega
  obtain ⟨hk0, hk1⟩ := hk
  have HDD := Lib.hid hd
  clear hd
  have H := Lib.hid h
  clear h
  go_enter Try.func24, Try.ntmps24
  go_upto_region 0 with fail
  go_cut [2, 3, 4, 5] (fun s2 s3 s4 s5 wx => DCut w #[.slice Af D.firm.length cf, .slice Aw D.wait.length cw, .int .i64 D.armed, .bool D.dead] k n t A len cap s2 s3 s4 s5 wx)
  case first =>
    go_wp2_with fail
    go_meet
    exact dcut_mk _ _ _ _ _ _ _ _
  case rest =>
    obtain ⟨rfl, rfl, rfl, rfl, hbx⟩ := hcut
    have HB := Lib.hid hbx
    have HR := Lib.hid (H.out.kept hbx.below)
    have d0 := cell_of hbx.b0 (j := 0) rfl
    have d1 := cell_of hbx.b0 (j := 1) rfl
    have d2 := cell_of hbx.b0 (j := 2) rfl
    have d3 := cell_of hbx.b0 (j := 3) rfl
    have o0 := cell_of hbx.b1 (j := 0) rfl
    have o1 := cell_of hbx.b1 (j := 1) rfl
    have o2 := cell_of hbx.b1 (j := 2) rfl
    have o3 := cell_of hbx.b1 (j := 3) rfl
    have r0 := cell_of hbx.b2 (j := 0) rfl
    have r1 := cell_of hbx.b2 (j := 1) rfl
    have r2 := cell_of hbx.b2 (j := 2) rfl
    have r3 := cell_of hbx.b2 (j := 3) rfl
    have rf0 := frozen_of_row _ (w.heap.size + 1 + 1) 0 _ _ hbx.b2
    have rf1 := frozen_of_row _ (w.heap.size + 1 + 1) 1 _ _ hbx.b2
    have rf2 := frozen_of_row _ (w.heap.size + 1 + 1) 2 _ _ hbx.b2
    have rf3 := frozen_of_row _ (w.heap.size + 1 + 1) 3 _ _ hbx.b2
    have a0 := cell_of hbx.b3 (j := 0) rfl
    have a1 := cell_of hbx.b3 (j := 1) rfl
    have af0 := frozen_of_row _ (w.heap.size + 1 + 1 + 1) 0 _ _ hbx.b3
    have af1 := frozen_of_row _ (w.heap.size + 1 + 1 + 1) 1 _ _ hbx.b3
    clear hbx
    rw [HDD.out] at d3
    go_wp2
    (try simp only [Exit.inBlock, Exit.then])
    obtain ⟨w9, hw9, s2, s3, hk9, hb9⟩ := do_sets HB.out.b2 HB.out.b3 (.slice Af D.firm.length cf) (.slice Aw D.wait.length cw) (.int .i64 (D.armed)) (.bool false) (.string ⟨#[]⟩) (.int .i64 41)
    subst hw9
    refine bodyPost_ret (v := .tuple #[.agg #[.slice Af D.firm.length cf, .slice Aw D.wait.length cw, .int .i64 (D.armed), .bool false], .agg #[.string ⟨#[]⟩, .int .i64 41]]) (results_two rfl _ _ (w.heap.size + 1 + 1) (w.heap.size + 1 + 1 + 1) _ _ rfl rfl s2 s3 rfl rfl) rfl ?_
    exact do_end HD.out rfl rfl rfl HDD.out.symm HR.out.firm HR.out.wait HB.out.below HB.out.b2 HB.out.b3 hk9 hb9 ⟨#[]⟩ rfl
set_option maxRecDepth 100000 in
set_option maxHeartbeats 1000000 in
theorem rdo_badlong (B : Nat) (Af Aw : Option Addr) (cf cw : Nat) (D : Dk) (n t : Int) (A : Option Addr) (len cap : Nat) (zs : List Int) (w : World) (h : RDisk w B (.slice Af D.firm.length cf) (.slice Aw D.wait.length cw) D) (hd : D.dead = false) (h0 : 0 ≤ n) (hx : n < (D.firm.length : Int)) (hl : 64 < len) (hz : zs.length = len) :
    Calls Try.prog 24 #[.agg #[.slice Af D.firm.length cf, .slice Aw D.wait.length cw, .int .i64 D.armed, .bool D.dead], .agg #[.int .i64 0, .int .i64 n, .int .i64 t, .slice A len cap]] w (DoPost w B D 0 n t zs) := by
  have HD : Hid (doD D 0 n t zs = (D, [], 41)) := Lib.hid (by unfold doD; rw [if_neg (by decide), if_neg (by decide), if_neg (by decide), if_neg (by simp [hd]), if_neg (by decide), if_pos (by omega)])
  have hl' : (64 : Int) < (len : Int) := by omega
  have HDD := Lib.hid hd
  clear hd hz
  have H := Lib.hid h
  clear h
  go_enter Try.func24, Try.ntmps24
  go_upto_region 0 with fail
  go_cut [2, 3, 4, 5] (fun s2 s3 s4 s5 wx => DCut w #[.slice Af D.firm.length cf, .slice Aw D.wait.length cw, .int .i64 D.armed, .bool D.dead] 0 n t A len cap s2 s3 s4 s5 wx)
  case first =>
    go_wp2_with fail
    go_meet
    exact dcut_mk _ _ _ _ _ _ _ _
  case rest =>
    obtain ⟨rfl, rfl, rfl, rfl, hbx⟩ := hcut
    have HB := Lib.hid hbx
    have HR := Lib.hid (H.out.kept hbx.below)
    have d0 := cell_of hbx.b0 (j := 0) rfl
    have d1 := cell_of hbx.b0 (j := 1) rfl
    have d2 := cell_of hbx.b0 (j := 2) rfl
    have d3 := cell_of hbx.b0 (j := 3) rfl
    have o0 := cell_of hbx.b1 (j := 0) rfl
    have o1 := cell_of hbx.b1 (j := 1) rfl
    have o2 := cell_of hbx.b1 (j := 2) rfl
    have o3 := cell_of hbx.b1 (j := 3) rfl
    have r0 := cell_of hbx.b2 (j := 0) rfl
    have r1 := cell_of hbx.b2 (j := 1) rfl
    have r2 := cell_of hbx.b2 (j := 2) rfl
    have r3 := cell_of hbx.b2 (j := 3) rfl
    have rf0 := frozen_of_row _ (w.heap.size + 1 + 1) 0 _ _ hbx.b2
    have rf1 := frozen_of_row _ (w.heap.size + 1 + 1) 1 _ _ hbx.b2
    have rf2 := frozen_of_row _ (w.heap.size + 1 + 1) 2 _ _ hbx.b2
    have rf3 := frozen_of_row _ (w.heap.size + 1 + 1) 3 _ _ hbx.b2
    have a0 := cell_of hbx.b3 (j := 0) rfl
    have a1 := cell_of hbx.b3 (j := 1) rfl
    have af0 := frozen_of_row _ (w.heap.size + 1 + 1 + 1) 0 _ _ hbx.b3
    have af1 := frozen_of_row _ (w.heap.size + 1 + 1 + 1) 1 _ _ hbx.b3
    clear hbx
    rw [HDD.out] at d3
    go_wp2
    (try simp only [Exit.inBlock, Exit.then])
    obtain ⟨w9, hw9, s2, s3, hk9, hb9⟩ := do_sets HB.out.b2 HB.out.b3 (.slice Af D.firm.length cf) (.slice Aw D.wait.length cw) (.int .i64 (D.armed)) (.bool false) (.string ⟨#[]⟩) (.int .i64 41)
    subst hw9
    refine bodyPost_ret (v := .tuple #[.agg #[.slice Af D.firm.length cf, .slice Aw D.wait.length cw, .int .i64 (D.armed), .bool false], .agg #[.string ⟨#[]⟩, .int .i64 41]]) (results_two rfl _ _ (w.heap.size + 1 + 1) (w.heap.size + 1 + 1 + 1) _ _ rfl rfl s2 s3 rfl rfl) rfl ?_
    exact do_end HD.out rfl rfl rfl HDD.out.symm HR.out.firm HR.out.wait HB.out.below HB.out.b2 HB.out.b3 hk9 hb9 ⟨#[]⟩ rfl
end Go.Proofs.Ytogofgfdkkjnlaa
