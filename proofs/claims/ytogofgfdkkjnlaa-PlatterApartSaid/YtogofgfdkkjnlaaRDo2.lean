/-
  What the document's Do returns, case by case (dead, crash, badlow). Condition: not too many sectors and writes.
-/
import Derived.Test.YtogofgfdkkjnlaaRDoBox
namespace Go.Proofs.Ytogofgfdkkjnlaa
open Go.ChangeShapes Go.WideShapes Go.ChangeAt Go.RowKit

set_option maxRecDepth 100000 in
set_option maxHeartbeats 1000000 in
theorem rdo_dead (B : Nat) (Af Aw : Option Addr) (cf cw : Nat) (D : Dk) (k : Int) (n t : Int) (A : Option Addr) (len cap : Nat) (zs : List Int) (w : World) (h : RDisk w B (.slice Af D.firm.length cf) (.slice Aw D.wait.length cw) D) (hk : 0 ≤ k ∧ k ≤ 2) (hd : D.dead = true) :
    Calls Try.prog 24 #[.agg #[.slice Af D.firm.length cf, .slice Aw D.wait.length cw, .int .i64 D.armed, .bool D.dead], .agg #[.int .i64 k, .int .i64 n, .int .i64 t, .slice A len cap]] w (DoPost w B D k n t zs) := by
  have HD : Hid (doD D k n t zs = (D, [], 40)) := Lib.hid (by unfold doD; rw [if_neg (by omega), if_neg (by omega), if_neg (by omega), if_pos hd])
  have t3 : (k == 3) = false := by simp; omega
  have t4 : (k == 4) = false := by simp; omega
  obtain ⟨hk0, hk2⟩ := hk
  have HDD := Lib.hid hd
  clear hd
  have H := Lib.hid h
  clear h
  go_enter Try.func24, Try.ntmps24
  go_upto_region 0 with fail
  go_cut [2, 3, 4, 5] (fun s2 s3 s4 s5 wx => DCut w #[.slice Af D.firm.length cf, .slice Aw D.wait.length cw, .int .i64 D.armed, .bool D.dead] k n t A len cap s2 s3 s4 s5 wx)
  case first =>
    go_wp2_with fail
    go_meet
    exact dcut_mk _ _ _ _ _ _ _ _
  case rest =>
    obtain ⟨rfl, rfl, rfl, rfl, hbx⟩ := hcut
    have HB := Lib.hid hbx
    have HR := Lib.hid (H.out.kept hbx.below)
    have d0 := cell_of hbx.b0 (j := 0) rfl
    have d1 := cell_of hbx.b0 (j := 1) rfl
    have d2 := cell_of hbx.b0 (j := 2) rfl
    have d3 := cell_of hbx.b0 (j := 3) rfl
    have o0 := cell_of hbx.b1 (j := 0) rfl
    have o1 := cell_of hbx.b1 (j := 1) rfl
    have o2 := cell_of hbx.b1 (j := 2) rfl
    have o3 := cell_of hbx.b1 (j := 3) rfl
    have r0 := cell_of hbx.b2 (j := 0) rfl
    have r1 := cell_of hbx.b2 (j := 1) rfl
    have r2 := cell_of hbx.b2 (j := 2) rfl
    have r3 := cell_of hbx.b2 (j := 3) rfl
    have rf0 := frozen_of_row _ (w.heap.size + 1 + 1) 0 _ _ hbx.b2
    have rf1 := frozen_of_row _ (w.heap.size + 1 + 1) 1 _ _ hbx.b2
    have rf2 := frozen_of_row _ (w.heap.size + 1 + 1) 2 _ _ hbx.b2
    have rf3 := frozen_of_row _ (w.heap.size + 1 + 1) 3 _ _ hbx.b2
    have a0 := cell_of hbx.b3 (j := 0) rfl
    have a1 := cell_of hbx.b3 (j := 1) rfl
    have af0 := frozen_of_row _ (w.heap.size + 1 + 1 + 1) 0 _ _ hbx.b3
    have af1 := frozen_of_row _ (w.heap.size + 1 + 1 + 1) 1 _ _ hbx.b3
    clear hbx
    rw [HDD.out] at d3
    go_wp2
    (try simp only [Exit.inBlock, Exit.then])
    obtain ⟨w9, hw9, s2, s3, hk9, hb9⟩ := do_sets HB.out.b2 HB.out.b3 (.slice Af D.firm.length cf) (.slice Aw D.wait.length cw) (.int .i64 (D.armed)) (.bool true) (.string ⟨#[]⟩) (.int .i64 40)
    subst hw9
    refine bodyPost_ret (v := .tuple #[.agg #[.slice Af D.firm.length cf, .slice Aw D.wait.length cw, .int .i64 (D.armed), .bool true], .agg #[.string ⟨#[]⟩, .int .i64 40]]) (results_two rfl _ _ (w.heap.size + 1 + 1) (w.heap.size + 1 + 1 + 1) _ _ rfl rfl s2 s3 rfl rfl) rfl ?_
    exact do_end HD.out rfl rfl rfl HDD.out.symm HR.out.firm HR.out.wait HB.out.below HB.out.b2 HB.out.b3 hk9 hb9 ⟨#[]⟩ rfl
set_option maxRecDepth 100000 in
set_option maxHeartbeats 1000000 in
theorem rdo_crash (B : Nat) (Af Aw : Option Addr) (cf cw : Nat) (D : Dk) (n t : Int) (A : Option Addr) (len cap : Nat) (zs : List Int) (w : World) (h : RDisk w B (.slice Af D.firm.length cf) (.slice Aw D.wait.length cw) D) (hBw : B ≤ w.heap.size) (hok : Dok D) (hn : D.firm.length ≤ 65536) :
    Calls Try.prog 24 #[.agg #[.slice Af D.firm.length cf, .slice Aw D.wait.length cw, .int .i64 D.armed, .bool D.dead], .agg #[.int .i64 4, .int .i64 n, .int .i64 t, .slice A len cap]] w (DoPost w B D 4 n t zs) := by
  have HD : Hid (doD D 4 n t zs = (crash D n t, [], 0)) := Lib.hid (by unfold doD; rw [if_neg (by decide), if_pos rfl])
  have HBW : ∀ wc : World, Below w.heap.size w wc → B ≤ wc.heap.size := fun wc h => Nat.le_trans hBw h.size
  have H := Lib.hid h
  clear h
  go_enter Try.func24, Try.ntmps24
  go_upto_region 0 with fail
  go_cut [2, 3, 4, 5] (fun s2 s3 s4 s5 wx => DCut w #[.slice Af D.firm.length cf, .slice Aw D.wait.length cw, .int .i64 D.armed, .bool D.dead] 4 n t A len cap s2 s3 s4 s5 wx)
  case first =>
    go_wp2_with fail
    go_meet
    exact dcut_mk _ _ _ _ _ _ _ _
  case rest =>
    obtain ⟨rfl, rfl, rfl, rfl, hbx⟩ := hcut
    have HB := Lib.hid hbx
    have HR := Lib.hid (H.out.kept hbx.below)
    have d0 := cell_of hbx.b0 (j := 0) rfl
    have d1 := cell_of hbx.b0 (j := 1) rfl
    have d2 := cell_of hbx.b0 (j := 2) rfl
    have d3 := cell_of hbx.b0 (j := 3) rfl
    have o0 := cell_of hbx.b1 (j := 0) rfl
    have o1 := cell_of hbx.b1 (j := 1) rfl
    have o2 := cell_of hbx.b1 (j := 2) rfl
    have o3 := cell_of hbx.b1 (j := 3) rfl
    have HC := Lib.hid (rcrash_any B _ _ D n t wc HR.out hok hn)
    clear hbx
    clear hok
    go_wp2_with fail
    refine HC.out.mono ?_
    rintro e w2 ⟨Af2, cf2, rfl, hr2, hb2⟩
    have HB2 := Lib.hid (HB.out.kept hb2)
    have HR2 := Lib.hid hr2
    have hlen : D.firm.length = (crash D n t).firm.length := (crash_length _ _ _ _).symm
    have HLE := Lib.hid hlen
    clear hb2 hr2 hlen
    have r0 := cell_of HB2.out.b2 (j := 0) rfl
    have r1 := cell_of HB2.out.b2 (j := 1) rfl
    have r2 := cell_of HB2.out.b2 (j := 2) rfl
    have r3 := cell_of HB2.out.b2 (j := 3) rfl
    have rf0 := frozen_of_row _ (w.heap.size + 1 + 1) 0 _ _ HB2.out.b2
    have rf1 := frozen_of_row _ (w.heap.size + 1 + 1) 1 _ _ HB2.out.b2
    have rf2 := frozen_of_row _ (w.heap.size + 1 + 1) 2 _ _ HB2.out.b2
    have rf3 := frozen_of_row _ (w.heap.size + 1 + 1) 3 _ _ HB2.out.b2
    have a0 := cell_of HB2.out.b3 (j := 0) rfl
    have a1 := cell_of HB2.out.b3 (j := 1) rfl
    have af0 := frozen_of_row _ (w.heap.size + 1 + 1 + 1) 0 _ _ HB2.out.b3
    have af1 := frozen_of_row _ (w.heap.size + 1 + 1 + 1) 1 _ _ HB2.out.b3
    clear d0 d1 d2 d3 o0 o1 o2 o3
    go_wp2
    have hX := HR2.out
    have hf := own_base hX.firm (HBW _ HB.out.below)
    have hw := own_base hX.wait (HBW _ HB.out.below)
    rw [← HLE.out] at hf
    (try simp only [Exit.inBlock, Exit.then])
    obtain ⟨w9, hw9, s2, s3, hk9, hb9⟩ := do_sets HB2.out.b2 HB2.out.b3 (.slice Af2 D.firm.length cf2) (.slice none 0 0) (.int .i64 (0)) (.bool false) (.string ⟨#[]⟩) (.int .i64 0)
    subst hw9
    refine bodyPost_ret (v := .tuple #[.agg #[.slice Af2 D.firm.length cf2, .slice none 0 0, .int .i64 (0), .bool false], .agg #[.string ⟨#[]⟩, .int .i64 0]]) (results_two rfl _ _ (w.heap.size + 1 + 1) (w.heap.size + 1 + 1 + 1) _ _ rfl rfl s2 s3 rfl rfl) rfl ?_
    exact do_end HD.out HLE.out rfl rfl rfl hf hw HB2.out.below HB2.out.b2 HB2.out.b3 hk9 hb9 ⟨#[]⟩ rfl
set_option maxRecDepth 100000 in
set_option maxHeartbeats 1000000 in
theorem rdo_badlow (B : Nat) (Af Aw : Option Addr) (cf cw : Nat) (D : Dk) (k : Int) (n t : Int) (A : Option Addr) (len cap : Nat) (zs : List Int) (w : World) (h : RDisk w B (.slice Af D.firm.length cf) (.slice Aw D.wait.length cw) D) (hk : 0 ≤ k ∧ k ≤ 1) (hd : D.dead = false) (hx : n < 0) :
    Calls Try.prog 24 #[.agg #[.slice Af D.firm.length cf, .slice Aw D.wait.length cw, .int .i64 D.armed, .bool D.dead], .agg #[.int .i64 k, .int .i64 n, .int .i64 t, .slice A len cap]] w (DoPost w B D k n t zs) := by
  have HD : Hid (doD D k n t zs = (D, [], 41)) := Lib.hid (by unfold doD; rw [if_neg (by omega), if_neg (by omega), if_neg (by omega), if_neg (by simp [hd]), if_neg (by omega), if_pos (by omega)])
  have t3 : (k == 3) = false := by simp; omega
  have t4 : (k == 4) = false := by simp; omega
  have t2 : (k == 2) = false := by simp; omega
  obtain ⟨hk0, hk1⟩ := hk
  have HDD := Lib.hid hd
  clear hd
  have H := Lib.hid h
  clear h
  go_enter Try.func24, Try.ntmps24
  go_upto_region 0 with fail
  go_cut [2, 3, 4, 5] (fun s2 s3 s4 s5 wx => DCut w #[.slice Af D.firm.length cf, .slice Aw D.wait.length cw, .int .i64 D.armed, .bool D.dead] k n t A len cap s2 s3 s4 s5 wx)
  case first =>
    go_wp2_with fail
    go_meet
    exact dcut_mk _ _ _ _ _ _ _ _
  case rest =>
    obtain ⟨rfl, rfl, rfl, rfl, hbx⟩ := hcut
    have HB := Lib.hid hbx
    have HR := Lib.hid (H.out.kept hbx.below)
    have d0 := cell_of hbx.b0 (j := 0) rfl
    have d1 := cell_of hbx.b0 (j := 1) rfl
    have d2 := cell_of hbx.b0 (j := 2) rfl
    have d3 := cell_of hbx.b0 (j := 3) rfl
    have o0 := cell_of hbx.b1 (j := 0) rfl
    have o1 := cell_of hbx.b1 (j := 1) rfl
    have o2 := cell_of hbx.b1 (j := 2) rfl
    have o3 := cell_of hbx.b1 (j := 3) rfl
    have r0 := cell_of hbx.b2 (j := 0) rfl
    have r1 := cell_of hbx.b2 (j := 1) rfl
    have r2 := cell_of hbx.b2 (j := 2) rfl
    have r3 := cell_of hbx.b2 (j := 3) rfl
    have rf0 := frozen_of_row _ (w.heap.size + 1 + 1) 0 _ _ hbx.b2
    have rf1 := frozen_of_row _ (w.heap.size + 1 + 1) 1 _ _ hbx.b2
    have rf2 := frozen_of_row _ (w.heap.size + 1 + 1) 2 _ _ hbx.b2
    have rf3 := frozen_of_row _ (w.heap.size + 1 + 1) 3 _ _ hbx.b2
    have a0 := cell_of hbx.b3 (j := 0) rfl
    have a1 := cell_of hbx.b3 (j := 1) rfl
    have af0 := frozen_of_row _ (w.heap.size + 1 + 1 + 1) 0 _ _ hbx.b3
    have af1 := frozen_of_row _ (w.heap.size + 1 + 1 + 1) 1 _ _ hbx.b3
    clear hbx
    rw [HDD.out] at d3
    go_wp2
    (try simp only [Exit.inBlock, Exit.then])
    obtain ⟨w9, hw9, s2, s3, hk9, hb9⟩ := do_sets HB.out.b2 HB.out.b3 (.slice Af D.firm.length cf) (.slice Aw D.wait.length cw) (.int .i64 (D.armed)) (.bool false) (.string ⟨#[]⟩) (.int .i64 41)
    subst hw9
    refine bodyPost_ret (v := .tuple #[.agg #[.slice Af D.firm.length cf, .slice Aw D.wait.length cw, .int .i64 (D.armed), .bool false], .agg #[.string ⟨#[]⟩, .int .i64 41]]) (results_two rfl _ _ (w.heap.size + 1 + 1) (w.heap.size + 1 + 1 + 1) _ _ rfl rfl s2 s3 rfl rfl) rfl ?_
    exact do_end HD.out rfl rfl rfl HDD.out.symm HR.out.firm HR.out.wait HB.out.below HB.out.b2 HB.out.b3 hk9 hb9 ⟨#[]⟩ rfl
end Go.Proofs.Ytogofgfdkkjnlaa
