/-
  What the document's Do returns, case by case (read). Condition: not too many sectors and writes.
-/
import Derived.Test.YtogofgfdkkjnlaaRDoBox
namespace Go.Proofs.Ytogofgfdkkjnlaa
open Go.ChangeShapes Go.WideShapes Go.ChangeAt Go.RowKit

set_option maxRecDepth 100000 in
set_option maxHeartbeats 1000000 in
theorem rdo_read (B : Nat) (Af Aw : Option Addr) (cf cw : Nat) (D : Dk) (m : Nat) (t : Int) (A : Option Addr) (len cap : Nat) (zs : List Int) (w : World) (h : RDisk w B (.slice Af D.firm.length cf) (.slice Aw D.wait.length cw) D) (hd : D.dead = false) (hx : m < D.firm.length) :
    Calls Try.prog 24 #[.agg #[.slice Af D.firm.length cf, .slice Aw D.wait.length cw, .int .i64 D.armed, .bool D.dead], .agg #[.int .i64 1, .int .i64 (m : Int), .int .i64 t, .slice A len cap]] w (DoPost w B D 1 (m : Int) t zs) := by
  have HD : Hid (doD D 1 (m : Int) t zs = (D, (cur D).getD m [], 0)) := Lib.hid (by unfold doD; rw [if_neg (by decide), if_neg (by decide), if_neg (by decide), if_neg (by simp [hd]), if_neg (by decide), if_neg (by omega), if_pos rfl]; rfl)
  have hm0 : (0 : Int) ≤ (m : Int) := by omega
  have hm1 : (m : Int) < (D.firm.length : Int) := by omega
  have HX := Lib.hid hx
  have HDD := Lib.hid hd
  obtain ⟨S, hS⟩ : ∃ S, S = strOfNums ((cur D).getD m []) := ⟨_, rfl⟩
  have HS := Lib.hid hS
  clear hd hx hS
  have H := Lib.hid h
  clear h
  go_enter Try.func24, Try.ntmps24
  go_upto_region 0 with fail
  go_cut [2, 3, 4, 5] (fun s2 s3 s4 s5 wx => DCut w #[.slice Af D.firm.length cf, .slice Aw D.wait.length cw, .int .i64 D.armed, .bool D.dead] 1 (m : Int) t A len cap s2 s3 s4 s5 wx)
  case first =>
    go_wp2_with fail
    go_meet
    exact dcut_mk _ _ _ _ _ _ _ _
  case rest =>
    obtain ⟨rfl, rfl, rfl, rfl, hbx⟩ := hcut
    have HB := Lib.hid hbx
    have HR := Lib.hid (H.out.kept hbx.below)
    have d0 := cell_of hbx.b0 (j := 0) rfl
    have d1 := cell_of hbx.b0 (j := 1) rfl
    have d2 := cell_of hbx.b0 (j := 2) rfl
    have d3 := cell_of hbx.b0 (j := 3) rfl
    have o0 := cell_of hbx.b1 (j := 0) rfl
    have o1 := cell_of hbx.b1 (j := 1) rfl
    have o2 := cell_of hbx.b1 (j := 2) rfl
    have o3 := cell_of hbx.b1 (j := 3) rfl

    clear hbx
    rw [HDD.out] at d3
    have HC : Hid (Calls Try.prog 28 #[.agg #[.slice Af D.firm.length cf, .slice Aw D.wait.length cw, .int .i64 D.armed, .bool false], .int .i64 (m : Int)] wc.drew (RrPost wc.drew D m)) := Lib.hid (by have := rread_any B _ _ D m wc.drew (HR.out.kept (Below.refl _ _).drew) HX.out; rw [HDD.out] at this; exact this)
    have HSS : Hid (RdS w.heap.size (.slice Af D.firm.length cf) (.slice Aw D.wait.length cw) D.armed m wc.drew) := Lib.hid ⟨d0, d1, d2, d3, o1⟩
    have x0 : ∀ w', RdS w.heap.size (.slice Af D.firm.length cf) (.slice Aw D.wait.length cw) D.armed m w' → w'.cell? ⟨w.heap.size, 0, none⟩ = some (.slice Af D.firm.length cf) := fun w' h => h.1
    have x1 : ∀ w', RdS w.heap.size (.slice Af D.firm.length cf) (.slice Aw D.wait.length cw) D.armed m w' → w'.cell? ⟨w.heap.size, 1, none⟩ = some (.slice Aw D.wait.length cw) := fun w' h => h.2.1
    have x2 : ∀ w', RdS w.heap.size (.slice Af D.firm.length cf) (.slice Aw D.wait.length cw) D.armed m w' → w'.cell? ⟨w.heap.size, 2, none⟩ = some (.int .i64 D.armed) := fun w' h => h.2.2.1
    have x3 : ∀ w', RdS w.heap.size (.slice Af D.firm.length cf) (.slice Aw D.wait.length cw) D.armed m w' → w'.cell? ⟨w.heap.size, 3, none⟩ = some (.bool false) := fun w' h => h.2.2.2.1
    have x4 : ∀ w', RdS w.heap.size (.slice Af D.firm.length cf) (.slice Aw D.wait.length cw) D.armed m w' → w'.cell? ⟨w.heap.size + 1, 1, none⟩ = some (.int .i64 (m : Int)) := fun w' h => h.2.2.2.2
    have HK2 := Lib.hid (fun w' j v => rds_set (H := w.heap.size) (fv := .slice Af D.firm.length cf) (wv := .slice Aw D.wait.length cw) (a := D.armed) (m := m) (w' := w') (q := w.heap.size + 1 + 1) (j := j) (v := v) (by omega))
    have HK3 := Lib.hid (fun w' j v => rds_set (H := w.heap.size) (fv := .slice Af D.firm.length cf) (wv := .slice Aw D.wait.length cw) (a := D.armed) (m := m) (w' := w') (q := w.heap.size + 1 + 1 + 1) (j := j) (v := v) (by omega))
    go_upto_region 20 with fail
    clear d0 d1 d2 d3 o0 o1 o2 o3
    refine wp_region_held_drew (S := RdS w.heap.size (.slice Af D.firm.length cf) (.slice Aw D.wait.length cw) D.armed m) (by kernel_rfl) HSS.out (fun hHeld => ?_)
    refine take_op' 0 86 (.agg #[.slice Af D.firm.length cf, .slice Aw D.wait.length cw, .int .i64 D.armed, .bool false]) rfl rfl (by kernel_rfl) (by kernel_rfl) (by kernel_rfl) (fun _ _ _ h => h) (.inl ⟨by rfl, fun w' hw' => by have y0 := x0 w' hw'; have y1 := x1 w' hw'; have y2 := x2 w' hw'; have y3 := x3 w' hw'; clear x0 x1 x2 x3 x4; go_simp⟩) hHeld ?_
    simp only [List.set_cons_zero, List.set_cons_succ]
    refine take_op' 1 87 (.agg #[.slice Af D.firm.length cf, .slice Aw D.wait.length cw, .int .i64 D.armed, .bool false]) rfl rfl (by kernel_rfl) (by kernel_rfl) (by kernel_rfl) (fun _ _ _ h => h) (.inl ⟨by rfl, fun w' hw' => by have y0 := x0 w' hw'; have y1 := x1 w' hw'; have y2 := x2 w' hw'; have y3 := x3 w' hw'; clear x0 x1 x2 x3 x4; go_simp⟩) hHeld ?_
    simp only [List.set_cons_zero, List.set_cons_succ]
    refine take_op' 2 88 (.pointer (some ⟨w.heap.size + 1, 1, none⟩)) rfl rfl (by kernel_rfl) (by kernel_rfl) (by kernel_rfl) (fun _ _ _ h => h) (.inl ⟨by rfl, fun w' hw' => by clear x0 x1 x2 x3 x4; go_simp⟩) hHeld ?_
    simp only [List.set_cons_zero, List.set_cons_succ]
    refine take_op' 3 89 (.int .i64 (m : Int)) rfl rfl (by kernel_rfl) (by kernel_rfl) (by kernel_rfl) (fun _ _ _ h => h) (.inl ⟨by rfl, fun w' hw' => by have y4 := x4 w' hw'; clear x0 x1 x2 x3 x4; go_simp⟩) hHeld ?_
    simp only [List.set_cons_zero, List.set_cons_succ]
    refine wpAnyH_ready (rs := [4]) (by kernel_rfl) (by simp) (AllReadyH.cons rfl (fun K hK => ?_) AllReadyH.nil)
    clear x0 x1 x2 x3 x4
    go_simp
    refine HC.out.mono ?_
    rintro e w2 ⟨rfl, hb2⟩
    rw [← HS.out]
    have HB2 := Lib.hid (HB.out.kept (w2 := w2) (show Below wc.heap.size wc w2 from ⟨hb2.os, hb2.tape, hb2.output, hb2.size, hb2.block⟩))
    have HR2 := Lib.hid (HR.out.kept (w' := w2) (show Below wc.heap.size wc w2 from ⟨hb2.os, hb2.tape, hb2.output, hb2.size, hb2.block⟩))
    have HS2 : Hid (RdS w.heap.size (.slice Af D.firm.length cf) (.slice Aw D.wait.length cw) D.armed m w2) := Lib.hid ⟨cell_of HB2.out.b0 rfl, cell_of HB2.out.b0 rfl, cell_of HB2.out.b0 rfl, (by have := cell_of HB2.out.b0 (j := 3) rfl; rw [HDD.out] at this; exact this), cell_of HB2.out.b1 rfl⟩
    clear hb2
    have r0 := cell_of HB2.out.b2 (j := 0) rfl
    have r1 := cell_of HB2.out.b2 (j := 1) rfl
    have r2 := cell_of HB2.out.b2 (j := 2) rfl
    have r3 := cell_of HB2.out.b2 (j := 3) rfl
    have rf0 := frozen_of_row _ (w.heap.size + 1 + 1) 0 _ _ HB2.out.b2
    have rf1 := frozen_of_row _ (w.heap.size + 1 + 1) 1 _ _ HB2.out.b2
    have rf2 := frozen_of_row _ (w.heap.size + 1 + 1) 2 _ _ HB2.out.b2
    have rf3 := frozen_of_row _ (w.heap.size + 1 + 1) 3 _ _ HB2.out.b2
    have a0 := cell_of HB2.out.b3 (j := 0) rfl
    have a1 := cell_of HB2.out.b3 (j := 1) rfl
    have af0 := frozen_of_row _ (w.heap.size + 1 + 1 + 1) 0 _ _ HB2.out.b3
    have af1 := frozen_of_row _ (w.heap.size + 1 + 1 + 1) 1 _ _ HB2.out.b3
    dsimp only
    refine hK.out _ _ HS2.out (fun hHeld2 => ?_)
    refine take_op' 5 91 (.agg #[.string S, .int .i64 0]) rfl rfl (by kernel_rfl) (by kernel_rfl) (by kernel_rfl) (fun _ _ _ h => h) (.inl ⟨by rfl, fun w' hw' => by go_simp⟩) hHeld2 ?_
    simp only [List.set_cons_zero, List.set_cons_succ]
    refine wpAnyH_ready (rs := [6]) (by kernel_rfl) (by simp) (AllReadyH.cons rfl (fun K3 hK3 => ?_) AllReadyH.nil)
    go_simp
    refine hK3.out _ _ (HK2.out _ _ _ (HK2.out _ _ _ (HK2.out _ _ _ (HK2.out _ _ _ HS2.out)))) (fun hHeld3 => ?_)
    refine wpAnyH_ready (rs := [7]) (by kernel_rfl) (by simp) (AllReadyH.cons rfl (fun K4 hK4 => ?_) AllReadyH.nil)
    go_simp
    refine hK4.out _ _ (HK3.out _ _ _ (HK3.out _ _ _ hHeld3)) (fun _ => ?_)
    refine wpAnyH_done (by kernel_rfl) ?_ _
    go_wp2
    (try simp only [Exit.inBlock, Exit.then])
    obtain ⟨w9, hw9, s2, s3, hk9, hb9⟩ := do_sets HB2.out.b2 HB2.out.b3 (.slice Af D.firm.length cf) (.slice Aw D.wait.length cw) (.int .i64 (D.armed)) (.bool false) (.string S) (.int .i64 0)
    subst hw9
    refine bodyPost_ret (v := .tuple #[.agg #[.slice Af D.firm.length cf, .slice Aw D.wait.length cw, .int .i64 (D.armed), .bool false], .agg #[.string S, .int .i64 0]]) (results_two rfl _ _ (w.heap.size + 1 + 1) (w.heap.size + 1 + 1 + 1) _ _ rfl rfl s2 s3 rfl rfl) rfl ?_
    exact do_end HD.out rfl rfl rfl HDD.out.symm HR2.out.firm HR2.out.wait HB2.out.below HB2.out.b2 HB2.out.b3 hk9 hb9 S HS.out
end Go.Proofs.Ytogofgfdkkjnlaa
