/-
  What the document's Do returns, case by case (write). Condition: not too many sectors and writes.
-/
import Derived.Test.YtogofgfdkkjnlaaRDoBox
namespace Go.Proofs.Ytogofgfdkkjnlaa
open Go.ChangeShapes Go.WideShapes Go.ChangeAt Go.RowKit

set_option maxRecDepth 100000 in
set_option maxHeartbeats 1000000 in
theorem rdo_write (B : Nat) (Af Aw : Option Addr) (cf cw : Nat) (D : Dk) (m : Nat) (t : Int) (A : Option Addr) (len cap : Nat) (zs : List Int) (w : World) (h : RDisk w B (.slice Af D.firm.length cf) (.slice Aw D.wait.length cw) D) (hBw : B ≤ w.heap.size) (hok : Dok D) (hd : D.dead = false) (hx : m < D.firm.length) (hR : Reads w A len zs) (hl : len ≤ 64) (hn : D.wait.length ≤ 100000) (hd2 : (dies (putD D m zs)).dead = false) :
    Calls Try.prog 24 #[.agg #[.slice Af D.firm.length cf, .slice Aw D.wait.length cw, .int .i64 D.armed, .bool D.dead], .agg #[.int .i64 0, .int .i64 (m : Int), .int .i64 t, .slice A len cap]] w (DoPost w B D 0 (m : Int) t zs) := by
  have hzl : zs.length = len := hR.1
  have HD : Hid (doD D 0 (m : Int) t zs = (dies (putD D m zs), [], 0)) := Lib.hid (by unfold doD; rw [if_neg (by decide), if_neg (by decide), if_neg (by decide), if_neg (by simp [hd]), if_neg (by decide), if_neg (by omega), if_neg (by decide)]; show (dies (putD D m zs), [], if (dies (putD D m zs)).dead = true then 40 else 0) = _; rw [hd2]; rfl)
  have hm0 : (0 : Int) ≤ (m : Int) := by omega
  have hm1 : (m : Int) < (D.firm.length : Int) := by omega
  have hl' : ¬ (64 : Int) < (len : Int) := by omega
  have HOK : Hid (Dok (putD D m zs)) := Lib.hid (put_dok hok hx hR.bys (by omega))
  have HDD := Lib.hid hd
  have HD2 := Lib.hid hd2
  have HRD := Lib.hid hR
  obtain ⟨a2, ha2⟩ : ∃ a2, a2 = (dies (putD D m zs)).armed := ⟨_, rfl⟩
  have HA2 := Lib.hid ha2
  clear hd hd2 hok hx ha2 hR hzl
  have H := Lib.hid h
  clear h
  go_enter Try.func24, Try.ntmps24
  go_upto_region 0 with fail
  go_cut [2, 3, 4, 5] (fun s2 s3 s4 s5 wx => DCut w #[.slice Af D.firm.length cf, .slice Aw D.wait.length cw, .int .i64 D.armed, .bool D.dead] 0 (m : Int) t A len cap s2 s3 s4 s5 wx)
  case first =>
    go_wp2_with fail
    go_meet
    exact dcut_mk _ _ _ _ _ _ _ _
  case rest =>
    obtain ⟨rfl, rfl, rfl, rfl, hbx⟩ := hcut
    have HB := Lib.hid hbx
    have HR := Lib.hid (H.out.kept hbx.below)
    have d0 := cell_of hbx.b0 (j := 0) rfl
    have d1 := cell_of hbx.b0 (j := 1) rfl
    have d2 := cell_of hbx.b0 (j := 2) rfl
    have d3 := cell_of hbx.b0 (j := 3) rfl
    have o0 := cell_of hbx.b1 (j := 0) rfl
    have o1 := cell_of hbx.b1 (j := 1) rfl
    have o2 := cell_of hbx.b1 (j := 2) rfl
    have o3 := cell_of hbx.b1 (j := 3) rfl

    clear hbx
    rw [HDD.out] at d3
    have HC : Hid (Calls Try.prog 33 #[.agg #[.slice Af D.firm.length cf, .slice Aw D.wait.length cw, .int .i64 D.armed, .bool false], .int .i64 (m : Int), .slice A len cap] wc (PuPost wc B (.slice Af D.firm.length cf) D m zs)) := Lib.hid (by have := rput_any B _ _ D m A len cap zs wc HR.out (Nat.le_trans hBw HB.out.below.size) (HRD.out.kept HB.out.below) hl hn; rw [HDD.out] at this; exact this)
    go_wp2_with fail
    refine HC.out.mono ?_
    rintro e w2 ⟨A2, c2, rfl, hr2, hb2⟩
    rw [HDD.out]
    have HB2 := Lib.hid (HB.out.kept hb2)
    have HR2 := Lib.hid hr2
    have HC2 : Hid (Calls Try.prog 32 #[.agg #[.slice Af D.firm.length cf, .slice A2 (D.wait.length + 1) c2, .int .i64 D.armed, .bool false]] w2 (DiPost w2 (.slice Af D.firm.length cf) (.slice A2 (D.wait.length + 1) c2) (putD D m zs))) := Lib.hid (by have := rdies_any B _ _ (putD D m zs) w2 hr2 HOK.out; rw [show (putD D m zs).dead = false from HDD.out] at this; exact this)
    clear hr2 hb2 d0 d1 d2 d3 o0 o1 o2 o3
    go_wp2_with fail
    refine HC2.out.mono ?_
    rintro e w4 ⟨rfl, hb4⟩
    rw [HD2.out, ← HA2.out]
    have HB4 := Lib.hid ((HB2.out.kept hb4).kept (box_below w4 (.cells #[.slice Af D.firm.length cf, .slice A2 (D.wait.length + 1) c2, .int .i64 a2, .bool false] 28)))
    have HR4 := Lib.hid ((HR2.out.kept hb4).kept (box_below w4 (.cells #[.slice Af D.firm.length cf, .slice A2 (D.wait.length + 1) c2, .int .i64 a2, .bool false] 28)))
    clear hb4
    have r0 := cell_of HB4.out.b2 (j := 0) rfl
    have r1 := cell_of HB4.out.b2 (j := 1) rfl
    have r2 := cell_of HB4.out.b2 (j := 2) rfl
    have r3 := cell_of HB4.out.b2 (j := 3) rfl
    have rf0 := frozen_of_row _ (w.heap.size + 1 + 1) 0 _ _ HB4.out.b2
    have rf1 := frozen_of_row _ (w.heap.size + 1 + 1) 1 _ _ HB4.out.b2
    have rf2 := frozen_of_row _ (w.heap.size + 1 + 1) 2 _ _ HB4.out.b2
    have rf3 := frozen_of_row _ (w.heap.size + 1 + 1) 3 _ _ HB4.out.b2
    have a0 := cell_of HB4.out.b3 (j := 0) rfl
    have a1 := cell_of HB4.out.b3 (j := 1) rfl
    have af0 := frozen_of_row _ (w.heap.size + 1 + 1 + 1) 0 _ _ HB4.out.b3
    have af1 := frozen_of_row _ (w.heap.size + 1 + 1 + 1) 1 _ _ HB4.out.b3
    go_wp2
    have hlw : D.wait.length + 1 = (dies (putD D m zs)).wait.length := by rw [dies_wait]; simp [putD]
    have hw4 := HR4.out.wait
    have e4 : (putD D m zs).wait.length = D.wait.length + 1 := by simp [putD]
    rw [e4] at hw4
    (try simp only [Exit.inBlock, Exit.then])
    obtain ⟨w9, hw9, s2, s3, hk9, hb9⟩ := do_sets HB4.out.b2 HB4.out.b3 (.slice Af D.firm.length cf) (.slice A2 (D.wait.length + 1) c2) (.int .i64 (a2)) (.bool false) (.string ⟨#[]⟩) (.int .i64 0)
    subst hw9
    refine bodyPost_ret (v := .tuple #[.agg #[.slice Af D.firm.length cf, .slice A2 (D.wait.length + 1) c2, .int .i64 (a2), .bool false], .agg #[.string ⟨#[]⟩, .int .i64 0]]) (results_two rfl _ _ (w.heap.size + 1 + 1) (w.heap.size + 1 + 1 + 1) _ _ rfl rfl s2 s3 rfl rfl) rfl ?_
    exact do_end HD.out (by rw [dies_firm]; rfl) hlw HA2.out HD2.out.symm (by rw [dies_firm]; exact HR4.out.firm) (by rw [dies_wait]; exact hw4) HB4.out.below HB4.out.b2 HB4.out.b3 hk9 hb9 ⟨#[]⟩ rfl
end Go.Proofs.Ytogofgfdkkjnlaa
