/-
  What the document's Do returns, case by case (syncdead, sync). Condition: not too many sectors and writes.
-/
import Derived.Test.YtogofgfdkkjnlaaRDoBox
namespace Go.Proofs.Ytogofgfdkkjnlaa
open Go.ChangeShapes Go.WideShapes Go.ChangeAt Go.RowKit

set_option maxRecDepth 100000 in
set_option maxHeartbeats 1000000 in
theorem rdo_syncdead (B : Nat) (Af Aw : Option Addr) (cf cw : Nat) (D : Dk) (n t : Int) (A : Option Addr) (len cap : Nat) (zs : List Int) (w : World) (h : RDisk w B (.slice Af D.firm.length cf) (.slice Aw D.wait.length cw) D) (hok : Dok D) (hd : D.dead = false) (hd2 : (dies D).dead = true) :
    Calls Try.prog 24 #[.agg #[.slice Af D.firm.length cf, .slice Aw D.wait.length cw, .int .i64 D.armed, .bool D.dead], .agg #[.int .i64 2, .int .i64 n, .int .i64 t, .slice A len cap]] w (DoPost w B D 2 n t zs) := by
  have HD : Hid (doD D 2 n t zs = (dies D, [], 40)) := Lib.hid (by unfold doD; rw [if_neg (by decide), if_neg (by decide), if_neg (by decide), if_neg (by simp [hd]), if_pos rfl, if_pos hd2])
  have t2 : True := trivial
  have HOK := Lib.hid hok
  have HDD := Lib.hid hd
  have HD2 := Lib.hid hd2
  obtain ⟨a2, ha2⟩ : ∃ a2, a2 = (dies D).armed := ⟨_, rfl⟩
  have HA2 := Lib.hid ha2
  clear hd hd2 hok ha2 t2
  have H := Lib.hid h
  clear h
  go_enter Try.func24, Try.ntmps24
  go_upto_region 0 with fail
  go_cut [2, 3, 4, 5] (fun s2 s3 s4 s5 wx => DCut w #[.slice Af D.firm.length cf, .slice Aw D.wait.length cw, .int .i64 D.armed, .bool D.dead] 2 n t A len cap s2 s3 s4 s5 wx)
  case first =>
    go_wp2_with fail
    go_meet
    exact dcut_mk _ _ _ _ _ _ _ _
  case rest =>
    obtain ⟨rfl, rfl, rfl, rfl, hbx⟩ := hcut
    have HB := Lib.hid hbx
    have HR := Lib.hid (H.out.kept hbx.below)
    have d0 := cell_of hbx.b0 (j := 0) rfl
    have d1 := cell_of hbx.b0 (j := 1) rfl
    have d2 := cell_of hbx.b0 (j := 2) rfl
    have d3 := cell_of hbx.b0 (j := 3) rfl
    have o0 := cell_of hbx.b1 (j := 0) rfl
    have o1 := cell_of hbx.b1 (j := 1) rfl
    have o2 := cell_of hbx.b1 (j := 2) rfl
    have o3 := cell_of hbx.b1 (j := 3) rfl

    clear hbx
    rw [HDD.out] at d3
    have HC : Hid (Calls Try.prog 32 #[.agg #[.slice Af D.firm.length cf, .slice Aw D.wait.length cw, .int .i64 D.armed, .bool false]] wc (DiPost wc (.slice Af D.firm.length cf) (.slice Aw D.wait.length cw) D)) := Lib.hid (by have := rdies_any B _ _ D wc HR.out HOK.out; rw [HDD.out] at this; exact this)
    go_wp2_with fail
    refine HC.out.mono ?_
    rintro e w2 ⟨rfl, hb2⟩
    rw [HD2.out, ← HA2.out]
    have HB2 := Lib.hid ((HB.out.kept hb2).kept (box_below w2 (.cells #[.slice Af D.firm.length cf, .slice Aw D.wait.length cw, .int .i64 a2, .bool true] 28)))
    have HR2 := Lib.hid ((HR.out.kept hb2).kept (box_below w2 (.cells #[.slice Af D.firm.length cf, .slice Aw D.wait.length cw, .int .i64 a2, .bool true] 28)))
    clear hb2 d0 d1 d2 d3 o0 o1 o2 o3
    have r0 := cell_of HB2.out.b2 (j := 0) rfl
    have r1 := cell_of HB2.out.b2 (j := 1) rfl
    have r2 := cell_of HB2.out.b2 (j := 2) rfl
    have r3 := cell_of HB2.out.b2 (j := 3) rfl
    have rf0 := frozen_of_row _ (w.heap.size + 1 + 1) 0 _ _ HB2.out.b2
    have rf1 := frozen_of_row _ (w.heap.size + 1 + 1) 1 _ _ HB2.out.b2
    have rf2 := frozen_of_row _ (w.heap.size + 1 + 1) 2 _ _ HB2.out.b2
    have rf3 := frozen_of_row _ (w.heap.size + 1 + 1) 3 _ _ HB2.out.b2
    have a0 := cell_of HB2.out.b3 (j := 0) rfl
    have a1 := cell_of HB2.out.b3 (j := 1) rfl
    have af0 := frozen_of_row _ (w.heap.size + 1 + 1 + 1) 0 _ _ HB2.out.b3
    have af1 := frozen_of_row _ (w.heap.size + 1 + 1 + 1) 1 _ _ HB2.out.b3
    go_wp2
    (try simp only [Exit.inBlock, Exit.then])
    obtain ⟨w9, hw9, s2, s3, hk9, hb9⟩ := do_sets HB2.out.b2 HB2.out.b3 (.slice Af D.firm.length cf) (.slice Aw D.wait.length cw) (.int .i64 (a2)) (.bool true) (.string ⟨#[]⟩) (.int .i64 40)
    subst hw9
    refine bodyPost_ret (v := .tuple #[.agg #[.slice Af D.firm.length cf, .slice Aw D.wait.length cw, .int .i64 (a2), .bool true], .agg #[.string ⟨#[]⟩, .int .i64 40]]) (results_two rfl _ _ (w.heap.size + 1 + 1) (w.heap.size + 1 + 1 + 1) _ _ rfl rfl s2 s3 rfl rfl) rfl ?_
    exact do_end HD.out (by rw [dies_firm]) (by rw [dies_wait]) HA2.out HD2.out.symm (by rw [dies_firm]; exact HR2.out.firm) (by rw [dies_wait]; exact HR2.out.wait) HB2.out.below HB2.out.b2 HB2.out.b3 hk9 hb9 ⟨#[]⟩ rfl
set_option maxRecDepth 100000 in
set_option maxHeartbeats 1000000 in
theorem rdo_sync (B : Nat) (Af Aw : Option Addr) (cf cw : Nat) (D : Dk) (n t : Int) (A : Option Addr) (len cap : Nat) (zs : List Int) (w : World) (h : RDisk w B (.slice Af D.firm.length cf) (.slice Aw D.wait.length cw) D) (hBw : B ≤ w.heap.size) (hn : D.firm.length ≤ 65536) (hok : Dok D) (hd : D.dead = false) (hd2 : (dies D).dead = false) :
    Calls Try.prog 24 #[.agg #[.slice Af D.firm.length cf, .slice Aw D.wait.length cw, .int .i64 D.armed, .bool D.dead], .agg #[.int .i64 2, .int .i64 n, .int .i64 t, .slice A len cap]] w (DoPost w B D 2 n t zs) := by
  have HD : Hid (doD D 2 n t zs = (syncD (dies D), [], 0)) := Lib.hid (by unfold doD; rw [if_neg (by decide), if_neg (by decide), if_neg (by decide), if_neg (by simp [hd]), if_pos rfl, if_neg (by simp [hd2])])
  have t2 : True := trivial
  have HOK := Lib.hid hok
  have HDD := Lib.hid hd
  have HD2 := Lib.hid hd2
  obtain ⟨a2, ha2⟩ : ∃ a2, a2 = (dies D).armed := ⟨_, rfl⟩
  have HA2 := Lib.hid ha2
  clear hd hd2 hok ha2 t2
  have H := Lib.hid h
  clear h
  go_enter Try.func24, Try.ntmps24
  go_upto_region 0 with fail
  go_cut [2, 3, 4, 5] (fun s2 s3 s4 s5 wx => DCut w #[.slice Af D.firm.length cf, .slice Aw D.wait.length cw, .int .i64 D.armed, .bool D.dead] 2 n t A len cap s2 s3 s4 s5 wx)
  case first =>
    go_wp2_with fail
    go_meet
    exact dcut_mk _ _ _ _ _ _ _ _
  case rest =>
    obtain ⟨rfl, rfl, rfl, rfl, hbx⟩ := hcut
    have HB := Lib.hid hbx
    have HR := Lib.hid (H.out.kept hbx.below)
    have d0 := cell_of hbx.b0 (j := 0) rfl
    have d1 := cell_of hbx.b0 (j := 1) rfl
    have d2 := cell_of hbx.b0 (j := 2) rfl
    have d3 := cell_of hbx.b0 (j := 3) rfl
    have o0 := cell_of hbx.b1 (j := 0) rfl
    have o1 := cell_of hbx.b1 (j := 1) rfl
    have o2 := cell_of hbx.b1 (j := 2) rfl
    have o3 := cell_of hbx.b1 (j := 3) rfl

    clear hbx
    rw [HDD.out] at d3
    have HC : Hid (Calls Try.prog 32 #[.agg #[.slice Af D.firm.length cf, .slice Aw D.wait.length cw, .int .i64 D.armed, .bool false]] wc (DiPost wc (.slice Af D.firm.length cf) (.slice Aw D.wait.length cw) D)) := Lib.hid (by have := rdies_any B _ _ D wc HR.out HOK.out; rw [HDD.out] at this; exact this)
    go_wp2_with fail
    refine HC.out.mono ?_
    rintro e w2 ⟨rfl, hb2⟩
    rw [HD2.out, ← HA2.out]
    have HB2 := Lib.hid ((HB.out.kept hb2).kept (box_below w2 (.cells #[.slice Af D.firm.length cf, .slice Aw D.wait.length cw, .int .i64 a2, .bool false] 28)))
    have HR2 := Lib.hid ((HR.out.kept hb2).kept (box_below w2 (.cells #[.slice Af D.firm.length cf, .slice Aw D.wait.length cw, .int .i64 a2, .bool false] 28)))
    clear hb2 d0 d1 d2 d3 o0 o1 o2 o3
    have d0 := cell_of HB2.out.b0 (j := 0) rfl
    have d1 := cell_of HB2.out.b0 (j := 1) rfl
    have d2 := cell_of HB2.out.b0 (j := 2) rfl
    have d3 := cell_of HB2.out.b0 (j := 3) rfl
    have o0 := cell_of HB2.out.b1 (j := 0) rfl
    have o1 := cell_of HB2.out.b1 (j := 1) rfl
    have o2 := cell_of HB2.out.b1 (j := 2) rfl
    have o3 := cell_of HB2.out.b1 (j := 3) rfl
    have HCF := Lib.hid (rfirm_any B B (.slice Af D.firm.length cf) (.slice Aw D.wait.length cw) D.firm D.wait (w2.alloc (.cells #[.slice Af D.firm.length cf, .slice Aw D.wait.length cw, .int .i64 a2, .bool false] 28)) HR2.out.firm HR2.out.wait (fun x hx => (HOK.out.2.1 x hx).1) hn)
    go_wp2_with fail
    refine HCF.out.mono ?_
    rintro e w4 ⟨v4, rfl, h4, hb4⟩
    obtain ⟨A4, c4, rfl, -, -, -⟩ := own_form h4
    have HB4 := Lib.hid (HB2.out.kept hb4)
    have hT : w4.heap[w2.heap.size]? = some (.cells #[.slice Af D.firm.length cf, .slice Aw D.wait.length cw, .int .i64 a2, .bool false] 28 (0, 0)) := (hb4.block _ (by simp)).trans (new_block w2 _)
    have HT := Lib.hid hT
    have hsz : w.heap.size + 1 + 1 + 1 < w2.heap.size := by
      have h1 := lt_of_block HB2.out.b3
      have h2 : w.heap.size + 1 + 1 + 1 ≠ w2.heap.size := fun e => by
        have h3 := HB2.out.b3
        rw [e, new_block w2 _] at h3
        injection h3 with h3
        injection h3 with _ e4 _
        exact absurd e4 (by decide)
      simp at h1
      omega
    have HR4 : Hid (RDisk w4 B (.slice A4 D.firm.length c4) (.slice none 0 0) (syncD (dies D))) := Lib.hid (by
      refine ⟨?_, World.ownsRow_nil _ _ _ _⟩
      show w4.ownsRow B 9 1 _ (cur (dies D)).length (strs (cur (dies D)))
      rw [cur_len, dies_firm]
      have e : cur (dies D) = ups D.firm D.wait := by unfold cur; rw [dies_firm, dies_wait]
      rw [e]
      refine own_base h4 ?_
      have := HB.out.below.size
      simp
      omega)
    have e0 := cell_of hT (j := 0) rfl
    have e1 := cell_of hT (j := 1) rfl
    have e2 := cell_of hT (j := 2) rfl
    have e3 := cell_of hT (j := 3) rfl
    have ef0 := frozen_of_row _ w2.heap.size 0 _ _ hT
    have ef1 := frozen_of_row _ w2.heap.size 1 _ _ hT
    have g2 : w.heap.size + 1 + 1 ≠ w2.heap.size := by omega
    have g3 : w.heap.size + 1 + 1 + 1 ≠ w2.heap.size := by omega
    have g4 : w2.heap.size ≠ w.heap.size + 1 + 1 := by omega
    have g5 : w2.heap.size ≠ w.heap.size + 1 + 1 + 1 := by omega
    clear h4 hb4 hT d0 d1 d2 d3 o0 o1 o2 o3
    have r0 := cell_of HB4.out.b2 (j := 0) rfl
    have r1 := cell_of HB4.out.b2 (j := 1) rfl
    have r2 := cell_of HB4.out.b2 (j := 2) rfl
    have r3 := cell_of HB4.out.b2 (j := 3) rfl
    have rf0 := frozen_of_row _ (w.heap.size + 1 + 1) 0 _ _ HB4.out.b2
    have rf1 := frozen_of_row _ (w.heap.size + 1 + 1) 1 _ _ HB4.out.b2
    have rf2 := frozen_of_row _ (w.heap.size + 1 + 1) 2 _ _ HB4.out.b2
    have rf3 := frozen_of_row _ (w.heap.size + 1 + 1) 3 _ _ HB4.out.b2
    have a0 := cell_of HB4.out.b3 (j := 0) rfl
    have a1 := cell_of HB4.out.b3 (j := 1) rfl
    have af0 := frozen_of_row _ (w.heap.size + 1 + 1 + 1) 0 _ _ HB4.out.b3
    have af1 := frozen_of_row _ (w.heap.size + 1 + 1 + 1) 1 _ _ HB4.out.b3
    go_wp2
    have hT1 := heap_setCell_same w4 w2.heap.size 0 _ 28 (.slice A4 D.firm.length c4) HT.out
    have hX := (HR4.out.setCell (a := ⟨w2.heap.size, 0, none⟩) HT.out (by decide) (by decide) (.slice A4 D.firm.length c4)).setCell (a := ⟨w2.heap.size, 1, none⟩) hT1 (by decide) (by decide) (.slice none 0 0)
    have q2 : ((w4.setCell ⟨w2.heap.size, 0, none⟩ (.slice A4 D.firm.length c4)).setCell ⟨w2.heap.size, 1, none⟩ (.slice none 0 0)).heap[w.heap.size + 1 + 1]? = _ := (heap_setCell_other _ _ _ _ g2).trans ((heap_setCell_other _ _ _ _ g2).trans HB4.out.b2)
    have q3 : ((w4.setCell ⟨w2.heap.size, 0, none⟩ (.slice A4 D.firm.length c4)).setCell ⟨w2.heap.size, 1, none⟩ (.slice none 0 0)).heap[w.heap.size + 1 + 1 + 1]? = _ := (heap_setCell_other _ _ _ _ g3).trans ((heap_setCell_other _ _ _ _ g3).trans HB4.out.b3)
    have hXf := hX.firm
    have hlen : D.firm.length = (syncD (dies D)).firm.length := by show _ = (cur (dies D)).length; rw [cur_len, dies_firm]
    rw [← hlen] at hXf
    (try simp only [Exit.inBlock, Exit.then])
    obtain ⟨w9, hw9, s2, s3, hk9, hb9⟩ := do_sets q2 q3 (.slice A4 D.firm.length c4) (.slice none 0 0) (.int .i64 (a2)) (.bool false) (.string ⟨#[]⟩) (.int .i64 0)
    subst hw9
    refine bodyPost_ret (v := .tuple #[.agg #[.slice A4 D.firm.length c4, .slice none 0 0, .int .i64 (a2), .bool false], .agg #[.string ⟨#[]⟩, .int .i64 0]]) (results_two rfl _ _ (w.heap.size + 1 + 1) (w.heap.size + 1 + 1 + 1) _ _ rfl rfl s2 s3 rfl rfl) rfl ?_
    exact do_end HD.out hlen rfl HA2.out HD2.out.symm hXf hX.wait ((HB4.out.below.setCell (p := ⟨w2.heap.size, 0, none⟩) (by show w.heap.size ≤ w2.heap.size; omega) _).setCell (p := ⟨w2.heap.size, 1, none⟩) (by show w.heap.size ≤ w2.heap.size; omega) _) q2 q3 hk9 hb9 ⟨#[]⟩ rfl
end Go.Proofs.Ytogofgfdkkjnlaa
