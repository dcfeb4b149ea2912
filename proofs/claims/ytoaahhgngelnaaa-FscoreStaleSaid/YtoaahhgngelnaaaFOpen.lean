/-
  What open, file and mayGo return. No condition.
-/
import Derived.Test.YtoaahhgngelnaaaFSmall
namespace Go.Proofs.Ytoaahhgngelnaaa
set_option maxRecDepth 100000
open Go.ChangeShapes Go.WideShapes Go.ChangeAt Go.RowKit Go.Proofs.Sg Go.Proofs.Fz

theorem set2 {w : World} {r : Nat} {a b : Value} {t : TypeId} (h : w.heap[r]? = some (.cells #[a, b] t (0, 0))) (u v : Value) : Wr r w ((w.setCell ⟨r, 0, none⟩ u).setCell ⟨r, 1, none⟩ v) ∧ ((w.setCell ⟨r, 0, none⟩ u).setCell ⟨r, 1, none⟩ v).heap[r]? = some (.cells #[u, v] t (0, 0)) :=
  setRow_any [u, v] 0 [] [a, b] (Wr.refl r w) rfl rfl h
theorem pnil : ∀ W, (binOp .eql 66 (.pointer none) (.pointer none)).run Try.prog W = .ok (.bool true) W := fun W => by kernel_rfl
theorem pnn (n : Nat) : ∀ W, (binOp .eql 66 (pA n) (.pointer none)).run Try.prog W = .ok (.bool false) W := fun W => by kernel_rfl
/-- What open returns. -/
def opV (Y : Lay) (I : List Nod) (h : Hd) : Value := match fol I h with
  | .inl c => .tuple #[.agg #[.pointer none, .pointer none], .int .i64 c]
  | .inr x => .tuple #[.agg #[pA (Y.ip x.id), pA (Y.hp x.id)], .int .i64 0]
/-- What file returns. -/
def fiV (Y : Lay) (I : List Nod) (h : Hd) : Value := match Fz.fil I h with
  | .inl c => .tuple #[.agg #[.pointer none, .pointer none], .int .i64 c]
  | .inr x => .tuple #[.agg #[pA (Y.ip x.id), pA (Y.hp x.id)], .int .i64 0]
theorem fP_none {I : List Nod} {ip : Nat → Nat} {h : Hd} (e : fnd I h = none) : fP I ip h = .pointer none := by unfold fP; rw [e]
theorem fP_some {I : List Nod} {ip : Nat → Nat} {h : Hd} {x : Nod} (e : fnd I h = some x) : fP I ip h = pA (ip x.id) := by unfold fP; rw [e]
set_option maxHeartbeats 1000000 in
theorem open_any {w : World} {bs : Nat} {Y : Lay} {f : Fst} (h : FM w bs Y f) (hg : Gd f) (d : Hd) (hd : HdOk d) : Calls Try.prog 29 #[pA Y.fp, hV d] w fun e w' => e = .returned (opV Y f.I d) ∧ Below w.heap.size w w' := by
  obtain ⟨w2, hw2, hb2, hq, hr, hs2⟩ := two_box w (.cells #[.int .i64 d.id, .int .i64 d.gen] 40) (.cells #[.pointer none, .pointer none] 84)
  obtain ⟨q, eq⟩ : ∃ q, q = w.heap.size := ⟨_, rfl⟩
  obtain ⟨r, er⟩ : ∃ r, r = w.heap.size + 1 := ⟨_, rfl⟩
  rw [← eq] at hq
  rw [← er] at hr
  have HW2 := Lib.hid hw2
  have EQ := Lib.hid eq
  have ER := Lib.hid er
  have HB2 := Lib.hid hb2
  have HR := Lib.hid hr
  have HQ := Lib.hid hq
  have HRW : Hid (w.heap.size ≤ r ∧ r < w2.heap.size ∧ q < w2.heap.size) := Lib.hid (by omega)
  clear hw2 eq er hb2 hq hr hs2
  have h2 := h.below hg.kind HB2.out
  have HM2 := Lib.hid h2
  have HG := Lib.hid hg
  have HF := Lib.hid (find_any h2 hg d hd)
  have q0 := cell_of HQ.out (j := 0) rfl
  have q1 := cell_of HQ.out (j := 1) rfl
  clear h hg hd h2
  go_enter Try.func29, Try.ntmps29
  go_upto_region 1 with fail
  rw [← HW2.out, ← ER.out, ← EQ.out]
  go_wp2_with fail
  refine HF.out.mono ?_
  rintro e w3 ⟨rfl, hb3⟩
  have HB3 : Hid (Below w.heap.size w w3) := Lib.hid (HB2.out.trans (hb3.mono HB2.out.size))
  have hr3 := blk_below HR.out hb3
  have HM3 := Lib.hid (HM2.out.below HG.out.kind hb3)
  have e1 := pnil
  clear hb3
  rcases hq : fnd f.I d with _ | x
  · rw [fP_none hq]
    have HV : Hid (opV Y f.I d = .tuple #[.agg #[.pointer none, .pointer none], .int .i64 175]) := Lib.hid (by unfold opV fol; rw [hq])
    clear hq
    obtain ⟨w9, hw9⟩ : ∃ W9, W9 = ((w3.setCell ⟨r, 0, none⟩ (.pointer none)).setCell ⟨r, 1, none⟩ (.pointer none)) := ⟨_, rfl⟩
    obtain ⟨hwr9, hk9⟩ := set2 hr3 (.pointer none) (.pointer none)
    rw [← hw9] at hwr9 hk9
    have r0 := cell_of hr3 (j := 0) rfl
    have r1 := cell_of hr3 (j := 1) rfl
    have g0 := frozen_of_row w3 r 0 _ _ hr3
    have g1 := frozen_of_row w3 r 1 _ _ hr3
    have z0 := cell_of hk9 (j := 0) rfl
    have z1 := cell_of hk9 (j := 1) rfl
    have HWR := Lib.hid hwr9
    have HW9 := Lib.hid hw9
    clear hw9 hwr9 hk9
    clear hr3
    have HE : Hid (Below w.heap.size w w9) := Lib.hid (HB3.out.trans (HWR.out.below.mono HRW.out.1))
    go_wp2_with fail
    rw [← HW9.out]
    go_wp2_with fail
    exact bodyPost_ret (v := .tuple #[.agg #[.pointer none, .pointer none], .int .i64 175]) (by simp [results, Try.results29, go_sem, z0, z1]) rfl ⟨by rw [HV.out], HE.out⟩
  · rw [fP_some hq]
    have hxm := (fnd_mem hq).1
    have e2 := pnn (Y.ip x.id)
    obtain ⟨-, -, -, -, -, c5⟩ := (HM3.out.nod x hxm).cells
    have HK := Lib.hid hq
    have hkk := HG.out.kind x hxm
    clear hq hxm
    rcases hkk with hk | hk | hk
    · rw [hold1 hk] at c5
      have ta := taSF
      have HV : Hid (opV Y f.I d = .tuple #[.agg #[.pointer none, .pointer none], .int .i64 173]) := Lib.hid (by unfold opV fol; rw [HK.out]; dsimp only; simp [hk])
      clear hk
      obtain ⟨w9, hw9⟩ : ∃ W9, W9 = ((w3.setCell ⟨r, 0, none⟩ (.pointer none)).setCell ⟨r, 1, none⟩ (.pointer none)) := ⟨_, rfl⟩
      obtain ⟨hwr9, hk9⟩ := set2 hr3 (.pointer none) (.pointer none)
      rw [← hw9] at hwr9 hk9
      have r0 := cell_of hr3 (j := 0) rfl
      have r1 := cell_of hr3 (j := 1) rfl
      have g0 := frozen_of_row w3 r 0 _ _ hr3
      have g1 := frozen_of_row w3 r 1 _ _ hr3
      have z0 := cell_of hk9 (j := 0) rfl
      have z1 := cell_of hk9 (j := 1) rfl
      have HWR := Lib.hid hwr9
      have HW9 := Lib.hid hw9
      clear hw9 hwr9 hk9
      clear hr3
      have HE : Hid (Below w.heap.size w w9) := Lib.hid (HB3.out.trans (HWR.out.below.mono HRW.out.1))
      go_wp2_with fail
      rw [← HW9.out]
      go_wp2_with fail
      exact bodyPost_ret (v := .tuple #[.agg #[.pointer none, .pointer none], .int .i64 173]) (by simp [results, Try.results29, go_sem, z0, z1]) rfl ⟨by rw [HV.out], HE.out⟩
    · rw [hold2 hk] at c5
      have ta := taFF
      have HV : Hid (opV Y f.I d = .tuple #[.agg #[pA (Y.ip x.id), pA (Y.hp x.id)], .int .i64 0]) := Lib.hid (by unfold opV fol; rw [HK.out]; dsimp only; simp [hk])
      clear hk
      obtain ⟨w9, hw9⟩ : ∃ W9, W9 = ((w3.setCell ⟨r, 0, none⟩ (pA (Y.ip x.id))).setCell ⟨r, 1, none⟩ (pA (Y.hp x.id))) := ⟨_, rfl⟩
      obtain ⟨hwr9, hk9⟩ := set2 hr3 (pA (Y.ip x.id)) (pA (Y.hp x.id))
      rw [← hw9] at hwr9 hk9
      have r0 := cell_of hr3 (j := 0) rfl
      have r1 := cell_of hr3 (j := 1) rfl
      have g0 := frozen_of_row w3 r 0 _ _ hr3
      have g1 := frozen_of_row w3 r 1 _ _ hr3
      have z0 := cell_of hk9 (j := 0) rfl
      have z1 := cell_of hk9 (j := 1) rfl
      have HWR := Lib.hid hwr9
      have HW9 := Lib.hid hw9
      clear hw9 hwr9 hk9
      clear hr3
      have HE : Hid (Below w.heap.size w w9) := Lib.hid (HB3.out.trans (HWR.out.below.mono HRW.out.1))
      go_wp2_with fail
      rw [← HW9.out]
      go_wp2_with fail
      exact bodyPost_ret (v := .tuple #[.agg #[pA (Y.ip x.id), pA (Y.hp x.id)], .int .i64 0]) (by simp [results, Try.results29, go_sem, z0, z1]) rfl ⟨by rw [HV.out], HE.out⟩
    · rw [hold3 hk] at c5
      have ta := taTF
      have HV : Hid (opV Y f.I d = .tuple #[.agg #[.pointer none, .pointer none], .int .i64 173]) := Lib.hid (by unfold opV fol; rw [HK.out]; dsimp only; simp [hk])
      clear hk
      obtain ⟨w9, hw9⟩ : ∃ W9, W9 = ((w3.setCell ⟨r, 0, none⟩ (.pointer none)).setCell ⟨r, 1, none⟩ (.pointer none)) := ⟨_, rfl⟩
      obtain ⟨hwr9, hk9⟩ := set2 hr3 (.pointer none) (.pointer none)
      rw [← hw9] at hwr9 hk9
      have r0 := cell_of hr3 (j := 0) rfl
      have r1 := cell_of hr3 (j := 1) rfl
      have g0 := frozen_of_row w3 r 0 _ _ hr3
      have g1 := frozen_of_row w3 r 1 _ _ hr3
      have z0 := cell_of hk9 (j := 0) rfl
      have z1 := cell_of hk9 (j := 1) rfl
      have HWR := Lib.hid hwr9
      have HW9 := Lib.hid hw9
      clear hw9 hwr9 hk9
      clear hr3
      have HE : Hid (Below w.heap.size w w9) := Lib.hid (HB3.out.trans (HWR.out.below.mono HRW.out.1))
      go_wp2_with fail
      rw [← HW9.out]
      go_wp2_with fail
      exact bodyPost_ret (v := .tuple #[.agg #[.pointer none, .pointer none], .int .i64 173]) (by simp [results, Try.results29, go_sem, z0, z1]) rfl ⟨by rw [HV.out], HE.out⟩
set_option maxHeartbeats 1000000 in
theorem file_any {w : World} {bs : Nat} {Y : Lay} {f : Fst} (h : FM w bs Y f) (hg : Gd f) (d : Hd) (hd : HdOk d) : Calls Try.prog 34 #[pA Y.fp, hV d] w fun e w' => e = .returned (fiV Y f.I d) ∧ Below w.heap.size w w' := by
  obtain ⟨w2, hw2, hb2, hq, hr, hs2⟩ := two_box w (.cells #[.int .i64 d.id, .int .i64 d.gen] 40) (.cells #[.pointer none, .pointer none] 94)
  obtain ⟨q, eq⟩ : ∃ q, q = w.heap.size := ⟨_, rfl⟩
  obtain ⟨r, er⟩ : ∃ r, r = w.heap.size + 1 := ⟨_, rfl⟩
  rw [← eq] at hq
  rw [← er] at hr
  have HW2 := Lib.hid hw2
  have EQ := Lib.hid eq
  have ER := Lib.hid er
  have HB2 := Lib.hid hb2
  have HR := Lib.hid hr
  have HQ := Lib.hid hq
  have HRW : Hid (w.heap.size ≤ r ∧ r < w2.heap.size ∧ q < w2.heap.size) := Lib.hid (by omega)
  clear hw2 eq er hb2 hq hr hs2
  have h2 := h.below hg.kind HB2.out
  have HM2 := Lib.hid h2
  have HG := Lib.hid hg
  have HF := Lib.hid (find_any h2 hg d hd)
  have q0 := cell_of HQ.out (j := 0) rfl
  have q1 := cell_of HQ.out (j := 1) rfl
  clear h hg hd h2
  go_enter Try.func34, Try.ntmps34
  go_upto_region 1 with fail
  rw [← HW2.out, ← ER.out, ← EQ.out]
  go_wp2_with fail
  refine HF.out.mono ?_
  rintro e w3 ⟨rfl, hb3⟩
  have HB3 : Hid (Below w.heap.size w w3) := Lib.hid (HB2.out.trans (hb3.mono HB2.out.size))
  have hr3 := blk_below HR.out hb3
  have HM3 := Lib.hid (HM2.out.below HG.out.kind hb3)
  have e1 := pnil
  clear hb3
  rcases hq : fnd f.I d with _ | x
  · rw [fP_none hq]
    have HV : Hid (fiV Y f.I d = .tuple #[.agg #[.pointer none, .pointer none], .int .i64 175]) := Lib.hid (by unfold fiV Fz.fil; rw [hq])
    clear hq
    obtain ⟨w9, hw9⟩ : ∃ W9, W9 = ((w3.setCell ⟨r, 0, none⟩ (.pointer none)).setCell ⟨r, 1, none⟩ (.pointer none)) := ⟨_, rfl⟩
    obtain ⟨hwr9, hk9⟩ := set2 hr3 (.pointer none) (.pointer none)
    rw [← hw9] at hwr9 hk9
    have r0 := cell_of hr3 (j := 0) rfl
    have r1 := cell_of hr3 (j := 1) rfl
    have g0 := frozen_of_row w3 r 0 _ _ hr3
    have g1 := frozen_of_row w3 r 1 _ _ hr3
    have z0 := cell_of hk9 (j := 0) rfl
    have z1 := cell_of hk9 (j := 1) rfl
    have HWR := Lib.hid hwr9
    have HW9 := Lib.hid hw9
    clear hw9 hwr9 hk9
    clear hr3
    have HE : Hid (Below w.heap.size w w9) := Lib.hid (HB3.out.trans (HWR.out.below.mono HRW.out.1))
    go_wp2_with fail
    rw [← HW9.out]
    go_wp2_with fail
    exact bodyPost_ret (v := .tuple #[.agg #[.pointer none, .pointer none], .int .i64 175]) (by simp [results, Try.results34, go_sem, z0, z1]) rfl ⟨by rw [HV.out], HE.out⟩
  · rw [fP_some hq]
    have hxm := (fnd_mem hq).1
    have e2 := pnn (Y.ip x.id)
    obtain ⟨-, -, -, -, -, c5⟩ := (HM3.out.nod x hxm).cells
    have HK := Lib.hid hq
    have hkk := HG.out.kind x hxm
    clear hq hxm
    rcases hkk with hk | hk | hk
    · rw [hold1 hk] at c5
      have ta := taSF
      have tb := taSS
      have HV : Hid (fiV Y f.I d = .tuple #[.agg #[pA (Y.ip x.id), pA (Y.hp x.id)], .int .i64 0]) := Lib.hid (by unfold fiV Fz.fil; rw [HK.out]; dsimp only; simp [hk])
      clear hk
      obtain ⟨w9, hw9⟩ : ∃ W9, W9 = ((w3.setCell ⟨r, 0, none⟩ (pA (Y.ip x.id))).setCell ⟨r, 1, none⟩ (pA (Y.hp x.id))) := ⟨_, rfl⟩
      obtain ⟨hwr9, hk9⟩ := set2 hr3 (pA (Y.ip x.id)) (pA (Y.hp x.id))
      rw [← hw9] at hwr9 hk9
      have r0 := cell_of hr3 (j := 0) rfl
      have r1 := cell_of hr3 (j := 1) rfl
      have g0 := frozen_of_row w3 r 0 _ _ hr3
      have g1 := frozen_of_row w3 r 1 _ _ hr3
      have z0 := cell_of hk9 (j := 0) rfl
      have z1 := cell_of hk9 (j := 1) rfl
      have HWR := Lib.hid hwr9
      have HW9 := Lib.hid hw9
      clear hw9 hwr9 hk9
      clear hr3
      have HE : Hid (Below w.heap.size w w9) := Lib.hid (HB3.out.trans (HWR.out.below.mono HRW.out.1))
      go_wp2_with fail
      rw [← HW9.out]
      go_wp2_with fail
      exact bodyPost_ret (v := .tuple #[.agg #[pA (Y.ip x.id), pA (Y.hp x.id)], .int .i64 0]) (by simp [results, Try.results34, go_sem, z0, z1]) rfl ⟨by rw [HV.out], HE.out⟩
    · rw [hold2 hk] at c5
      have ta := taFF
      have tb := taFS
      have HV : Hid (fiV Y f.I d = .tuple #[.agg #[.pointer none, .pointer none], .int .i64 172]) := Lib.hid (by unfold fiV Fz.fil; rw [HK.out]; dsimp only; simp [hk])
      clear hk
      obtain ⟨w9, hw9⟩ : ∃ W9, W9 = ((w3.setCell ⟨r, 0, none⟩ (.pointer none)).setCell ⟨r, 1, none⟩ (.pointer none)) := ⟨_, rfl⟩
      obtain ⟨hwr9, hk9⟩ := set2 hr3 (.pointer none) (.pointer none)
      rw [← hw9] at hwr9 hk9
      have r0 := cell_of hr3 (j := 0) rfl
      have r1 := cell_of hr3 (j := 1) rfl
      have g0 := frozen_of_row w3 r 0 _ _ hr3
      have g1 := frozen_of_row w3 r 1 _ _ hr3
      have z0 := cell_of hk9 (j := 0) rfl
      have z1 := cell_of hk9 (j := 1) rfl
      have HWR := Lib.hid hwr9
      have HW9 := Lib.hid hw9
      clear hw9 hwr9 hk9
      clear hr3
      have HE : Hid (Below w.heap.size w w9) := Lib.hid (HB3.out.trans (HWR.out.below.mono HRW.out.1))
      go_wp2_with fail
      rw [← HW9.out]
      go_wp2_with fail
      exact bodyPost_ret (v := .tuple #[.agg #[.pointer none, .pointer none], .int .i64 172]) (by simp [results, Try.results34, go_sem, z0, z1]) rfl ⟨by rw [HV.out], HE.out⟩
    · rw [hold3 hk] at c5
      have ta := taTF
      have tb := taTS
      have HV : Hid (fiV Y f.I d = .tuple #[.agg #[.pointer none, .pointer none], .int .i64 1]) := Lib.hid (by unfold fiV Fz.fil; rw [HK.out]; dsimp only; simp [hk])
      clear hk
      obtain ⟨w9, hw9⟩ : ∃ W9, W9 = ((w3.setCell ⟨r, 0, none⟩ (.pointer none)).setCell ⟨r, 1, none⟩ (.pointer none)) := ⟨_, rfl⟩
      obtain ⟨hwr9, hk9⟩ := set2 hr3 (.pointer none) (.pointer none)
      rw [← hw9] at hwr9 hk9
      have r0 := cell_of hr3 (j := 0) rfl
      have r1 := cell_of hr3 (j := 1) rfl
      have g0 := frozen_of_row w3 r 0 _ _ hr3
      have g1 := frozen_of_row w3 r 1 _ _ hr3
      have z0 := cell_of hk9 (j := 0) rfl
      have z1 := cell_of hk9 (j := 1) rfl
      have HWR := Lib.hid hwr9
      have HW9 := Lib.hid hw9
      clear hw9 hwr9 hk9
      clear hr3
      have HE : Hid (Below w.heap.size w w9) := Lib.hid (HB3.out.trans (HWR.out.below.mono HRW.out.1))
      go_wp2_with fail
      rw [← HW9.out]
      go_wp2_with fail
      exact bodyPost_ret (v := .tuple #[.agg #[.pointer none, .pointer none], .int .i64 1]) (by simp [results, Try.results34, go_sem, z0, z1]) rfl ⟨by rw [HV.out], HE.out⟩
theorem mayGo_any {w : World} {bs : Nat} {Y : Lay} {f : Fst} (h : FM w bs Y f) (hg : Gd f) {x : Nod} (hx : x ∈ f.I) (b : Bool) : Calls Try.prog 39 #[pA (Y.ip x.id), .bool b] w fun e w' => e = .returned (.int .i64 (mayC f x b)) ∧ w = w' := by
  have hn := h.nod x hx
  obtain ⟨-, -, -, -, -, c5⟩ := hn.cells
  have hkk := hg.kind x hx
  have hfo := hn.fol
  clear h hg hn
  rcases hkk with hk | hk | hk
  · rw [hold1 hk] at c5
    have ta := taSF
    clear hfo
    cases b
    · have HV : Hid (mayC f x false = 0) := Lib.hid (by unfold mayC; simp [hk])
      clear hk
      go_enter Try.func39, Try.ntmps39
      go_wp2_with fail
      go_ret
      rw [HV.out]
      exact ⟨rfl, rfl⟩
    · have HV : Hid (mayC f x true = 173) := Lib.hid (by unfold mayC; simp [hk])
      clear hk
      go_enter Try.func39, Try.ntmps39
      go_wp2_with fail
      go_ret
      rw [HV.out]
      exact ⟨rfl, rfl⟩
  · rw [hold2 hk] at c5
    have ta := taFF
    obtain ⟨h1, h2⟩ := hfo hk
    have d2 := cell_of h1 (j := 2) rfl
    have hl := fun ty => h2.size ty
    have hml : many f.N x.id = many f.N x.id := rfl
    clear hfo h1 h2
    cases b
    · have HV : Hid (mayC f x false = 172) := Lib.hid (by unfold mayC; simp [hk])
      clear hk
      go_enter Try.func39, Try.ntmps39
      go_wp2_with fail
      go_ret
      rw [HV.out]
      exact ⟨rfl, rfl⟩
    · by_cases h0 : 0 < many f.N x.id
      · have k1 : decide ((0 : Int) < (many f.N x.id : Int)) = true := by simp only [decide_eq_true_eq]; omega
        have k2 : decide (0 < many f.N x.id) = true := by simpa using h0
        have HV : Hid (mayC f x true = 174) := Lib.hid (by unfold mayC; simp [hk, h0])
        clear hk h0 hml
        go_enter Try.func39, Try.ntmps39
        go_wp2_with fail
        go_ret
        rw [HV.out]
        exact ⟨rfl, rfl⟩
      · have k1 : decide ((0 : Int) < (many f.N x.id : Int)) = false := by simp only [decide_eq_false_iff_not]; omega
        have k2 : decide (0 < many f.N x.id) = false := by simpa using h0
        have HV : Hid (mayC f x true = 0) := Lib.hid (by unfold mayC; simp [hk, h0])
        clear hk h0 hml
        go_enter Try.func39, Try.ntmps39
        go_wp2_with fail
        go_ret
        rw [HV.out]
        exact ⟨rfl, rfl⟩
  · rw [hold3 hk] at c5
    have ta := taTF
    clear hfo
    cases b
    · have HV : Hid (mayC f x false = 0) := Lib.hid (by unfold mayC; simp [hk])
      clear hk
      go_enter Try.func39, Try.ntmps39
      go_wp2_with fail
      go_ret
      rw [HV.out]
      exact ⟨rfl, rfl⟩
    · have HV : Hid (mayC f x true = 173) := Lib.hid (by unfold mayC; simp [hk])
      clear hk
      go_enter Try.func39, Try.ntmps39
      go_wp2_with fail
      go_ret
      rw [HV.out]
      exact ⟨rfl, rfl⟩
end Go.Proofs.Ytoaahhgngelnaaa
