/-
  What Link, Remove and Look return and leave. Condition: a text's length; how much was done.
-/
import Derived.Test.YtoaahhgngelnaaaFRem
namespace Go.Proofs.Ytoaahhgngelnaaa
set_option maxRecDepth 100000
open Go.ChangeShapes Go.WideShapes Go.ChangeAt Go.RowKit Go.Proofs.Sg Go.Proofs.Fz

theorem nmV_inl {Y : Lay} {f : Fst} {h : Hd} {s : Txt} {c : Int} (e : fol f.I h = .inl c) : nmV Y f h s = .tuple #[.agg #[.pointer none, .pointer none], .pointer none, .int .i64 c] := by unfold nmV; rw [e]
theorem nmV_bad {Y : Lay} {f : Fst} {h : Hd} {s : Txt} {x : Nod} (e : fol f.I h = .inr x) (hv : validN s = false) : nmV Y f h s = .tuple #[.agg #[.pointer none, .pointer none], .pointer none, .int .i64 176] := by unfold nmV; rw [e]; dsimp only; rw [hv]; rfl
theorem nmV_good {Y : Lay} {f : Fst} {h : Hd} {s : Txt} {x : Nod} (e : fol f.I h = .inr x) (hv : validN s = true) : nmV Y f h s = .tuple #[.agg #[pA (Y.ip x.id), pA (Y.hp x.id)], iP f.I Y.ip (entry f.N x.id s : Int), .int .i64 0] := by unfold nmV; rw [e]; dsimp only; rw [hv]; rfl
theorem valid_len {s : Txt} (h : validN s = true) : s.length ≤ 60 := by unfold validN at h; simp only [Bool.and_eq_true, decide_eq_true_eq] at h; exact h.1.1.1.2
theorem valid_size {s : ByteArray} (h : validN (L s) = true) : s.size ≤ 60 := by rw [← L_len]; exact valid_len h
theorem iP_none {I : List Nod} {ip : Nat → Nat} {i : Int} (e : nget I i = none) : iP I ip i = .pointer none := by unfold iP; rw [e]
theorem iP_some {I : List Nod} {ip : Nat → Nat} {i : Int} {x : Nod} (e : nget I i = some x) : iP I ip i = pA (ip x.id) := by unfold iP; rw [e]
set_option maxHeartbeats 4000000 in
theorem flink_any {w : World} {bs : Nat} {Y : Lay} {f : Fst} {T : Nat} (h : FM w bs Y f) (hg : Gd f) (hb : Bd f T) (hT : T ≤ 1000000000) (d g : Hd) (hd : HdOk d) (hg2 : HdOk g) (s : ByteArray) (hs : s.size ≤ maxLen) :
    Calls Try.prog 18 #[pA Y.fp, hV d, hV g, .string s] w (ChF w bs Y f (lkF f d g (L s)).1 (.int .i64 (lkF f d g (L s)).2)) := by
  obtain ⟨w2, hw2, hb2, hq, hr, hs2⟩ := two_box w (.cells #[.int .i64 d.id, .int .i64 d.gen] 40) (.cells #[.int .i64 g.id, .int .i64 g.gen] 40)
  obtain ⟨q, eq⟩ : ∃ q, q = w.heap.size := ⟨_, rfl⟩
  obtain ⟨r, er⟩ : ∃ r, r = w.heap.size + 1 := ⟨_, rfl⟩
  rw [← eq] at hq
  rw [← er] at hr
  have HW2 := Lib.hid hw2
  have EQ := Lib.hid eq
  have ER := Lib.hid er
  have HB2 := Lib.hid hb2
  have HR := Lib.hid hr
  have HQ := Lib.hid hq
  have HRW : Hid (w.heap.size ≤ r ∧ r < w2.heap.size ∧ q < w2.heap.size) := Lib.hid (by omega)
  clear hw2 eq er hb2 hq hr hs2
  have h2 := h.below hg.kind HB2.out
  have HM := Lib.hid h
  have HM2 := Lib.hid h2
  have HG := Lib.hid hg
  have HBD := Lib.hid hb
  have HT := Lib.hid hT
  have HS := Lib.hid hs
  have HD2 := Lib.hid hg2
  have HF := Lib.hid (find_any h2 hg d hd)
  have q0 := cell_of HQ.out (j := 0) rfl
  have q1 := cell_of HQ.out (j := 1) rfl
  have e1 := pnil
  clear h hg hd hg2 h2 hb hT hs
  go_enter Try.func18, Try.ntmps18
  go_upto_region 1 with fail
  rw [← HW2.out, ← ER.out, ← EQ.out]
  go_wp2_with fail
  refine HF.out.mono ?_
  rintro e w3 ⟨rfl, hb3⟩
  have r0 := cell_of (blk_below HR.out hb3) (j := 0) rfl
  have r1 := cell_of (blk_below HR.out hb3) (j := 1) rfl
  have HB3 := Lib.hid hb3
  have HNM := Lib.hid (named_any (HM2.out.below HG.out.kind hb3) HG.out HBD.out HT.out g HD2.out s HS.out)
  clear hb3
  rcases hq : fnd f.I d with _ | x
  · rw [fP_none hq]
    have HV : Hid (lkF f d g (L s) = (f, 175)) := Lib.hid (by unfold lkF; rw [hq])
    clear hq
    go_wp2_with fail
    go_ret
    rw [HV.out]
    exact ChF.same HM.out HG.out (HB2.out.trans (HB3.out.mono HB2.out.size)) _
  · rw [fP_some hq]
    have e2 := pnn (Y.ip x.id)
    have HXM := Lib.hid (fnd_mem hq).1
    have HXQ := Lib.hid hq
    clear hq
    rcases hq2 : fol f.I g with c | dd
    · have hc := fol_inl hq2
      rw [nmV_inl hq2] at HNM
      have HQ2 := Lib.hid hq2
      clear hq2
      rcases hc with rfl | rfl
      · go_wp2_with fail
        refine HNM.out.mono ?_
        rintro e w4 ⟨rfl, hb4⟩
        replace hb4 := HB3.out.trans (hb4.mono HB3.out.size)
        obtain ⟨w5, hw5⟩ : ∃ W, W = w4.alloc (.cells #[.pointer none, .pointer none] 84) := ⟨_, rfl⟩
        obtain ⟨p, hp⟩ : ∃ k, k = w4.heap.size := ⟨_, rfl⟩
        have hb5 : Below w2.heap.size w2 w5 := by rw [hw5]; exact hb4.trans ((box_below w4 _).mono hb4.size)
        have hbx : w5.heap[p]? = some (.cells #[.pointer none, .pointer none] 84 (0, 0)) := by rw [hw5, hp]; exact new_block w4 _
        have HB5 : Hid (Below w.heap.size w w5) := Lib.hid (HB2.out.trans (hb5.mono HB2.out.size))
        have HM5 := Lib.hid (HM2.out.below HG.out.kind hb5)
        have p0 := cell_of hbx (j := 0) rfl
        have p1 := cell_of hbx (j := 1) rfl
        have HW5 := Lib.hid hw5
        have HP := Lib.hid hp
        clear hb4 hb5 hw5 hp hbx
        go_upto_region 5 with fail
        rw [← HW5.out, ← HP.out]
        have HV : Hid (lkF f d g (L s) = (f, 175)) := Lib.hid (by unfold lkF; rw [HXQ.out]; dsimp only; rw [HQ2.out])
        go_wp2_with fail
        go_ret
        rw [HV.out]
        exact ChF.same HM.out HG.out (HB5.out) _
      · go_wp2_with fail
        refine HNM.out.mono ?_
        rintro e w4 ⟨rfl, hb4⟩
        replace hb4 := HB3.out.trans (hb4.mono HB3.out.size)
        obtain ⟨w5, hw5⟩ : ∃ W, W = w4.alloc (.cells #[.pointer none, .pointer none] 84) := ⟨_, rfl⟩
        obtain ⟨p, hp⟩ : ∃ k, k = w4.heap.size := ⟨_, rfl⟩
        have hb5 : Below w2.heap.size w2 w5 := by rw [hw5]; exact hb4.trans ((box_below w4 _).mono hb4.size)
        have hbx : w5.heap[p]? = some (.cells #[.pointer none, .pointer none] 84 (0, 0)) := by rw [hw5, hp]; exact new_block w4 _
        have HB5 : Hid (Below w.heap.size w w5) := Lib.hid (HB2.out.trans (hb5.mono HB2.out.size))
        have HM5 := Lib.hid (HM2.out.below HG.out.kind hb5)
        have p0 := cell_of hbx (j := 0) rfl
        have p1 := cell_of hbx (j := 1) rfl
        have HW5 := Lib.hid hw5
        have HP := Lib.hid hp
        clear hb4 hb5 hw5 hp hbx
        go_upto_region 5 with fail
        rw [← HW5.out, ← HP.out]
        have HV : Hid (lkF f d g (L s) = (f, 173)) := Lib.hid (by unfold lkF; rw [HXQ.out]; dsimp only; rw [HQ2.out])
        go_wp2_with fail
        go_ret
        rw [HV.out]
        exact ChF.same HM.out HG.out (HB5.out) _
    · have HDM := Lib.hid (fol_inr hq2)
      have HQ2 := Lib.hid hq2
      cases hv : validN (L s) with
      | false =>
        rw [nmV_bad hq2 hv] at HNM
        have HVN := Lib.hid hv
        clear hq2 hv
        go_wp2_with fail
        refine HNM.out.mono ?_
        rintro e w4 ⟨rfl, hb4⟩
        replace hb4 := HB3.out.trans (hb4.mono HB3.out.size)
        obtain ⟨w5, hw5⟩ : ∃ W, W = w4.alloc (.cells #[.pointer none, .pointer none] 84) := ⟨_, rfl⟩
        obtain ⟨p, hp⟩ : ∃ k, k = w4.heap.size := ⟨_, rfl⟩
        have hb5 : Below w2.heap.size w2 w5 := by rw [hw5]; exact hb4.trans ((box_below w4 _).mono hb4.size)
        have hbx : w5.heap[p]? = some (.cells #[.pointer none, .pointer none] 84 (0, 0)) := by rw [hw5, hp]; exact new_block w4 _
        have HB5 : Hid (Below w.heap.size w w5) := Lib.hid (HB2.out.trans (hb5.mono HB2.out.size))
        have HM5 := Lib.hid (HM2.out.below HG.out.kind hb5)
        have p0 := cell_of hbx (j := 0) rfl
        have p1 := cell_of hbx (j := 1) rfl
        have HW5 := Lib.hid hw5
        have HP := Lib.hid hp
        clear hb4 hb5 hw5 hp hbx
        go_upto_region 5 with fail
        rw [← HW5.out, ← HP.out]
        have HV : Hid (lkF f d g (L s) = (f, 176)) := Lib.hid (by unfold lkF; rw [HXQ.out]; dsimp only; rw [HQ2.out]; dsimp only; rw [if_pos HVN.out])
        go_wp2_with fail
        go_ret
        rw [HV.out]
        exact ChF.same HM.out HG.out (HB5.out) _
      | true =>
        rw [nmV_good hq2 hv] at HNM
        have HVN := Lib.hid hv
        clear hq2 hv
        have HKX := Lib.hid (HG.out.kind x HXM.out)
        have HBASE : Hid (lkF f d g (L s) = if x.kind = 2 then (f, 172) else if entry f.N dd.id (L s) ≠ 0 then (f, 171) else if 20 ≤ links f.I f.N x then (f, 179) else (⟨f.room, f.I, addn f.N dd.id (L s) x.id, f.G⟩, 0)) := Lib.hid (by unfold lkF; rw [HXQ.out]; dsimp only; rw [HQ2.out]; dsimp only; rw [if_neg (by rw [HVN.out]; decide)])
        go_wp2_with fail
        refine HNM.out.mono ?_
        rintro e w4 ⟨rfl, hb4⟩
        replace hb4 := HB3.out.trans (hb4.mono HB3.out.size)
        obtain ⟨w5, hw5⟩ : ∃ W, W = w4.alloc (.cells #[pA (Y.ip dd.id), pA (Y.hp dd.id)] 84) := ⟨_, rfl⟩
        obtain ⟨p, hp⟩ : ∃ k, k = w4.heap.size := ⟨_, rfl⟩
        have hb5 : Below w2.heap.size w2 w5 := by rw [hw5]; exact hb4.trans ((box_below w4 _).mono hb4.size)
        have hbx : w5.heap[p]? = some (.cells #[pA (Y.ip dd.id), pA (Y.hp dd.id)] 84 (0, 0)) := by rw [hw5, hp]; exact new_block w4 _
        have HB5 : Hid (Below w.heap.size w w5) := Lib.hid (HB2.out.trans (hb5.mono HB2.out.size))
        have HM5 := Lib.hid (HM2.out.below HG.out.kind hb5)
        have p0 := cell_of hbx (j := 0) rfl
        have p1 := cell_of hbx (j := 1) rfl
        have HW5 := Lib.hid hw5
        have HP := Lib.hid hp
        clear hb4 hb5 hw5 hp hbx
        go_upto_region 5 with fail
        rw [← HW5.out, ← HP.out]
        have HIS := Lib.hid (isFolder_any (HM5.out.nod x HXM.out) HKX.out)
        obtain ⟨kf, hkf⟩ : ∃ b, decide (x.kind = 2) = b := ⟨_, rfl⟩
        rw [hkf] at HIS
        have HKF : Hid ((x.kind = 2) = (kf = true)) := Lib.hid (by rw [← hkf]; simp)
        clear hkf
        have hc3 := (HM5.out.nod x HXM.out).cells.2.2.2.1
        obtain ⟨l, hl⟩ : ∃ l, links f.I f.N x = l := ⟨_, rfl⟩
        rw [hl] at hc3
        have HL := Lib.hid hl
        clear hl
        cases kf with
        | true =>
          have HV : Hid (lkF f d g (L s) = (f, 172)) := Lib.hid (by rw [HBASE.out, if_pos (by rw [HKF.out])])
          go_wp2_with fail
          refine HIS.out.mono ?_
          rintro e w' ⟨rfl, rfl⟩
          go_wp2_with fail
          go_ret
          rw [HV.out]
          exact ChF.same HM.out HG.out HB5.out _
        | false =>
          have HK2 : Hid (x.kind ≠ 2) := Lib.hid (by rw [Ne, HKF.out]; decide)
          go_wp2_with fail
          refine HIS.out.mono ?_
          rintro e w' ⟨rfl, rfl⟩
          rcases hen : nget f.I (entry f.N dd.id (L s) : Int) with _ | z
          · rw [iP_none hen]
            have HEN := Lib.hid (HG.out.no_entry hen)
            have e3 := pnil2
            clear hen
            by_cases hl20 : 20 ≤ l
            · have k1 : decide ((20 : Int) ≤ (l : Int)) = true := by simp only [decide_eq_true_eq]; omega
              have k2 : decide (20 ≤ l) = true := by simpa using hl20
              have HV : Hid (lkF f d g (L s) = (f, 179)) := Lib.hid (by rw [HBASE.out, if_neg HK2.out, if_neg (by rw [HEN.out]; simp), if_pos (by rw [HL.out]; exact hl20)])
              clear hl20
              go_wp2_with fail
              go_ret
              rw [HV.out]
              exact ChF.same HM.out HG.out HB5.out _
            · have k1 : decide ((20 : Int) ≤ (l : Int)) = false := by simp only [decide_eq_false_iff_not]; omega
              have k2 : decide (20 ≤ l) = false := by simpa using hl20
              have hk2 := HK2.out
              have HV : Hid (lkF f d g (L s) = (enS f dd x (L s), 0)) := Lib.hid (by rw [HBASE.out, if_neg HK2.out, if_neg (by rw [HEN.out]; simp), if_neg (by rw [HL.out]; exact hl20)]; unfold enS; rw [if_neg hk2])
              have HENT := Lib.hid (enter_any HM5.out HG.out.ids HG.out.kind HDM.out.1 HDM.out.2.1 HXM.out (by have := HG.out.rng x HXM.out; omega) (by have := HBD.out.nms; have := HT.out; omega) s (HG.out.ent HEN.out) (by have := valid_size HVN.out; omega))
              clear hl20 hk2
              go_wp2_with fail
              refine HENT.out.mono ?_
              rintro e w6 ⟨rfl, g1, g2, g3⟩
              have HE : Hid (ChF w bs Y f (enS f dd x (L s)) (.int .i64 0) (.returned (.int .i64 0)) w6) := Lib.hid ⟨Y, rfl, g1, (FK.of_below HB5.out).trans Fresh.refl g2, Fresh.trans Fresh.refl HB5.out.size g3, rfl⟩
              clear g1 g2 g3
              go_wp2_with fail
              go_ret
              rw [HV.out]
              exact HE.out
          · rw [iP_some hen]
            have HZ := Lib.hid (HG.out.at_entry hen)
            have e3 := pnn2 (Y.ip z.id)
            have HV : Hid (lkF f d g (L s) = (f, 171)) := Lib.hid (by rw [HBASE.out, if_neg HK2.out, if_pos (by rw [← HZ.out.2.1]; have := HG.out.rng z HZ.out.1; omega)])
            clear hen
            go_wp2_with fail
            go_ret
            rw [HV.out]
            exact ChF.same HM.out HG.out HB5.out _
end Go.Proofs.Ytoaahhgngelnaaa
