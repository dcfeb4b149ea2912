/-
  What Look returns. Condition: a text's length; how much was done.
-/
import Derived.Test.YtoaahhgngelnaaaFRm
namespace Go.Proofs.Ytoaahhgngelnaaa
set_option maxRecDepth 100000
open Go.ChangeShapes Go.WideShapes Go.ChangeAt Go.RowKit Go.Proofs.Sg Go.Proofs.Fz

set_option maxHeartbeats 4000000 in
theorem flook_any {w : World} {bs : Nat} {Y : Lay} {f : Fst} (h : FM w bs Y f) (hg : Gd f) (d : Hd) (hd : HdOk d) (s : ByteArray) (hs : s.size ≤ maxLen) :
    Calls Try.prog 15 #[pA Y.fp, hV d, .string s] w fun e w' => e = .returned (.tuple #[hV (loF f d (L s)).1, .int .i64 (loF f d (L s)).2]) ∧ Below w.heap.size w w' := by
  obtain ⟨w2, hw2, hb2, hq, hr, hs2⟩ := two_box w (.cells #[.int .i64 d.id, .int .i64 d.gen] 40) (.cells #[.int .i64 0, .int .i64 0] 40)
  obtain ⟨q, eq⟩ : ∃ q, q = w.heap.size := ⟨_, rfl⟩
  obtain ⟨r, er⟩ : ∃ r, r = w.heap.size + 1 := ⟨_, rfl⟩
  rw [← eq] at hq
  rw [← er] at hr
  have HW2 := Lib.hid hw2
  have EQ := Lib.hid eq
  have ER := Lib.hid er
  have HB2 := Lib.hid hb2
  have HR := Lib.hid hr
  have HQ := Lib.hid hq
  have HRW : Hid (w.heap.size ≤ r ∧ r < w2.heap.size ∧ q < w2.heap.size) := Lib.hid (by omega)
  clear hw2 eq er hb2 hq hr hs2
  have h2 := h.below hg.kind HB2.out
  have HM2 := Lib.hid h2
  have HG := Lib.hid hg
  have HS := Lib.hid hs
  have HF := Lib.hid (open_any h2 hg d hd)
  have q0 := cell_of HQ.out (j := 0) rfl
  have q1 := cell_of HQ.out (j := 1) rfl
  obtain ⟨e2, t2⟩ : ∃ e, (s.toList == [46]) = e := ⟨_, rfl⟩
  obtain ⟨e3, t3⟩ : ∃ e, (s.toList == [46, 46]) = e := ⟨_, rfl⟩
  have HT2 : Hid ((L s = [46]) = (e2 = true)) := Lib.hid (by rw [← t2, toL]; simp)
  have HT3 : Hid ((L s = [46, 46]) = (e3 = true)) := Lib.hid (by rw [← t3, toL]; simp)
  clear h hg hd h2 hs
  go_enter Try.func15, Try.ntmps15
  go_upto_region 1 with fail
  rw [← HW2.out, ← ER.out, ← EQ.out]
  rcases hq2 : fol f.I d with c | x
  · have hc := fol_inl hq2
    rw [opV_inl hq2] at HF
    have HQ2 := Lib.hid hq2
    clear hq2
    rcases hc with rfl | rfl
    · have HV : Hid (loF f d (L s) = (hd0, 175)) := Lib.hid (by unfold loF; rw [HQ2.out])
      go_wp2_with fail
      refine HF.out.mono ?_
      rintro e w4 ⟨rfl, hb4⟩
      obtain ⟨w5, hw5⟩ : ∃ W, W = w4.alloc (.cells #[.pointer none, .pointer none] 84) := ⟨_, rfl⟩
      obtain ⟨p, hp⟩ : ∃ k, k = w4.heap.size := ⟨_, rfl⟩
      have hb5 : Below w2.heap.size w2 w5 := by rw [hw5]; exact hb4.trans ((box_below w4 _).mono hb4.size)
      have hbx : w5.heap[p]? = some (.cells #[.pointer none, .pointer none] 84 (0, 0)) := by rw [hw5, hp]; exact new_block w4 _
      have HB5 : Hid (Below w.heap.size w w5) := Lib.hid (HB2.out.trans (hb5.mono HB2.out.size))
      have HM5 := Lib.hid (HM2.out.below HG.out.kind hb5)
      have p0 := cell_of hbx (j := 0) rfl
      have p1 := cell_of hbx (j := 1) rfl
      have HW5 := Lib.hid hw5
      have HP := Lib.hid hp
      have hr5 := blk_below HR.out hb5
      clear hb4 hb5 hw5 hp hbx
      go_upto_region 2 with fail
      rw [← HW5.out, ← HP.out]
      obtain ⟨w9, hw9⟩ : ∃ W9, W9 = ((w5.setCell ⟨r, 0, none⟩ (.int .i64 0)).setCell ⟨r, 1, none⟩ (.int .i64 0)) := ⟨_, rfl⟩
      obtain ⟨hwr9, hk9⟩ := set2 hr5 (.int .i64 0) (.int .i64 0)
      rw [← hw9] at hwr9 hk9
      have r0 := cell_of hr5 (j := 0) rfl
      have r1 := cell_of hr5 (j := 1) rfl
      have g0 := frozen_of_row w5 r 0 _ _ hr5
      have g1 := frozen_of_row w5 r 1 _ _ hr5
      have z0 := cell_of hk9 (j := 0) rfl
      have z1 := cell_of hk9 (j := 1) rfl
      have HWR := Lib.hid hwr9
      have HW9 := Lib.hid hw9
      clear hw9 hwr9 hk9
      have HE : Hid (Below w.heap.size w w9) := Lib.hid (HB5.out.trans (HWR.out.below.mono HRW.out.1))
      go_wp2_with fail
      rw [← HW9.out]
      go_wp2_with fail
      exact bodyPost_ret (v := .tuple #[.agg #[.int .i64 0, .int .i64 0], .int .i64 175]) (by simp [results, Try.results15, go_sem, z0, z1]) rfl ⟨by rw [HV.out], HE.out⟩
    · have HV : Hid (loF f d (L s) = (hd0, 173)) := Lib.hid (by unfold loF; rw [HQ2.out])
      go_wp2_with fail
      refine HF.out.mono ?_
      rintro e w4 ⟨rfl, hb4⟩
      obtain ⟨w5, hw5⟩ : ∃ W, W = w4.alloc (.cells #[.pointer none, .pointer none] 84) := ⟨_, rfl⟩
      obtain ⟨p, hp⟩ : ∃ k, k = w4.heap.size := ⟨_, rfl⟩
      have hb5 : Below w2.heap.size w2 w5 := by rw [hw5]; exact hb4.trans ((box_below w4 _).mono hb4.size)
      have hbx : w5.heap[p]? = some (.cells #[.pointer none, .pointer none] 84 (0, 0)) := by rw [hw5, hp]; exact new_block w4 _
      have HB5 : Hid (Below w.heap.size w w5) := Lib.hid (HB2.out.trans (hb5.mono HB2.out.size))
      have HM5 := Lib.hid (HM2.out.below HG.out.kind hb5)
      have p0 := cell_of hbx (j := 0) rfl
      have p1 := cell_of hbx (j := 1) rfl
      have HW5 := Lib.hid hw5
      have HP := Lib.hid hp
      have hr5 := blk_below HR.out hb5
      clear hb4 hb5 hw5 hp hbx
      go_upto_region 2 with fail
      rw [← HW5.out, ← HP.out]
      obtain ⟨w9, hw9⟩ : ∃ W9, W9 = ((w5.setCell ⟨r, 0, none⟩ (.int .i64 0)).setCell ⟨r, 1, none⟩ (.int .i64 0)) := ⟨_, rfl⟩
      obtain ⟨hwr9, hk9⟩ := set2 hr5 (.int .i64 0) (.int .i64 0)
      rw [← hw9] at hwr9 hk9
      have r0 := cell_of hr5 (j := 0) rfl
      have r1 := cell_of hr5 (j := 1) rfl
      have g0 := frozen_of_row w5 r 0 _ _ hr5
      have g1 := frozen_of_row w5 r 1 _ _ hr5
      have z0 := cell_of hk9 (j := 0) rfl
      have z1 := cell_of hk9 (j := 1) rfl
      have HWR := Lib.hid hwr9
      have HW9 := Lib.hid hw9
      clear hw9 hwr9 hk9
      have HE : Hid (Below w.heap.size w w9) := Lib.hid (HB5.out.trans (HWR.out.below.mono HRW.out.1))
      go_wp2_with fail
      rw [← HW9.out]
      go_wp2_with fail
      exact bodyPost_ret (v := .tuple #[.agg #[.int .i64 0, .int .i64 0], .int .i64 173]) (by simp [results, Try.results15, go_sem, z0, z1]) rfl ⟨by rw [HV.out], HE.out⟩
  · have HDM := Lib.hid (fol_inr hq2)
    have HBASE : Hid (loF f d (L s) = if L s = [46] then (d, 0) else if L s = [46, 46] then (hdO f.I x.par, 0) else if validN (L s) = false then (hd0, 176) else if entry f.N x.id (L s) = 0 then (hd0, 170) else (hdO f.I (entry f.N x.id (L s)), 0)) := Lib.hid (by unfold loF; rw [hq2])
    rw [opV_inr hq2] at HF
    clear hq2
    go_wp2_with fail
    refine HF.out.mono ?_
    rintro e w4 ⟨rfl, hb4⟩
    obtain ⟨w5, hw5⟩ : ∃ W, W = w4.alloc (.cells #[pA (Y.ip x.id), pA (Y.hp x.id)] 84) := ⟨_, rfl⟩
    obtain ⟨p, hp⟩ : ∃ k, k = w4.heap.size := ⟨_, rfl⟩
    have hb5 : Below w2.heap.size w2 w5 := by rw [hw5]; exact hb4.trans ((box_below w4 _).mono hb4.size)
    have hbx : w5.heap[p]? = some (.cells #[pA (Y.ip x.id), pA (Y.hp x.id)] 84 (0, 0)) := by rw [hw5, hp]; exact new_block w4 _
    have HB5 : Hid (Below w.heap.size w w5) := Lib.hid (HB2.out.trans (hb5.mono HB2.out.size))
    have HM5 := Lib.hid (HM2.out.below HG.out.kind hb5)
    have p0 := cell_of hbx (j := 0) rfl
    have p1 := cell_of hbx (j := 1) rfl
    have HW5 := Lib.hid hw5
    have HP := Lib.hid hp
    have hr5 := blk_below HR.out hb5
    clear hb4 hb5 hw5 hp hbx
    go_upto_region 2 with fail
    rw [← HW5.out, ← HP.out]
    obtain ⟨i0, i1, -⟩ := (HM5.out.nod x HDM.out.1).cells
    obtain ⟨f0, f1, f2⟩ := HM5.out.folder HDM.out.1 HDM.out.2.1
    cases e2 with
    | true =>
      have HV : Hid (loF f d (L s) = (⟨(x.id : Int), (x.gen : Int)⟩, 0)) := Lib.hid (by
        rw [HBASE.out, if_pos (by rw [HT2.out]), HDM.out.2.2.1, HDM.out.2.2.2.1])
      obtain ⟨w9, hw9⟩ : ∃ W9, W9 = ((w5.setCell ⟨r, 0, none⟩ (.int .i64 (x.id : Int))).setCell ⟨r, 1, none⟩ (.int .i64 (x.gen : Int))) := ⟨_, rfl⟩
      obtain ⟨hwr9, hk9⟩ := set2 hr5 (.int .i64 (x.id : Int)) (.int .i64 (x.gen : Int))
      rw [← hw9] at hwr9 hk9
      have r0 := cell_of hr5 (j := 0) rfl
      have r1 := cell_of hr5 (j := 1) rfl
      have g0 := frozen_of_row w5 r 0 _ _ hr5
      have g1 := frozen_of_row w5 r 1 _ _ hr5
      have z0 := cell_of hk9 (j := 0) rfl
      have z1 := cell_of hk9 (j := 1) rfl
      have HWR := Lib.hid hwr9
      have HW9 := Lib.hid hw9
      clear hw9 hwr9 hk9
      have HE : Hid (Below w.heap.size w w9) := Lib.hid (HB5.out.trans (HWR.out.below.mono HRW.out.1))
      go_wp2_with fail
      rw [← HW9.out]
      go_wp2_with fail
      exact bodyPost_ret (v := .tuple #[.agg #[.int .i64 (x.id : Int), .int .i64 (x.gen : Int)], .int .i64 0]) (by simp [results, Try.results15, go_sem, z0, z1]) rfl ⟨by rw [HV.out], HE.out⟩
    | false =>
      have HN2 : Hid (¬ L s = [46]) := Lib.hid (by rw [HT2.out]; decide)
      cases e3 with
      | true =>
        have HV : Hid (loF f d (L s) = (⟨(x.par : Int), (genO f.I x.par : Int)⟩, 0)) := Lib.hid (by
          have hp := par_in HG.out HDM.out.1 HDM.out.2.1
          obtain ⟨z, hz, -⟩ := isD_iff.1 hp
          have h1 := (nget_mem hz).2
          have h2 := (HG.out.rng z (nget_mem hz).1).1
          rw [HBASE.out, if_neg HN2.out, if_pos (by rw [HT3.out])]
          unfold hdO
          rw [if_neg (by omega)])
        obtain ⟨w9, hw9⟩ : ∃ W9, W9 = ((w5.setCell ⟨r, 0, none⟩ (.int .i64 (x.par : Int))).setCell ⟨r, 1, none⟩ (.int .i64 (genO f.I x.par : Int))) := ⟨_, rfl⟩
        obtain ⟨hwr9, hk9⟩ := set2 hr5 (.int .i64 (x.par : Int)) (.int .i64 (genO f.I x.par : Int))
        rw [← hw9] at hwr9 hk9
        have r0 := cell_of hr5 (j := 0) rfl
        have r1 := cell_of hr5 (j := 1) rfl
        have g0 := frozen_of_row w5 r 0 _ _ hr5
        have g1 := frozen_of_row w5 r 1 _ _ hr5
        have z0 := cell_of hk9 (j := 0) rfl
        have z1 := cell_of hk9 (j := 1) rfl
        have HWR := Lib.hid hwr9
        have HW9 := Lib.hid hw9
        clear hw9 hwr9 hk9
        have HE : Hid (Below w.heap.size w w9) := Lib.hid (HB5.out.trans (HWR.out.below.mono HRW.out.1))
        go_wp2_with fail
        rw [← HW9.out]
        go_wp2_with fail
        exact bodyPost_ret (v := .tuple #[.agg #[.int .i64 (x.par : Int), .int .i64 (genO f.I x.par : Int)], .int .i64 0]) (by simp [results, Try.results15, go_sem, z0, z1]) rfl ⟨by rw [HV.out], HE.out⟩
      | false =>
        have HN3 : Hid (¬ L s = [46, 46]) := Lib.hid (by rw [HT3.out]; decide)
        have HIN := Lib.hid (isName_any s w5)
        obtain ⟨b, hbv⟩ : ∃ b, validN (L s) = b := ⟨_, rfl⟩
        rw [hbv] at HIN
        have HBV := Lib.hid hbv
        clear hbv
        cases b with
        | false =>
          have HV : Hid (loF f d (L s) = (hd0, 176)) := Lib.hid (by rw [HBASE.out, if_neg HN2.out, if_neg HN3.out, if_pos HBV.out])
          go_wp2_with fail
          refine HIN.out.mono ?_
          rintro e w' ⟨rfl, rfl⟩
          obtain ⟨w9, hw9⟩ : ∃ W9, W9 = ((w5.setCell ⟨r, 0, none⟩ (.int .i64 0)).setCell ⟨r, 1, none⟩ (.int .i64 0)) := ⟨_, rfl⟩
          obtain ⟨hwr9, hk9⟩ := set2 hr5 (.int .i64 0) (.int .i64 0)
          rw [← hw9] at hwr9 hk9
          have r0 := cell_of hr5 (j := 0) rfl
          have r1 := cell_of hr5 (j := 1) rfl
          have g0 := frozen_of_row w5 r 0 _ _ hr5
          have g1 := frozen_of_row w5 r 1 _ _ hr5
          have z0 := cell_of hk9 (j := 0) rfl
          have z1 := cell_of hk9 (j := 1) rfl
          have HWR := Lib.hid hwr9
          have HW9 := Lib.hid hw9
          clear hw9 hwr9 hk9
          have HE : Hid (Below w.heap.size w w9) := Lib.hid (HB5.out.trans (HWR.out.below.mono HRW.out.1))
          go_wp2_with fail
          rw [← HW9.out]
          go_wp2_with fail
          exact bodyPost_ret (v := .tuple #[.agg #[.int .i64 0, .int .i64 0], .int .i64 176]) (by simp [results, Try.results15, go_sem, z0, z1]) rfl ⟨by rw [HV.out], HE.out⟩
        | true =>
          obtain ⟨lk, -⟩ := ((HM5.out.nod x HDM.out.1).fol HDM.out.2.1).2.look HS.out
          obtain ⟨hh, hhe⟩ : ∃ v, hdO f.I (entry f.N x.id (L s)) = v := ⟨_, rfl⟩
          rw [hhe] at lk
          have HHE := Lib.hid hhe
          clear hhe
          obtain ⟨k, hk⟩ : ∃ k, decide (entry f.N x.id (L s) ≠ 0) = k := ⟨_, rfl⟩
          have lk1 := lk k hk
          have HK : Hid ((entry f.N x.id (L s) ≠ 0) = (k = true)) := Lib.hid (by rw [← hk]; simp)
          clear hk lk
          obtain ⟨w6, hw6⟩ : ∃ W, W = w5.alloc (.cells #[.int .i64 hh.id, .int .i64 hh.gen] 40) := ⟨_, rfl⟩
          obtain ⟨p2, hp2⟩ : ∃ j, j = w5.heap.size := ⟨_, rfl⟩
          have hb6 : Below w5.heap.size w5 w6 := by rw [hw6]; exact box_below w5 _
          have hbx6 : w6.heap[p2]? = some (.cells #[.int .i64 hh.id, .int .i64 hh.gen] 40 (0, 0)) := by rw [hw6, hp2]; exact new_block w5 _
          have hr6 := blk_below hr5 hb6
          have HB6 : Hid (Below w.heap.size w w6) := Lib.hid (HB5.out.trans (hb6.mono HB5.out.size))
          have y0 := cell_of hbx6 (j := 0) rfl
          have y1 := cell_of hbx6 (j := 1) rfl
          have HW6 := Lib.hid hw6
          have HP2 := Lib.hid hp2
          clear hb6 hbx6 hw6 hp2
          cases k with
          | false =>
            have HV : Hid (loF f d (L s) = (hd0, 170)) := Lib.hid (by rw [HBASE.out, if_neg HN2.out, if_neg HN3.out, if_neg (by rw [HBV.out]; decide), if_pos (by have := HK.out; simpa using this)])
            go_wp2_with fail
            refine HIN.out.mono ?_
            rintro e w' ⟨rfl, rfl⟩
            go_upto_region 11 with fail
            rw [← HW6.out, ← HP2.out]
            obtain ⟨w9, hw9⟩ : ∃ W9, W9 = ((w6.setCell ⟨r, 0, none⟩ (.int .i64 0)).setCell ⟨r, 1, none⟩ (.int .i64 0)) := ⟨_, rfl⟩
            obtain ⟨hwr9, hk9⟩ := set2 hr6 (.int .i64 0) (.int .i64 0)
            rw [← hw9] at hwr9 hk9
            have r0 := cell_of hr6 (j := 0) rfl
            have r1 := cell_of hr6 (j := 1) rfl
            have g0 := frozen_of_row w6 r 0 _ _ hr6
            have g1 := frozen_of_row w6 r 1 _ _ hr6
            have z0 := cell_of hk9 (j := 0) rfl
            have z1 := cell_of hk9 (j := 1) rfl
            have HWR := Lib.hid hwr9
            have HW9 := Lib.hid hw9
            clear hw9 hwr9 hk9
            have HE : Hid (Below w.heap.size w w9) := Lib.hid (HB6.out.trans (HWR.out.below.mono HRW.out.1))
            go_wp2_with fail
            rw [← HW9.out]
            go_wp2_with fail
            exact bodyPost_ret (v := .tuple #[.agg #[.int .i64 0, .int .i64 0], .int .i64 170]) (by simp [results, Try.results15, go_sem, z0, z1]) rfl ⟨by rw [HV.out], HE.out⟩
          | true =>
            have HV : Hid (loF f d (L s) = (hh, 0)) := Lib.hid (by rw [HBASE.out, if_neg HN2.out, if_neg HN3.out, if_neg (by rw [HBV.out]; decide), if_neg (by rw [← Ne, HK.out]), HHE.out])
            go_wp2_with fail
            refine HIN.out.mono ?_
            rintro e w' ⟨rfl, rfl⟩
            go_upto_region 11 with fail
            rw [← HW6.out, ← HP2.out]
            obtain ⟨w9, hw9⟩ : ∃ W9, W9 = ((w6.setCell ⟨r, 0, none⟩ (.int .i64 hh.id)).setCell ⟨r, 1, none⟩ (.int .i64 hh.gen)) := ⟨_, rfl⟩
            obtain ⟨hwr9, hk9⟩ := set2 hr6 (.int .i64 hh.id) (.int .i64 hh.gen)
            rw [← hw9] at hwr9 hk9
            have r0 := cell_of hr6 (j := 0) rfl
            have r1 := cell_of hr6 (j := 1) rfl
            have g0 := frozen_of_row w6 r 0 _ _ hr6
            have g1 := frozen_of_row w6 r 1 _ _ hr6
            have z0 := cell_of hk9 (j := 0) rfl
            have z1 := cell_of hk9 (j := 1) rfl
            have HWR := Lib.hid hwr9
            have HW9 := Lib.hid hw9
            clear hw9 hwr9 hk9
            have HE : Hid (Below w.heap.size w w9) := Lib.hid (HB6.out.trans (HWR.out.below.mono HRW.out.1))
            go_wp2_with fail
            rw [← HW9.out]
            go_wp2_with fail
            exact bodyPost_ret (v := .tuple #[.agg #[.int .i64 hh.id, .int .i64 hh.gen], .int .i64 0]) (by simp [results, Try.results15, go_sem, z0, z1]) rfl ⟨by rw [HV.out], HE.out⟩
end Go.Proofs.Ytoaahhgngelnaaa
