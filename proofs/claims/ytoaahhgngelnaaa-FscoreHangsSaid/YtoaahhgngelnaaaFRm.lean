/-
  What Remove and Look return and leave. Condition: a text's length; how much was done.
-/
import Derived.Test.YtoaahhgngelnaaaFLink
namespace Go.Proofs.Ytoaahhgngelnaaa
set_option maxRecDepth 100000
open Go.ChangeShapes Go.WideShapes Go.ChangeAt Go.RowKit Go.Proofs.Sg Go.Proofs.Fz

set_option maxHeartbeats 4000000 in
theorem fremove_any {w : World} {bs : Nat} {Y : Lay} {f : Fst} {T : Nat} (h : FM w bs Y f) (hg : Gd f) (hb : Bd f T) (hT : T ≤ 1000000000) (d : Hd) (hd : HdOk d) (s : ByteArray) (hs : s.size ≤ maxLen) (b : Bool) :
    Calls Try.prog 19 #[pA Y.fp, hV d, .string s, .bool b] w (ChF w bs Y f (rmF f d (L s) b).1 (.int .i64 (rmF f d (L s) b).2)) := by
  obtain ⟨w2, hw2⟩ : ∃ w1, w1 = w.alloc (.cells #[.int .i64 d.id, .int .i64 d.gen] 40) := ⟨_, rfl⟩
  obtain ⟨q, hq⟩ : ∃ g, g = w.heap.size := ⟨_, rfl⟩
  have hb1 : Below w.heap.size w w2 := by rw [hw2]; exact box_below w _
  have hbx : w2.heap[q]? = some (.cells #[.int .i64 d.id, .int .i64 d.gen] 40 (0, 0)) := by rw [hw2, hq]; exact new_block w _
  have q0 := cell_of hbx (j := 0) rfl
  have q1 := cell_of hbx (j := 1) rfl
  have h2 := h.below hg.kind hb1
  have HB2 := Lib.hid hb1
  have HW2 := Lib.hid hw2
  have EQ := Lib.hid hq
  have HM := Lib.hid h
  have HM2 := Lib.hid h2
  have HG := Lib.hid hg
  have HBD := Lib.hid hb
  have HT := Lib.hid hT
  have HNM := Lib.hid (named_any h2 hg hb hT d hd s hs)
  clear h hg hd h2 hb hT hs hw2 hq hb1 hbx
  go_enter Try.func19, Try.ntmps19
  go_upto_region 1 with fail
  rw [← HW2.out, ← EQ.out]
  rcases hq2 : fol f.I d with c | dd
  · have hc := fol_inl hq2
    rw [nmV_inl hq2] at HNM
    have HQ2 := Lib.hid hq2
    clear hq2
    rcases hc with rfl | rfl
    · go_wp2_with fail
      refine HNM.out.mono ?_
      rintro e w4 ⟨rfl, hb4⟩
      obtain ⟨w5, hw5⟩ : ∃ W, W = w4.alloc (.cells #[.pointer none, .pointer none] 84) := ⟨_, rfl⟩
      obtain ⟨p, hp⟩ : ∃ k, k = w4.heap.size := ⟨_, rfl⟩
      have hb5 : Below w2.heap.size w2 w5 := by rw [hw5]; exact hb4.trans ((box_below w4 _).mono hb4.size)
      have hbx : w5.heap[p]? = some (.cells #[.pointer none, .pointer none] 84 (0, 0)) := by rw [hw5, hp]; exact new_block w4 _
      have HB5 : Hid (Below w.heap.size w w5) := Lib.hid (HB2.out.trans (hb5.mono HB2.out.size))
      have HM5 := Lib.hid (HM2.out.below HG.out.kind hb5)
      have p0 := cell_of hbx (j := 0) rfl
      have p1 := cell_of hbx (j := 1) rfl
      have HW5 := Lib.hid hw5
      have HP := Lib.hid hp
      clear hb4 hb5 hw5 hp hbx
      go_upto_region 2 with fail
      rw [← HW5.out, ← HP.out]
      have HV : Hid (rmF f d (L s) b = (f, 175)) := Lib.hid (by unfold rmF; rw [HQ2.out])
      go_wp2_with fail
      go_ret
      rw [HV.out]
      exact ChF.same HM.out HG.out (HB5.out) _
    · go_wp2_with fail
      refine HNM.out.mono ?_
      rintro e w4 ⟨rfl, hb4⟩
      obtain ⟨w5, hw5⟩ : ∃ W, W = w4.alloc (.cells #[.pointer none, .pointer none] 84) := ⟨_, rfl⟩
      obtain ⟨p, hp⟩ : ∃ k, k = w4.heap.size := ⟨_, rfl⟩
      have hb5 : Below w2.heap.size w2 w5 := by rw [hw5]; exact hb4.trans ((box_below w4 _).mono hb4.size)
      have hbx : w5.heap[p]? = some (.cells #[.pointer none, .pointer none] 84 (0, 0)) := by rw [hw5, hp]; exact new_block w4 _
      have HB5 : Hid (Below w.heap.size w w5) := Lib.hid (HB2.out.trans (hb5.mono HB2.out.size))
      have HM5 := Lib.hid (HM2.out.below HG.out.kind hb5)
      have p0 := cell_of hbx (j := 0) rfl
      have p1 := cell_of hbx (j := 1) rfl
      have HW5 := Lib.hid hw5
      have HP := Lib.hid hp
      clear hb4 hb5 hw5 hp hbx
      go_upto_region 2 with fail
      rw [← HW5.out, ← HP.out]
      have HV : Hid (rmF f d (L s) b = (f, 173)) := Lib.hid (by unfold rmF; rw [HQ2.out])
      go_wp2_with fail
      go_ret
      rw [HV.out]
      exact ChF.same HM.out HG.out (HB5.out) _
  · have HDM := Lib.hid (fol_inr hq2)
    have HQ2 := Lib.hid hq2
    cases hv : validN (L s) with
    | false =>
      rw [nmV_bad hq2 hv] at HNM
      have HVN := Lib.hid hv
      clear hq2 hv
      go_wp2_with fail
      refine HNM.out.mono ?_
      rintro e w4 ⟨rfl, hb4⟩
      obtain ⟨w5, hw5⟩ : ∃ W, W = w4.alloc (.cells #[.pointer none, .pointer none] 84) := ⟨_, rfl⟩
      obtain ⟨p, hp⟩ : ∃ k, k = w4.heap.size := ⟨_, rfl⟩
      have hb5 : Below w2.heap.size w2 w5 := by rw [hw5]; exact hb4.trans ((box_below w4 _).mono hb4.size)
      have hbx : w5.heap[p]? = some (.cells #[.pointer none, .pointer none] 84 (0, 0)) := by rw [hw5, hp]; exact new_block w4 _
      have HB5 : Hid (Below w.heap.size w w5) := Lib.hid (HB2.out.trans (hb5.mono HB2.out.size))
      have HM5 := Lib.hid (HM2.out.below HG.out.kind hb5)
      have p0 := cell_of hbx (j := 0) rfl
      have p1 := cell_of hbx (j := 1) rfl
      have HW5 := Lib.hid hw5
      have HP := Lib.hid hp
      clear hb4 hb5 hw5 hp hbx
      go_upto_region 2 with fail
      rw [← HW5.out, ← HP.out]
      have HV : Hid (rmF f d (L s) b = (f, 176)) := Lib.hid (by unfold rmF; rw [HQ2.out]; dsimp only; rw [if_pos HVN.out])
      go_wp2_with fail
      go_ret
      rw [HV.out]
      exact ChF.same HM.out HG.out (HB5.out) _
    | true =>
      rw [nmV_good hq2 hv] at HNM
      have HVN := Lib.hid hv
      clear hq2 hv
      rcases hen : nget f.I (entry f.N dd.id (L s) : Int) with _ | y
      · rw [iP_none hen] at HNM
        have HEN := Lib.hid hen
        have e3 := pnil
        clear hen
        go_wp2_with fail
        refine HNM.out.mono ?_
        rintro e w4 ⟨rfl, hb4⟩
        obtain ⟨w5, hw5⟩ : ∃ W, W = w4.alloc (.cells #[pA (Y.ip dd.id), pA (Y.hp dd.id)] 84) := ⟨_, rfl⟩
        obtain ⟨p, hp⟩ : ∃ k, k = w4.heap.size := ⟨_, rfl⟩
        have hb5 : Below w2.heap.size w2 w5 := by rw [hw5]; exact hb4.trans ((box_below w4 _).mono hb4.size)
        have hbx : w5.heap[p]? = some (.cells #[pA (Y.ip dd.id), pA (Y.hp dd.id)] 84 (0, 0)) := by rw [hw5, hp]; exact new_block w4 _
        have HB5 : Hid (Below w.heap.size w w5) := Lib.hid (HB2.out.trans (hb5.mono HB2.out.size))
        have HM5 := Lib.hid (HM2.out.below HG.out.kind hb5)
        have p0 := cell_of hbx (j := 0) rfl
        have p1 := cell_of hbx (j := 1) rfl
        have HW5 := Lib.hid hw5
        have HP := Lib.hid hp
        clear hb4 hb5 hw5 hp hbx
        go_upto_region 2 with fail
        rw [← HW5.out, ← HP.out]
        have HV : Hid (rmF f d (L s) b = (f, 170)) := Lib.hid (by unfold rmF; rw [HQ2.out]; dsimp only; rw [if_neg (by rw [HVN.out]; decide), HEN.out])
        go_wp2_with fail
        go_ret
        rw [HV.out]
        exact ChF.same HM.out HG.out (HB5.out) _
      · rw [iP_some hen] at HNM
        have HEN := Lib.hid hen
        have HY := Lib.hid (HG.out.at_entry hen)
        have e3 := pnn (Y.ip y.id)
        have HBASE : Hid (rmF f d (L s) b = if mayC f y b ≠ 0 then (f, mayC f y b) else (drp f dd.id (L s) y, 0)) := Lib.hid (by unfold rmF; rw [HQ2.out]; dsimp only; rw [if_neg (by rw [HVN.out]; decide), HEN.out])
        clear hen
        go_wp2_with fail
        refine HNM.out.mono ?_
        rintro e w4 ⟨rfl, hb4⟩
        obtain ⟨w5, hw5⟩ : ∃ W, W = w4.alloc (.cells #[pA (Y.ip dd.id), pA (Y.hp dd.id)] 84) := ⟨_, rfl⟩
        obtain ⟨p, hp⟩ : ∃ k, k = w4.heap.size := ⟨_, rfl⟩
        have hb5 : Below w2.heap.size w2 w5 := by rw [hw5]; exact hb4.trans ((box_below w4 _).mono hb4.size)
        have hbx : w5.heap[p]? = some (.cells #[pA (Y.ip dd.id), pA (Y.hp dd.id)] 84 (0, 0)) := by rw [hw5, hp]; exact new_block w4 _
        have HB5 : Hid (Below w.heap.size w w5) := Lib.hid (HB2.out.trans (hb5.mono HB2.out.size))
        have HM5 := Lib.hid (HM2.out.below HG.out.kind hb5)
        have p0 := cell_of hbx (j := 0) rfl
        have p1 := cell_of hbx (j := 1) rfl
        have HW5 := Lib.hid hw5
        have HP := Lib.hid hp
        clear hb4 hb5 hw5 hp hbx
        go_upto_region 2 with fail
        rw [← HW5.out, ← HP.out]
        have HMG := Lib.hid (mayGo_any HM5.out HG.out HY.out.1 b)
        obtain ⟨c, hc⟩ : ∃ c, mayC f y b = c := ⟨_, rfl⟩
        rw [hc] at HMG HBASE
        have HC := Lib.hid hc
        clear hc
        go_wp2_with fail
        refine HMG.out.mono ?_
        rintro e w' ⟨rfl, rfl⟩
        by_cases hc0 : c = 0
        · subst hc0
          have HV : Hid (rmF f d (L s) b = (drp f dd.id (L s) y, 0)) := Lib.hid (by rw [HBASE.out, if_neg (by decide)])
          obtain ⟨n, hn, n1, n2, n3⟩ := HY.out.2.2
          have HRM := Lib.hid (remove_any HM5.out HG.out HBD.out HT.out HDM.out.1 HDM.out.2.1 HY.out.1 hn n1 n3 (fun hk => by
            have := HC.out
            unfold mayC at this
            by_cases h0 : 0 < many f.N y.id
            · cases b <;> simp [hk, h0] at this
            · omega) s n2.symm (by have := valid_size HVN.out; unfold maxLen; omega))
          clear hn n1 n2 n3
          go_wp2_with fail
          refine HRM.out.mono ?_
          rintro e w6 ⟨rfl, g1, g2, g3⟩
          have HE : Hid (ChF w bs Y f (drp f dd.id (L s) y) (.int .i64 0) (.returned (.int .i64 0)) w6) := Lib.hid ⟨Y, rfl, g1, (FK.of_below HB5.out).trans Fresh.refl g2, Fresh.trans Fresh.refl HB5.out.size g3, rfl⟩
          clear g1 g2 g3
          go_wp2_with fail
          go_ret
          rw [HV.out]
          exact HE.out
        · have HV : Hid (rmF f d (L s) b = (f, c)) := Lib.hid (by rw [HBASE.out, if_pos hc0])
          go_wp2_with fail
          go_ret
          rw [HV.out]
          exact ChF.same HM.out HG.out HB5.out _
end Go.Proofs.Ytoaahhgngelnaaa
