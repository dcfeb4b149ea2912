/-
  What Make returns and leaves. Condition: a text's length; how much was done.
-/
import Derived.Test.YtoaahhgngelnaaaFLook
namespace Go.Proofs.Ytoaahhgngelnaaa
set_option maxRecDepth 100000
open Go.ChangeShapes Go.WideShapes Go.ChangeAt Go.RowKit Go.Proofs.Sg Go.Proofs.Fz

theorem three_box (w : World) (o1 o2 o3 : Obj) : ∃ w2, w2 = ((w.alloc o1).alloc o2).alloc o3 ∧ Below w.heap.size w w2 ∧ w2.heap[w.heap.size]? = some o1 ∧ w2.heap[w.heap.size + 1]? = some o2 ∧ w2.heap[w.heap.size + 1 + 1]? = some o3 ∧ w2.heap.size = w.heap.size + 3 := by
  obtain ⟨w1, e1, b1, h1, h2, hs⟩ := two_box w o1 o2
  refine ⟨_, rfl, ?_⟩
  rw [← e1]
  have h3 := new_block w1 o3
  rw [hs] at h3
  replace h3 : (w1.alloc o3).heap[w.heap.size + 1 + 1]? = some o3 := h3
  exact ⟨b1.alloc b1.size _, blk_alloc h1 _, blk_alloc h2 _, h3, by simp [hs]⟩
theorem enS_make {f : Fst} {x : Nod} {s : Txt} {m : Mk} (hm : badM m = false) : enS (adS f x.id m) x (adN f x.id m) s = mkS f x s m := by
  obtain ⟨hk, -⟩ := badM_of hm
  have hkn : (adN f x.id m).kind = m.kind.toNat := rfl
  have e0 : ∀ (I : List Nod) (a b : Nod), a.id = b.id → setI (setI I a) b = setI I b := fun I a b e => by
    unfold setI Fz.gone
    rw [List.filter_append, List.filter_filter]
    congr 1
    rw [List.filter_cons_of_neg (by simp [e]), List.filter_nil, List.append_nil]
    congr 1
    funext y
    by_cases h : y.id = b.id
    · simp [h]
    · simp [h, e]
  unfold enS adS mkS
  rcases hk with hk | hk | hk
  · have e1 : adN f x.id m = mkN f x m := by unfold adN mkN; rw [hk]; rfl
    rw [if_neg (by rw [hkn, hk]; decide), e1]; rfl
  · have e1 : ({ adN f x.id m with par := x.id } : Nod) = mkN f x m := by unfold adN mkN; rfl
    rw [if_pos (by rw [hkn, hk]; rfl), e1]; dsimp only; rw [e0 f.I (adN f x.id m) (mkN f x m) rfl]; rfl
  · have e1 : adN f x.id m = mkN f x m := by unfold adN mkN; rw [hk]; rfl
    rw [if_neg (by rw [hkn, hk]; decide), e1]; rfl
theorem FK.fresh {Y : Lay} {I : List Nod} {w a b : World} {r : Nat} (h : FK Y I w a) (hg : a.grownBy b (some r)) (hr : w.heap.size ≤ r) : FK Y I w b :=
  ⟨hg.os.trans h.os, hg.tape.trans h.tape, hg.output.trans h.output, Nat.le_trans h.size hg.size, fun k hk hn => (hg.block k (Nat.lt_of_lt_of_le hk h.size) (by simp; omega)).trans (h.block k hk hn)⟩
set_option maxHeartbeats 8000000 in
theorem fmake_any {w : World} {bs : Nat} {Y : Lay} {f : Fst} {T : Nat} (h : FM w bs Y f) (hbs : bs ≤ w.heap.size) (hg : Gd f) (hb : Bd f T) (hT : T ≤ 1000000000) (d : Hd) (hd : HdOk d) (s : ByteArray) (hs : s.size ≤ maxLen) (m : Mk) (tg : ByteArray) (htg : L tg = m.tg) :
    Calls Try.prog 16 #[pA Y.fp, hV d, .string s, .agg #[.int .i64 m.kind, .int .i64 m.mode, .int .i64 m.time, .string tg]] w (ChF w bs Y f (mkF f d (L s) m).1 (.tuple #[hV (mkF f d (L s) m).2.1, .int .i64 (mkF f d (L s) m).2.2])) := by
  obtain ⟨w2, hw2, hb2, hq, hm, hr, hs2⟩ := three_box w (.cells #[.int .i64 d.id, .int .i64 d.gen] 40) (.cells #[.int .i64 m.kind, .int .i64 m.mode, .int .i64 m.time, .string tg] 52) (.cells #[.int .i64 0, .int .i64 0] 40)
  obtain ⟨q, eq⟩ : ∃ q, q = w.heap.size := ⟨_, rfl⟩
  obtain ⟨mq, em⟩ : ∃ r, r = w.heap.size + 1 := ⟨_, rfl⟩
  obtain ⟨r, er⟩ : ∃ r, r = w.heap.size + 1 + 1 := ⟨_, rfl⟩
  rw [← eq] at hq
  rw [← em] at hm
  rw [← er] at hr
  have HW2 := Lib.hid hw2
  have EQ := Lib.hid eq
  have EM := Lib.hid em
  have ER := Lib.hid er
  have HB2 := Lib.hid hb2
  have HR := Lib.hid hr
  have HMB := Lib.hid hm
  have HRW : Hid (w.heap.size ≤ r ∧ r < w2.heap.size ∧ q < w2.heap.size) := Lib.hid (by omega)
  have h2 := h.below hg.kind hb2
  have q0 := cell_of hq (j := 0) rfl
  have q1 := cell_of hq (j := 1) rfl
  have HM := Lib.hid h
  have HM2 := Lib.hid h2
  have HBS := Lib.hid hbs
  have HG := Lib.hid hg
  have HBD := Lib.hid hb
  have HT := Lib.hid hT
  have HTG := Lib.hid htg
  have HNM := Lib.hid (named_any h2 hg hb hT d hd s hs)
  clear hw2 eq em er hb2 hq hm hr hs2 h hbs hg hb hT hd hs htg h2
  go_enter Try.func16, Try.ntmps16
  go_upto_region 1 with fail
  rw [← HW2.out, ← ER.out, ← EM.out, ← EQ.out]
  rcases hq2 : fol f.I d with c | dd
  · have hc := fol_inl hq2
    rw [nmV_inl hq2] at HNM
    have HQ2 := Lib.hid hq2
    clear hq2
    rcases hc with rfl | rfl
    · have HV : Hid (mkF f d (L s) m = (f, hd0, 175)) := Lib.hid (by unfold mkF; rw [HQ2.out])
      go_wp2_with fail
      refine HNM.out.mono ?_
      rintro e w4 ⟨rfl, hb4⟩
      obtain ⟨w5, hw5⟩ : ∃ W, W = w4.alloc (.cells #[.pointer none, .pointer none] 84) := ⟨_, rfl⟩
      obtain ⟨p, hp⟩ : ∃ k, k = w4.heap.size := ⟨_, rfl⟩
      have hb5 : Below w2.heap.size w2 w5 := by rw [hw5]; exact hb4.trans ((box_below w4 _).mono hb4.size)
      have hbx : w5.heap[p]? = some (.cells #[.pointer none, .pointer none] 84 (0, 0)) := by rw [hw5, hp]; exact new_block w4 _
      have HB5 : Hid (Below w.heap.size w w5) := Lib.hid (HB2.out.trans (hb5.mono HB2.out.size))
      have HM5 := Lib.hid (HM2.out.below HG.out.kind hb5)
      have p0 := cell_of hbx (j := 0) rfl
      have p1 := cell_of hbx (j := 1) rfl
      have HW5 := Lib.hid hw5
      have HP := Lib.hid hp
      have hr5 := blk_below HR.out hb5
      have hm5 := blk_below HMB.out hb5
      have HPW : Hid (w.heap.size ≤ p) := Lib.hid (by rw [hp]; exact Nat.le_trans HB2.out.size hb4.size)
      clear hb4 hb5 hw5 hp hbx
      go_upto_region 2 with fail
      rw [← HW5.out, ← HP.out]
      obtain ⟨w9, hw9⟩ : ∃ W9, W9 = ((w5.setCell ⟨r, 0, none⟩ (.int .i64 0)).setCell ⟨r, 1, none⟩ (.int .i64 0)) := ⟨_, rfl⟩
      obtain ⟨hwr9, hk9⟩ := set2 hr5 (.int .i64 0) (.int .i64 0)
      rw [← hw9] at hwr9 hk9
      have r0 := cell_of hr5 (j := 0) rfl
      have r1 := cell_of hr5 (j := 1) rfl
      have g0 := frozen_of_row w5 r 0 _ _ hr5
      have g1 := frozen_of_row w5 r 1 _ _ hr5
      have z0 := cell_of hk9 (j := 0) rfl
      have z1 := cell_of hk9 (j := 1) rfl
      have HWR := Lib.hid hwr9
      have HW9 := Lib.hid hw9
      clear hw9 hwr9 hk9
      have HE : Hid (Below w.heap.size w w9) := Lib.hid (HB5.out.trans (HWR.out.below.mono HRW.out.1))
      go_wp2_with fail
      rw [← HW9.out]
      go_wp2_with fail
      rw [HV.out]
      exact bodyPost_ret (v := .tuple #[.agg #[.int .i64 0, .int .i64 0], .int .i64 175]) (by simp [results, Try.results16, go_sem, z0, z1]) rfl (ChF.same HM.out HG.out HE.out _)
    · have HV : Hid (mkF f d (L s) m = (f, hd0, 173)) := Lib.hid (by unfold mkF; rw [HQ2.out])
      go_wp2_with fail
      refine HNM.out.mono ?_
      rintro e w4 ⟨rfl, hb4⟩
      obtain ⟨w5, hw5⟩ : ∃ W, W = w4.alloc (.cells #[.pointer none, .pointer none] 84) := ⟨_, rfl⟩
      obtain ⟨p, hp⟩ : ∃ k, k = w4.heap.size := ⟨_, rfl⟩
      have hb5 : Below w2.heap.size w2 w5 := by rw [hw5]; exact hb4.trans ((box_below w4 _).mono hb4.size)
      have hbx : w5.heap[p]? = some (.cells #[.pointer none, .pointer none] 84 (0, 0)) := by rw [hw5, hp]; exact new_block w4 _
      have HB5 : Hid (Below w.heap.size w w5) := Lib.hid (HB2.out.trans (hb5.mono HB2.out.size))
      have HM5 := Lib.hid (HM2.out.below HG.out.kind hb5)
      have p0 := cell_of hbx (j := 0) rfl
      have p1 := cell_of hbx (j := 1) rfl
      have HW5 := Lib.hid hw5
      have HP := Lib.hid hp
      have hr5 := blk_below HR.out hb5
      have hm5 := blk_below HMB.out hb5
      have HPW : Hid (w.heap.size ≤ p) := Lib.hid (by rw [hp]; exact Nat.le_trans HB2.out.size hb4.size)
      clear hb4 hb5 hw5 hp hbx
      go_upto_region 2 with fail
      rw [← HW5.out, ← HP.out]
      obtain ⟨w9, hw9⟩ : ∃ W9, W9 = ((w5.setCell ⟨r, 0, none⟩ (.int .i64 0)).setCell ⟨r, 1, none⟩ (.int .i64 0)) := ⟨_, rfl⟩
      obtain ⟨hwr9, hk9⟩ := set2 hr5 (.int .i64 0) (.int .i64 0)
      rw [← hw9] at hwr9 hk9
      have r0 := cell_of hr5 (j := 0) rfl
      have r1 := cell_of hr5 (j := 1) rfl
      have g0 := frozen_of_row w5 r 0 _ _ hr5
      have g1 := frozen_of_row w5 r 1 _ _ hr5
      have z0 := cell_of hk9 (j := 0) rfl
      have z1 := cell_of hk9 (j := 1) rfl
      have HWR := Lib.hid hwr9
      have HW9 := Lib.hid hw9
      clear hw9 hwr9 hk9
      have HE : Hid (Below w.heap.size w w9) := Lib.hid (HB5.out.trans (HWR.out.below.mono HRW.out.1))
      go_wp2_with fail
      rw [← HW9.out]
      go_wp2_with fail
      rw [HV.out]
      exact bodyPost_ret (v := .tuple #[.agg #[.int .i64 0, .int .i64 0], .int .i64 173]) (by simp [results, Try.results16, go_sem, z0, z1]) rfl (ChF.same HM.out HG.out HE.out _)
  · have HDM := Lib.hid (fol_inr hq2)
    have HQ2 := Lib.hid hq2
    cases hv : validN (L s) with
    | false =>
      rw [nmV_bad hq2 hv] at HNM
      have HV : Hid (mkF f d (L s) m = (f, hd0, 176)) := Lib.hid (by unfold mkF; rw [HQ2.out]; dsimp only; rw [if_pos hv])
      clear hq2 hv
      go_wp2_with fail
      refine HNM.out.mono ?_
      rintro e w4 ⟨rfl, hb4⟩
      obtain ⟨w5, hw5⟩ : ∃ W, W = w4.alloc (.cells #[.pointer none, .pointer none] 84) := ⟨_, rfl⟩
      obtain ⟨p, hp⟩ : ∃ k, k = w4.heap.size := ⟨_, rfl⟩
      have hb5 : Below w2.heap.size w2 w5 := by rw [hw5]; exact hb4.trans ((box_below w4 _).mono hb4.size)
      have hbx : w5.heap[p]? = some (.cells #[.pointer none, .pointer none] 84 (0, 0)) := by rw [hw5, hp]; exact new_block w4 _
      have HB5 : Hid (Below w.heap.size w w5) := Lib.hid (HB2.out.trans (hb5.mono HB2.out.size))
      have HM5 := Lib.hid (HM2.out.below HG.out.kind hb5)
      have p0 := cell_of hbx (j := 0) rfl
      have p1 := cell_of hbx (j := 1) rfl
      have HW5 := Lib.hid hw5
      have HP := Lib.hid hp
      have hr5 := blk_below HR.out hb5
      have hm5 := blk_below HMB.out hb5
      have HPW : Hid (w.heap.size ≤ p) := Lib.hid (by rw [hp]; exact Nat.le_trans HB2.out.size hb4.size)
      clear hb4 hb5 hw5 hp hbx
      go_upto_region 2 with fail
      rw [← HW5.out, ← HP.out]
      obtain ⟨w9, hw9⟩ : ∃ W9, W9 = ((w5.setCell ⟨r, 0, none⟩ (.int .i64 0)).setCell ⟨r, 1, none⟩ (.int .i64 0)) := ⟨_, rfl⟩
      obtain ⟨hwr9, hk9⟩ := set2 hr5 (.int .i64 0) (.int .i64 0)
      rw [← hw9] at hwr9 hk9
      have r0 := cell_of hr5 (j := 0) rfl
      have r1 := cell_of hr5 (j := 1) rfl
      have g0 := frozen_of_row w5 r 0 _ _ hr5
      have g1 := frozen_of_row w5 r 1 _ _ hr5
      have z0 := cell_of hk9 (j := 0) rfl
      have z1 := cell_of hk9 (j := 1) rfl
      have HWR := Lib.hid hwr9
      have HW9 := Lib.hid hw9
      clear hw9 hwr9 hk9
      have HE : Hid (Below w.heap.size w w9) := Lib.hid (HB5.out.trans (HWR.out.below.mono HRW.out.1))
      go_wp2_with fail
      rw [← HW9.out]
      go_wp2_with fail
      rw [HV.out]
      exact bodyPost_ret (v := .tuple #[.agg #[.int .i64 0, .int .i64 0], .int .i64 176]) (by simp [results, Try.results16, go_sem, z0, z1]) rfl (ChF.same HM.out HG.out HE.out _)
    | true =>
      rw [nmV_good hq2 hv] at HNM
      have HVN := Lib.hid hv
      have HBASE : Hid (mkF f d (L s) m = if badM m = true then (f, hd0, 1) else if entry f.N dd.id (L s) ≠ 0 then (f, hd0, 171) else if m.kind = 2 ∧ 20 ≤ links f.I f.N dd then (f, hd0, 179) else if 200 ≤ f.I.length then (f, hd0, 177) else (mkS f dd (L s) m, ⟨(mkN f dd m).id, (mkN f dd m).gen⟩, 0)) := Lib.hid (by unfold mkF; rw [HQ2.out]; dsimp only; rw [if_neg (by rw [hv]; decide)])
      clear hq2 hv
      go_wp2_with fail
      refine HNM.out.mono ?_
      rintro e w4 ⟨rfl, hb4⟩
      obtain ⟨w5, hw5⟩ : ∃ W, W = w4.alloc (.cells #[pA (Y.ip dd.id), pA (Y.hp dd.id)] 84) := ⟨_, rfl⟩
      obtain ⟨p, hp⟩ : ∃ k, k = w4.heap.size := ⟨_, rfl⟩
      have hb5 : Below w2.heap.size w2 w5 := by rw [hw5]; exact hb4.trans ((box_below w4 _).mono hb4.size)
      have hbx : w5.heap[p]? = some (.cells #[pA (Y.ip dd.id), pA (Y.hp dd.id)] 84 (0, 0)) := by rw [hw5, hp]; exact new_block w4 _
      have HB5 : Hid (Below w.heap.size w w5) := Lib.hid (HB2.out.trans (hb5.mono HB2.out.size))
      have HM5 := Lib.hid (HM2.out.below HG.out.kind hb5)
      have p0 := cell_of hbx (j := 0) rfl
      have p1 := cell_of hbx (j := 1) rfl
      have HW5 := Lib.hid hw5
      have HP := Lib.hid hp
      have hr5 := blk_below HR.out hb5
      have hm5 := blk_below HMB.out hb5
      have HPW : Hid (w.heap.size ≤ p) := Lib.hid (by rw [hp]; exact Nat.le_trans HB2.out.size hb4.size)
      clear hb4 hb5 hw5 hp hbx
      go_upto_region 2 with fail
      rw [← HW5.out, ← HP.out]
      have m0 := cell_of hm5 (j := 0) rfl
      have m1 := cell_of hm5 (j := 1) rfl
      have m2 := cell_of hm5 (j := 2) rfl
      have m3 := cell_of hm5 (j := 3) rfl
      have HVA := Lib.hid (valid_any m tg HTG.out w5)
      obtain ⟨b, hb⟩ : ∃ b, badM m = b := ⟨_, rfl⟩
      rw [hb] at HVA
      have HBM := Lib.hid hb
      clear hb
      go_wp2_with fail
      refine HVA.out.mono ?_
      rintro e w6 ⟨rfl, hb6⟩
      have hr6 := blk_below hr5 hb6
      have HM6 := Lib.hid (HM5.out.below HG.out.kind hb6)
      have HB6 : Hid (Below w.heap.size w w6) := Lib.hid (HB5.out.trans (hb6.mono HB5.out.size))
      have n0 := (hb6.cell (p := ⟨p, 0, none⟩) (cell_lt p0)).trans p0
      have n1 := (hb6.cell (p := ⟨p, 1, none⟩) (cell_lt p1)).trans p1
      have hm6 := blk_below hm5 hb6
      have o0 := cell_of hm6 (j := 0) rfl
      have o1 := cell_of hm6 (j := 1) rfl
      have o2 := cell_of hm6 (j := 2) rfl
      have o3 := cell_of hm6 (j := 3) rfl
      have HR6 := Lib.hid hr6
      clear hb6 p0 p1 m0 m1 m2 m3 hm5 hm6 hr5
      cases b with
      | true =>
        have HV : Hid (mkF f d (L s) m = (f, hd0, 1)) := Lib.hid (by rw [HBASE.out, if_pos HBM.out])
        obtain ⟨w9, hw9⟩ : ∃ W9, W9 = ((w6.setCell ⟨r, 0, none⟩ (.int .i64 0)).setCell ⟨r, 1, none⟩ (.int .i64 0)) := ⟨_, rfl⟩
        obtain ⟨hwr9, hk9⟩ := set2 hr6 (.int .i64 0) (.int .i64 0)
        rw [← hw9] at hwr9 hk9
        have r0 := cell_of hr6 (j := 0) rfl
        have r1 := cell_of hr6 (j := 1) rfl
        have g0 := frozen_of_row w6 r 0 _ _ hr6
        have g1 := frozen_of_row w6 r 1 _ _ hr6
        have z0 := cell_of hk9 (j := 0) rfl
        have z1 := cell_of hk9 (j := 1) rfl
        have HWR := Lib.hid hwr9
        have HW9 := Lib.hid hw9
        clear hw9 hwr9 hk9
        have HE : Hid (Below w.heap.size w w9) := Lib.hid (HB6.out.trans (HWR.out.below.mono HRW.out.1))
        go_wp2_with fail
        rw [← HW9.out]
        go_wp2_with fail
        rw [HV.out]
        exact bodyPost_ret (v := .tuple #[.agg #[.int .i64 0, .int .i64 0], .int .i64 1]) (by simp [results, Try.results16, go_sem, z0, z1]) rfl (ChF.same HM.out HG.out HE.out _)
      | false =>
        have HNB : Hid (¬ badM m = true) := Lib.hid (by rw [HBM.out]; decide)
        rcases hen : nget f.I (entry f.N dd.id (L s) : Int) with _ | z
        · rw [iP_none hen]
          have HEN := Lib.hid (HG.out.no_entry hen)
          have e3 := pnil2
          clear hen
          have hc3 := (HM6.out.nod dd HDM.out.1).cells.2.2.2.1
          have hlen := fun ty => HM6.out.map.size ty
          have c1 := HM6.out.cells.2
          obtain ⟨l, hl⟩ : ∃ l, links f.I f.N dd = l := ⟨_, rfl⟩
          rw [hl] at hc3
          have HL := Lib.hid hl
          obtain ⟨len, hlen2⟩ : ∃ l, f.I.length = l := ⟨_, rfl⟩
          rw [hlen2] at hlen
          have HLN := Lib.hid hlen2
          clear hl hlen2
          obtain ⟨kd, hkd⟩ : ∃ k, m.kind = k := ⟨_, rfl⟩
          rw [hkd] at o0
          have HKD := Lib.hid hkd
          clear hkd
          have HREST : Hid (∀ W, Below w6.heap.size w6 W → True) := Lib.hid (fun _ _ => trivial)
          clear HREST
          obtain ⟨tk, htk⟩ : ∃ b, decide (kd = 2) = b := ⟨_, rfl⟩
          obtain ⟨tl, htl⟩ : ∃ b, decide ((20 : Int) ≤ (l : Int)) = b := ⟨_, rfl⟩
          have htl2 : decide (20 ≤ l) = tl := by rw [← htl, Bool.eq_iff_iff, decide_eq_true_eq, decide_eq_true_eq]; omega
          obtain ⟨tn, htn⟩ : ∃ b, decide ((200 : Int) ≤ (len : Int)) = b := ⟨_, rfl⟩
          have htn2 : decide (200 ≤ len) = tn := by rw [← htn, Bool.eq_iff_iff, decide_eq_true_eq, decide_eq_true_eq]; omega
          have HTK : Hid ((m.kind = 2) = (tk = true)) := Lib.hid (by rw [HKD.out, ← htk]; simp)
          have HTL : Hid ((20 ≤ links f.I f.N dd) = (tl = true)) := Lib.hid (by rw [HL.out, ← htl2]; simp)
          have HTN : Hid ((200 ≤ f.I.length) = (tn = true)) := Lib.hid (by rw [HLN.out, ← htn2]; simp)
          have HB1 : Hid (mkF f d (L s) m = if m.kind = 2 ∧ 20 ≤ links f.I f.N dd then (f, hd0, 179) else if 200 ≤ f.I.length then (f, hd0, 177) else (mkS f dd (L s) m, ⟨(mkN f dd m).id, (mkN f dd m).gen⟩, 0)) := Lib.hid (by rw [HBASE.out, if_neg HNB.out, if_neg (by rw [HEN.out]; simp)])
          cases tk with
          | false =>
            have hkp : ¬ kd = 2 := by simpa using htk
            have HB2X : Hid (mkF f d (L s) m = if 200 ≤ f.I.length then (f, hd0, 177) else (mkS f dd (L s) m, ⟨(mkN f dd m).id, (mkN f dd m).gen⟩, 0)) := Lib.hid (by rw [HB1.out, if_neg (by rw [HTK.out]; simp)])
            cases tn with
            | true =>
              have HV : Hid (mkF f d (L s) m = (f, hd0, 177)) := Lib.hid (by rw [HB2X.out, if_pos (by rw [HTN.out])])
              have hr6 := HR6.out
              obtain ⟨w9, hw9⟩ : ∃ W9, W9 = ((w6.setCell ⟨r, 0, none⟩ (.int .i64 0)).setCell ⟨r, 1, none⟩ (.int .i64 0)) := ⟨_, rfl⟩
              obtain ⟨hwr9, hk9⟩ := set2 hr6 (.int .i64 0) (.int .i64 0)
              rw [← hw9] at hwr9 hk9
              have r0 := cell_of hr6 (j := 0) rfl
              have r1 := cell_of hr6 (j := 1) rfl
              have g0 := frozen_of_row w6 r 0 _ _ hr6
              have g1 := frozen_of_row w6 r 1 _ _ hr6
              have z0 := cell_of hk9 (j := 0) rfl
              have z1 := cell_of hk9 (j := 1) rfl
              have HWR := Lib.hid hwr9
              have HW9 := Lib.hid hw9
              clear hw9 hwr9 hk9
              have HE : Hid (Below w.heap.size w w9) := Lib.hid (HB6.out.trans (HWR.out.below.mono HRW.out.1))
              go_wp2_with fail
              rw [← HW9.out]
              go_wp2_with fail
              rw [HV.out]
              exact bodyPost_ret (v := .tuple #[.agg #[.int .i64 0, .int .i64 0], .int .i64 177]) (by simp [results, Try.results16, go_sem, z0, z1]) rfl (ChF.same HM.out HG.out HE.out _)
            | false =>
              have hc200 : f.I.length < 200 := by
                have := HTN.out
                simp at this
                exact this
              have HV : Hid (mkF f d (L s) m = (mkS f dd (L s) m, ⟨(mkN f dd m).id, (mkN f dd m).gen⟩, 0)) := Lib.hid (by rw [HB2X.out, if_neg (by omega)])
              have hfs := free_spec hc200
              have HAD := Lib.hid (add_any HM6.out (Nat.le_trans HBS.out HB6.out.size) (Nw.of_good HG.out hfs.1) HBD.out.gns HT.out hc200 dd.id m HBM.out tg HTG.out)
              rw [HKD.out] at HAD
              have HI0 : Hid (nget f.I ((adN f dd.id m).id : Int) = none ∧ 1 ≤ (adN f dd.id m).id) := Lib.hid ⟨hfs.1, hfs.2.1⟩
              clear hc200 hfs
              go_wp2_with fail
              refine HAD.out.mono ?_
              rintro e w7 ⟨ip1, hp1, mp1, rfl, g1, g2, g3⟩
              obtain ⟨n, hn⟩ : ∃ n, adN f dd.id m = n := ⟨_, rfl⟩
              have hI7 : (adS f dd.id m).I = f.I ++ [n] := by unfold adS; rw [← hn]; exact len_setI_new HI0.out.1
              have hne : dd.id ≠ n.id := by rw [← hn]; exact fun e => nget_none.1 HI0.out.1 dd HDM.out.1 (by omega)
              have hdin : dd ∈ (adS f dd.id m).I := by rw [hI7]; exact List.mem_append_left _ HDM.out.1
              have hnin : n ∈ (adS f dd.id m).I := by rw [hI7]; simp
              have hnb : n.kind = 1 ∨ n.kind = 2 ∨ n.kind = 3 := by
                have h3 := (badM_of HBM.out).1
                have h4 : n.kind = m.kind.toNat := by rw [← hn]; rfl
                omega
              have hkd7 : ∀ x ∈ (adS f dd.id m).I, x.kind = 1 ∨ x.kind = 2 ∨ x.kind = 3 := fun x hx => by
                rw [hI7] at hx
                rcases List.mem_append.1 hx with hx | hx
                · exact HG.out.kind x hx
                · rw [List.mem_singleton.1 hx]; exact hnb
              rw [hn] at g1 g3
              have hiu : (Y.up n.id ip1 hp1 mp1).ip n.id = ip1 := upd_same _ _ _
              have hid : (Y.up n.id ip1 hp1 mp1).ip dd.id = Y.ip dd.id := upd_ne hne
              have hhd : (Y.up n.id ip1 hp1 mp1).hp dd.id = Y.hp dd.id := upd_ne hne
              have HEN7 := enter_any g1 (by show ((setI f.I (adN f dd.id m)).map _).Nodup; exact nodup_setI HG.out.ids _) hkd7 hdin HDM.out.2.1 hnin (by rw [← hn]; have := HI0.out.2; omega) (by have h5 := HBD.out.nms; have h6 := HT.out; show f.N.length ≤ _; omega) s (HG.out.ent HEN.out) (by have := valid_size HVN.out; omega)
              rw [hid, hhd, hiu] at HEN7
              have hst : enS (adS f dd.id m) dd n (L s) = mkS f dd (L s) m := by rw [← hn]; exact enS_make HBM.out
              rw [hst] at HEN7
              have HE7 := Lib.hid HEN7
              have HFL : Hid (∀ k, foot Y f.I k → k < w.heap.size) := Lib.hid (HM.out.foot_lt HG.out.kind)
              have hnf : ∀ k, w.heap.size ≤ k → ¬ foot Y f.I k := fun k hk hf => by have := HFL.out k hf; omega
              have hp6 : p < w6.heap.size := cell_lt n0
              have hr6 := HR6.out
              have hpb : ∀ j v, w6.cell? ⟨p, j, none⟩ = some v → w7.cell? ⟨p, j, none⟩ = some v := fun j v hv => by
                have h5 := g2.block p hp6 (hnf p HPW.out)
                unfold World.cell? at hv ⊢
                rw [h5]; exact hv
              have k0 := hpb 0 _ n0
              have k1 := hpb 1 _ n1
              have hr7 : w7.heap[r]? = _ := (g2.block r (blk_lt hr6) (hnf r HRW.out.1)).trans hr6
              have HR7 := Lib.hid hr7
              have HK7 : Hid (FK Y f.I w w7) := Lib.hid ((FK.of_below HB6.out).trans Fresh.refl g2)
              have HFR7 : Hid (Fresh Y f.I w (Y.up n.id ip1 hp1 mp1) (adS f dd.id m).I) := Lib.hid (Fresh.trans Fresh.refl HB6.out.size g3)
              have HRF : Hid (¬ foot (Y.up n.id ip1 hp1 mp1) (adS f dd.id m).I r) := Lib.hid (fun hf => by
                rcases g3 r hf with h5 | h5
                · exact hnf r HRW.out.1 h5
                · have := blk_lt hr6; omega)
              have HN : Hid (adN f dd.id m = n) := Lib.hid hn
              clear g1 g2 g3 hI7 hne hdin hnin hnb hkd7 hiu hid hhd HEN7 hst hnf hp6 hr6 hr7 hpb hn n0 n1 o0 o1 o2 o3
              go_wp2_with fail
              refine HE7.out.mono ?_
              rintro e w8 ⟨rfl, g4, g5, g6⟩
              have hnid : (mkN f dd m).id = n.id := by rw [← HN.out]; rfl
              have hmk : mkN f dd m ∈ (mkS f dd (L s) m).I := mem_setI.2 (.inr rfl)
              obtain ⟨v0, v1, -⟩ := (g4.nod _ hmk).cells
              have hipn : (Y.up n.id ip1 hp1 mp1).ip (mkN f dd m).id = ip1 := by rw [hnid]; exact upd_same _ _ _
              rw [hipn] at v0 v1
              obtain ⟨vi, hvi⟩ : ∃ v : Int, ((mkN f dd m).id : Int) = v := ⟨_, rfl⟩
              obtain ⟨vg, hvg⟩ : ∃ v : Int, ((mkN f dd m).gen : Int) = v := ⟨_, rfl⟩
              rw [hvi] at v0
              rw [hvg] at v1
              have HV2 : Hid (mkF f d (L s) m = (mkS f dd (L s) m, ⟨vi, vg⟩, 0)) := Lib.hid (by rw [HV.out, hvi, hvg])
              have hr8 : w8.heap[r]? = _ := (g5.block r (blk_lt HR7.out) HRF.out).trans HR7.out
              have hrf8 : ∀ k, foot (Y.up n.id ip1 hp1 mp1) (mkS f dd (L s) m).I k → k ≠ r := fun k hk e => by
                rcases g6 k hk with h5 | h5
                · exact HRF.out (e ▸ h5)
                · have := blk_lt HR7.out; omega
              obtain ⟨w9, hw9⟩ : ∃ W9, W9 = ((w8.setCell ⟨r, 0, none⟩ (.int .i64 vi)).setCell ⟨r, 1, none⟩ (.int .i64 vg)) := ⟨_, rfl⟩
              obtain ⟨hwr9, hk9⟩ := set2 hr8 (.int .i64 vi) (.int .i64 vg)
              rw [← hw9] at hwr9 hk9
              have r0 := cell_of hr8 (j := 0) rfl
              have r1 := cell_of hr8 (j := 1) rfl
              have z2 := frozen_of_row w8 r 0 _ _ hr8
              have z3 := frozen_of_row w8 r 1 _ _ hr8
              have z0 := cell_of hk9 (j := 0) rfl
              have z1 := cell_of hk9 (j := 1) rfl
              have HE : Hid (ChF w bs Y f (mkS f dd (L s) m) (.tuple #[hV ⟨vi, vg⟩, .int .i64 0]) (.returned (.tuple #[hV ⟨vi, vg⟩, .int .i64 0])) w9) := Lib.hid ⟨_, rfl, g4.keep (fun k hk => hwr9.rest k (hrf8 k hk)), ((HK7.out.trans HFR7.out g5).fresh hwr9.gb HRW.out.1), Fresh.trans HFR7.out HK7.out.size g6, rfl⟩
              have HW9 := Lib.hid hw9
              clear g4 g5 g6 hmk hipn hr8 hrf8 hw9 hwr9 hk9 hnid hvi hvg HV
              go_wp2_with fail
              rw [← HW9.out]
              go_wp2_with fail
              rw [HV2.out]
              exact bodyPost_ret (v := .tuple #[hV ⟨vi, vg⟩, .int .i64 0]) (by simp [results, Try.results16, go_sem, z0, z1]) rfl HE.out
          | true =>
            obtain rfl : kd = 2 := by simpa using htk
            cases tl with
            | true =>
              have HV : Hid (mkF f d (L s) m = (f, hd0, 179)) := Lib.hid (by rw [HB1.out, if_pos (by rw [HTK.out, HTL.out]; simp)])
              have hr6 := HR6.out
              obtain ⟨w9, hw9⟩ : ∃ W9, W9 = ((w6.setCell ⟨r, 0, none⟩ (.int .i64 0)).setCell ⟨r, 1, none⟩ (.int .i64 0)) := ⟨_, rfl⟩
              obtain ⟨hwr9, hk9⟩ := set2 hr6 (.int .i64 0) (.int .i64 0)
              rw [← hw9] at hwr9 hk9
              have r0 := cell_of hr6 (j := 0) rfl
              have r1 := cell_of hr6 (j := 1) rfl
              have g0 := frozen_of_row w6 r 0 _ _ hr6
              have g1 := frozen_of_row w6 r 1 _ _ hr6
              have z0 := cell_of hk9 (j := 0) rfl
              have z1 := cell_of hk9 (j := 1) rfl
              have HWR := Lib.hid hwr9
              have HW9 := Lib.hid hw9
              clear hw9 hwr9 hk9
              have HE : Hid (Below w.heap.size w w9) := Lib.hid (HB6.out.trans (HWR.out.below.mono HRW.out.1))
              go_wp2_with fail
              rw [← HW9.out]
              go_wp2_with fail
              rw [HV.out]
              exact bodyPost_ret (v := .tuple #[.agg #[.int .i64 0, .int .i64 0], .int .i64 179]) (by simp [results, Try.results16, go_sem, z0, z1]) rfl (ChF.same HM.out HG.out HE.out _)
            | false =>
              have HB2X : Hid (mkF f d (L s) m = if 200 ≤ f.I.length then (f, hd0, 177) else (mkS f dd (L s) m, ⟨(mkN f dd m).id, (mkN f dd m).gen⟩, 0)) := Lib.hid (by rw [HB1.out, if_neg (by rw [HTL.out]; simp)])
              cases tn with
              | true =>
                have HV : Hid (mkF f d (L s) m = (f, hd0, 177)) := Lib.hid (by rw [HB2X.out, if_pos (by rw [HTN.out])])
                have hr6 := HR6.out
                obtain ⟨w9, hw9⟩ : ∃ W9, W9 = ((w6.setCell ⟨r, 0, none⟩ (.int .i64 0)).setCell ⟨r, 1, none⟩ (.int .i64 0)) := ⟨_, rfl⟩
                obtain ⟨hwr9, hk9⟩ := set2 hr6 (.int .i64 0) (.int .i64 0)
                rw [← hw9] at hwr9 hk9
                have r0 := cell_of hr6 (j := 0) rfl
                have r1 := cell_of hr6 (j := 1) rfl
                have g0 := frozen_of_row w6 r 0 _ _ hr6
                have g1 := frozen_of_row w6 r 1 _ _ hr6
                have z0 := cell_of hk9 (j := 0) rfl
                have z1 := cell_of hk9 (j := 1) rfl
                have HWR := Lib.hid hwr9
                have HW9 := Lib.hid hw9
                clear hw9 hwr9 hk9
                have HE : Hid (Below w.heap.size w w9) := Lib.hid (HB6.out.trans (HWR.out.below.mono HRW.out.1))
                go_wp2_with fail
                rw [← HW9.out]
                go_wp2_with fail
                rw [HV.out]
                exact bodyPost_ret (v := .tuple #[.agg #[.int .i64 0, .int .i64 0], .int .i64 177]) (by simp [results, Try.results16, go_sem, z0, z1]) rfl (ChF.same HM.out HG.out HE.out _)
              | false =>
                have hc200 : f.I.length < 200 := by
                  have := HTN.out
                  simp at this
                  exact this
                have HV : Hid (mkF f d (L s) m = (mkS f dd (L s) m, ⟨(mkN f dd m).id, (mkN f dd m).gen⟩, 0)) := Lib.hid (by rw [HB2X.out, if_neg (by omega)])
                have hfs := free_spec hc200
                have HAD := Lib.hid (add_any HM6.out (Nat.le_trans HBS.out HB6.out.size) (Nw.of_good HG.out hfs.1) HBD.out.gns HT.out hc200 dd.id m HBM.out tg HTG.out)
                rw [HKD.out] at HAD
                have HI0 : Hid (nget f.I ((adN f dd.id m).id : Int) = none ∧ 1 ≤ (adN f dd.id m).id) := Lib.hid ⟨hfs.1, hfs.2.1⟩
                clear hc200 hfs
                go_wp2_with fail
                refine HAD.out.mono ?_
                rintro e w7 ⟨ip1, hp1, mp1, rfl, g1, g2, g3⟩
                obtain ⟨n, hn⟩ : ∃ n, adN f dd.id m = n := ⟨_, rfl⟩
                have hI7 : (adS f dd.id m).I = f.I ++ [n] := by unfold adS; rw [← hn]; exact len_setI_new HI0.out.1
                have hne : dd.id ≠ n.id := by rw [← hn]; exact fun e => nget_none.1 HI0.out.1 dd HDM.out.1 (by omega)
                have hdin : dd ∈ (adS f dd.id m).I := by rw [hI7]; exact List.mem_append_left _ HDM.out.1
                have hnin : n ∈ (adS f dd.id m).I := by rw [hI7]; simp
                have hnb : n.kind = 1 ∨ n.kind = 2 ∨ n.kind = 3 := by
                  have h3 := (badM_of HBM.out).1
                  have h4 : n.kind = m.kind.toNat := by rw [← hn]; rfl
                  omega
                have hkd7 : ∀ x ∈ (adS f dd.id m).I, x.kind = 1 ∨ x.kind = 2 ∨ x.kind = 3 := fun x hx => by
                  rw [hI7] at hx
                  rcases List.mem_append.1 hx with hx | hx
                  · exact HG.out.kind x hx
                  · rw [List.mem_singleton.1 hx]; exact hnb
                rw [hn] at g1 g3
                have hiu : (Y.up n.id ip1 hp1 mp1).ip n.id = ip1 := upd_same _ _ _
                have hid : (Y.up n.id ip1 hp1 mp1).ip dd.id = Y.ip dd.id := upd_ne hne
                have hhd : (Y.up n.id ip1 hp1 mp1).hp dd.id = Y.hp dd.id := upd_ne hne
                have HEN7 := enter_any g1 (by show ((setI f.I (adN f dd.id m)).map _).Nodup; exact nodup_setI HG.out.ids _) hkd7 hdin HDM.out.2.1 hnin (by rw [← hn]; have := HI0.out.2; omega) (by have h5 := HBD.out.nms; have h6 := HT.out; show f.N.length ≤ _; omega) s (HG.out.ent HEN.out) (by have := valid_size HVN.out; omega)
                rw [hid, hhd, hiu] at HEN7
                have hst : enS (adS f dd.id m) dd n (L s) = mkS f dd (L s) m := by rw [← hn]; exact enS_make HBM.out
                rw [hst] at HEN7
                have HE7 := Lib.hid HEN7
                have HFL : Hid (∀ k, foot Y f.I k → k < w.heap.size) := Lib.hid (HM.out.foot_lt HG.out.kind)
                have hnf : ∀ k, w.heap.size ≤ k → ¬ foot Y f.I k := fun k hk hf => by have := HFL.out k hf; omega
                have hp6 : p < w6.heap.size := cell_lt n0
                have hr6 := HR6.out
                have hpb : ∀ j v, w6.cell? ⟨p, j, none⟩ = some v → w7.cell? ⟨p, j, none⟩ = some v := fun j v hv => by
                  have h5 := g2.block p hp6 (hnf p HPW.out)
                  unfold World.cell? at hv ⊢
                  rw [h5]; exact hv
                have k0 := hpb 0 _ n0
                have k1 := hpb 1 _ n1
                have hr7 : w7.heap[r]? = _ := (g2.block r (blk_lt hr6) (hnf r HRW.out.1)).trans hr6
                have HR7 := Lib.hid hr7
                have HK7 : Hid (FK Y f.I w w7) := Lib.hid ((FK.of_below HB6.out).trans Fresh.refl g2)
                have HFR7 : Hid (Fresh Y f.I w (Y.up n.id ip1 hp1 mp1) (adS f dd.id m).I) := Lib.hid (Fresh.trans Fresh.refl HB6.out.size g3)
                have HRF : Hid (¬ foot (Y.up n.id ip1 hp1 mp1) (adS f dd.id m).I r) := Lib.hid (fun hf => by
                  rcases g3 r hf with h5 | h5
                  · exact hnf r HRW.out.1 h5
                  · have := blk_lt hr6; omega)
                have HN : Hid (adN f dd.id m = n) := Lib.hid hn
                clear g1 g2 g3 hI7 hne hdin hnin hnb hkd7 hiu hid hhd HEN7 hst hnf hp6 hr6 hr7 hpb hn n0 n1 o0 o1 o2 o3
                go_wp2_with fail
                refine HE7.out.mono ?_
                rintro e w8 ⟨rfl, g4, g5, g6⟩
                have hnid : (mkN f dd m).id = n.id := by rw [← HN.out]; rfl
                have hmk : mkN f dd m ∈ (mkS f dd (L s) m).I := mem_setI.2 (.inr rfl)
                obtain ⟨v0, v1, -⟩ := (g4.nod _ hmk).cells
                have hipn : (Y.up n.id ip1 hp1 mp1).ip (mkN f dd m).id = ip1 := by rw [hnid]; exact upd_same _ _ _
                rw [hipn] at v0 v1
                obtain ⟨vi, hvi⟩ : ∃ v : Int, ((mkN f dd m).id : Int) = v := ⟨_, rfl⟩
                obtain ⟨vg, hvg⟩ : ∃ v : Int, ((mkN f dd m).gen : Int) = v := ⟨_, rfl⟩
                rw [hvi] at v0
                rw [hvg] at v1
                have HV2 : Hid (mkF f d (L s) m = (mkS f dd (L s) m, ⟨vi, vg⟩, 0)) := Lib.hid (by rw [HV.out, hvi, hvg])
                have hr8 : w8.heap[r]? = _ := (g5.block r (blk_lt HR7.out) HRF.out).trans HR7.out
                have hrf8 : ∀ k, foot (Y.up n.id ip1 hp1 mp1) (mkS f dd (L s) m).I k → k ≠ r := fun k hk e => by
                  rcases g6 k hk with h5 | h5
                  · exact HRF.out (e ▸ h5)
                  · have := blk_lt HR7.out; omega
                obtain ⟨w9, hw9⟩ : ∃ W9, W9 = ((w8.setCell ⟨r, 0, none⟩ (.int .i64 vi)).setCell ⟨r, 1, none⟩ (.int .i64 vg)) := ⟨_, rfl⟩
                obtain ⟨hwr9, hk9⟩ := set2 hr8 (.int .i64 vi) (.int .i64 vg)
                rw [← hw9] at hwr9 hk9
                have r0 := cell_of hr8 (j := 0) rfl
                have r1 := cell_of hr8 (j := 1) rfl
                have z2 := frozen_of_row w8 r 0 _ _ hr8
                have z3 := frozen_of_row w8 r 1 _ _ hr8
                have z0 := cell_of hk9 (j := 0) rfl
                have z1 := cell_of hk9 (j := 1) rfl
                have HE : Hid (ChF w bs Y f (mkS f dd (L s) m) (.tuple #[hV ⟨vi, vg⟩, .int .i64 0]) (.returned (.tuple #[hV ⟨vi, vg⟩, .int .i64 0])) w9) := Lib.hid ⟨_, rfl, g4.keep (fun k hk => hwr9.rest k (hrf8 k hk)), ((HK7.out.trans HFR7.out g5).fresh hwr9.gb HRW.out.1), Fresh.trans HFR7.out HK7.out.size g6, rfl⟩
                have HW9 := Lib.hid hw9
                clear g4 g5 g6 hmk hipn hr8 hrf8 hw9 hwr9 hk9 hnid hvi hvg HV
                go_wp2_with fail
                rw [← HW9.out]
                go_wp2_with fail
                rw [HV2.out]
                exact bodyPost_ret (v := .tuple #[hV ⟨vi, vg⟩, .int .i64 0]) (by simp [results, Try.results16, go_sem, z0, z1]) rfl HE.out
        · rw [iP_some hen]
          have HZ := Lib.hid (HG.out.at_entry hen)
          have e3 := pnn2 (Y.ip z.id)
          have HV : Hid (mkF f d (L s) m = (f, hd0, 171)) := Lib.hid (by rw [HBASE.out, if_neg HNB.out, if_pos (by rw [← HZ.out.2.1]; have := HG.out.rng z HZ.out.1; omega)])
          clear hen
          obtain ⟨w9, hw9⟩ : ∃ W9, W9 = ((w6.setCell ⟨r, 0, none⟩ (.int .i64 0)).setCell ⟨r, 1, none⟩ (.int .i64 0)) := ⟨_, rfl⟩
          obtain ⟨hwr9, hk9⟩ := set2 hr6 (.int .i64 0) (.int .i64 0)
          rw [← hw9] at hwr9 hk9
          have r0 := cell_of hr6 (j := 0) rfl
          have r1 := cell_of hr6 (j := 1) rfl
          have g0 := frozen_of_row w6 r 0 _ _ hr6
          have g1 := frozen_of_row w6 r 1 _ _ hr6
          have z0 := cell_of hk9 (j := 0) rfl
          have z1 := cell_of hk9 (j := 1) rfl
          have HWR := Lib.hid hwr9
          have HW9 := Lib.hid hw9
          clear hw9 hwr9 hk9
          have HE : Hid (Below w.heap.size w w9) := Lib.hid (HB6.out.trans (HWR.out.below.mono HRW.out.1))
          go_wp2_with fail
          rw [← HW9.out]
          go_wp2_with fail
          rw [HV.out]
          exact bodyPost_ret (v := .tuple #[.agg #[.int .i64 0, .int .i64 0], .int .i64 171]) (by simp [results, Try.results16, go_sem, z0, z1]) rfl (ChF.same HM.out HG.out HE.out _)
end Go.Proofs.Ytoaahhgngelnaaa
