/-
  What the methods close and applyFor of a state, and Apply, return and leave. Condition: the state is good.
  What Apply of a state returns and leaves. Condition: the state is good.
-/
import Derived.Test.YtflgemlhocjipaaGreatDoorSChange
namespace Go.Proofs.YtflgemlhocjipaaGreatDoor
set_option maxRecDepth 100000
open Go.ChangeShapes Go.WideShapes Go.ChangeAt Go.RowKit Go.Proofs.Zn Go.Proofs.Zt
open Go.Proofs.Zs (St Lst Rep Tx)

def ClsPost (B sp : Nat) (a : St × Rep × List Evt) (w : World) (e : Ending) (w' : World) : Prop := ∃ ve, e = .returned ve ∧ StW w' B sp a.1 ∧ SK B w w' ∧ w'.ownsRow w.heap.size 165 3 ve a.2.2.length (ecells a.2.2)
set_option maxHeartbeats 4000000 in
theorem sclose_any {w : World} {B sp : Nat} {S : St} (h : StW w B sp S) (hg : Zs.Gd S) {s : Int} {x : Le.Ls} (hx : Le.has S.L s = some x) :
    Calls Tryz.prog 87 #[.pointer (some ⟨sp, 0, none⟩), .int .i64 s] w (ClsPost B sp (Zs.fin S s) w) := by
  obtain ⟨tp, tmb, lp, lv, mb, h⟩ := h
  have hrng := okL_range hg.L hx
  have hcl := Zs.cls_some hg.L hx
  have hB : B ≤ w.heap.size := by have := blk_lt h.here; have := h.g1; omega
  have h0 := h.below ((Below.refl w.heap.size w).drew)
  have HEN := Lib.hid (end_any h0.tree hg.T S.z s)
  have hT : 0 < (endL S.T S.z s).1.length := by
    obtain ⟨y, hy, -⟩ := (endL_good hg.T S.z s).root
    exact List.length_pos_of_mem (get_some hy).1
  obtain ⟨R, hR⟩ : ∃ R, endL S.T S.z s = R := ⟨_, rfl⟩
  obtain ⟨K, hK⟩ : ∃ K, Le.cls S.L s = K := ⟨_, rfl⟩
  have HFI : Hid (Zs.fin S s = (⟨S.z, R.1, K.1, Zs.fg S.D s⟩, Zs.er K.2, R.2)) := Lib.hid (by unfold Zs.fin; rw [hR, hK])
  rw [hR] at HEN hT
  rw [hK] at hcl
  have c0 := cell_of h.here (j := 0) rfl
  have c1 := cell_of h.here (j := 1) rfl
  have HCL : Hid (∀ (W : World) (v : Value), B ≤ W.heap.size → Lq.TabW W B lp v S.L → Calls Tryz.prog 128 #[.pointer (some ⟨lp, 0, none⟩), .int .i64 s] W (Lq.ErPost B lp v K W)) := Lib.hid (fun W v hW hb => by rw [← hK]; exact Lq.close_any hb hW hg.L s)
  have HH := Lib.hid h0
  have HX := Lib.hid hx
  have HRNG := Lib.hid hrng
  have HCS := Lib.hid hcl
  have HT := Lib.hid hT
  have HB := Lib.hid hB
  clear h hg hx hrng hcl hB h0 hT hR hK
  go_enter Tryz.func87, Tryz.ntmps87
  go_upto_region 1 with fail
  go_still_tail 9, (by kernel_rfl)
  change wpList _ _ _ _ _ w.drew
  go_wp2_with fail
  refine HEN.out.mono ?_
  rintro e w1 ⟨v1, tmb1, rfl, ht1, hg1, ho1⟩
  obtain ⟨A1, c1', rfl, -, -, -⟩ := own_form ho1
  obtain ⟨h1, hs1⟩ := HH.out.setT ht1 hg1
  have hs01 : SK B w w1 := (SK.of_below ((Below.refl w.heap.size w).drew)).trans hs1
  have HC1 := Lib.hid (HCL.out w1 lv (Nat.le_trans HB.out hs01.size) h1.tab)
  have y2 := cell_of h1.here (j := 2) rfl
  have HH1 := Lib.hid h1
  have HS1 := Lib.hid hs01
  have HO1 := Lib.hid ho1
  clear ht1 hg1 ho1 h1 hs1 hs01
  go_wp2_with fail
  refine HC1.out.mono ?_
  rintro e w2 ⟨rfl, hk2⟩
  obtain ⟨⟨lv2, h2⟩, hs2⟩ := HH1.out.setL hk2
  have hs02 := HS1.out.trans hs2
  have ho2 := hs2.own HO1.out (by decide)
  obtain ⟨w3, hrun, hd3, hg3⟩ := DW.drop (a := s) h2.map (by have := HRNG.out; omega) (by have := HRNG.out; omega) HCS.out.2.2 (by rw [HX.out]; rfl) HCS.out.2.1 0
  obtain ⟨h3, hs3⟩ := h2.setM HT.out hd3 hg3
  have HE : Hid (ClsPost B sp (Zs.fin S s) w (.returned (.slice A1 R.2.length c1')) w3) := Lib.hid
    (by rw [HFI.out]; exact ⟨_, rfl, h3.st, hs02.trans hs3, hs3.own (own_base ho2 (Nat.le_refl _)) (by decide)⟩)
  have y3 := cell_of h2.here (j := 3) rfl
  clear hk2 h2 hs2 hs02 ho2 hd3 hg3 h3 hs3
  go_wp2_with fail
  go_ret
  exact HE.out
set_option maxHeartbeats 4000000 in
theorem sfor_any {w : World} {B sp : Nat} {S : St} (h : StW w B sp S) (hg : Zs.Gd S) (t : Tx) (hk : ¬ t.k < 3 ∧ ¬ 5 < t.k) {At : Option Addr} {nt ct : Nat} (hrd : Rd ccell 6 w At nt t.l) (hp : ∀ c ∈ t.l, ChOk c) :
    Calls Tryz.prog 44 #[.pointer (some ⟨sp, 0, none⟩), .agg #[.int .i64 t.k, .int .i64 t.s, .int .i64 t.n, .int .i64 t.sp, .int .i64 t.now, .slice At nt ct]] w (ApPost B sp (Zs.forS S t) w) := by
  have HST := Lib.hid h
  obtain ⟨tp, tmb, lp, lv, mb, h⟩ := h
  obtain ⟨w2, hw2, hbw2, hkq, hkr, hsw2⟩ := two_box w (.cells #[.int .i64 t.k, .int .i64 t.s, .int .i64 t.n, .int .i64 t.sp, .int .i64 t.now, .slice At nt ct] 46) (.cells #[.int .i64 0, .int .i64 0, .slice none 0 0] 42)
  obtain ⟨q, eq⟩ : ∃ x, x = w.heap.size := ⟨_, rfl⟩
  obtain ⟨r, er⟩ : ∃ x, x = w.heap.size + 1 := ⟨_, rfl⟩
  rw [← eq] at hkq
  rw [← er] at hkr
  have h2 := h.below hbw2
  have hsz := hbw2.size
  have hne : w.heap.size ≤ r ∧ q ≠ r := by omega
  have HC : Hid (∀ (W : World), Below w2.heap.size w2 W → Calls Tryz.prog 85 #[.pointer (some ⟨lp, 0, none⟩), .int .i64 t.s] W (Lq.GePost W S.L t.s)) := Lib.hid (fun W hW => Lq.get_any (h2.below hW).tab hg.L t.s)
  unfold Lq.GePost at HC
  obtain ⟨f, hf⟩ : ∃ f, Lq.fnd S.L t.s = f := ⟨_, rfl⟩
  obtain ⟨b, hb⟩ : ∃ b, (Le.has S.L t.s).isSome = b := ⟨_, rfl⟩
  rw [hf, hb] at HC
  have HSS : Hid (∀ (W : World), Below w2.heap.size w2 W → (W.cell? ⟨sp, 2, none⟩ = some (.pointer (some ⟨lp, 0, none⟩)) ∧ W.cell? ⟨q, 1, none⟩ = some (.int .i64 t.s))) := Lib.hid (fun W hW => ⟨cell_of (blk_below h2.here hW) (j := 2) rfl, cell_of (blk_below hkq hW) (j := 1) rfl⟩)
  have HSK : Hid (∀ (W : World) (j : Nat) (v : Value), (W.cell? ⟨sp, 2, none⟩ = some (.pointer (some ⟨lp, 0, none⟩)) ∧ W.cell? ⟨q, 1, none⟩ = some (.int .i64 t.s)) → (fun W => W.cell? ⟨sp, 2, none⟩ = some (.pointer (some ⟨lp, 0, none⟩)) ∧ W.cell? ⟨q, 1, none⟩ = some (.int .i64 t.s)) (W.setCell ⟨w2.heap.size, j, none⟩ v)) := Lib.hid (fun W j v hS => by
    have n1 : sp < w2.heap.size := blk_lt h2.here
    have n2 : q < w2.heap.size := blk_lt hkq
    have kk : ∀ b o u, b < w2.heap.size → W.cell? ⟨b, o, none⟩ = some u → (W.setCell ⟨w2.heap.size, j, none⟩ v).cell? ⟨b, o, none⟩ = some u := fun b o u hb hx => by rw [World.cell?_setCell_far _ _ _ _ (Nat.ne_of_gt hb)]; exact hx
    exact ⟨kk _ _ _ n1 hS.1, kk _ _ _ n2 hS.2⟩)
  obtain ⟨a, ha⟩ : ∃ a, Zs.forS S t = a := ⟨_, rfl⟩
  rw [ha]
  have HA := Lib.hid ha
  have HG := Lib.hid hg
  have HH2 := Lib.hid h2
  have HB2 := Lib.hid hbw2
  have HQ2 := Lib.hid hkq
  have HR2 := Lib.hid hkr
  have HNE := Lib.hid hne
  have HSZ := Lib.hid hsz
  have HF := Lib.hid hf
  have HBB := Lib.hid hb
  have HK := Lib.hid hk
  have HRD := Lib.hid hrd
  have HP := Lib.hid hp
  have HW2 := Lib.hid hw2
  have EQ := Lib.hid eq
  have ER := Lib.hid er
  clear h h2 hg hk hrd hp ha hw2 eq er hbw2 hkq hkr hsw2 hsz hne hf hb
  go_enter Tryz.func44, Tryz.ntmps44
  go_upto_region 1 with fail
  rw [← HW2.out, ← ER.out, ← EQ.out]
  go_cut [6, 7] from 8 (fun p i wx => i = .bool b ∧ ∃ u w3, p = .pointer (some ⟨u, 0, none⟩) ∧ wx = w3 ∧ Hid (Below w2.heap.size w2 w3) ∧ Hid (w3.heap[u]? = some (.cells #[.int .i64 f.i, .int .i64 f.s, .int .i64 f.l] 100 (0, 0)) ∧ w2.heap.size ≤ u))
  case first =>
    go_region_held3 (fun W => W.cell? ⟨sp, 2, none⟩ = some (.pointer (some ⟨lp, 0, none⟩)) ∧ W.cell? ⟨q, 1, none⟩ = some (.int .i64 t.s))
      (first
        | assumption
        | (with_reducible exact HSS.out _ (Below.refl _ _).drew)
        | (with_reducible exact HSS.out _ (box_below _ _).drew)
        | (with_reducible exact HSS.out _ (Below.trans (by assumption) ((box_below _ _).mono (by first | exact hB3.size | assumption))))
        | (with_reducible exact HSK.out _ _ _ (HSK.out _ _ _ (HSK.out _ _ _ (by assumption)))))
      (first
        | (go_at_call 85; (with_reducible refine (HC.out _ (by first | exact (Below.refl _ _).drew | exact (box_below _ _).drew)).mono ?_); rintro e w3 ⟨rfl, hb3⟩; have hB3 : Below w2.heap.size w2 w3 := Below.trans (by first | exact (Below.refl _ _).drew | exact (box_below _ _).drew) (hb3.mono (by first | exact Nat.le_refl _ | exact (box_below w2 (.cells #[.int .i64 0, .int .i64 0, .int .i64 0] 100)).drew.size)); have hS3 := HSS.out w3 hB3; try have hbx : w3.heap[w2.heap.size]? = some (.cells #[.int .i64 0, .int .i64 0, .int .i64 0] 100 (0, 0)) := blk_below (w := (w2.alloc (.cells #[.int .i64 0, .int .i64 0, .int .i64 0] 100)).drew) (new_block w2 _) hb3; try (have b0 := cell_of hbx (j := 0) rfl; have b1 := cell_of hbx (j := 1) rfl; have b2 := cell_of hbx (j := 2) rfl; have f0 := frozen_of_row w3 _ 0 _ _ hbx; have f1 := frozen_of_row w3 _ 1 _ _ hbx; have f2 := frozen_of_row w3 _ 2 _ _ hbx)))
    all_goals
      first
        | (obtain ⟨w4, hw4⟩ : ∃ x, x = w3.alloc (.cells #[.int .i64 f.i, .int .i64 f.s, .int .i64 f.l] 100) := ⟨_, rfl⟩
           obtain ⟨u, eu⟩ : ∃ x, x = w3.heap.size := ⟨_, rfl⟩
           have hb4 : Below w3.heap.size w3 w4 := by rw [hw4]; exact box_below _ _
           have hk4 : w4.heap[u]? = some (.cells #[.int .i64 f.i, .int .i64 f.s, .int .i64 f.l] 100 (0, 0)) := by rw [hw4, eu]; exact new_block _ _
           have hB4 := hB3.trans (hb4.mono hB3.size)
           have hu : w2.heap.size ≤ u := by rw [eu]; exact hB3.size
           rw [← hw4, ← eu]
           clear hb3 hS3)
        | (obtain ⟨w4, hw4⟩ : ∃ x, x = ((w3.setCell ⟨w2.heap.size, 0, none⟩ (.int .i64 f.i)).setCell ⟨w2.heap.size, 1, none⟩ (.int .i64 f.s)).setCell ⟨w2.heap.size, 2, none⟩ (.int .i64 f.l) := ⟨_, rfl⟩
           obtain ⟨hwr, hk4⟩ := set3 hbx (.int .i64 f.i) (.int .i64 f.s) (.int .i64 f.l)
           rw [← hw4] at hwr hk4
           have hB4 := hB3.trans hwr.below
           rw [← hw4]
           obtain ⟨u, eu⟩ : ∃ x, x = w2.heap.size := ⟨_, rfl⟩
           have hu : w2.heap.size ≤ u := Nat.le_of_eq eu.symm
           rw [← eu] at hk4 ⊢
           clear hb3 hS3 hbx b0 b1 b2 f0 f1 f2 hwr)
    all_goals
      have HB4 := Lib.hid hB4
      have HK4 := Lib.hid (And.intro hk4 hu)
      clear hB4 hk4 hu hw4
      go_wp2_with fail
      go_meet
      exact ⟨rfl, u, w4, rfl, rfl, HB4, HK4⟩
  case rest =>
    obtain ⟨rfl, u, w3, rfl, hwc, HB3, HK3⟩ := hcut
    obtain rfl : w3 = wc := hwc.symm
    clear hwc
    have hr3 := blk_below HR2.out HB3.out
    have hq3 := blk_below HQ2.out HB3.out
    have hk3 := HK3.out.1
    have p0 := cell_of hq3 (j := 0) rfl
    have p1 := cell_of hq3 (j := 1) rfl
    have p2 := cell_of hq3 (j := 2) rfl
    have p3 := cell_of hq3 (j := 3) rfl
    have p4 := cell_of hq3 (j := 4) rfl
    have p5 := cell_of hq3 (j := 5) rfl
    have u0 := cell_of hk3 (j := 0) rfl
    have u1 := cell_of hk3 (j := 1) rfl
    have u2 := cell_of hk3 (j := 2) rfl
    have HH3 := Lib.hid (HH2.out.below HB3.out)
    have HS3 : Hid (SK B w w3) := Lib.hid (.of_below (HB2.out.trans (HB3.out.mono HSZ.out)))
    have HR3 := Lib.hid hr3
    have HZ3 : Hid (w.heap.size ≤ w3.heap.size) := Lib.hid HS3.out.size
    clear hq3 hk3
    cases b with
    | false =>
      have HD : Hid (a = (S, Zs.er 100, [])) := Lib.hid (by
        have hn : Le.has S.L t.s = none := by simpa using HBB.out
        rw [← HA.out]; unfold Zs.forS; rw [hn])
      obtain ⟨w6, hw6⟩ : ∃ x, x = (((w3.setCell ⟨r, 0, none⟩ (.int .i64 100)).setCell ⟨r, 1, none⟩ (.int .i64 0)).setCell ⟨r, 2, none⟩ (.slice none 0 0)) := ⟨_, rfl⟩
      obtain ⟨hwrw6, hkw6⟩ := set3 hr3 (.int .i64 100) (.int .i64 0) (.slice none 0 0)
      rw [← hw6] at hwrw6 hkw6
      have HE : Hid (ApPost B sp a w (.returned (.tuple #[.agg #[.int .i64 100, .int .i64 0, .slice none 0 0], .slice none 0 0])) w6) := Lib.hid
        (by rw [HD.out]; exact ⟨_, _, rfl, (HH3.out.wr hwrw6 hr3 (by decide) (by decide)).st, hwrw6.fresh HS3.out HNE.out.1, no_row _ _ _ _, no_row _ _ _ _⟩)
      have y0 := cell_of hr3 (j := 0) rfl
      have y1 := cell_of hr3 (j := 1) rfl
      have y2 := cell_of hr3 (j := 2) rfl
      have g0 := frozen_of_row w3 _ 0 _ _ hr3
      have g1 := frozen_of_row w3 _ 1 _ _ hr3
      have g2 := frozen_of_row w3 _ 2 _ _ hr3
      have z0 := cell_of hkw6 (j := 0) rfl
      have z1 := cell_of hkw6 (j := 1) rfl
      have z2 := cell_of hkw6 (j := 2) rfl
      have HW6 := Lib.hid hw6
      clear hw6 hwrw6 hkw6 hr3
      go_wp2_with fail
      rw [← HW6.out]
      exact bodyPost_ret (v := .tuple #[.agg #[.int .i64 100, .int .i64 0, .slice none 0 0], .slice none 0 0]) (by simp [results, Tryz.results44, go_sem, z0, z1, z2]) rfl HE.out
    | true =>
      obtain ⟨x, hx⟩ := Option.isSome_iff_exists.1 HBB.out
      have HX := Lib.hid hx
      have HFX : Hid (f = x) := Lib.hid (by rw [← HF.out]; exact Lq.fnd_some hx)
      clear hx
      by_cases h4 : t.k = 4
      · have t4 : (t.k == 4) = true := by simpa using h4
        obtain ⟨R, hR⟩ : ∃ R, Zs.chg S t = R := ⟨_, rfl⟩
        have HD : Hid (a = R) := Lib.hid (by rw [← HA.out, ← hR]; unfold Zs.forS; rw [HX.out]; dsimp only; rw [if_pos h4])
        have HCH := Lib.hid (schange_any (ct := ct) HH3.out.st HG.out t HX.out (HRD.out.below (HB2.out.trans (HB3.out.mono HSZ.out))) HP.out)
        rw [hR] at HCH
        clear hR h4 hr3
        go_wp2_with fail
        refine HCH.out.mono ?_
        rintro e w4 ⟨vp, ve, rfl, hst, hsk, ho1, ho2⟩
        have hr4 := hsk.blk HR3.out (by decide)
        obtain ⟨A1, c1, rfl, -, -, -⟩ := own_form ho1
        obtain ⟨A2, c2, rfl, -, -, -⟩ := own_form ho2
        obtain ⟨tp4, tmb4, lp4, lv4, mb4, h4⟩ := hst
        obtain ⟨w6, hw6⟩ : ∃ x, x = (((w4.setCell ⟨r, 0, none⟩ (.int .i64 R.2.1.c)).setCell ⟨r, 1, none⟩ (.int .i64 R.2.1.s)).setCell ⟨r, 2, none⟩ (.slice A1 R.2.1.ps.length c1)) := ⟨_, rfl⟩
        obtain ⟨hwrw6, hkw6⟩ := set3 hr4 (.int .i64 R.2.1.c) (.int .i64 R.2.1.s) (.slice A1 R.2.1.ps.length c1)
        rw [← hw6] at hwrw6 hkw6
        have HE : Hid (ApPost B sp a w (.returned (.tuple #[.agg #[.int .i64 R.2.1.c, .int .i64 R.2.1.s, .slice A1 R.2.1.ps.length c1], .slice A2 R.2.2.length c2])) w6) := Lib.hid
          (by rw [HD.out]; exact ⟨_, _, rfl, (h4.wr hwrw6 hr4 (by decide) (by decide)).st, hwrw6.fresh (HS3.out.trans hsk) HNE.out.1, own_base (hwrw6.own hr4 ho1 (by decide)) HZ3.out, own_base (hwrw6.own hr4 ho2 (by decide)) HZ3.out⟩)
        have y0 := cell_of hr4 (j := 0) rfl
        have y1 := cell_of hr4 (j := 1) rfl
        have y2 := cell_of hr4 (j := 2) rfl
        have g0 := frozen_of_row w4 _ 0 _ _ hr4
        have g1 := frozen_of_row w4 _ 1 _ _ hr4
        have g2 := frozen_of_row w4 _ 2 _ _ hr4
        have z0 := cell_of hkw6 (j := 0) rfl
        have z1 := cell_of hkw6 (j := 1) rfl
        have z2 := cell_of hkw6 (j := 2) rfl
        have HW6 := Lib.hid hw6
        clear hw6 hwrw6 hkw6 hr4 h4 hsk ho1 ho2
        go_wp2_with fail
        rw [← HW6.out]
        exact bodyPost_ret (v := .tuple #[.agg #[.int .i64 R.2.1.c, .int .i64 R.2.1.s, .slice A1 R.2.1.ps.length c1], .slice A2 R.2.2.length c2]) (by simp [results, Tryz.results44, go_sem, z0, z1, z2]) rfl HE.out
      · have t4 : (t.k == 4) = false := by simpa using h4
        by_cases h5 : t.k = 5 ∧ x.l ≠ t.now
        · have t5 : (t.k == 5) = true := by simpa using h5.1
          have t6 : (f.l != t.now) = true := by rw [HFX.out]; simpa using h5.2
          have HD : Hid (a = (S, Zs.er 1, [])) := Lib.hid (by rw [← HA.out]; unfold Zs.forS; rw [HX.out]; dsimp only; rw [if_neg h4, if_pos h5])
          clear h4 h5
          obtain ⟨w6, hw6⟩ : ∃ x, x = (((w3.setCell ⟨r, 0, none⟩ (.int .i64 1)).setCell ⟨r, 1, none⟩ (.int .i64 0)).setCell ⟨r, 2, none⟩ (.slice none 0 0)) := ⟨_, rfl⟩
          obtain ⟨hwrw6, hkw6⟩ := set3 hr3 (.int .i64 1) (.int .i64 0) (.slice none 0 0)
          rw [← hw6] at hwrw6 hkw6
          have HE : Hid (ApPost B sp a w (.returned (.tuple #[.agg #[.int .i64 1, .int .i64 0, .slice none 0 0], .slice none 0 0])) w6) := Lib.hid
            (by rw [HD.out]; exact ⟨_, _, rfl, (HH3.out.wr hwrw6 hr3 (by decide) (by decide)).st, hwrw6.fresh HS3.out HNE.out.1, no_row _ _ _ _, no_row _ _ _ _⟩)
          have y0 := cell_of hr3 (j := 0) rfl
          have y1 := cell_of hr3 (j := 1) rfl
          have y2 := cell_of hr3 (j := 2) rfl
          have g0 := frozen_of_row w3 _ 0 _ _ hr3
          have g1 := frozen_of_row w3 _ 1 _ _ hr3
          have g2 := frozen_of_row w3 _ 2 _ _ hr3
          have z0 := cell_of hkw6 (j := 0) rfl
          have z1 := cell_of hkw6 (j := 1) rfl
          have z2 := cell_of hkw6 (j := 2) rfl
          have HW6 := Lib.hid hw6
          clear hw6 hwrw6 hkw6 hr3
          go_wp2_with fail
          rw [← HW6.out]
          exact bodyPost_ret (v := .tuple #[.agg #[.int .i64 1, .int .i64 0, .slice none 0 0], .slice none 0 0]) (by simp [results, Tryz.results44, go_sem, z0, z1, z2]) rfl HE.out
        · obtain ⟨R, hR⟩ : ∃ R, Zs.fin S t.s = R := ⟨_, rfl⟩
          have hRR : R.2.1 = Zs.er 0 := by rw [← hR]; unfold Zs.fin; rw [(Zs.cls_some HG.out.L HX.out).1]
          have HD : Hid (a = R) := Lib.hid (by rw [← HA.out, ← hR]; unfold Zs.forS; rw [HX.out]; dsimp only; rw [if_neg h4, if_neg h5])
          have HCH := Lib.hid (sclose_any HH3.out.st HG.out HX.out)
          rw [hR] at HCH
          have HRR := Lib.hid hRR
          have t56 : (t.k == 5) = false ∨ ((t.k == 5) = true ∧ (f.l != t.now) = false) := by
            rw [HFX.out]
            by_cases h6 : t.k = 5
            · right
              refine ⟨by simpa using h6, ?_⟩
              have : ¬ x.l ≠ t.now := fun h7 => h5 ⟨h6, h7⟩
              simpa using this
            · left; simpa using h6
          clear hR h4 h5 hr3 hRR
          rcases t56 with t5 | ⟨t5, t6⟩
          all_goals
            go_wp2_with fail
            refine HCH.out.mono ?_
            rintro e w4 ⟨ve, rfl, hst, hsk, ho2⟩
            have hr4 := hsk.blk HR3.out (by decide)
            obtain ⟨A2, c2, rfl, -, -, -⟩ := own_form ho2
            obtain ⟨tp4, tmb4, lp4, lv4, mb4, h4⟩ := hst
            obtain ⟨w6, hw6⟩ : ∃ x, x = (((w4.setCell ⟨r, 0, none⟩ (.int .i64 0)).setCell ⟨r, 1, none⟩ (.int .i64 0)).setCell ⟨r, 2, none⟩ (.slice none 0 0)) := ⟨_, rfl⟩
            obtain ⟨hwrw6, hkw6⟩ := set3 hr4 (.int .i64 0) (.int .i64 0) (.slice none 0 0)
            rw [← hw6] at hwrw6 hkw6
            have HE : Hid (ApPost B sp a w (.returned (.tuple #[.agg #[.int .i64 0, .int .i64 0, .slice none 0 0], .slice A2 R.2.2.length c2])) w6) := Lib.hid
              (by rw [HD.out]; exact ⟨.slice none 0 0, _, by rw [HRR.out]; rfl, (h4.wr hwrw6 hr4 (by decide) (by decide)).st, hwrw6.fresh (HS3.out.trans hsk) HNE.out.1, by rw [HRR.out]; exact no_row _ _ _ _, own_base (hwrw6.own hr4 ho2 (by decide)) HZ3.out⟩)
            have y0 := cell_of hr4 (j := 0) rfl
            have y1 := cell_of hr4 (j := 1) rfl
            have y2 := cell_of hr4 (j := 2) rfl
            have g0 := frozen_of_row w4 _ 0 _ _ hr4
            have g1 := frozen_of_row w4 _ 1 _ _ hr4
            have g2 := frozen_of_row w4 _ 2 _ _ hr4
            have z0 := cell_of hkw6 (j := 0) rfl
            have z1 := cell_of hkw6 (j := 1) rfl
            have z2 := cell_of hkw6 (j := 2) rfl
            have HW6 := Lib.hid hw6
            clear hw6 hwrw6 hkw6 hr4 h4 hsk ho2
            go_wp2_with fail
            rw [← HW6.out]
            exact bodyPost_ret (v := .tuple #[.agg #[.int .i64 0, .int .i64 0, .slice none 0 0], .slice A2 R.2.2.length c2]) (by simp [results, Tryz.results44, go_sem, z0, z1, z2]) rfl HE.out
end Go.Proofs.YtflgemlhocjipaaGreatDoor
namespace Go.Proofs.YtflgemlhocjipaaGreatDoor
set_option maxRecDepth 100000
open Go.ChangeShapes Go.WideShapes Go.ChangeAt Go.RowKit Go.Proofs.Zn Go.Proofs.Zt
open Go.Proofs.Zs (St Lst Rep Tx)

set_option maxHeartbeats 4000000 in
theorem sapply_any {w : World} {B sp : Nat} {S : St} (h : StW w B sp S) (hg : Zs.Gd S) (zx : Int) (t : Tx) {At : Option Addr} {nt ct : Nat} (hrd : Rd ccell 6 w At nt t.l) (htg : Tg w B At nt) (hp : ∀ c ∈ t.l, ChOk c) :
    Calls Tryz.prog 16 #[.pointer (some ⟨sp, 0, none⟩), .int .i64 zx, .agg #[.int .i64 t.k, .int .i64 t.s, .int .i64 t.n, .int .i64 t.sp, .int .i64 t.now, .slice At nt ct]] w (ApPost B sp (Zs.app S zx t) w) := by
  obtain ⟨tp, tmb, lp, lv, mb, h⟩ := h
  obtain ⟨w2, hw2, hbw2, hkq, hkr, hsw2⟩ := two_box w (.cells #[.int .i64 t.k, .int .i64 t.s, .int .i64 t.n, .int .i64 t.sp, .int .i64 t.now, .slice At nt ct] 46) (.cells #[.int .i64 0, .int .i64 0, .slice none 0 0] 42)
  obtain ⟨q, eq⟩ : ∃ x, x = w.heap.size := ⟨_, rfl⟩
  obtain ⟨r, er⟩ : ∃ x, x = w.heap.size + 1 := ⟨_, rfl⟩
  rw [← eq] at hkq
  rw [← er] at hkr
  have h2 := h.below hbw2
  have hsz := hbw2.size
  have hne : w.heap.size ≤ r ∧ q ≠ r := by omega
  have hBw : B ≤ w.heap.size := by have := blk_lt h.here; have := h.g1; omega
  obtain ⟨h3, hs3⟩ := h2.setz zx
  obtain ⟨w3, hw3⟩ : ∃ x, x = w2.setCell ⟨sp, 0, none⟩ (.int .i64 zx) := ⟨_, rfl⟩
  rw [← hw3] at h3 hs3
  have c0 := cell_of h2.here (j := 0) rfl
  have g0 := frozen_of_row w2 sp 0 _ _ h2.here
  have hq3 := hs3.blk hkq (by decide)
  have hr3 := hs3.blk hkr (by decide)
  have hrd3 := (hrd.below hbw2).sk (htg.below hbw2) hs3
  have hs03 := (SK.of_below hbw2 : SK B w w2).trans hs3
  have k2 := cell_of h3.here (j := 2) rfl
  have q0 := cell_of hkq (j := 0) rfl
  have q1 := cell_of hkq (j := 1) rfl
  have q2 := cell_of hkq (j := 2) rfl
  have q3 := cell_of hkq (j := 3) rfl
  have q4 := cell_of hkq (j := 4) rfl
  have q5 := cell_of hkq (j := 5) rfl
  have p0 := cell_of hq3 (j := 0) rfl
  have p1 := cell_of hq3 (j := 1) rfl
  have p2 := cell_of hq3 (j := 2) rfl
  have p3 := cell_of hq3 (j := 3) rfl
  have p4 := cell_of hq3 (j := 4) rfl
  have p5 := cell_of hq3 (j := 5) rfl
  obtain ⟨a, ha⟩ : ∃ a, Zs.app S zx t = a := ⟨_, rfl⟩
  rw [ha]
  have hgz : ∀ _ : Zs.badZ S zx = false, Zs.Gd ⟨zx, S.T, S.L, S.D⟩ := fun hb => Zs.set_gd hg (by have := Zs.badZ_false hb; have := hg.z0; omega) (Zs.badZ_false hb).2
  obtain ⟨b1, hb1⟩ : ∃ b, decide (zx ≤ S.z) = b := ⟨_, rfl⟩
  obtain ⟨b2, hb2⟩ : ∃ b, decide (4611686018427387904 < zx) = b := ⟨_, rfl⟩
  have hbb : Zs.badZ S zx = (b1 || b2) := by rw [← hb1, ← hb2]; rfl
  have HA := Lib.hid ha
  have HBB := Lib.hid hbb
  have HGZ := Lib.hid hgz
  have HH2 := Lib.hid h2
  have HH3 := Lib.hid h3
  have HS2 : Hid (SK B w w2) := Lib.hid (.of_below hbw2)
  have HS3 := Lib.hid hs03
  have HR2 := Lib.hid hkr
  have HQ3 := Lib.hid hq3
  have HR3 := Lib.hid hr3
  have HNE := Lib.hid hne
  have HZ3 : Hid (w.heap.size ≤ w3.heap.size) := Lib.hid hs03.size
  have HBW := Lib.hid hBw
  have HRD := Lib.hid hrd3
  have HP := Lib.hid hp
  have HW2 := Lib.hid hw2
  have HW3 := Lib.hid hw3
  have EQ := Lib.hid eq
  have ER := Lib.hid er
  clear h h2 h3 hs3 hg hrd htg hrd3 hs03 hp ha hw2 hw3 eq er hbw2 hkq hkr hsw2 hsz hne hBw hq3 hr3 hgz hbb
  go_enter Tryz.func16, Tryz.ntmps16
  go_upto_region 1 with fail
  rw [← HW2.out, ← ER.out, ← EQ.out]
  cases b1 with
  | true =>
    have HD : Hid (a = (S, Zs.er 1, [])) := Lib.hid (by rw [← HA.out]; unfold Zs.app; rw [if_pos (by rw [HBB.out]; simp)])
    have hr2 := HR2.out
    obtain ⟨w6, hw6⟩ : ∃ x, x = (((w2.setCell ⟨r, 0, none⟩ (.int .i64 1)).setCell ⟨r, 1, none⟩ (.int .i64 0)).setCell ⟨r, 2, none⟩ (.slice none 0 0)) := ⟨_, rfl⟩
    obtain ⟨hwrw6, hkw6⟩ := set3 hr2 (.int .i64 1) (.int .i64 0) (.slice none 0 0)
    rw [← hw6] at hwrw6 hkw6
    have HE : Hid (ApPost B sp a w (.returned (.tuple #[.agg #[.int .i64 1, .int .i64 0, .slice none 0 0], .slice none 0 0])) w6) := Lib.hid
      (by rw [HD.out]; exact ⟨_, _, rfl, (HH2.out.wr hwrw6 hr2 (by decide) (by decide)).st, hwrw6.fresh HS2.out HNE.out.1, no_row _ _ _ _, no_row _ _ _ _⟩)
    have y0 := cell_of hr2 (j := 0) rfl
    have y1 := cell_of hr2 (j := 1) rfl
    have y2 := cell_of hr2 (j := 2) rfl
    have g0 := frozen_of_row w2 _ 0 _ _ hr2
    have g1 := frozen_of_row w2 _ 1 _ _ hr2
    have g2 := frozen_of_row w2 _ 2 _ _ hr2
    have z0 := cell_of hkw6 (j := 0) rfl
    have z1 := cell_of hkw6 (j := 1) rfl
    have z2 := cell_of hkw6 (j := 2) rfl
    have HW6 := Lib.hid hw6
    clear hw6 hwrw6 hkw6 hr2
    go_wp2_with fail
    rw [← HW6.out]
    exact bodyPost_ret (v := .tuple #[.agg #[.int .i64 1, .int .i64 0, .slice none 0 0], .slice none 0 0]) (by simp [results, Tryz.results16, go_sem, z0, z1, z2]) rfl HE.out
  | false =>
    cases b2 with
    | true =>
      have HD : Hid (a = (S, Zs.er 1, [])) := Lib.hid (by rw [← HA.out]; unfold Zs.app; rw [if_pos (by rw [HBB.out]; simp)])
      have hr2 := HR2.out
      obtain ⟨w6, hw6⟩ : ∃ x, x = (((w2.setCell ⟨r, 0, none⟩ (.int .i64 1)).setCell ⟨r, 1, none⟩ (.int .i64 0)).setCell ⟨r, 2, none⟩ (.slice none 0 0)) := ⟨_, rfl⟩
      obtain ⟨hwrw6, hkw6⟩ := set3 hr2 (.int .i64 1) (.int .i64 0) (.slice none 0 0)
      rw [← hw6] at hwrw6 hkw6
      have HE : Hid (ApPost B sp a w (.returned (.tuple #[.agg #[.int .i64 1, .int .i64 0, .slice none 0 0], .slice none 0 0])) w6) := Lib.hid
        (by rw [HD.out]; exact ⟨_, _, rfl, (HH2.out.wr hwrw6 hr2 (by decide) (by decide)).st, hwrw6.fresh HS2.out HNE.out.1, no_row _ _ _ _, no_row _ _ _ _⟩)
      have y0 := cell_of hr2 (j := 0) rfl
      have y1 := cell_of hr2 (j := 1) rfl
      have y2 := cell_of hr2 (j := 2) rfl
      have g0 := frozen_of_row w2 _ 0 _ _ hr2
      have g1 := frozen_of_row w2 _ 1 _ _ hr2
      have g2 := frozen_of_row w2 _ 2 _ _ hr2
      have z0 := cell_of hkw6 (j := 0) rfl
      have z1 := cell_of hkw6 (j := 1) rfl
      have z2 := cell_of hkw6 (j := 2) rfl
      have HW6 := Lib.hid hw6
      clear hw6 hwrw6 hkw6 hr2
      go_wp2_with fail
      rw [← HW6.out]
      exact bodyPost_ret (v := .tuple #[.agg #[.int .i64 1, .int .i64 0, .slice none 0 0], .slice none 0 0]) (by simp [results, Tryz.results16, go_sem, z0, z1, z2]) rfl HE.out
    | false =>
      have HG := Lib.hid (HGZ.out HBB.out)
      have HAP : Hid (a = Zs.doS ⟨zx, S.T, S.L, S.D⟩ t) := Lib.hid (by rw [← HA.out]; unfold Zs.app; rw [if_neg (by rw [HBB.out]; simp)])
      go_upto_region 4 with fail
      rw [← HW3.out]
      clear q0 q1 q2 q3 q4 q5 c0 g0
      by_cases h1 : t.k = 1
      · have t1 : (t.k == 1) = true := by simpa using h1
        obtain ⟨R, hR⟩ : ∃ R, Zs.opnS ⟨zx, S.T, S.L, S.D⟩ t.sp t.now = R := ⟨_, rfl⟩
        have HRR : Hid (R.2.2 = [] ∧ R.2.1.ps = []) := Lib.hid (by
          rw [← hR]; unfold Zs.opnS; refine ⟨rfl, ?_⟩
          dsimp only
          split <;> rfl)
        have HD : Hid (a = R) := Lib.hid (by rw [HAP.out, ← hR]; unfold Zs.doS; rw [if_pos h1])
        have HOP := Lib.hid (sopen_any HH3.out.st HG.out t At nt ct)
        rw [hR] at HOP
        clear hR h1
        go_wp2_with fail
        refine HOP.out.mono ?_
        rintro e w4 ⟨rfl, hst, hsk⟩
        have hr4 := hsk.blk HR3.out (by decide)
        obtain ⟨tp4, tmb4, lp4, lv4, mb4, h4⟩ := hst
        obtain ⟨w6, hw6⟩ : ∃ x, x = (((w4.setCell ⟨r, 0, none⟩ (.int .i64 R.2.1.c)).setCell ⟨r, 1, none⟩ (.int .i64 R.2.1.s)).setCell ⟨r, 2, none⟩ (.slice none 0 0)) := ⟨_, rfl⟩
        obtain ⟨hwrw6, hkw6⟩ := set3 hr4 (.int .i64 R.2.1.c) (.int .i64 R.2.1.s) (.slice none 0 0)
        rw [← hw6] at hwrw6 hkw6
        have HE : Hid (ApPost B sp a w (.returned (.tuple #[.agg #[.int .i64 R.2.1.c, .int .i64 R.2.1.s, .slice none 0 0], .slice none 0 0])) w6) := Lib.hid
          (by rw [HD.out]; exact ⟨_, _, rfl, (h4.wr hwrw6 hr4 (by decide) (by decide)).st, hwrw6.fresh (HS3.out.trans hsk) HNE.out.1, by rw [HRR.out.2]; exact no_row _ _ _ _, by rw [HRR.out.1]; exact no_row _ _ _ _⟩)
        have y0 := cell_of hr4 (j := 0) rfl
        have y1 := cell_of hr4 (j := 1) rfl
        have y2 := cell_of hr4 (j := 2) rfl
        have g0 := frozen_of_row w4 _ 0 _ _ hr4
        have g1 := frozen_of_row w4 _ 1 _ _ hr4
        have g2 := frozen_of_row w4 _ 2 _ _ hr4
        have z0 := cell_of hkw6 (j := 0) rfl
        have z1 := cell_of hkw6 (j := 1) rfl
        have z2 := cell_of hkw6 (j := 2) rfl
        have HW6 := Lib.hid hw6
        clear hw6 hwrw6 hkw6 hr4 h4 hsk
        go_wp2_with fail
        rw [← HW6.out]
        exact bodyPost_ret (v := .tuple #[.agg #[.int .i64 R.2.1.c, .int .i64 R.2.1.s, .slice none 0 0], .slice none 0 0]) (by simp [results, Tryz.results16, go_sem, z0, z1, z2]) rfl HE.out
      · have t1 : (t.k == 1) = false := by simpa using h1
        by_cases h2 : t.k = 2
        · have t2 : (t.k == 2) = true := by simpa using h2
          obtain ⟨K, hK⟩ : ∃ K, Le.ren S.L t.s t.now = K := ⟨_, rfl⟩
          have HD : Hid (a = (⟨zx, S.T, K.1, S.D⟩, Zs.er K.2, [])) := Lib.hid (by rw [HAP.out, ← hK]; unfold Zs.doS Zs.renS; rw [if_neg h1, if_pos h2])
          have HIS : Hid ((∀ x, (Le.has K.1 x).isSome = (Le.has S.L x).isSome) ∧ K.1.length = S.L.length) := Lib.hid (by rw [← hK]; exact ⟨fun x => (Zs.ren_is HG.out.L t.s t.now x).1, (Zs.ren_is HG.out.L t.s t.now 0).2⟩)
          have HRE := Lib.hid (Lq.renew_any (w := w3.drew) (HH3.out.below ((Below.refl w3.heap.size w3).drew)).tab (Nat.le_trans HBW.out HZ3.out) HG.out.L t.s t.now)
          dsimp only at HRE
          rw [hK] at HRE
          have HSX : Hid (∀ (W : World) (lv' : Value) (M : Le.Tb), SVw W B sp tp tmb lp lv' mb S.L ⟨zx, S.T, M, S.D⟩ → W.heap[q]? = some (.cells #[.int .i64 t.k, .int .i64 t.s, .int .i64 t.n, .int .i64 t.sp, .int .i64 t.now, .slice At nt ct] 46 (0, 0)) → (W.cell? ⟨sp, 2, none⟩ = some (.pointer (some ⟨lp, 0, none⟩)) ∧ W.cell? ⟨q, 1, none⟩ = some (.int .i64 t.s) ∧ W.cell? ⟨q, 4, none⟩ = some (.int .i64 t.now))) := Lib.hid (fun W lv' M h9 hq9 => ⟨cell_of h9.here (j := 2) rfl, cell_of hq9 (j := 1) rfl, cell_of hq9 (j := 4) rfl⟩)
          have HSK : Hid (∀ (W : World) (j : Nat) (v : Value), (W.cell? ⟨sp, 2, none⟩ = some (.pointer (some ⟨lp, 0, none⟩)) ∧ W.cell? ⟨q, 1, none⟩ = some (.int .i64 t.s) ∧ W.cell? ⟨q, 4, none⟩ = some (.int .i64 t.now)) → (fun W => W.cell? ⟨sp, 2, none⟩ = some (.pointer (some ⟨lp, 0, none⟩)) ∧ W.cell? ⟨q, 1, none⟩ = some (.int .i64 t.s) ∧ W.cell? ⟨q, 4, none⟩ = some (.int .i64 t.now)) (W.setCell ⟨r, j, none⟩ v)) := Lib.hid (fun W j v hS => by
            have n1 : r ≠ sp := fun e => by have := HR2.out; rw [e, HH2.out.here] at this; injection this with this; injection this with _ e2 _; exact absurd e2 (by decide)
            have kk : ∀ b o u, r ≠ b → W.cell? ⟨b, o, none⟩ = some u → (W.setCell ⟨r, j, none⟩ v).cell? ⟨b, o, none⟩ = some u := fun b o u hb hx => by rw [World.cell?_setCell_far _ _ _ _ hb]; exact hx
            exact ⟨kk _ _ _ n1 hS.1, kk _ _ _ (Ne.symm HNE.out.2) hS.2.1, kk _ _ _ (Ne.symm HNE.out.2) hS.2.2⟩)
          have hS0 := HSX.out w3.drew lv S.L (HH3.out.below ((Below.refl w3.heap.size w3).drew)) HQ3.out
          have t3 : ∀ k : Int, k ≠ 2 → (t.k == k) = false := fun k hk => by rw [h2]; simpa using Ne.symm hk
          clear hK h1 h2
          go_upto_region 8 with fail
          go_region_held3 (fun W => W.cell? ⟨sp, 2, none⟩ = some (.pointer (some ⟨lp, 0, none⟩)) ∧ W.cell? ⟨q, 1, none⟩ = some (.int .i64 t.s) ∧ W.cell? ⟨q, 4, none⟩ = some (.int .i64 t.now))
            (first
              | assumption
              | (with_reducible exact HSK.out _ _ _ (HSK.out _ _ _ (HSK.out _ _ _ (by assumption)))))
            (first
              | (go_at_call 43; (with_reducible refine HRE.out.mono ?_); rintro e w4 ⟨rfl, hk4⟩; obtain ⟨⟨lv4, h4⟩, hsk⟩ := (HH3.out.below ((Below.refl w3.heap.size w3).drew)).setL hk4; have hr4 := hsk.blk (w := w3.drew) HR3.out (by decide); have hq4 := hsk.blk (w := w3.drew) HQ3.out (by decide); have hS4 := HSX.out w4 lv4 K.1 h4 hq4; have y0 := cell_of hr4 (j := 0) rfl; have y1 := cell_of hr4 (j := 1) rfl; have y2 := cell_of hr4 (j := 2) rfl; have g0 := frozen_of_row w4 r 0 _ _ hr4; have g1 := frozen_of_row w4 r 1 _ _ hr4; have g2 := frozen_of_row w4 r 2 _ _ hr4))
          rename_i hHeld
          obtain ⟨w6, hw6⟩ : ∃ x, x = (((w4.setCell ⟨r, 0, none⟩ (.int .i64 K.2)).setCell ⟨r, 1, none⟩ (.int .i64 0)).setCell ⟨r, 2, none⟩ (.slice none 0 0)) := ⟨_, rfl⟩
          obtain ⟨hwrw6, hkw6⟩ := set3 hr4 (.int .i64 K.2) (.int .i64 0) (.slice none 0 0)
          rw [← hw6] at hwrw6 hkw6
          have HE : Hid (ApPost B sp a w (.returned (.tuple #[.agg #[.int .i64 K.2, .int .i64 0, .slice none 0 0], .slice none 0 0])) w6) := Lib.hid
            (by
              have h5 := h4.wr hwrw6 hr4 (by decide) (by decide)
              rw [HD.out]; exact ⟨_, _, rfl, ⟨tp, tmb, lp, lv4, mb, ⟨h5.here, h5.tree, h5.tab, h5.map.same HIS.out.1 HIS.out.2, h5.g1, h5.g2, h5.g3⟩⟩, hwrw6.fresh ((HS3.out.trans (SK.of_below ((Below.refl w3.heap.size w3).drew))).trans hsk) HNE.out.1, no_row _ _ _ _, no_row _ _ _ _⟩)
          have z0 := cell_of hkw6 (j := 0) rfl
          have z1 := cell_of hkw6 (j := 1) rfl
          have z2 := cell_of hkw6 (j := 2) rfl
          rw [← hw6]
          clear hHeld hS4 hS0 hw6 hwrw6 hkw6 hr4 hq4 h4 hsk hk4 y0 y1 y2 g0 g1 g2
          go_wp2_with fail
          exact bodyPost_ret (v := .tuple #[.agg #[.int .i64 K.2, .int .i64 0, .slice none 0 0], .slice none 0 0]) (by simp [results, Tryz.results16, go_sem, z0, z1, z2]) rfl HE.out
        · have t2 : (t.k == 2) = false := by simpa using h2
          by_cases h3 : t.k < 3 ∨ 5 < t.k
          · have t3 : (t.k == 3) = false := by have : t.k ≠ 3 := by omega
                                               simpa using this
            have t4 : (t.k == 4) = false := by have : t.k ≠ 4 := by omega
                                               simpa using this
            have t5 : (t.k == 5) = false := by have : t.k ≠ 5 := by omega
                                               simpa using this
            have HD : Hid (a = (⟨zx, S.T, S.L, S.D⟩, Zs.er 1, [])) := Lib.hid (by rw [HAP.out]; unfold Zs.doS; rw [if_neg h1, if_neg h2, if_pos h3])
            have hr3 := HR3.out
            clear h1 h2 h3
            obtain ⟨w6, hw6⟩ : ∃ x, x = (((w3.setCell ⟨r, 0, none⟩ (.int .i64 1)).setCell ⟨r, 1, none⟩ (.int .i64 0)).setCell ⟨r, 2, none⟩ (.slice none 0 0)) := ⟨_, rfl⟩
            obtain ⟨hwrw6, hkw6⟩ := set3 hr3 (.int .i64 1) (.int .i64 0) (.slice none 0 0)
            rw [← hw6] at hwrw6 hkw6
            have HE : Hid (ApPost B sp a w (.returned (.tuple #[.agg #[.int .i64 1, .int .i64 0, .slice none 0 0], .slice none 0 0])) w6) := Lib.hid
              (by rw [HD.out]; exact ⟨_, _, rfl, (HH3.out.wr hwrw6 hr3 (by decide) (by decide)).st, hwrw6.fresh HS3.out HNE.out.1, no_row _ _ _ _, no_row _ _ _ _⟩)
            have y0 := cell_of hr3 (j := 0) rfl
            have y1 := cell_of hr3 (j := 1) rfl
            have y2 := cell_of hr3 (j := 2) rfl
            have g0 := frozen_of_row w3 _ 0 _ _ hr3
            have g1 := frozen_of_row w3 _ 1 _ _ hr3
            have g2 := frozen_of_row w3 _ 2 _ _ hr3
            have z0 := cell_of hkw6 (j := 0) rfl
            have z1 := cell_of hkw6 (j := 1) rfl
            have z2 := cell_of hkw6 (j := 2) rfl
            have HW6 := Lib.hid hw6
            clear hw6 hwrw6 hkw6 hr3
            go_wp2_with fail
            rw [← HW6.out]
            exact bodyPost_ret (v := .tuple #[.agg #[.int .i64 1, .int .i64 0, .slice none 0 0], .slice none 0 0]) (by simp [results, Tryz.results16, go_sem, z0, z1, z2]) rfl HE.out
          · obtain ⟨R, hR⟩ : ∃ R, Zs.forS ⟨zx, S.T, S.L, S.D⟩ t = R := ⟨_, rfl⟩
            have HD : Hid (a = R) := Lib.hid (by rw [HAP.out, ← hR]; unfold Zs.doS; rw [if_neg h1, if_neg h2, if_neg h3])
            have HFO := Lib.hid (sfor_any (ct := ct) HH3.out.st HG.out t (by omega) HRD.out HP.out)
            rw [hR] at HFO
            have t345 : (t.k == 3) = true ∨ ((t.k == 3) = false ∧ (t.k == 4) = true) ∨ ((t.k == 3) = false ∧ (t.k == 4) = false ∧ (t.k == 5) = true) := by
              have : t.k = 3 ∨ t.k = 4 ∨ t.k = 5 := by omega
              rcases this with h | h | h
              · left; rw [h]; rfl
              · right; left; rw [h]; exact ⟨rfl, rfl⟩
              · right; right; rw [h]; exact ⟨rfl, rfl, rfl⟩
            clear hR h1 h2 h3
            rcases t345 with t3 | ⟨t3, t4⟩ | ⟨t3, t4, t5⟩
            all_goals
              go_wp2_with fail
              refine HFO.out.mono ?_
              rintro e w4 ⟨vp, ve, rfl, hst, hsk, ho1, ho2⟩
              have hr4 := hsk.blk HR3.out (by decide)
              obtain ⟨A1, c1, rfl, -, -, -⟩ := own_form ho1
              obtain ⟨A2, c2, rfl, -, -, -⟩ := own_form ho2
              obtain ⟨tp4, tmb4, lp4, lv4, mb4, h4⟩ := hst
              obtain ⟨w6, hw6⟩ : ∃ x, x = (((w4.setCell ⟨r, 0, none⟩ (.int .i64 R.2.1.c)).setCell ⟨r, 1, none⟩ (.int .i64 R.2.1.s)).setCell ⟨r, 2, none⟩ (.slice A1 R.2.1.ps.length c1)) := ⟨_, rfl⟩
              obtain ⟨hwrw6, hkw6⟩ := set3 hr4 (.int .i64 R.2.1.c) (.int .i64 R.2.1.s) (.slice A1 R.2.1.ps.length c1)
              rw [← hw6] at hwrw6 hkw6
              have HE : Hid (ApPost B sp a w (.returned (.tuple #[.agg #[.int .i64 R.2.1.c, .int .i64 R.2.1.s, .slice A1 R.2.1.ps.length c1], .slice A2 R.2.2.length c2])) w6) := Lib.hid
                (by rw [HD.out]; exact ⟨_, _, rfl, (h4.wr hwrw6 hr4 (by decide) (by decide)).st, hwrw6.fresh (HS3.out.trans hsk) HNE.out.1, own_base (hwrw6.own hr4 ho1 (by decide)) HZ3.out, own_base (hwrw6.own hr4 ho2 (by decide)) HZ3.out⟩)
              have y0 := cell_of hr4 (j := 0) rfl
              have y1 := cell_of hr4 (j := 1) rfl
              have y2 := cell_of hr4 (j := 2) rfl
              have g0 := frozen_of_row w4 _ 0 _ _ hr4
              have g1 := frozen_of_row w4 _ 1 _ _ hr4
              have g2 := frozen_of_row w4 _ 2 _ _ hr4
              have z0 := cell_of hkw6 (j := 0) rfl
              have z1 := cell_of hkw6 (j := 1) rfl
              have z2 := cell_of hkw6 (j := 2) rfl
              have HW6 := Lib.hid hw6
              clear hw6 hwrw6 hkw6 hr4 h4 hsk ho1 ho2
              go_wp2_with fail
              rw [← HW6.out]
              exact bodyPost_ret (v := .tuple #[.agg #[.int .i64 R.2.1.c, .int .i64 R.2.1.s, .slice A1 R.2.1.ps.length c1], .slice A2 R.2.2.length c2]) (by simp [results, Tryz.results16, go_sem, z0, z1, z2]) rfl HE.out
end Go.Proofs.YtflgemlhocjipaaGreatDoor
