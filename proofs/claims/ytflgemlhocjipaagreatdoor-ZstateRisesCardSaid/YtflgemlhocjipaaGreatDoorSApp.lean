/-
  What Apply of a state returns and leaves. Condition: the state is good.
-/
import Derived.Test.YtflgemlhocjipaaGreatDoorSApply
namespace Go.Proofs.YtflgemlhocjipaaGreatDoor
set_option maxRecDepth 100000
open Go.ChangeShapes Go.WideShapes Go.ChangeAt Go.RowKit Go.Proofs.Zn Go.Proofs.Zt
open Go.Proofs.Zs (St Lst Rep Tx)

set_option maxHeartbeats 4000000 in
theorem sapply_any {w : World} {B sp : Nat} {S : St} (h : StW w B sp S) (hg : Zs.Gd S) (zx : Int) (t : Tx) {At : Option Addr} {nt ct : Nat} (hrd : Rd ccell 6 w At nt t.l) (htg : Tg w B At nt) (hp : ∀ c ∈ t.l, ChOk c) :
    Calls Tryz.prog 16 #[.pointer (some ⟨sp, 0, none⟩), .int .i64 zx, .agg #[.int .i64 t.k, .int .i64 t.s, .int .i64 t.n, .int .i64 t.sp, .int .i64 t.now, .slice At nt ct]] w (ApPost B sp (Zs.app S zx t) w) := by
  obtain ⟨tp, tmb, lp, lv, mb, h⟩ := h
  obtain ⟨w2, hw2, hbw2, hkq, hkr, hsw2⟩ := two_box w (.cells #[.int .i64 t.k, .int .i64 t.s, .int .i64 t.n, .int .i64 t.sp, .int .i64 t.now, .slice At nt ct] 46) (.cells #[.int .i64 0, .int .i64 0, .slice none 0 0] 42)
  obtain ⟨q, eq⟩ : ∃ x, x = w.heap.size := ⟨_, rfl⟩
  obtain ⟨r, er⟩ : ∃ x, x = w.heap.size + 1 := ⟨_, rfl⟩
  rw [← eq] at hkq
  rw [← er] at hkr
  have h2 := h.below hbw2
  have hsz := hbw2.size
  have hne : w.heap.size ≤ r ∧ q ≠ r := by omega
  have hBw : B ≤ w.heap.size := by have := blk_lt h.here; have := h.g1; omega
  obtain ⟨h3, hs3⟩ := h2.setz zx
  obtain ⟨w3, hw3⟩ : ∃ x, x = w2.setCell ⟨sp, 0, none⟩ (.int .i64 zx) := ⟨_, rfl⟩
  rw [← hw3] at h3 hs3
  have c0 := cell_of h2.here (j := 0) rfl
  have g0 := frozen_of_row w2 sp 0 _ _ h2.here
  have hq3 := hs3.blk hkq (by decide)
  have hr3 := hs3.blk hkr (by decide)
  have hrd3 := (hrd.below hbw2).sk (htg.below hbw2) hs3
  have hs03 := (SK.of_below hbw2 : SK B w w2).trans hs3
  have k2 := cell_of h3.here (j := 2) rfl
  have q0 := cell_of hkq (j := 0) rfl
  have q1 := cell_of hkq (j := 1) rfl
  have q2 := cell_of hkq (j := 2) rfl
  have q3 := cell_of hkq (j := 3) rfl
  have q4 := cell_of hkq (j := 4) rfl
  have q5 := cell_of hkq (j := 5) rfl
  have p0 := cell_of hq3 (j := 0) rfl
  have p1 := cell_of hq3 (j := 1) rfl
  have p2 := cell_of hq3 (j := 2) rfl
  have p3 := cell_of hq3 (j := 3) rfl
  have p4 := cell_of hq3 (j := 4) rfl
  have p5 := cell_of hq3 (j := 5) rfl
  obtain ⟨a, ha⟩ : ∃ a, Zs.app S zx t = a := ⟨_, rfl⟩
  rw [ha]
  have hgz : ∀ _ : Zs.badZ S zx = false, Zs.Gd ⟨zx, S.T, S.L, S.D⟩ := fun hb => Zs.set_gd hg (by have := Zs.badZ_false hb; have := hg.z0; omega) (Zs.badZ_false hb).2
  obtain ⟨b1, hb1⟩ : ∃ b, decide (zx ≤ S.z) = b := ⟨_, rfl⟩
  obtain ⟨b2, hb2⟩ : ∃ b, decide (4611686018427387904 < zx) = b := ⟨_, rfl⟩
  have hbb : Zs.badZ S zx = (b1 || b2) := by rw [← hb1, ← hb2]; rfl
  have HA := Lib.hid ha
  have HBB := Lib.hid hbb
  have HGZ := Lib.hid hgz
  have HH2 := Lib.hid h2
  have HH3 := Lib.hid h3
  have HS2 : Hid (SK B w w2) := Lib.hid (.of_below hbw2)
  have HS3 := Lib.hid hs03
  have HR2 := Lib.hid hkr
  have HQ3 := Lib.hid hq3
  have HR3 := Lib.hid hr3
  have HNE := Lib.hid hne
  have HZ3 : Hid (w.heap.size ≤ w3.heap.size) := Lib.hid hs03.size
  have HBW := Lib.hid hBw
  have HRD := Lib.hid hrd3
  have HP := Lib.hid hp
  have HW2 := Lib.hid hw2
  have HW3 := Lib.hid hw3
  have EQ := Lib.hid eq
  have ER := Lib.hid er
  clear h h2 h3 hs3 hg hrd htg hrd3 hs03 hp ha hw2 hw3 eq er hbw2 hkq hkr hsw2 hsz hne hBw hq3 hr3 hgz hbb
  go_enter Tryz.func16, Tryz.ntmps16
  go_upto_region 1 with fail
  rw [← HW2.out, ← ER.out, ← EQ.out]
  cases b1 with
  | true =>
    have HD : Hid (a = (S, Zs.er 1, [])) := Lib.hid (by rw [← HA.out]; unfold Zs.app; rw [if_pos (by rw [HBB.out]; simp)])
    have hr2 := HR2.out
    obtain ⟨w6, hw6⟩ : ∃ x, x = (((w2.setCell ⟨r, 0, none⟩ (.int .i64 1)).setCell ⟨r, 1, none⟩ (.int .i64 0)).setCell ⟨r, 2, none⟩ (.slice none 0 0)) := ⟨_, rfl⟩
    obtain ⟨hwrw6, hkw6⟩ := set3 hr2 (.int .i64 1) (.int .i64 0) (.slice none 0 0)
    rw [← hw6] at hwrw6 hkw6
    have HE : Hid (ApPost B sp a w (.returned (.tuple #[.agg #[.int .i64 1, .int .i64 0, .slice none 0 0], .slice none 0 0])) w6) := Lib.hid
      (by rw [HD.out]; exact ⟨_, _, rfl, (HH2.out.wr hwrw6 hr2 (by decide) (by decide)).st, hwrw6.fresh HS2.out HNE.out.1, no_row _ _ _ _, no_row _ _ _ _⟩)
    have y0 := cell_of hr2 (j := 0) rfl
    have y1 := cell_of hr2 (j := 1) rfl
    have y2 := cell_of hr2 (j := 2) rfl
    have g0 := frozen_of_row w2 _ 0 _ _ hr2
    have g1 := frozen_of_row w2 _ 1 _ _ hr2
    have g2 := frozen_of_row w2 _ 2 _ _ hr2
    have z0 := cell_of hkw6 (j := 0) rfl
    have z1 := cell_of hkw6 (j := 1) rfl
    have z2 := cell_of hkw6 (j := 2) rfl
    have HW6 := Lib.hid hw6
    clear hw6 hwrw6 hkw6 hr2
    go_wp2_with fail
    rw [← HW6.out]
    exact bodyPost_ret (v := .tuple #[.agg #[.int .i64 1, .int .i64 0, .slice none 0 0], .slice none 0 0]) (by simp [results, Tryz.results16, go_sem, z0, z1, z2]) rfl HE.out
  | false =>
    cases b2 with
    | true =>
      have HD : Hid (a = (S, Zs.er 1, [])) := Lib.hid (by rw [← HA.out]; unfold Zs.app; rw [if_pos (by rw [HBB.out]; simp)])
      have hr2 := HR2.out
      obtain ⟨w6, hw6⟩ : ∃ x, x = (((w2.setCell ⟨r, 0, none⟩ (.int .i64 1)).setCell ⟨r, 1, none⟩ (.int .i64 0)).setCell ⟨r, 2, none⟩ (.slice none 0 0)) := ⟨_, rfl⟩
      obtain ⟨hwrw6, hkw6⟩ := set3 hr2 (.int .i64 1) (.int .i64 0) (.slice none 0 0)
      rw [← hw6] at hwrw6 hkw6
      have HE : Hid (ApPost B sp a w (.returned (.tuple #[.agg #[.int .i64 1, .int .i64 0, .slice none 0 0], .slice none 0 0])) w6) := Lib.hid
        (by rw [HD.out]; exact ⟨_, _, rfl, (HH2.out.wr hwrw6 hr2 (by decide) (by decide)).st, hwrw6.fresh HS2.out HNE.out.1, no_row _ _ _ _, no_row _ _ _ _⟩)
      have y0 := cell_of hr2 (j := 0) rfl
      have y1 := cell_of hr2 (j := 1) rfl
      have y2 := cell_of hr2 (j := 2) rfl
      have g0 := frozen_of_row w2 _ 0 _ _ hr2
      have g1 := frozen_of_row w2 _ 1 _ _ hr2
      have g2 := frozen_of_row w2 _ 2 _ _ hr2
      have z0 := cell_of hkw6 (j := 0) rfl
      have z1 := cell_of hkw6 (j := 1) rfl
      have z2 := cell_of hkw6 (j := 2) rfl
      have HW6 := Lib.hid hw6
      clear hw6 hwrw6 hkw6 hr2
      go_wp2_with fail
      rw [← HW6.out]
      exact bodyPost_ret (v := .tuple #[.agg #[.int .i64 1, .int .i64 0, .slice none 0 0], .slice none 0 0]) (by simp [results, Tryz.results16, go_sem, z0, z1, z2]) rfl HE.out
    | false =>
      have HG := Lib.hid (HGZ.out HBB.out)
      have HAP : Hid (a = Zs.doS ⟨zx, S.T, S.L, S.D⟩ t) := Lib.hid (by rw [← HA.out]; unfold Zs.app; rw [if_neg (by rw [HBB.out]; simp)])
      go_upto_region 4 with fail
      rw [← HW3.out]
      clear q0 q1 q2 q3 q4 q5 c0 g0
      by_cases h1 : t.k = 1
      · have t1 : (t.k == 1) = true := by simpa using h1
        obtain ⟨R, hR⟩ : ∃ R, Zs.opnS ⟨zx, S.T, S.L, S.D⟩ t.sp t.now = R := ⟨_, rfl⟩
        have HRR : Hid (R.2.2 = [] ∧ R.2.1.ps = []) := Lib.hid (by
          rw [← hR]; unfold Zs.opnS; refine ⟨rfl, ?_⟩
          dsimp only
          split <;> rfl)
        have HD : Hid (a = R) := Lib.hid (by rw [HAP.out, ← hR]; unfold Zs.doS; rw [if_pos h1])
        have HOP := Lib.hid (sopen_any HH3.out.st HG.out t At nt ct)
        rw [hR] at HOP
        clear hR h1
        go_wp2_with fail
        refine HOP.out.mono ?_
        rintro e w4 ⟨rfl, hst, hsk⟩
        have hr4 := hsk.blk HR3.out (by decide)
        obtain ⟨tp4, tmb4, lp4, lv4, mb4, h4⟩ := hst
        obtain ⟨w6, hw6⟩ : ∃ x, x = (((w4.setCell ⟨r, 0, none⟩ (.int .i64 R.2.1.c)).setCell ⟨r, 1, none⟩ (.int .i64 R.2.1.s)).setCell ⟨r, 2, none⟩ (.slice none 0 0)) := ⟨_, rfl⟩
        obtain ⟨hwrw6, hkw6⟩ := set3 hr4 (.int .i64 R.2.1.c) (.int .i64 R.2.1.s) (.slice none 0 0)
        rw [← hw6] at hwrw6 hkw6
        have HE : Hid (ApPost B sp a w (.returned (.tuple #[.agg #[.int .i64 R.2.1.c, .int .i64 R.2.1.s, .slice none 0 0], .slice none 0 0])) w6) := Lib.hid
          (by rw [HD.out]; exact ⟨_, _, rfl, (h4.wr hwrw6 hr4 (by decide) (by decide)).st, hwrw6.fresh (HS3.out.trans hsk) HNE.out.1, by rw [HRR.out.2]; exact no_row _ _ _ _, by rw [HRR.out.1]; exact no_row _ _ _ _⟩)
        have y0 := cell_of hr4 (j := 0) rfl
        have y1 := cell_of hr4 (j := 1) rfl
        have y2 := cell_of hr4 (j := 2) rfl
        have g0 := frozen_of_row w4 _ 0 _ _ hr4
        have g1 := frozen_of_row w4 _ 1 _ _ hr4
        have g2 := frozen_of_row w4 _ 2 _ _ hr4
        have z0 := cell_of hkw6 (j := 0) rfl
        have z1 := cell_of hkw6 (j := 1) rfl
        have z2 := cell_of hkw6 (j := 2) rfl
        have HW6 := Lib.hid hw6
        clear hw6 hwrw6 hkw6 hr4 h4 hsk
        go_wp2_with fail
        rw [← HW6.out]
        exact bodyPost_ret (v := .tuple #[.agg #[.int .i64 R.2.1.c, .int .i64 R.2.1.s, .slice none 0 0], .slice none 0 0]) (by simp [results, Tryz.results16, go_sem, z0, z1, z2]) rfl HE.out
      · have t1 : (t.k == 1) = false := by simpa using h1
        by_cases h2 : t.k = 2
        · have t2 : (t.k == 2) = true := by simpa using h2
          obtain ⟨K, hK⟩ : ∃ K, Le.ren S.L t.s t.now = K := ⟨_, rfl⟩
          have HD : Hid (a = (⟨zx, S.T, K.1, S.D⟩, Zs.er K.2, [])) := Lib.hid (by rw [HAP.out, ← hK]; unfold Zs.doS Zs.renS; rw [if_neg h1, if_pos h2])
          have HIS : Hid ((∀ x, (Le.has K.1 x).isSome = (Le.has S.L x).isSome) ∧ K.1.length = S.L.length) := Lib.hid (by rw [← hK]; exact ⟨fun x => (Zs.ren_is HG.out.L t.s t.now x).1, (Zs.ren_is HG.out.L t.s t.now 0).2⟩)
          have HRE := Lib.hid (Lq.renew_any (w := w3.drew) (HH3.out.below ((Below.refl w3.heap.size w3).drew)).tab (Nat.le_trans HBW.out HZ3.out) HG.out.L t.s t.now)
          dsimp only at HRE
          rw [hK] at HRE
          have HSX : Hid (∀ (W : World) (lv' : Value) (M : Le.Tb), SVw W B sp tp tmb lp lv' mb S.L ⟨zx, S.T, M, S.D⟩ → W.heap[q]? = some (.cells #[.int .i64 t.k, .int .i64 t.s, .int .i64 t.n, .int .i64 t.sp, .int .i64 t.now, .slice At nt ct] 46 (0, 0)) → (W.cell? ⟨sp, 2, none⟩ = some (.pointer (some ⟨lp, 0, none⟩)) ∧ W.cell? ⟨q, 1, none⟩ = some (.int .i64 t.s) ∧ W.cell? ⟨q, 4, none⟩ = some (.int .i64 t.now))) := Lib.hid (fun W lv' M h9 hq9 => ⟨cell_of h9.here (j := 2) rfl, cell_of hq9 (j := 1) rfl, cell_of hq9 (j := 4) rfl⟩)
          have HSK : Hid (∀ (W : World) (j : Nat) (v : Value), (W.cell? ⟨sp, 2, none⟩ = some (.pointer (some ⟨lp, 0, none⟩)) ∧ W.cell? ⟨q, 1, none⟩ = some (.int .i64 t.s) ∧ W.cell? ⟨q, 4, none⟩ = some (.int .i64 t.now)) → (fun W => W.cell? ⟨sp, 2, none⟩ = some (.pointer (some ⟨lp, 0, none⟩)) ∧ W.cell? ⟨q, 1, none⟩ = some (.int .i64 t.s) ∧ W.cell? ⟨q, 4, none⟩ = some (.int .i64 t.now)) (W.setCell ⟨r, j, none⟩ v)) := Lib.hid (fun W j v hS => by
            have n1 : r ≠ sp := fun e => by have := HR2.out; rw [e, HH2.out.here] at this; injection this with this; injection this with _ e2 _; exact absurd e2 (by decide)
            have kk : ∀ b o u, r ≠ b → W.cell? ⟨b, o, none⟩ = some u → (W.setCell ⟨r, j, none⟩ v).cell? ⟨b, o, none⟩ = some u := fun b o u hb hx => by rw [World.cell?_setCell_far _ _ _ _ hb]; exact hx
            exact ⟨kk _ _ _ n1 hS.1, kk _ _ _ (Ne.symm HNE.out.2) hS.2.1, kk _ _ _ (Ne.symm HNE.out.2) hS.2.2⟩)
          have hS0 := HSX.out w3.drew lv S.L (HH3.out.below ((Below.refl w3.heap.size w3).drew)) HQ3.out
          have t3 : ∀ k : Int, k ≠ 2 → (t.k == k) = false := fun k hk => by rw [h2]; simpa using Ne.symm hk
          clear hK h1 h2
          go_upto_region 8 with fail
          go_region_held3 (fun W => W.cell? ⟨sp, 2, none⟩ = some (.pointer (some ⟨lp, 0, none⟩)) ∧ W.cell? ⟨q, 1, none⟩ = some (.int .i64 t.s) ∧ W.cell? ⟨q, 4, none⟩ = some (.int .i64 t.now))
            (first
              | assumption
              | (with_reducible exact HSK.out _ _ _ (HSK.out _ _ _ (HSK.out _ _ _ (by assumption)))))
            (first
              | (go_at_call 43; (with_reducible refine HRE.out.mono ?_); rintro e w4 ⟨rfl, hk4⟩; obtain ⟨⟨lv4, h4⟩, hsk⟩ := (HH3.out.below ((Below.refl w3.heap.size w3).drew)).setL hk4; have hr4 := hsk.blk (w := w3.drew) HR3.out (by decide); have hq4 := hsk.blk (w := w3.drew) HQ3.out (by decide); have hS4 := HSX.out w4 lv4 K.1 h4 hq4; have y0 := cell_of hr4 (j := 0) rfl; have y1 := cell_of hr4 (j := 1) rfl; have y2 := cell_of hr4 (j := 2) rfl; have g0 := frozen_of_row w4 r 0 _ _ hr4; have g1 := frozen_of_row w4 r 1 _ _ hr4; have g2 := frozen_of_row w4 r 2 _ _ hr4))
          rename_i hHeld
          obtain ⟨w6, hw6⟩ : ∃ x, x = (((w4.setCell ⟨r, 0, none⟩ (.int .i64 K.2)).setCell ⟨r, 1, none⟩ (.int .i64 0)).setCell ⟨r, 2, none⟩ (.slice none 0 0)) := ⟨_, rfl⟩
          obtain ⟨hwrw6, hkw6⟩ := set3 hr4 (.int .i64 K.2) (.int .i64 0) (.slice none 0 0)
          rw [← hw6] at hwrw6 hkw6
          have HE : Hid (ApPost B sp a w (.returned (.tuple #[.agg #[.int .i64 K.2, .int .i64 0, .slice none 0 0], .slice none 0 0])) w6) := Lib.hid
            (by
              have h5 := h4.wr hwrw6 hr4 (by decide) (by decide)
              rw [HD.out]; exact ⟨_, _, rfl, ⟨tp, tmb, lp, lv4, mb, ⟨h5.here, h5.tree, h5.tab, h5.map.same HIS.out.1 HIS.out.2, h5.g1, h5.g2, h5.g3⟩⟩, hwrw6.fresh ((HS3.out.trans (SK.of_below ((Below.refl w3.heap.size w3).drew))).trans hsk) HNE.out.1, no_row _ _ _ _, no_row _ _ _ _⟩)
          have z0 := cell_of hkw6 (j := 0) rfl
          have z1 := cell_of hkw6 (j := 1) rfl
          have z2 := cell_of hkw6 (j := 2) rfl
          rw [← hw6]
          clear hHeld hS4 hS0 hw6 hwrw6 hkw6 hr4 hq4 h4 hsk hk4 y0 y1 y2 g0 g1 g2
          go_wp2_with fail
          exact bodyPost_ret (v := .tuple #[.agg #[.int .i64 K.2, .int .i64 0, .slice none 0 0], .slice none 0 0]) (by simp [results, Tryz.results16, go_sem, z0, z1, z2]) rfl HE.out
        · have t2 : (t.k == 2) = false := by simpa using h2
          by_cases h3 : t.k < 3 ∨ 5 < t.k
          · have t3 : (t.k == 3) = false := by have : t.k ≠ 3 := by omega
                                               simpa using this
            have t4 : (t.k == 4) = false := by have : t.k ≠ 4 := by omega
                                               simpa using this
            have t5 : (t.k == 5) = false := by have : t.k ≠ 5 := by omega
                                               simpa using this
            have HD : Hid (a = (⟨zx, S.T, S.L, S.D⟩, Zs.er 1, [])) := Lib.hid (by rw [HAP.out]; unfold Zs.doS; rw [if_neg h1, if_neg h2, if_pos h3])
            have hr3 := HR3.out
            clear h1 h2 h3
            obtain ⟨w6, hw6⟩ : ∃ x, x = (((w3.setCell ⟨r, 0, none⟩ (.int .i64 1)).setCell ⟨r, 1, none⟩ (.int .i64 0)).setCell ⟨r, 2, none⟩ (.slice none 0 0)) := ⟨_, rfl⟩
            obtain ⟨hwrw6, hkw6⟩ := set3 hr3 (.int .i64 1) (.int .i64 0) (.slice none 0 0)
            rw [← hw6] at hwrw6 hkw6
            have HE : Hid (ApPost B sp a w (.returned (.tuple #[.agg #[.int .i64 1, .int .i64 0, .slice none 0 0], .slice none 0 0])) w6) := Lib.hid
              (by rw [HD.out]; exact ⟨_, _, rfl, (HH3.out.wr hwrw6 hr3 (by decide) (by decide)).st, hwrw6.fresh HS3.out HNE.out.1, no_row _ _ _ _, no_row _ _ _ _⟩)
            have y0 := cell_of hr3 (j := 0) rfl
            have y1 := cell_of hr3 (j := 1) rfl
            have y2 := cell_of hr3 (j := 2) rfl
            have g0 := frozen_of_row w3 _ 0 _ _ hr3
            have g1 := frozen_of_row w3 _ 1 _ _ hr3
            have g2 := frozen_of_row w3 _ 2 _ _ hr3
            have z0 := cell_of hkw6 (j := 0) rfl
            have z1 := cell_of hkw6 (j := 1) rfl
            have z2 := cell_of hkw6 (j := 2) rfl
            have HW6 := Lib.hid hw6
            clear hw6 hwrw6 hkw6 hr3
            go_wp2_with fail
            rw [← HW6.out]
            exact bodyPost_ret (v := .tuple #[.agg #[.int .i64 1, .int .i64 0, .slice none 0 0], .slice none 0 0]) (by simp [results, Tryz.results16, go_sem, z0, z1, z2]) rfl HE.out
          · obtain ⟨R, hR⟩ : ∃ R, Zs.forS ⟨zx, S.T, S.L, S.D⟩ t = R := ⟨_, rfl⟩
            have HD : Hid (a = R) := Lib.hid (by rw [HAP.out, ← hR]; unfold Zs.doS; rw [if_neg h1, if_neg h2, if_neg h3])
            have HFO := Lib.hid (sfor_any (ct := ct) HH3.out.st HG.out t (by omega) HRD.out HP.out)
            rw [hR] at HFO
            have t345 : (t.k == 3) = true ∨ ((t.k == 3) = false ∧ (t.k == 4) = true) ∨ ((t.k == 3) = false ∧ (t.k == 4) = false ∧ (t.k == 5) = true) := by
              have : t.k = 3 ∨ t.k = 4 ∨ t.k = 5 := by omega
              rcases this with h | h | h
              · left; rw [h]; rfl
              · right; left; rw [h]; exact ⟨rfl, rfl⟩
              · right; right; rw [h]; exact ⟨rfl, rfl, rfl⟩
            clear hR h1 h2 h3
            rcases t345 with t3 | ⟨t3, t4⟩ | ⟨t3, t4, t5⟩
            all_goals
              go_wp2_with fail
              refine HFO.out.mono ?_
              rintro e w4 ⟨vp, ve, rfl, hst, hsk, ho1, ho2⟩
              have hr4 := hsk.blk HR3.out (by decide)
              obtain ⟨A1, c1, rfl, -, -, -⟩ := own_form ho1
              obtain ⟨A2, c2, rfl, -, -, -⟩ := own_form ho2
              obtain ⟨tp4, tmb4, lp4, lv4, mb4, h4⟩ := hst
              obtain ⟨w6, hw6⟩ : ∃ x, x = (((w4.setCell ⟨r, 0, none⟩ (.int .i64 R.2.1.c)).setCell ⟨r, 1, none⟩ (.int .i64 R.2.1.s)).setCell ⟨r, 2, none⟩ (.slice A1 R.2.1.ps.length c1)) := ⟨_, rfl⟩
              obtain ⟨hwrw6, hkw6⟩ := set3 hr4 (.int .i64 R.2.1.c) (.int .i64 R.2.1.s) (.slice A1 R.2.1.ps.length c1)
              rw [← hw6] at hwrw6 hkw6
              have HE : Hid (ApPost B sp a w (.returned (.tuple #[.agg #[.int .i64 R.2.1.c, .int .i64 R.2.1.s, .slice A1 R.2.1.ps.length c1], .slice A2 R.2.2.length c2])) w6) := Lib.hid
                (by rw [HD.out]; exact ⟨_, _, rfl, (h4.wr hwrw6 hr4 (by decide) (by decide)).st, hwrw6.fresh (HS3.out.trans hsk) HNE.out.1, own_base (hwrw6.own hr4 ho1 (by decide)) HZ3.out, own_base (hwrw6.own hr4 ho2 (by decide)) HZ3.out⟩)
              have y0 := cell_of hr4 (j := 0) rfl
              have y1 := cell_of hr4 (j := 1) rfl
              have y2 := cell_of hr4 (j := 2) rfl
              have g0 := frozen_of_row w4 _ 0 _ _ hr4
              have g1 := frozen_of_row w4 _ 1 _ _ hr4
              have g2 := frozen_of_row w4 _ 2 _ _ hr4
              have z0 := cell_of hkw6 (j := 0) rfl
              have z1 := cell_of hkw6 (j := 1) rfl
              have z2 := cell_of hkw6 (j := 2) rfl
              have HW6 := Lib.hid hw6
              clear hw6 hwrw6 hkw6 hr4 h4 hsk ho1 ho2
              go_wp2_with fail
              rw [← HW6.out]
              exact bodyPost_ret (v := .tuple #[.agg #[.int .i64 R.2.1.c, .int .i64 R.2.1.s, .slice A1 R.2.1.ps.length c1], .slice A2 R.2.2.length c2]) (by simp [results, Tryz.results16, go_sem, z0, z1, z2]) rfl HE.out
end Go.Proofs.YtflgemlhocjipaaGreatDoor
