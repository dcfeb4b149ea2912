/-
  What Apply of a state returns and leaves. Condition: the state is good.
  What the document's own Apply returns. Condition: memory holds a good state, and the changes; no path is very long.
  What ZstateRaw answers. Condition: memory holds the texts, none longer than it bears.
-/
import Derived.Test.YtflgemlhocjipaaGreatDoorSApp
import Derived.Test.YtflgemlhocjipaaGreatDoorSDoc3
import Derived.Test.YtflgemlhocjipaaGreatDoorSLoad
import Derived.Test.YtflgemlhocjipaaGreatDoorSStand
import Derived.Test.YtflgemlhocjipaaGreatDoorCheckP
import Derived.Test.YtflgemlhocjipaaGreatDoorLCheck
import Derived.Test.YtflgemlhocjipaaGreatDoorSFrame5
import Derived.Test.YtflgemlhocjipaaGreatDoorSDoc1
namespace Go.Proofs.YtflgemlhocjipaaGreatDoor
set_option maxRecDepth 100000
open Go.ChangeShapes Go.WideShapes Go.ChangeAt Go.RowKit Go.Proofs.Zn Go.Proofs.Zt
open Go.Proofs.Zs (St Lst Rep Tx)

set_option maxHeartbeats 4000000 in
theorem sapply_low {w : World} {B sp : Nat} {S : St} (h : StW w B sp S) (hg : Zs.Gd S) (zx : Int) (hz : zx ≤ S.z) (t : Tx) {At : Option Addr} {nt ct : Nat} (hrd : Rd ccell 6 w At nt t.l) (htg : Tg w B At nt) (hp : ∀ c ∈ t.l, ChOk c) :
    Calls Tryz.prog 16 #[.pointer (some ⟨sp, 0, none⟩), .int .i64 zx, .agg #[.int .i64 t.k, .int .i64 t.s, .int .i64 t.n, .int .i64 t.sp, .int .i64 t.now, .slice At nt ct]] w (ApPost B sp (Zs.app S zx t) w) := by
  obtain ⟨tp, tmb, lp, lv, mb, h⟩ := h
  obtain ⟨w2, hw2, hbw2, hkq, hkr, hsw2⟩ := two_box w (.cells #[.int .i64 t.k, .int .i64 t.s, .int .i64 t.n, .int .i64 t.sp, .int .i64 t.now, .slice At nt ct] 46) (.cells #[.int .i64 0, .int .i64 0, .slice none 0 0] 42)
  obtain ⟨q, eq⟩ : ∃ x, x = w.heap.size := ⟨_, rfl⟩
  obtain ⟨r, er⟩ : ∃ x, x = w.heap.size + 1 := ⟨_, rfl⟩
  rw [← eq] at hkq
  rw [← er] at hkr
  have h2 := h.below hbw2
  have hsz := hbw2.size
  have hne : w.heap.size ≤ r ∧ q ≠ r := by omega
  have hBw : B ≤ w.heap.size := by have := blk_lt h.here; have := h.g1; omega
  obtain ⟨h3, hs3⟩ := h2.setz zx
  obtain ⟨w3, hw3⟩ : ∃ x, x = w2.setCell ⟨sp, 0, none⟩ (.int .i64 zx) := ⟨_, rfl⟩
  rw [← hw3] at h3 hs3
  have c0 := cell_of h2.here (j := 0) rfl
  have g0 := frozen_of_row w2 sp 0 _ _ h2.here
  have hq3 := hs3.blk hkq (by decide)
  have hr3 := hs3.blk hkr (by decide)
  have hrd3 := (hrd.below hbw2).sk (htg.below hbw2) hs3
  have hs03 := (SK.of_below hbw2 : SK B w w2).trans hs3
  have k2 := cell_of h3.here (j := 2) rfl
  have q0 := cell_of hkq (j := 0) rfl
  have q1 := cell_of hkq (j := 1) rfl
  have q2 := cell_of hkq (j := 2) rfl
  have q3 := cell_of hkq (j := 3) rfl
  have q4 := cell_of hkq (j := 4) rfl
  have q5 := cell_of hkq (j := 5) rfl
  have p0 := cell_of hq3 (j := 0) rfl
  have p1 := cell_of hq3 (j := 1) rfl
  have p2 := cell_of hq3 (j := 2) rfl
  have p3 := cell_of hq3 (j := 3) rfl
  have p4 := cell_of hq3 (j := 4) rfl
  have p5 := cell_of hq3 (j := 5) rfl
  obtain ⟨a, ha⟩ : ∃ a, Zs.app S zx t = a := ⟨_, rfl⟩
  rw [ha]
  have hgz : ∀ _ : Zs.badZ S zx = false, Zs.Gd ⟨zx, S.T, S.L, S.D⟩ := fun hb => Zs.set_gd hg (by have := Zs.badZ_false hb; have := hg.z0; omega) (Zs.badZ_false hb).2
  obtain ⟨b1, hb1⟩ : ∃ b, decide (zx ≤ S.z) = b := ⟨_, rfl⟩
  obtain ⟨b2, hb2⟩ : ∃ b, decide (4611686018427387904 < zx) = b := ⟨_, rfl⟩
  have hbt : b1 = true := by rw [← hb1]; simpa using hz
  have HBT := Lib.hid hbt
  clear hbt
  have hbb : Zs.badZ S zx = (b1 || b2) := by rw [← hb1, ← hb2]; rfl
  have HA := Lib.hid ha
  have HBB := Lib.hid hbb
  have HGZ := Lib.hid hgz
  have HH2 := Lib.hid h2
  have HH3 := Lib.hid h3
  have HS2 : Hid (SK B w w2) := Lib.hid (.of_below hbw2)
  have HS3 := Lib.hid hs03
  have HR2 := Lib.hid hkr
  have HQ3 := Lib.hid hq3
  have HR3 := Lib.hid hr3
  have HNE := Lib.hid hne
  have HZ3 : Hid (w.heap.size ≤ w3.heap.size) := Lib.hid hs03.size
  have HBW := Lib.hid hBw
  have HRD := Lib.hid hrd3
  have HP := Lib.hid hp
  have HW2 := Lib.hid hw2
  have HW3 := Lib.hid hw3
  have EQ := Lib.hid eq
  have ER := Lib.hid er
  clear h h2 h3 hs3 hg hrd htg hrd3 hs03 hp ha hw2 hw3 eq er hbw2 hkq hkr hsw2 hsz hne hBw hq3 hr3 hgz hbb
  go_enter Tryz.func16, Tryz.ntmps16
  go_upto_region 1 with fail
  rw [← HW2.out, ← ER.out, ← EQ.out]
  cases b1 with
  | true =>
    have HD : Hid (a = (S, Zs.er 1, [])) := Lib.hid (by rw [← HA.out]; unfold Zs.app; rw [if_pos (by rw [HBB.out]; simp)])
    have hr2 := HR2.out
    obtain ⟨w6, hw6⟩ : ∃ x, x = (((w2.setCell ⟨r, 0, none⟩ (.int .i64 1)).setCell ⟨r, 1, none⟩ (.int .i64 0)).setCell ⟨r, 2, none⟩ (.slice none 0 0)) := ⟨_, rfl⟩
    obtain ⟨hwrw6, hkw6⟩ := set3 hr2 (.int .i64 1) (.int .i64 0) (.slice none 0 0)
    rw [← hw6] at hwrw6 hkw6
    have HE : Hid (ApPost B sp a w (.returned (.tuple #[.agg #[.int .i64 1, .int .i64 0, .slice none 0 0], .slice none 0 0])) w6) := Lib.hid
      (by rw [HD.out]; exact ⟨_, _, rfl, (HH2.out.wr hwrw6 hr2 (by decide) (by decide)).st, hwrw6.fresh HS2.out HNE.out.1, no_row _ _ _ _, no_row _ _ _ _⟩)
    have y0 := cell_of hr2 (j := 0) rfl
    have y1 := cell_of hr2 (j := 1) rfl
    have y2 := cell_of hr2 (j := 2) rfl
    have g0 := frozen_of_row w2 _ 0 _ _ hr2
    have g1 := frozen_of_row w2 _ 1 _ _ hr2
    have g2 := frozen_of_row w2 _ 2 _ _ hr2
    have z0 := cell_of hkw6 (j := 0) rfl
    have z1 := cell_of hkw6 (j := 1) rfl
    have z2 := cell_of hkw6 (j := 2) rfl
    have HW6 := Lib.hid hw6
    clear hw6 hwrw6 hkw6 hr2
    go_wp2_with fail
    rw [← HW6.out]
    exact bodyPost_ret (v := .tuple #[.agg #[.int .i64 1, .int .i64 0, .slice none 0 0], .slice none 0 0]) (by simp [results, Tryz.results16, go_sem, z0, z1, z2]) rfl HE.out
  | false => exact absurd HBT.out (by decide)
end Go.Proofs.YtflgemlhocjipaaGreatDoor
namespace Go.Proofs.YtflgemlhocjipaaGreatDoor
set_option maxRecDepth 100000
open Go.ChangeShapes Go.WideShapes Go.ChangeAt Go.RowKit Go.Proofs.Zn Go.Proofs.Zt
open Go.Proofs.Zs (St Lst Rep Tx)

set_option maxHeartbeats 8000000 in
theorem vapply_low {w : World} {B : Nat} {S : St} {vT vL vD : Value} (h : RW w B vT vL vD S) (hB : B ≤ w.heap.size) (hg : Zs.Gd S) (hD : S.D.length ≤ 10000) (zx : Int) (hz : zx ≤ S.z) (t : Tx) {At : Option Addr} {nt ct : Nat} (_hrd : Rd ccell 6 w At nt t.l) (_hp : ∀ c ∈ t.l, c.path.length ≤ 2097152) :
    Calls Tryz.prog 30 #[.agg #[.int .i64 S.z, vT, vL, vD], .int .i64 zx, .agg #[.int .i64 t.k, .int .i64 t.s, .int .i64 t.n, .int .i64 t.sp, .int .i64 t.now, .slice At nt ct]] w (RaPost B (Zs.app S zx t) w) := by
  obtain ⟨z, T, L, D⟩ := S
  have h00 := h
  obtain ⟨⟨AT, cT, rfl, hrT, htT⟩, ⟨AL, cL, rfl, hrL⟩, ⟨AD, cD, l, rfl, hrD, hlD⟩⟩ := h
  dsimp only at *
  subst hlD
  have hDm := hD
  rw [List.length_map] at hD
  obtain ⟨w4, hw4, hbw4, hkq, hkp, hkr, hks, hsw4⟩ := four_box w (.cells #[.int .i64 z, .slice AT T.length cT, .slice AL L.length cL, .slice AD l.length cD] 31) (.cells #[.int .i64 t.k, .int .i64 t.s, .int .i64 t.n, .int .i64 t.sp, .int .i64 t.now, .slice At nt ct] 38) (.cells #[.int .i64 0, .slice none 0 0, .slice none 0 0, .slice none 0 0] 31) (.cells #[.int .i64 0, .int .i64 0, .slice none 0 0] 50)
  obtain ⟨q, eq⟩ : ∃ xx, xx = w.heap.size := ⟨_, rfl⟩
  obtain ⟨p, ep⟩ : ∃ xx, xx = w.heap.size + 1 := ⟨_, rfl⟩
  obtain ⟨r, er⟩ : ∃ xx, xx = w.heap.size + 1 + 1 := ⟨_, rfl⟩
  obtain ⟨s, es⟩ : ∃ xx, xx = w.heap.size + 1 + 1 + 1 := ⟨_, rfl⟩
  rw [← eq] at hkq
  rw [← ep] at hkp
  rw [← er] at hkr
  rw [← es] at hks
  have hne : w.heap.size ≤ q ∧ w.heap.size ≤ r ∧ w.heap.size ≤ s ∧ q ≠ r ∧ q ≠ s ∧ r ≠ s := by omega
  obtain ⟨a, ha⟩ : ∃ a, Zs.app ⟨z, T, L, l.map lvL⟩ zx t = a := ⟨_, rfl⟩
  rw [ha]
  have HRW : Hid (∀ (zz : Int) (W : World), Below w.heap.size w W → RW W B (.slice AT T.length cT) (.slice AL L.length cL) (.slice AD l.length cD) ⟨zz, T, L, l.map lvL⟩) := Lib.hid (fun zz W hW => ⟨h00.tree.sk (.of_below hW), DV.sk h00.tab (.of_below hW), h00.last.sk (.of_below hW)⟩)
  have HGZ : Hid (Zs.badZ ⟨z, T, L, l.map lvL⟩ zx = false → Zs.Gd ⟨zx, T, L, l.map lvL⟩) := Lib.hid (fun hb => by
    have h1 := Zs.badZ_false hb
    have h2 : 0 ≤ z := hg.z0
    exact Zs.set_gd hg (by have : z < zx := h1.1; omega) h1.2)
  have HGL : Hid (Le.Good L) := Lib.hid hg.L
  have HBQ : Hid (B ≤ q ∧ B ≤ r ∧ B ≤ s ∧ B ≤ w.heap.size) := Lib.hid (by omega)
  have HB4 := Lib.hid hbw4
  have HNE := Lib.hid hne
  have HA := Lib.hid ha
  have HW4 := Lib.hid hw4
  have EQ := Lib.hid eq
  have EP := Lib.hid ep
  have ER := Lib.hid er
  have ES := Lib.hid es
  have HQ4 := Lib.hid hkq
  have HP4 := Lib.hid hkp
  have HR4 := Lib.hid hkr
  have HS4 := Lib.hid hks
  have HPN : Hid (p ≠ q ∧ p ≠ r ∧ p ≠ s) := Lib.hid (by omega)
  obtain ⟨nT, hnT⟩ : ∃ n, T.length = n := ⟨_, rfl⟩
  obtain ⟨nL, hnL⟩ : ∃ n, L.length = n := ⟨_, rfl⟩
  obtain ⟨nD, hnD⟩ : ∃ n, l.length = n := ⟨_, rfl⟩
  rw [hnT, hnL, hnD] at HW4 hkq HQ4 HRW ⊢
  obtain ⟨b1, hb1⟩ : ∃ b, decide (zx ≤ z) = b := ⟨_, rfl⟩
  obtain ⟨b2, hb2⟩ : ∃ b, decide (4611686018427387904 < zx) = b := ⟨_, rfl⟩
  have hbt : b1 = true := by rw [← hb1]; simpa using hz
  have HBT := Lib.hid hbt
  clear hbt
  have HBZ : Hid (Zs.badZ ⟨z, T, L, l.map lvL⟩ zx = (b1 || b2)) := Lib.hid (by rw [← hb1, ← hb2]; rfl)
  have q0 := cell_of hkq (j := 0) rfl
  have q1 := cell_of hkq (j := 1) rfl
  have q2 := cell_of hkq (j := 2) rfl
  have q3 := cell_of hkq (j := 3) rfl
  have p0 := cell_of hkp (j := 0) rfl
  have p1 := cell_of hkp (j := 1) rfl
  have p2 := cell_of hkp (j := 2) rfl
  have p3 := cell_of hkp (j := 3) rfl
  have p4 := cell_of hkp (j := 4) rfl
  have p5 := cell_of hkp (j := 5) rfl
  have g0 := frozen_of_row w4 q 0 _ _ hkq
  clear h00 hB hg hD hDm hrT htT hrL hrD hw4 eq er ep es hbw4 hkq hkr hkp hks hne ha hnT hnL hnD hsw4
  go_enter Tryz.func30, Tryz.ntmps30
  go_upto_region 1 with fail
  rw [← HW4.out, ← ES.out, ← ER.out, ← EP.out, ← EQ.out]
  cases b1 with
  | true =>
    have HD : Hid (a = (⟨z, T, L, l.map lvL⟩, Zs.er 1, [])) := Lib.hid (by rw [← HA.out]; unfold Zs.app; rw [if_pos (by rw [HBZ.out]; simp)])
    have HRA := Lib.hid (HRW.out z w4 HB4.out)
    have HPS := Lib.hid (PsW.nil w4 B)
    have HEV := Lib.hid (EvW.nil w4 B)
    have hnrp := HNE.out.2.2.2.2.2
    have hnpr := Ne.symm hnrp
    have lr6 := HR4.out
    have ls6 := HS4.out
    obtain ⟨y7, hy7⟩ : ∃ xx, xx = ((((w4.setCell ⟨r, 0, none⟩ (.int .i64 z)).setCell ⟨r, 1, none⟩ (.slice AT nT cT)).setCell ⟨r, 2, none⟩ (.slice AL nL cL)).setCell ⟨r, 3, none⟩ (.slice AD nD cD)) := ⟨_, rfl⟩
    obtain ⟨hwry7, hky7⟩ := set4 lr6 (.int .i64 z) (.slice AT nT cT) (.slice AL nL cL) (.slice AD nD cD)
    rw [← hy7] at hwry7 hky7
    have ls7 := hwry7.blk hnpr ls6
    obtain ⟨y8, hy8⟩ : ∃ xx, xx = (((y7.setCell ⟨s, 0, none⟩ (.int .i64 1)).setCell ⟨s, 1, none⟩ (.int .i64 0)).setCell ⟨s, 2, none⟩ (.slice none 0 0)) := ⟨_, rfl⟩
    obtain ⟨hwry8, hky8⟩ := set3 ls7 (.int .i64 1) (.int .i64 0) (.slice none 0 0)
    rw [← hy8] at hwry8 hky8
    have lr8 := hwry8.blk hnrp hky7
    have lB8 : Below w.heap.size w y8 := (HB4.out.trans (hwry7.below.mono HNE.out.2.1)).trans (hwry8.below.mono HNE.out.2.2.1)
    have HE : Hid (RaPost B a w (.returned (.tuple #[.agg #[.int .i64 z, .slice AT nT cT, .slice AL nL cL, .slice AD nD cD], .agg #[.int .i64 1, .int .i64 0, .slice none 0 0], .slice none 0 0])) y8) := Lib.hid
      (by rw [HD.out]; exact ⟨_, _, _, _, _, rfl, (HRA.out.wr hwry7 HBQ.out.2.1 lr6 (by decide)).wr hwry8 HBQ.out.2.2.1 ls7 (by decide), (HPS.out.wr hwry7 HBQ.out.2.1 lr6 (by decide)).wr hwry8 HBQ.out.2.2.1 ls7 (by decide), (HEV.out.wr hwry7 HBQ.out.2.1 lr6 (by decide)).wr hwry8 HBQ.out.2.2.1 ls7 (by decide), lB8⟩)
    have la0 := cell_of lr6 (j := 0) rfl
    have la1 := cell_of lr6 (j := 1) rfl
    have la2 := cell_of lr6 (j := 2) rfl
    have la3 := cell_of lr6 (j := 3) rfl
    have lb0 := frozen_of_row w4 _ 0 _ _ lr6
    have lb1 := frozen_of_row w4 _ 1 _ _ lr6
    have lb2 := frozen_of_row w4 _ 2 _ _ lr6
    have lb3 := frozen_of_row w4 _ 3 _ _ lr6
    have lc0 := cell_of ls6 (j := 0) rfl
    have lc1 := cell_of ls6 (j := 1) rfl
    have lc2 := cell_of ls6 (j := 2) rfl
    have ld0 := frozen_of_row w4 _ 0 _ _ ls6
    have ld1 := frozen_of_row w4 _ 1 _ _ ls6
    have ld2 := frozen_of_row w4 _ 2 _ _ ls6
    have le0 := cell_of lr8 (j := 0) rfl
    have le1 := cell_of lr8 (j := 1) rfl
    have le2 := cell_of lr8 (j := 2) rfl
    have le3 := cell_of lr8 (j := 3) rfl
    have lf0 := cell_of hky8 (j := 0) rfl
    have lf1 := cell_of hky8 (j := 1) rfl
    have lf2 := cell_of hky8 (j := 2) rfl
    have HY7 := Lib.hid hy7
    have HY8 := Lib.hid hy8
    clear lr6 ls6 hy7 hwry7 hky7 ls7 hy8 hwry8 hky8 lr8 lB8
    go_wp2_with fail
    rw [← HY7.out, ← HY8.out]
    exact bodyPost_ret (v := .tuple #[.agg #[.int .i64 z, .slice AT nT cT, .slice AL nL cL, .slice AD nD cD], .agg #[.int .i64 1, .int .i64 0, .slice none 0 0], .slice none 0 0]) (by simp [results, Tryz.results30, go_sem, le0, le1, le2, le3, lf0, lf1, lf2]) rfl HE.out
  | false => exact absurd HBT.out (by decide)
end Go.Proofs.YtflgemlhocjipaaGreatDoor
namespace Go.Proofs.YtflgemlhocjipaaGreatDoor
set_option maxRecDepth 100000
open Go.ChangeShapes Go.WideShapes Go.ChangeAt Go.RowKit Go.Proofs.Zn Go.Proofs.Zt
open Go.Proofs.Zs (St Lst Rep Tx)
open Pq (Fld FReads Reads fcs errL bytL)

theorem seen_mem {D : List Lst} {L : Le.Tb} {y : Lst} (h : y ∈ seenD D L) : ∃ x ∈ L, 0 < (Zs.fd D x.i).n ∧ y = ⟨x.i, (Zs.fd D x.i).n, (Zs.fd D x.i).r⟩ := by
  unfold seenD at h
  obtain ⟨x, hx, he⟩ := List.mem_filterMap.1 h
  split at he
  · rename_i h1
    exact ⟨x, hx, h1, (Option.some.inj he).symm⟩
  · cases he
theorem seen_all {S : St} (hg : Zs.Gd S) (a : Int) : Zs.fd (seenD S.D S.L) a = Zs.fd S.D a := by
  by_cases h : ∃ x ∈ S.L, x.i = a
  · obtain ⟨x, hx, rfl⟩ := h
    exact seen_fd hg hx
  · have h1 : Zs.lk S.D a = none := Zs.lk_none.2 (fun y hy e => by
      have := hg.mem y hy
      rw [e] at this
      exact h (Zs.is_iff.1 this))
    have h2 : Zs.lk (seenD S.D S.L) a = none := Zs.lk_none.2 (fun y hy e => by
      obtain ⟨x, hx, -, rfl⟩ := seen_mem hy
      exact h ⟨x, hx, e⟩)
    rw [Zs.fd_zero h1, Zs.fd_zero h2]
theorem seen_gd {S : St} (hg : Zs.Gd S) : Zs.Gd ⟨S.z, S.T, S.L, seenD S.D S.L⟩ := ⟨hg.z0, hg.z1, hg.T, hg.L, fun y hy => by
    obtain ⟨x, hx, -, rfl⟩ := seen_mem hy
    exact Zs.is_iff.2 ⟨x, hx, rfl⟩, fun y hy => by
    obtain ⟨x, hx, hp, rfl⟩ := seen_mem hy
    cases hk : Zs.lk S.D x.i with
    | none => rw [Zs.fd_zero hk] at hp; exact absurd hp (Int.lt_irrefl 0)
    | some z =>
      dsimp only
      rw [Zs.fd_some hk]
      exact hg.ps z (Zs.lk_some hk).1⟩
theorem stw_seen {w : World} {B sp : Nat} {S : St} (h : StW w B sp S) (hg : Zs.Gd S) : StW w B sp ⟨S.z, S.T, S.L, seenD S.D S.L⟩ := by
  obtain ⟨tp, tmb, lp, lv, mb, h⟩ := h
  refine ⟨tp, tmb, lp, lv, mb, h.here, h.tree, h.tab, ?_, h.g1, h.g2, h.g3⟩
  obtain ⟨M, h1, h2, h3, h4⟩ := h.map
  refine ⟨M, h1, h2, h3, fun a => ?_⟩
  dsimp only
  rw [seen_all hg a]
  exact h4 a
set_option maxHeartbeats 8000000 in
theorem raw_law {w : World} {A : Option Addr} {n c : Nat} {l : List Txt} (hR : Rd scell 1 w A n l) (hnc : n ≤ c) (hl : ∀ s ∈ l, s.length ≤ maxLen) :
    Calls Tryz.prog 7 #[.slice A n c] w fun e w' => e = .returned (.bool true) ∧ Below w.heap.size w w' := by
  have HR := Lib.hid hR
  have HL := Lib.hid hl
  have HAL := Lib.hid (fun W => alive_any W)
  clear hR hl
  by_cases hn : 400 < n
  · have hni : decide ((400 : Int) < (n : Int)) = true := by simpa using (by omega : (400 : Int) < (n : Int))
    have hnn : decide (400 < n) = true := by simpa using hn
    clear hn
    go_enter Tryz.func7, Tryz.ntmps7
    go_wp2_with fail
    refine (HAL.out w).mono ?_
    rintro e w1 ⟨rfl, hb1⟩
    have HB1 := Lib.hid hb1
    clear hb1
    go_wp2_with fail
    go_ret
    exact ⟨rfl, HB1.out⟩
  · have hni : decide ((400 : Int) < (n : Int)) = false := by simpa using (by omega : ¬ (400 : Int) < (n : Int))
    have hnn : decide (400 < n) = false := by simpa using hn
    have HLD := Lib.hid (sload_any HR.out (by omega) hnc HL.out)
    clear hn
    go_enter Tryz.func7, Tryz.ntmps7
    go_wp2_with fail
    refine HLD.out.mono ?_
    rintro e w2 ⟨hb2, hc⟩
    have HB2 := Lib.hid hb2
    clear hb2
    rcases hc with rfl | ⟨sp, S0, rfl, hst0, hg0⟩
    · go_wp2_with fail
      refine (HAL.out w2).mono ?_
      rintro e w1 ⟨rfl, hb1⟩
      have HB1 : Hid (Below w.heap.size w w1) := Lib.hid (HB2.out.trans (hb1.mono HB2.out.size))
      clear hb1
      go_wp2_with fail
      go_ret
      exact ⟨rfl, HB1.out⟩
    · have HSN := Lib.hid (seen_any2 hst0 hg0)
      have hgg := seen_gd hg0
      have hss := stw_seen hst0 hg0
      unfold SePost2 at HSN
      obtain ⟨S, hS⟩ : ∃ S : St, (⟨S0.z, S0.T, S0.L, seenD S0.D S0.L⟩ : St) = S := ⟨_, rfl⟩
      have hSD : S.D.length ≤ 100 := by
        rw [← hS]
        exact Nat.le_trans (seen_len _ _) hg0.L.len
      have e1 : S0.z = S.z := by rw [← hS]
      have e2 : S0.T = S.T := by rw [← hS]
      rw [hS, e1, e2] at HSN
      rw [hS] at hgg hss
      have HG := Lib.hid hgg
      have HST := Lib.hid hss
      have HDL := Lib.hid hSD
      clear hst0 hg0 hgg hss hSD hS e1 e2
      obtain ⟨z, hz⟩ : ∃ z, S.z = z := ⟨_, rfl⟩
      have HZ := Lib.hid hz
      rw [hz] at HSN
      clear hz
      go_wp2_with fail
      refine HSN.out.mono ?_
      rintro e w3 ⟨A1, c1, vL, vD, rfl, hrw, hcap, hb3⟩
      obtain ⟨nT, hnT⟩ : ∃ n, S.T.length = n := ⟨_, rfl⟩
      rw [hnT] at hrw hcap ⊢
      obtain ⟨A2, c2, rfl, hrd2⟩ := id hrw.tab
      obtain ⟨A3, c3, l3, rfl, -, hl3⟩ := id hrw.last
      obtain ⟨nL, hnL⟩ : ∃ n, S.L.length = n := ⟨_, rfl⟩
      obtain ⟨nD, hnD⟩ : ∃ n, l3.length = n := ⟨_, rfl⟩
      rw [hnL, hnD] at hrw ⊢
      obtain ⟨w4, hw4⟩ : ∃ xx, xx = w3.alloc (.cells #[.int .i64 z, .slice A1 nT c1, .slice A2 nL c2, .slice A3 nD c3] 31) := ⟨_, rfl⟩
      obtain ⟨q, eq⟩ : ∃ xx, xx = w3.heap.size := ⟨_, rfl⟩
      have hbw4 : Below w3.heap.size w3 w4 := by rw [hw4]; exact box_below w3 _
      have hkq : w4.heap[q]? = some (.cells #[.int .i64 z, .slice A1 nT c1, .slice A2 nL c2, .slice A3 nD c3] 31 (0, 0)) := by rw [hw4, eq]; exact new_block w3 _
      have HRW := Lib.hid (hrw.below hbw4)
      have HST4 := Lib.hid ((HST.out.below hb3).below hbw4)
      have HB4 : Hid (Below w.heap.size w w4) := Lib.hid ((HB2.out.trans (hb3.mono HB2.out.size)).trans (hbw4.mono (Nat.le_trans HB2.out.size hb3.size)))
      have HK := Lib.hid hkq
      have HCP := Lib.hid hcap
      have HW4 := Lib.hid hw4
      have EQ := Lib.hid eq
      clear hrw hcap hb3 hrd2 hl3 hw4 eq hbw4 hkq
      go_upto_region 9 with fail
      rw [← HW4.out, ← EQ.out]
      have hk := HK.out
      have q0 := cell_of hk (j := 0) rfl
      have q1 := cell_of hk (j := 1) rfl
      have q2 := cell_of hk (j := 2) rfl
      have q3 := cell_of hk (j := 3) rfl
      clear hk
      have HCK1 := Lib.hid (rcheck_any (w := w4) (A := A1) (n := nT) (c := c1) (l := S.T) (by
        obtain ⟨A9, c9, e9, hr9, -⟩ := HRW.out.tree
        injection e9 with e9 _ _
        rw [e9]
        rw [hnT] at hr9
        exact hr9) HCP.out.1 (by have := HCP.out.2; unfold maxLen at this; omega) (by rw [← hnT]; exact Nat.le_trans HG.out.T.len (by decide)) (fun z hz => by have := len_le (HG.out.T.each z hz).path; omega))
      rw [chk_good HG.out.T] at HCK1
      have HCK2 : Hid (∀ W, Below w4.heap.size w4 W → Calls Tryz.prog 29 #[.slice A2 nL c2] W fun e w' => e = .returned (.int .i64 0) ∧ Below W.heap.size W w') := Lib.hid (fun W hW => by
        obtain ⟨A9, c9, e9, hr9⟩ := HRW.out.tab
        injection e9 with e9 _ _
        rw [e9]
        have h := Lq.rcheck_any (c := c2) ((hr9.rd.below hW)) (Nat.le_trans HG.out.L.len (by decide))
        rw [hnL] at h
        refine h.mono ?_
        rintro e w' ⟨h1, h2⟩
        rcases h1 with ⟨_, rfl⟩ | ⟨h3, _⟩
        · exact ⟨rfl, h2⟩
        · exact absurd HG.out.L h3)
      have HNT := Lib.hid hnT
      clear hnT hnL hnD
      go_wp2_with fail
      refine HCK1.out.mono ?_
      rintro e w5 ⟨rfl, hb5⟩
      have HB5 := Lib.hid hb5
      have q2' := cell_of (blk_below HK.out hb5) (j := 2) rfl
      clear q0 q1 q2 q3 hb5
      go_wp2_with fail
      refine (HCK2.out w5 HB5.out).mono ?_
      rintro e w6 ⟨rfl, hb6⟩
      have HB6 : Hid (Below w4.heap.size w4 w6) := Lib.hid (HB5.out.trans (hb6.mono HB5.out.size))
      have hk6 := blk_below HK.out HB6.out
      have q0 := cell_of hk6 (j := 0) rfl
      have q1 := cell_of hk6 (j := 1) rfl
      have q2 := cell_of hk6 (j := 2) rfl
      have q3 := cell_of hk6 (j := 3) rfl
      have HVA := Lib.hid (vapply_low (B := w.heap.size) (HRW.out.below HB6.out) (Nat.le_trans HB4.out.size HB6.out.size) HG.out (Nat.le_trans HDL.out (by decide)) S.z (Int.le_refl _) ⟨3, 0, 0, 0, 0, []⟩ (At := none) (nt := 0) (ct := 0) (Rd.nil _ _ _ _) (by simp))
      have happ : Zs.app S S.z ⟨3, 0, 0, 0, 0, []⟩ = (S, Zs.er 1, []) := by
        unfold Zs.app
        rw [if_pos (by unfold Zs.badZ; simp)]
      rw [happ, HZ.out] at HVA
      have HAPP := Lib.hid happ
      clear q2' hb6 hk6 happ
      go_wp2_with fail
      refine HVA.out.mono ?_
      rintro e w7 ⟨vT, vL, vD, vp, ve, rfl, hrw7, hps7, hev7, hb7⟩
      dsimp only [Zs.er] at hps7 hev7 ⊢
      rw [HZ.out]
      obtain ⟨Ap, cp, rfl, hrp, -⟩ := id hps7
      obtain ⟨Ae, ce, rfl, -, -⟩ := id hev7
      obtain ⟨B1, d1, rfl, -, -⟩ := id hrw7.tree
      obtain ⟨B2, d2, rfl, -⟩ := id hrw7.tab
      obtain ⟨B3, d3, l7, rfl, -, -⟩ := id hrw7.last
      simp only [List.length_nil] at hps7 hev7 hrp ⊢
      obtain ⟨mT, hmT⟩ : ∃ n, S.T.length = n := ⟨_, rfl⟩
      obtain ⟨mL, hmL⟩ : ∃ n, S.L.length = n := ⟨_, rfl⟩
      obtain ⟨mD, hmD⟩ : ∃ n, l7.length = n := ⟨_, rfl⟩
      rw [hmT, hmL, hmD] at hrw7 ⊢
      obtain ⟨w8, hw8⟩ : ∃ xx, xx = w7.alloc (.cells #[.int .i64 z, .slice B1 mT d1, .slice B2 mL d2, .slice B3 mD d3] 31) := ⟨_, rfl⟩
      obtain ⟨y, ey⟩ : ∃ xx, xx = w7.heap.size := ⟨_, rfl⟩
      have hbw8 : Below w7.heap.size w7 w8 := by rw [hw8]; exact box_below w7 _
      have hky : w8.heap[y]? = some (.cells #[.int .i64 z, .slice B1 mT d1, .slice B2 mL d2, .slice B3 mD d3] 31 (0, 0)) := by rw [hw8, ey]; exact new_block w7 _
      obtain ⟨w9, hw9⟩ : ∃ xx, xx = w8.alloc (.cells #[.int .i64 1, .int .i64 0, .slice Ap 0 cp] 50) := ⟨_, rfl⟩
      obtain ⟨u, eu⟩ : ∃ xx, xx = w8.heap.size := ⟨_, rfl⟩
      have hbw9 : Below w8.heap.size w8 w9 := by rw [hw9]; exact box_below w8 _
      have hku : w9.heap[u]? = some (.cells #[.int .i64 1, .int .i64 0, .slice Ap 0 cp] 50 (0, 0)) := by rw [hw9, eu]; exact new_block w8 _
      have HRW8 := Lib.hid ((hrw7.below hbw8).below hbw9)
      have hX7 : Below w4.heap.size w4 w7 := HB6.out.trans (hb7.mono HB6.out.size)
      have hX9 : Below w4.heap.size w4 w9 := (hX7.trans (hbw8.mono hX7.size)).trans (hbw9.mono (Nat.le_trans hX7.size hbw8.size))
      have HX9 := Lib.hid hX9
      have HY := Lib.hid (blk_below hky hbw9)
      have HU := Lib.hid hku
      have hk9 := blk_below HK.out hX9
      have q0 := cell_of hk9 (j := 0) rfl
      have q1 := cell_of hk9 (j := 1) rfl
      have q2 := cell_of hk9 (j := 2) rfl
      have q3 := cell_of hk9 (j := 3) rfl
      have HSA := Lib.hid (sapply_low (HST4.out.below hX9) HG.out S.z (Int.le_refl _) ⟨3, 0, 0, 0, 0, []⟩ (At := none) (nt := 0) (ct := 0) (Rd.nil _ _ _ _) (fun h => absurd h (by decide)) (by simp))
      rw [HAPP.out, HZ.out] at HSA
      have HW8 := Lib.hid hw8
      have HW9 := Lib.hid hw9
      have EY := Lib.hid ey
      have HU1 : Hid (y + 1 = u) := Lib.hid (by rw [eu, hw8, ey]; simp)
      clear hrw7 hps7 hev7 hb7 hX7 hX9 hk9 hw8 hw9 ey eu hky hku hbw8 hbw9 hrp hmT hmL hmD
      go_upto_region 12 with fail
      rw [← HW8.out, ← HW9.out, ← EY.out, HU1.out]
      go_wp2_with fail
      refine HSA.out.mono ?_
      rintro e w10 ⟨vq, vv, rfl, hst10, hsk10, hq10, hv10⟩
      dsimp only [Zs.er] at hq10 hv10 hst10 ⊢
      obtain ⟨A6, c6, rfl, -, -, -⟩ := own_form hq10
      obtain ⟨A7, c7, rfl, -, -, -⟩ := own_form hv10
      simp only [List.length_nil] at hq10 hv10 ⊢
      obtain ⟨w11, hw11⟩ : ∃ xx, xx = w10.alloc (.cells #[.int .i64 1, .int .i64 0, .slice A6 0 c6] 42) := ⟨_, rfl⟩
      obtain ⟨t, et⟩ : ∃ xx, xx = w10.heap.size := ⟨_, rfl⟩
      have hbw11 : Below w10.heap.size w10 w11 := by rw [hw11]; exact box_below w10 _
      have hkt : w11.heap[t]? = some (.cells #[.int .i64 1, .int .i64 0, .slice A6 0 c6] 42 (0, 0)) := by rw [hw11, et]; exact new_block w10 _
      have HRW11 := Lib.hid ((HRW8.out.sk hsk10).below hbw11)
      have HST11 := Lib.hid (hst10.below hbw11)
      have HB11 : Hid (Below w.heap.size w w11) := Lib.hid (((HB4.out.trans (HX9.out.mono HB4.out.size)).trans (hsk10.below (Nat.le_trans HB4.out.size HX9.out.size))).trans (hbw11.mono (Nat.le_trans (Nat.le_trans HB4.out.size HX9.out.size) hsk10.size)))
      have HY11 := Lib.hid (blk_below (hsk10.blk HY.out (by decide)) hbw11)
      have HU11 := Lib.hid (blk_below (hsk10.blk HU.out (by decide)) hbw11)
      have HT11 := Lib.hid hkt
      have HSS7 : Hid (∀ (W : World), Below w11.heap.size w11 W → W.cell? ⟨t, 0, none⟩ = some (.int .i64 1) ∧ W.cell? ⟨t, 1, none⟩ = some (.int .i64 0) ∧ W.cell? ⟨t, 2, none⟩ = some (.slice A6 0 c6) ∧ W.cell? ⟨u, 0, none⟩ = some (.int .i64 1) ∧ W.cell? ⟨u, 1, none⟩ = some (.int .i64 0) ∧ W.cell? ⟨u, 2, none⟩ = some (.slice Ap 0 cp) ∧ W.cell? ⟨y, 0, none⟩ = some (.int .i64 z) ∧ W.cell? ⟨y, 1, none⟩ = some (.slice B1 mT d1) ∧ W.cell? ⟨y, 2, none⟩ = some (.slice B2 mL d2) ∧ W.cell? ⟨y, 3, none⟩ = some (.slice B3 mD d3)) := Lib.hid (fun W hW => ⟨cell_of (blk_below HT11.out hW) (j := 0) rfl, cell_of (blk_below HT11.out hW) (j := 1) rfl, cell_of (blk_below HT11.out hW) (j := 2) rfl, cell_of (blk_below HU11.out hW) (j := 0) rfl, cell_of (blk_below HU11.out hW) (j := 1) rfl, cell_of (blk_below HU11.out hW) (j := 2) rfl, cell_of (blk_below HY11.out hW) (j := 0) rfl, cell_of (blk_below HY11.out hW) (j := 1) rfl, cell_of (blk_below HY11.out hW) (j := 2) rfl, cell_of (blk_below HY11.out hW) (j := 3) rfl⟩)
      have HPLA : Hid (∀ (W : World), Calls Tryz.prog 20 #[.agg #[.int .i64 1, .int .i64 0, .slice A6 0 c6]] W fun e w' => e = .returned (.agg #[.int .i64 1, .int .i64 0, .slice A6 0 c6]) ∧ Below W.heap.size W w') := Lib.hid (fun W => plain_any W _ _ _ _ _)
      have HSR : Hid (∀ (W : World), Calls Tryz.prog 19 #[.agg #[.int .i64 1, .int .i64 0, .slice A6 0 c6], .agg #[.int .i64 1, .int .i64 0, .slice Ap 0 cp]] W fun e w' => e = .returned (.bool true) ∧ Below W.heap.size W w') := Lib.hid (fun W => samereply_any (ps := []) (Rd.nil _ _ _ _) (Rd.nil _ _ _ _) (by decide) _ _)
      have HSD : Hid (∀ (W : World), Below w11.heap.size w11 W → Calls Tryz.prog 15 #[.pointer (some ⟨sp, 0, none⟩), .agg #[.int .i64 z, .slice B1 mT d1, .slice B2 mL d2, .slice B3 mD d3]] W fun e w' => e = .returned (.bool true) ∧ Below W.heap.size W w') := Lib.hid (fun W hW => by
        have h := stands_any (HST11.out.below hW) HG.out (Nat.le_trans HDL.out (by decide)) (HRW11.out.below hW)
        rw [HZ.out] at h
        exact h)
      have HW11 := Lib.hid hw11
      have ET := Lib.hid et
      clear hst10 hsk10 hq10 hv10 hw11 et hkt hbw11 q0 q1 q2 q3
      go_upto_region 13 with fail
      rw [← HW11.out, ← ET.out]
      obtain ⟨e0, e1, e2, e3, e4, e5, e6, e7, e8, e9⟩ := HSS7.out w11 (Below.refl _ _)
      go_region_held3 (fun W => W.cell? ⟨t, 0, none⟩ = some (.int .i64 1) ∧ W.cell? ⟨t, 1, none⟩ = some (.int .i64 0) ∧ W.cell? ⟨t, 2, none⟩ = some (.slice A6 0 c6) ∧ W.cell? ⟨u, 0, none⟩ = some (.int .i64 1) ∧ W.cell? ⟨u, 1, none⟩ = some (.int .i64 0) ∧ W.cell? ⟨u, 2, none⟩ = some (.slice Ap 0 cp) ∧ W.cell? ⟨y, 0, none⟩ = some (.int .i64 z) ∧ W.cell? ⟨y, 1, none⟩ = some (.slice B1 mT d1) ∧ W.cell? ⟨y, 2, none⟩ = some (.slice B2 mL d2) ∧ W.cell? ⟨y, 3, none⟩ = some (.slice B3 mD d3))
        (first
          | (with_reducible assumption)
          | (with_reducible exact HSS7.out _ (Below.refl _ _).drew)
          | (with_reducible exact HSS7.out _ (by assumption)))
        (first
          | (go_at_call 12; (with_reducible refine (HAL.out _).mono ?_); rintro e u2 ⟨rfl, hu2⟩; have hU2 : Below w11.heap.size w11 u2 := (Below.refl w11.heap.size w11).drew.trans (hu2.mono (Nat.le_refl _)); have hS2 := HSS7.out u2 hU2)
          | (go_at_call 20; (with_reducible refine (HPLA.out _).mono ?_); rintro e u3 ⟨rfl, hu3⟩; have hU3 := hU2.trans (hu3.mono hU2.size); have hS3 := HSS7.out u3 hU3)
          | (go_at_call 19; (with_reducible refine (HSR.out _).mono ?_); rintro e u4 ⟨rfl, hu4⟩; have hU4 := hU3.trans (hu4.mono hU3.size); have hS4 := HSS7.out u4 hU4)
          | (go_at_call 15; (with_reducible refine (HSD.out _ (by assumption)).mono ?_); rintro e u5 ⟨rfl, hu5⟩; have hU5 := hU4.trans (hu5.mono hU4.size); have hS5 := HSS7.out u5 hU5))
      all_goals
        have HE : Hid (Below w.heap.size w u5) := Lib.hid (HB11.out.trans (hU5.mono HB11.out.size))
        go_wp2_with fail
        go_ret
        exact ⟨rfl, HE.out⟩
end Go.Proofs.YtflgemlhocjipaaGreatDoor
