/-
  What Stat returns. No condition.
-/
import Derived.Test.YtoaahhgngelnaaaFFree
namespace Go.Proofs.Ytoaahhgngelnaaa
set_option maxRecDepth 100000
open Go.ChangeShapes Go.WideShapes Go.ChangeAt Go.RowKit Go.Proofs.Sg Go.Proofs.Fz

/-- What an inode has. -/
structure Inf where
  h : Hd
  kind : Int
  mode : Int
  links : Int
  size : Int
  blocks : Int
  time : Int
def inf0 : Inf := ⟨hd0, 0, 0, 0, 0, 0, 0⟩
abbrev infV (i : Inf) : Value := .agg #[.int .i64 i.h.id, .int .i64 i.h.gen, .int .i64 i.kind, .int .i64 i.mode, .int .i64 i.links, .int .i64 i.size, .int .i64 i.blocks, .int .i64 i.time]
def sizN (N : List Nm) (x : Nod) : Int := if x.kind = 1 then (x.d.n : Int) else if x.kind = 2 then (many N x.id : Int) else (x.tg.length : Int)
def blkN (x : Nod) : Int := if x.kind = 1 then (x.d.K.length : Int) else 0
def infN (f : Fst) (x : Nod) : Inf := ⟨⟨x.id, x.gen⟩, x.kind, x.mode, (links f.I f.N x : Int), sizN f.N x, blkN x, x.time⟩
def stF (f : Fst) (d : Hd) : Inf × Int := match fnd f.I d with
  | none => (inf0, 175)
  | some x => (infN f x, 0)
theorem set8 {w : World} {r : Nat} {a b c d e g h i : Value} {t : TypeId} (hk : w.heap[r]? = some (.cells #[a, b, c, d, e, g, h, i] t (0, 0))) (u v x y u2 v2 x2 y2 : Value) : Wr r w ((((((((w.setCell ⟨r, 0, none⟩ u).setCell ⟨r, 1, none⟩ v).setCell ⟨r, 2, none⟩ x).setCell ⟨r, 3, none⟩ y).setCell ⟨r, 4, none⟩ u2).setCell ⟨r, 5, none⟩ v2).setCell ⟨r, 6, none⟩ x2).setCell ⟨r, 7, none⟩ y2) ∧ ((((((((w.setCell ⟨r, 0, none⟩ u).setCell ⟨r, 1, none⟩ v).setCell ⟨r, 2, none⟩ x).setCell ⟨r, 3, none⟩ y).setCell ⟨r, 4, none⟩ u2).setCell ⟨r, 5, none⟩ v2).setCell ⟨r, 6, none⟩ x2).setCell ⟨r, 7, none⟩ y2).heap[r]? = some (.cells #[u, v, x, y, u2, v2, x2, y2] t (0, 0)) :=
  setRow_any [u, v, x, y, u2, v2, x2, y2] 0 [] [a, b, c, d, e, g, h, i] (Wr.refl r w) rfl rfl hk
def StPost (w : World) (f : Fst) (d : Hd) (e : Ending) (w' : World) : Prop := e = .returned (.tuple #[infV (stF f d).1, .int .i64 (stF f d).2]) ∧ Below w.heap.size w w'
set_option maxHeartbeats 8000000 in
theorem fstat_any {w : World} {bs : Nat} {Y : Lay} {f : Fst} (h : FM w bs Y f) (hg : Gd f) (d : Hd) (hd : HdOk d) : Calls Try.prog 13 #[pA Y.fp, hV d] w (StPost w f d) := by
  obtain ⟨w2, hw2, hb2, hq, hr, hs2⟩ := two_box w (.cells #[.int .i64 d.id, .int .i64 d.gen] 40) (.cells #[.int .i64 0, .int .i64 0, .int .i64 0, .int .i64 0, .int .i64 0, .int .i64 0, .int .i64 0, .int .i64 0] 43)
  obtain ⟨q, eq⟩ : ∃ q, q = w.heap.size := ⟨_, rfl⟩
  obtain ⟨r, er⟩ : ∃ r, r = w.heap.size + 1 := ⟨_, rfl⟩
  rw [← eq] at hq
  rw [← er] at hr
  have HW2 := Lib.hid hw2
  have EQ := Lib.hid eq
  have ER := Lib.hid er
  have HB2 := Lib.hid hb2
  have HR := Lib.hid hr
  have HQ := Lib.hid hq
  have HRW : Hid (w.heap.size ≤ r ∧ r < w2.heap.size ∧ q < w2.heap.size) := Lib.hid (by omega)
  clear hw2 eq er hb2 hq hr hs2
  have h2 := h.below hg.kind HB2.out
  have HM2 := Lib.hid h2
  have HG := Lib.hid hg
  have HF := Lib.hid (find_any h2 hg d hd)
  have q0 := cell_of HQ.out (j := 0) rfl
  have q1 := cell_of HQ.out (j := 1) rfl
  clear h hg hd h2
  go_enter Try.func13, Try.ntmps13
  go_upto_region 1 with fail
  rw [← HW2.out, ← ER.out, ← EQ.out]
  go_wp2_with fail
  refine HF.out.mono ?_
  rintro e w3 ⟨rfl, hb3⟩
  have HB3 : Hid (Below w.heap.size w w3) := Lib.hid (HB2.out.trans (hb3.mono HB2.out.size))
  have hr3 := blk_below HR.out hb3
  have HM3 := Lib.hid (HM2.out.below HG.out.kind hb3)
  have HR3 := Lib.hid hr3
  have e1 := pnil
  have HB3R := Lib.hid hb3.size
  clear hb3
  rcases hq : fnd f.I d with _ | x
  · rw [fP_none hq]
    have HV : Hid (stF f d = (inf0, 175)) := Lib.hid (by unfold stF; rw [hq])
    clear hq
    obtain ⟨w9, hw9⟩ : ∃ W9, W9 = ((((((((w3.setCell ⟨r, 0, none⟩ (.int .i64 0)).setCell ⟨r, 1, none⟩ (.int .i64 0)).setCell ⟨r, 2, none⟩ (.int .i64 0)).setCell ⟨r, 3, none⟩ (.int .i64 0)).setCell ⟨r, 4, none⟩ (.int .i64 0)).setCell ⟨r, 5, none⟩ (.int .i64 0)).setCell ⟨r, 6, none⟩ (.int .i64 0)).setCell ⟨r, 7, none⟩ (.int .i64 0)) := ⟨_, rfl⟩
    obtain ⟨hwr9, hk9⟩ := set8 hr3 (.int .i64 0) (.int .i64 0) (.int .i64 0) (.int .i64 0) (.int .i64 0) (.int .i64 0) (.int .i64 0) (.int .i64 0)
    rw [← hw9] at hwr9 hk9
    have r0 := cell_of hr3 (j := 0) rfl
    have r1 := cell_of hr3 (j := 1) rfl
    have r2 := cell_of hr3 (j := 2) rfl
    have r3 := cell_of hr3 (j := 3) rfl
    have r4 := cell_of hr3 (j := 4) rfl
    have r5 := cell_of hr3 (j := 5) rfl
    have r6 := cell_of hr3 (j := 6) rfl
    have r7 := cell_of hr3 (j := 7) rfl
    have g0 := frozen_of_row w3 r 0 _ _ hr3
    have g1 := frozen_of_row w3 r 1 _ _ hr3
    have g2 := frozen_of_row w3 r 2 _ _ hr3
    have g3 := frozen_of_row w3 r 3 _ _ hr3
    have g4 := frozen_of_row w3 r 4 _ _ hr3
    have g5 := frozen_of_row w3 r 5 _ _ hr3
    have g6 := frozen_of_row w3 r 6 _ _ hr3
    have g7 := frozen_of_row w3 r 7 _ _ hr3
    have z0 := cell_of hk9 (j := 0) rfl
    have z1 := cell_of hk9 (j := 1) rfl
    have z2 := cell_of hk9 (j := 2) rfl
    have z3 := cell_of hk9 (j := 3) rfl
    have z4 := cell_of hk9 (j := 4) rfl
    have z5 := cell_of hk9 (j := 5) rfl
    have z6 := cell_of hk9 (j := 6) rfl
    have z7 := cell_of hk9 (j := 7) rfl
    have HWR := Lib.hid hwr9
    have HW9 := Lib.hid hw9
    clear hw9 hwr9 hk9
    clear hr3
    have HE : Hid (Below w.heap.size w w9) := Lib.hid (HB3.out.trans (HWR.out.below.mono HRW.out.1))
    go_wp2_with fail
    rw [← HW9.out]
    go_wp2_with fail
    exact bodyPost_ret (v := .tuple #[.agg #[.int .i64 0, .int .i64 0, .int .i64 0, .int .i64 0, .int .i64 0, .int .i64 0, .int .i64 0, .int .i64 0], .int .i64 175]) (by simp [results, Try.results13, go_sem, z0, z1, z2, z3, z4, z5, z6, z7]) rfl ⟨by rw [HV.out]; rfl, HE.out⟩
  · rw [fP_some hq]
    have hxm := (fnd_mem hq).1
    have e2 := pnn (Y.ip x.id)
    have hn := HM3.out.nod x hxm
    obtain ⟨c0, c1, c2, c3, c4, c5⟩ := hn.cells
    have HXM := Lib.hid hxm
    have HXI : Hid (Y.ip x.id < w3.heap.size) := Lib.hid hn.lts.1
    have HN := Lib.hid hn
    have HK := Lib.hid hq
    have hkk := HG.out.kind x hxm
    obtain ⟨ip, hip⟩ : ∃ k, Y.ip x.id = k := ⟨_, rfl⟩
    obtain ⟨hp, hhp⟩ : ∃ k, Y.hp x.id = k := ⟨_, rfl⟩
    have HHP := Lib.hid hhp
    obtain ⟨lk, hlk⟩ : ∃ k : Int, (links f.I f.N x : Int) = k := ⟨_, rfl⟩
    have HLK := Lib.hid hlk
    obtain ⟨xi, hxi⟩ : ∃ k : Int, (x.id : Int) = k := ⟨_, rfl⟩
    obtain ⟨xg, hxg⟩ : ∃ k : Int, (x.gen : Int) = k := ⟨_, rfl⟩
    have HXG : Hid ((x.id : Int) = xi ∧ (x.gen : Int) = xg) := Lib.hid ⟨hxi, hxg⟩
    rw [hip] at c0 c1 c2 c3 c4 c5 e2 HXI
    rw [hip]
    rw [hxi] at c0
    rw [hxg] at c1
    rw [hlk] at c3
    have HSS : Hid (∀ W : World, W.heap[ip]? = w3.heap[ip]? → W.cell? ⟨ip, 0, none⟩ = some (.int .i64 xi) ∧ W.cell? ⟨ip, 1, none⟩ = some (.int .i64 xg) ∧ W.cell? ⟨ip, 2, none⟩ = some (.int .i64 x.mode) ∧ W.cell? ⟨ip, 3, none⟩ = some (.int .i64 lk) ∧ W.cell? ⟨ip, 4, none⟩ = some (.int .i64 x.time)) := Lib.hid (fun W hW => by
      have k : ∀ j u, w3.cell? ⟨ip, j, none⟩ = some u → W.cell? ⟨ip, j, none⟩ = some u := fun j u hu => (World.cell?_of_block hW).trans hu
      exact ⟨k _ _ c0, k _ _ c1, k _ _ c2, k _ _ c3, k _ _ c4⟩)
    clear hq hxm hn hip hhp hlk hxi hxg
    obtain ⟨v5, hv5⟩ : ∃ v, holdV Y x = v := ⟨_, rfl⟩
    rw [hv5] at c5
    have HV5 := Lib.hid hv5
    have HC5 := Lib.hid c5
    have HKK := Lib.hid hkk
    clear hv5 hkk hr3
    go_upto_region 4 with fail
    have hS0 := HSS.out w3.drew rfl
    have hS1 := HSS.out (w3.drew.alloc (.cells #[.int .i64 0, .int .i64 0, .int .i64 0, .int .i64 0, .int .i64 0, .int .i64 0, .int .i64 0, .int .i64 0] 43)) ((box_below w3.drew _).block ip HXI.out)
    have hS2 := HSS.out (w3.drew.alloc (.cells #[.int .i64 xi, .int .i64 xg, .int .i64 0, .int .i64 x.mode, .int .i64 lk, .int .i64 0, .int .i64 0, .int .i64 x.time] 43)) ((box_below w3.drew _).block ip HXI.out)
    go_region_held3 (fun W => W.cell? ⟨ip, 0, none⟩ = some (.int .i64 xi) ∧ W.cell? ⟨ip, 1, none⟩ = some (.int .i64 xg) ∧ W.cell? ⟨ip, 2, none⟩ = some (.int .i64 x.mode) ∧ W.cell? ⟨ip, 3, none⟩ = some (.int .i64 lk) ∧ W.cell? ⟨ip, 4, none⟩ = some (.int .i64 x.time))
      (first
        | assumption)
      (fail)
    rename_i hHeld
    obtain ⟨w4, hw4⟩ : ∃ W, W = (w3.alloc (.cells #[.int .i64 xi, .int .i64 xg, .int .i64 0, .int .i64 x.mode, .int .i64 lk, .int .i64 0, .int .i64 0, .int .i64 x.time] 43)).drew := ⟨_, rfl⟩
    obtain ⟨b, hb⟩ : ∃ k, k = w3.heap.size := ⟨_, rfl⟩
    have hb4 : Below w3.heap.size w3 w4 := by rw [hw4]; exact ((Below.refl _ _).alloc (Nat.le_refl _) _).drew
    have hbx : w4.heap[b]? = some (.cells #[.int .i64 xi, .int .i64 xg, .int .i64 0, .int .i64 x.mode, .int .i64 lk, .int .i64 0, .int .i64 0, .int .i64 x.time] 43 (0, 0)) := by rw [hw4, hb]; exact new_block w3 _
    have hr4 := blk_below HR3.out hb4
    have HB4 : Hid (Below w.heap.size w w4) := Lib.hid (HB3.out.trans (hb4.mono HB3.out.size))
    have HN4 : Hid (NdW w4 bs Y f.I f.N x) := Lib.hid ((HM3.out.below HG.out.kind hb4).nod x HXM.out)
    have HBR : Hid (b ≠ r ∧ w.heap.size ≤ b ∧ b < w4.heap.size) := Lib.hid ⟨by have := HRW.out.2.1; have := HB2.out.size; have := HB3R.out; omega, by have := HB3.out.size; omega, blk_lt hbx⟩
    have d5 : w4.cell? ⟨ip, 5, none⟩ = some v5 := (hb4.cell (p := ⟨ip, 5, none⟩) HXI.out).trans HC5.out
    have b2 := cell_of hbx (j := 2) rfl
    have b5 := cell_of hbx (j := 5) rfl
    have b6 := cell_of hbx (j := 6) rfl
    have f2 := frozen_of_row w4 b 2 _ _ hbx
    have f5 := frozen_of_row w4 b 5 _ _ hbx
    have f6 := frozen_of_row w4 b 6 _ _ hbx
    have HW4 := Lib.hid hw4
    have HB := Lib.hid hb
    have HBX := Lib.hid hbx
    have HR4 := Lib.hid hr4
    clear hHeld hS0 hS1 hS2 c0 c1 c2 c3 c4 c5 hw4 hb hb4 hbx hr4
    rcases HKK.out with hk | hk | hk
    · have hv := HV5.out
      rw [hold1 hk, HHP.out] at hv
      subst hv
      have ta := taSS
      have hsw := HN4.out.fil hk
      rw [HHP.out] at hsw
      obtain ⟨sz, hsz⟩ : ∃ k : Int, (x.d.n : Int) = k := ⟨_, rfl⟩
      obtain ⟨bl, hbl⟩ : ∃ k : Int, (x.d.K.length : Int) = k := ⟨_, rfl⟩
      have HSZ := Lib.hid (size_any hsw)
      have HBL := Lib.hid (blocks_any hsw)
      rw [hsz] at HSZ
      rw [hbl] at HBL
      have HV : Hid (stF f d = (⟨⟨xi, xg⟩, 1, x.mode, lk, sz, bl, x.time⟩, 0)) := Lib.hid (by
        unfold stF; rw [HK.out]; dsimp only; unfold infN sizN blkN
        simp only [hk]; rw [HLK.out, hsz, hbl, HXG.out.1, HXG.out.2]; rfl)
      clear hk hsw hsz hbl
      go_upto_region 5 with fail
      rw [← HW4.out, ← HB.out]
      go_wp2_with fail
      refine HSZ.out.mono ?_
      rintro e w' ⟨rfl, rfl⟩
      go_wp2_with fail
      refine HBL.out.mono ?_
      rintro e w' ⟨rfl, rfl⟩
      obtain ⟨w5, hw5⟩ : ∃ W, W = ((w4.setCell ⟨b, 2, none⟩ (.int .i64 1)).setCell ⟨b, 5, none⟩ (.int .i64 (sz))).setCell ⟨b, 6, none⟩ (.int .i64 bl) := ⟨_, rfl⟩
      have hb5 := heap_setCell_same _ b 6 _ _ (.int .i64 bl) (heap_setCell_same _ b 5 _ _ (.int .i64 (sz)) (heap_setCell_same w4 b 2 _ _ (.int .i64 1) HBX.out))
      rw [← hw5] at hb5
      have hg5 : w4.grownBy w5 (some b) := by rw [hw5]; exact gb_trans (gb_set _) (gb_trans (gb_set _) (gb_set _))
      have hr5 := gb_cells hg5 (Ne.symm HBR.out.1) HR4.out
      have HB5 : Hid (w5.heap[b]? = some (.cells #[.int .i64 xi, .int .i64 xg, .int .i64 1, .int .i64 x.mode, .int .i64 lk, .int .i64 (sz), .int .i64 bl, .int .i64 x.time] 43 (0, 0))) := Lib.hid hb5
      have HG5 := Lib.hid hg5
      have HW5 := Lib.hid hw5
      clear hb5 hg5 hw5
      go_upto_region 15 with fail
      rw [← HW5.out]
      obtain ⟨w9, hw9⟩ : ∃ W9, W9 = ((((((((w5.setCell ⟨r, 0, none⟩ (.int .i64 xi)).setCell ⟨r, 1, none⟩ (.int .i64 xg)).setCell ⟨r, 2, none⟩ (.int .i64 1)).setCell ⟨r, 3, none⟩ (.int .i64 x.mode)).setCell ⟨r, 4, none⟩ (.int .i64 lk)).setCell ⟨r, 5, none⟩ (.int .i64 (sz))).setCell ⟨r, 6, none⟩ (.int .i64 bl)).setCell ⟨r, 7, none⟩ (.int .i64 x.time)) := ⟨_, rfl⟩
      obtain ⟨hwr9, hk9⟩ := set8 hr5 (.int .i64 xi) (.int .i64 xg) (.int .i64 1) (.int .i64 x.mode) (.int .i64 lk) (.int .i64 (sz)) (.int .i64 bl) (.int .i64 x.time)
      rw [← hw9] at hwr9 hk9
      have y0 := cell_of HB5.out (j := 0) rfl
      have y1 := cell_of HB5.out (j := 1) rfl
      have y2 := cell_of HB5.out (j := 2) rfl
      have y3 := cell_of HB5.out (j := 3) rfl
      have y4 := cell_of HB5.out (j := 4) rfl
      have y5 := cell_of HB5.out (j := 5) rfl
      have y6 := cell_of HB5.out (j := 6) rfl
      have y7 := cell_of HB5.out (j := 7) rfl
      have r0 := cell_of hr5 (j := 0) rfl
      have r1 := cell_of hr5 (j := 1) rfl
      have r2 := cell_of hr5 (j := 2) rfl
      have r3 := cell_of hr5 (j := 3) rfl
      have r4 := cell_of hr5 (j := 4) rfl
      have r5 := cell_of hr5 (j := 5) rfl
      have r6 := cell_of hr5 (j := 6) rfl
      have r7 := cell_of hr5 (j := 7) rfl
      have g0 := frozen_of_row w5 r 0 _ _ hr5
      have g1 := frozen_of_row w5 r 1 _ _ hr5
      have g2 := frozen_of_row w5 r 2 _ _ hr5
      have g3 := frozen_of_row w5 r 3 _ _ hr5
      have g4 := frozen_of_row w5 r 4 _ _ hr5
      have g5 := frozen_of_row w5 r 5 _ _ hr5
      have g6 := frozen_of_row w5 r 6 _ _ hr5
      have g7 := frozen_of_row w5 r 7 _ _ hr5
      have z0 := cell_of hk9 (j := 0) rfl
      have z1 := cell_of hk9 (j := 1) rfl
      have z2 := cell_of hk9 (j := 2) rfl
      have z3 := cell_of hk9 (j := 3) rfl
      have z4 := cell_of hk9 (j := 4) rfl
      have z5 := cell_of hk9 (j := 5) rfl
      have z6 := cell_of hk9 (j := 6) rfl
      have z7 := cell_of hk9 (j := 7) rfl
      have HE : Hid (Below w.heap.size w w9) := Lib.hid ((HB4.out.grown HG5.out HB4.out.size (fun k hk => by injection hk with hk; rw [← hk]; exact HBR.out.2.1)).trans (hwr9.below.mono HRW.out.1))
      have HW9 := Lib.hid hw9
      clear hw9 hwr9 hk9 hr5
      go_wp2_with fail
      rw [← HW9.out]
      go_wp2_with fail
      exact bodyPost_ret (v := .tuple #[.agg #[.int .i64 xi, .int .i64 xg, .int .i64 1, .int .i64 x.mode, .int .i64 lk, .int .i64 (sz), .int .i64 bl, .int .i64 x.time], .int .i64 0]) (by simp [results, Try.results13, go_sem, z0, z1, z2, z3, z4, z5, z6, z7]) rfl ⟨by rw [HV.out], HE.out⟩
    · have hv := HV5.out
      rw [hold2 hk, HHP.out] at hv
      subst hv
      have ta := taFS
      have tb := taFF
      have e3 := pnn hp
      obtain ⟨hfr, hnm⟩ := HN4.out.fol hk
      rw [HHP.out] at hfr
      have h2c := cell_of hfr (j := 2) rfl
      have hl := fun ty => hnm.size ty
      obtain ⟨sz, hsz⟩ : ∃ k : Int, (many f.N x.id : Int) = k := ⟨_, rfl⟩
      rw [hsz] at hl
      have HV : Hid (stF f d = (⟨⟨xi, xg⟩, 2, x.mode, lk, sz, 0, x.time⟩, 0)) := Lib.hid (by
        unfold stF; rw [HK.out]; dsimp only; unfold infN sizN blkN
        simp only [hk]; rw [HLK.out, hsz, HXG.out.1, HXG.out.2]; rfl)
      clear hk hfr hnm hsz
      go_upto_region 5 with fail
      rw [← HW4.out, ← HB.out]
      obtain ⟨w5, hw5⟩ : ∃ W, W = (w4.setCell ⟨b, 2, none⟩ (.int .i64 2)).setCell ⟨b, 5, none⟩ (.int .i64 (sz)) := ⟨_, rfl⟩
      have hb5 := heap_setCell_same _ b 5 _ _ (.int .i64 (sz)) (heap_setCell_same w4 b 2 _ _ (.int .i64 2) HBX.out)
      rw [← hw5] at hb5
      have hg5 : w4.grownBy w5 (some b) := by rw [hw5]; exact gb_trans (gb_set _) (gb_set _)
      have hr5 := gb_cells hg5 (Ne.symm HBR.out.1) HR4.out
      have HB5 : Hid (w5.heap[b]? = some (.cells #[.int .i64 xi, .int .i64 xg, .int .i64 2, .int .i64 x.mode, .int .i64 lk, .int .i64 (sz), .int .i64 0, .int .i64 x.time] 43 (0, 0))) := Lib.hid hb5
      have HG5 := Lib.hid hg5
      have HW5 := Lib.hid hw5
      clear hb5 hg5 hw5
      go_upto_region 15 with fail
      rw [← HW5.out]
      obtain ⟨w9, hw9⟩ : ∃ W9, W9 = ((((((((w5.setCell ⟨r, 0, none⟩ (.int .i64 xi)).setCell ⟨r, 1, none⟩ (.int .i64 xg)).setCell ⟨r, 2, none⟩ (.int .i64 2)).setCell ⟨r, 3, none⟩ (.int .i64 x.mode)).setCell ⟨r, 4, none⟩ (.int .i64 lk)).setCell ⟨r, 5, none⟩ (.int .i64 (sz))).setCell ⟨r, 6, none⟩ (.int .i64 0)).setCell ⟨r, 7, none⟩ (.int .i64 x.time)) := ⟨_, rfl⟩
      obtain ⟨hwr9, hk9⟩ := set8 hr5 (.int .i64 xi) (.int .i64 xg) (.int .i64 2) (.int .i64 x.mode) (.int .i64 lk) (.int .i64 (sz)) (.int .i64 0) (.int .i64 x.time)
      rw [← hw9] at hwr9 hk9
      have y0 := cell_of HB5.out (j := 0) rfl
      have y1 := cell_of HB5.out (j := 1) rfl
      have y2 := cell_of HB5.out (j := 2) rfl
      have y3 := cell_of HB5.out (j := 3) rfl
      have y4 := cell_of HB5.out (j := 4) rfl
      have y5 := cell_of HB5.out (j := 5) rfl
      have y6 := cell_of HB5.out (j := 6) rfl
      have y7 := cell_of HB5.out (j := 7) rfl
      have r0 := cell_of hr5 (j := 0) rfl
      have r1 := cell_of hr5 (j := 1) rfl
      have r2 := cell_of hr5 (j := 2) rfl
      have r3 := cell_of hr5 (j := 3) rfl
      have r4 := cell_of hr5 (j := 4) rfl
      have r5 := cell_of hr5 (j := 5) rfl
      have r6 := cell_of hr5 (j := 6) rfl
      have r7 := cell_of hr5 (j := 7) rfl
      have g0 := frozen_of_row w5 r 0 _ _ hr5
      have g1 := frozen_of_row w5 r 1 _ _ hr5
      have g2 := frozen_of_row w5 r 2 _ _ hr5
      have g3 := frozen_of_row w5 r 3 _ _ hr5
      have g4 := frozen_of_row w5 r 4 _ _ hr5
      have g5 := frozen_of_row w5 r 5 _ _ hr5
      have g6 := frozen_of_row w5 r 6 _ _ hr5
      have g7 := frozen_of_row w5 r 7 _ _ hr5
      have z0 := cell_of hk9 (j := 0) rfl
      have z1 := cell_of hk9 (j := 1) rfl
      have z2 := cell_of hk9 (j := 2) rfl
      have z3 := cell_of hk9 (j := 3) rfl
      have z4 := cell_of hk9 (j := 4) rfl
      have z5 := cell_of hk9 (j := 5) rfl
      have z6 := cell_of hk9 (j := 6) rfl
      have z7 := cell_of hk9 (j := 7) rfl
      have HE : Hid (Below w.heap.size w w9) := Lib.hid ((HB4.out.grown HG5.out HB4.out.size (fun k hk => by injection hk with hk; rw [← hk]; exact HBR.out.2.1)).trans (hwr9.below.mono HRW.out.1))
      have HW9 := Lib.hid hw9
      clear hw9 hwr9 hk9 hr5
      go_wp2_with fail
      rw [← HW9.out]
      go_wp2_with fail
      exact bodyPost_ret (v := .tuple #[.agg #[.int .i64 xi, .int .i64 xg, .int .i64 2, .int .i64 x.mode, .int .i64 lk, .int .i64 (sz), .int .i64 0, .int .i64 x.time], .int .i64 0]) (by simp [results, Try.results13, go_sem, z0, z1, z2, z3, z4, z5, z6, z7]) rfl ⟨by rw [HV.out], HE.out⟩
    · have hv := HV5.out
      rw [hold3 hk] at hv
      subst hv
      have ta := taTS
      have tb := taTF
      have tc := taTT
      obtain ⟨str, hstr⟩ : ∃ s, B x.tg = s := ⟨_, rfl⟩
      rw [hstr] at d5
      have hsz : ((str.size : Nat) : Int) = (x.tg.length : Int) := by rw [← hstr, B_size]
      have HV : Hid (stF f d = (⟨⟨xi, xg⟩, 3, x.mode, lk, (str.size : Int), 0, x.time⟩, 0)) := Lib.hid (by
        unfold stF; rw [HK.out]; dsimp only; unfold infN sizN blkN
        simp only [hk]; rw [HLK.out, hsz, HXG.out.1, HXG.out.2]; rfl)
      clear hk hsz
      go_upto_region 5 with fail
      rw [← HW4.out, ← HB.out]
      obtain ⟨w5, hw5⟩ : ∃ W, W = (w4.setCell ⟨b, 2, none⟩ (.int .i64 3)).setCell ⟨b, 5, none⟩ (.int .i64 (str.size)) := ⟨_, rfl⟩
      have hb5 := heap_setCell_same _ b 5 _ _ (.int .i64 (str.size)) (heap_setCell_same w4 b 2 _ _ (.int .i64 3) HBX.out)
      rw [← hw5] at hb5
      have hg5 : w4.grownBy w5 (some b) := by rw [hw5]; exact gb_trans (gb_set _) (gb_set _)
      have hr5 := gb_cells hg5 (Ne.symm HBR.out.1) HR4.out
      have HB5 : Hid (w5.heap[b]? = some (.cells #[.int .i64 xi, .int .i64 xg, .int .i64 3, .int .i64 x.mode, .int .i64 lk, .int .i64 (str.size), .int .i64 0, .int .i64 x.time] 43 (0, 0))) := Lib.hid hb5
      have HG5 := Lib.hid hg5
      have HW5 := Lib.hid hw5
      clear hb5 hg5 hw5
      go_upto_region 15 with fail
      rw [← HW5.out]
      obtain ⟨w9, hw9⟩ : ∃ W9, W9 = ((((((((w5.setCell ⟨r, 0, none⟩ (.int .i64 xi)).setCell ⟨r, 1, none⟩ (.int .i64 xg)).setCell ⟨r, 2, none⟩ (.int .i64 3)).setCell ⟨r, 3, none⟩ (.int .i64 x.mode)).setCell ⟨r, 4, none⟩ (.int .i64 lk)).setCell ⟨r, 5, none⟩ (.int .i64 (str.size))).setCell ⟨r, 6, none⟩ (.int .i64 0)).setCell ⟨r, 7, none⟩ (.int .i64 x.time)) := ⟨_, rfl⟩
      obtain ⟨hwr9, hk9⟩ := set8 hr5 (.int .i64 xi) (.int .i64 xg) (.int .i64 3) (.int .i64 x.mode) (.int .i64 lk) (.int .i64 (str.size)) (.int .i64 0) (.int .i64 x.time)
      rw [← hw9] at hwr9 hk9
      have y0 := cell_of HB5.out (j := 0) rfl
      have y1 := cell_of HB5.out (j := 1) rfl
      have y2 := cell_of HB5.out (j := 2) rfl
      have y3 := cell_of HB5.out (j := 3) rfl
      have y4 := cell_of HB5.out (j := 4) rfl
      have y5 := cell_of HB5.out (j := 5) rfl
      have y6 := cell_of HB5.out (j := 6) rfl
      have y7 := cell_of HB5.out (j := 7) rfl
      have r0 := cell_of hr5 (j := 0) rfl
      have r1 := cell_of hr5 (j := 1) rfl
      have r2 := cell_of hr5 (j := 2) rfl
      have r3 := cell_of hr5 (j := 3) rfl
      have r4 := cell_of hr5 (j := 4) rfl
      have r5 := cell_of hr5 (j := 5) rfl
      have r6 := cell_of hr5 (j := 6) rfl
      have r7 := cell_of hr5 (j := 7) rfl
      have g0 := frozen_of_row w5 r 0 _ _ hr5
      have g1 := frozen_of_row w5 r 1 _ _ hr5
      have g2 := frozen_of_row w5 r 2 _ _ hr5
      have g3 := frozen_of_row w5 r 3 _ _ hr5
      have g4 := frozen_of_row w5 r 4 _ _ hr5
      have g5 := frozen_of_row w5 r 5 _ _ hr5
      have g6 := frozen_of_row w5 r 6 _ _ hr5
      have g7 := frozen_of_row w5 r 7 _ _ hr5
      have z0 := cell_of hk9 (j := 0) rfl
      have z1 := cell_of hk9 (j := 1) rfl
      have z2 := cell_of hk9 (j := 2) rfl
      have z3 := cell_of hk9 (j := 3) rfl
      have z4 := cell_of hk9 (j := 4) rfl
      have z5 := cell_of hk9 (j := 5) rfl
      have z6 := cell_of hk9 (j := 6) rfl
      have z7 := cell_of hk9 (j := 7) rfl
      have HE : Hid (Below w.heap.size w w9) := Lib.hid ((HB4.out.grown HG5.out HB4.out.size (fun k hk => by injection hk with hk; rw [← hk]; exact HBR.out.2.1)).trans (hwr9.below.mono HRW.out.1))
      have HW9 := Lib.hid hw9
      clear hw9 hwr9 hk9 hr5
      go_wp2_with fail
      rw [← HW9.out]
      go_wp2_with fail
      exact bodyPost_ret (v := .tuple #[.agg #[.int .i64 xi, .int .i64 xg, .int .i64 3, .int .i64 x.mode, .int .i64 lk, .int .i64 (str.size), .int .i64 0, .int .i64 x.time], .int .i64 0]) (by simp [results, Try.results13, go_sem, z0, z1, z2, z3, z4, z5, z6, z7]) rfl ⟨by rw [HV.out], HE.out⟩
end Go.Proofs.Ytoaahhgngelnaaa
