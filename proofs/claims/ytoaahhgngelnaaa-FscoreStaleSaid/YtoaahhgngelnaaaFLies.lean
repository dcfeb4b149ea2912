/-
  What lies and mayMove return. Condition: how much was done.
-/
import Derived.Test.YtoaahhgngelnaaaFMake
namespace Go.Proofs.Ytoaahhgngelnaaa
set_option maxRecDepth 100000
open Go.ChangeShapes Go.WideShapes Go.ChangeAt Go.RowKit Go.Proofs.Sg Go.Proofs.Fz

theorem bel_same {I : List Nod} (hu : (I.map (fun x => x.id)).Nodup) {t : Nat} {y : Nod} (hy : y ∈ I) (h1 : y.id ≠ 1) (hne : t ≠ y.id) : Bel I t y.id ↔ Bel I t y.par := by
  refine ⟨fun h => ?_, fun h => Bel.up (nget_of hu hy) h1 h⟩
  generalize hi : y.id = i at h
  cases h with
  | here => exact absurd hi.symm hne
  | up g1 g2 g3 =>
    rw [← hi, nget_of hu hy] at g1
    obtain rfl := Option.some.inj g1
    exact g3
theorem bel_root {I : List Nod} {t : Nat} (hne : t ≠ 1) : ¬ Bel I t 1 := fun h => by
  generalize hi : 1 = i at h
  cases h with
  | here => exact hne hi.symm
  | up g1 g2 g3 => exact g2 hi.symm
open Classical in
/-- How deep the folder in the box r lies. -/
noncomputable def deepAt (I : List Nod) (ip : Nat → Nat) (rk : Nat → Nat) (r : Nat) (W : World) : Nat :=
  if h : ∃ y ∈ I, W.cell? ⟨r, 0, none⟩ = some (pA (ip y.id)) then rk (Classical.choose h).id else 0
theorem deepAt_of {I : List Nod} {ip : Nat → Nat} {rk : Nat → Nat} {r : Nat} {W : World} (hi : ∀ x ∈ I, ∀ y ∈ I, ip x.id = ip y.id → x.id = y.id) {y : Nod} (hy : y ∈ I) (hc : W.cell? ⟨r, 0, none⟩ = some (pA (ip y.id))) : deepAt I ip rk r W = rk y.id := by
  have h : ∃ y ∈ I, W.cell? ⟨r, 0, none⟩ = some (pA (ip y.id)) := ⟨y, hy, hc⟩
  unfold deepAt
  rw [dif_pos h]
  obtain ⟨h1, h2⟩ := Classical.choose_spec h
  have h3 := hc.symm.trans h2
  injection h3 with h3
  injection h3 with h3
  injection h3 with h3
  injection h3 with h3
  rw [hi _ h1 y hy h3.symm]
/-- What lies returns. -/
def LiPost (w : World) (I : List Nod) (t i : Nat) (e : Ending) (w' : World) : Prop := ∃ b, e = .returned (.bool b) ∧ (b = true ↔ Bel I t i) ∧ Below w.heap.size w w'
set_option maxHeartbeats 4000000 in
theorem lies_any {w : World} {bs : Nat} {Y : Lay} {f : Fst} {T : Nat} (h : FM w bs Y f) (hg : Gd f) (hb : Bd f T) (hT : T ≤ 1000000000) {q x : Nod} (hq : q ∈ f.I) (hqk : q.kind = 2) (hx : x ∈ f.I) :
    Calls Try.prog 53 #[pA Y.fp, .agg #[pA (Y.ip q.id), pA (Y.hp q.id)], pA (Y.ip x.id)] w (LiPost w f.I x.id q.id) := by
  obtain ⟨rk, hrk⟩ := hg.rnk
  obtain ⟨w1, hw1⟩ : ∃ w1, w1 = w.alloc (.cells #[pA (Y.ip q.id), pA (Y.hp q.id)] 84) := ⟨_, rfl⟩
  obtain ⟨r, hr⟩ : ∃ g, g = w.heap.size := ⟨_, rfl⟩
  have hb1 : Below w.heap.size w w1 := by rw [hw1]; exact box_below w _
  have hbx : w1.heap[r]? = some (.cells #[pA (Y.ip q.id), pA (Y.hp q.id)] 84 (0, 0)) := by rw [hw1, hr]; exact new_block w _
  have HRK := Lib.hid hrk
  have HM := Lib.hid h
  have HG := Lib.hid hg
  have HBD := Lib.hid hb
  have HT := Lib.hid hT
  have HX := Lib.hid hx
  have HQM : Hid (q ∈ f.I ∧ q.kind = 2) := Lib.hid ⟨hq, hqk⟩
  have HW1 := Lib.hid hw1
  have HR := Lib.hid hr
  have HB1 := Lib.hid hb1
  have HBX := Lib.hid hbx
  have HRW : Hid (w.heap.size ≤ r) := Lib.hid (by omega)
  clear hrk h hg hb hT hq hqk hx hw1 hr hb1 hbx
  go_enter Try.func53, Try.ntmps53
  go_upto_region 1 with fail
  rw [← HW1.out, ← HR.out]
  go_loopw [25] (fun v wr => ∃ y : Nod, Hid (y ∈ f.I ∧ y.kind = 2 ∧ (Bel f.I x.id q.id ↔ Bel f.I x.id y.id)) ∧ Hid (wr.heap[r]? = some (.cells #[pA (Y.ip y.id), pA (Y.hp y.id)] 84 (0, 0))) ∧ Hid (Below w.heap.size w wr) ∧ Hid (r < wr.heap.size)) (fun v wr => deepAt f.I Y.ip rk r wr)
  case atStart => exact ⟨q, Lib.hid ⟨HQM.out.1, HQM.out.2, Iff.rfl⟩, HBX, HB1, Lib.hid (blk_lt HBX.out)⟩
  case round =>
    obtain ⟨y, HY, HBR, HBL, HRL⟩ := hrel
    have hm := HM.out.below HG.out.kind HBL.out
    have r0 := cell_of HBR.out (j := 0) rfl
    have r1 := cell_of HBR.out (j := 1) rfl
    obtain ⟨y0, y1, -⟩ := (hm.nod y HY.out.1).cells
    obtain ⟨x0, x1, -⟩ := (hm.nod x HX.out).cells
    have hne := neqH ⟨(y.id : Int), (y.gen : Int)⟩ ⟨(x.id : Int), (x.gen : Int)⟩
    dsimp only at hne
    obtain ⟨k, hk⟩ : ∃ k, decide ((y.id : Int) = (x.id : Int) ∧ (y.gen : Int) = (x.gen : Int)) = k := ⟨_, rfl⟩
    rw [hk] at hne
    have hgu := guard_neqH
    have HK : Hid ((y.id = x.id) = (k = true)) := Lib.hid (by
      rw [← hk]
      simp only [decide_eq_true_eq, eq_iff_iff]
      exact ⟨fun e => by have := HG.out.uid HY.out.1 HX.out e; subst this; exact ⟨rfl, rfl⟩, fun e => by omega⟩)
    clear hk
    go_upto_region 1 with fail
    go_quiet (fail)
    obtain ⟨w2, hw2⟩ : ∃ W, W = wr.drewN nq := ⟨_, rfl⟩
    rw [← hw2]
    have hb2 : Below wr.heap.size wr w2 := by rw [hw2]; exact below_drewN (Below.refl _ _) nq
    have HBR2 := Lib.hid (blk_below HBR.out hb2)
    have HB2 : Hid (Below w.heap.size w w2) := Lib.hid (HBL.out.trans (hb2.mono HBL.out.size))
    have HRL2 : Hid (r < w2.heap.size) := Lib.hid (blk_lt HBR2.out)
    have HMS : Hid (deepAt f.I Y.ip rk r wr = rk y.id) := Lib.hid (deepAt_of HM.out.iinj HY.out.1 r0)
    clear hw2 hb2 hm r0 r1 y0 y1 x0 x1
    cases k with
    | true =>
      go_wp2_with fail
      go_ret
      exact ⟨true, rfl, by
        have e1 : y.id = x.id := by have := HK.out; simpa using this
        simp only [true_iff]
        rw [HY.out.2.2, e1]
        exact Bel.here, HB2.out⟩
    | false =>
      have HNE : Hid (x.id ≠ y.id) := Lib.hid (fun e => by have := HK.out; simp at this; exact this e.symm)
      have HRO := Lib.hid (fun W => root_any Y.fp W)
      have HSS : Hid (∀ W, Below w2.heap.size w2 W → (W.cell? ⟨r, 0, none⟩ = some (pA (Y.ip y.id)) ∧ W.cell? ⟨Y.ip y.id, 0, none⟩ = some (.int .i64 (y.id : Int)) ∧ W.cell? ⟨Y.ip y.id, 1, none⟩ = some (.int .i64 (y.gen : Int)))) := Lib.hid (fun W hW => by
        have h2 := HM.out.below HG.out.kind (HB2.out.trans (hW.mono HB2.out.size))
        obtain ⟨y0, y1, -⟩ := (h2.nod y HY.out.1).cells
        exact ⟨cell_of (blk_below HBR2.out hW) (j := 0) rfl, y0, y1⟩)
      have heq := eqlH ⟨(y.id : Int), (y.gen : Int)⟩ ⟨1, 1⟩
      dsimp only at heq
      obtain ⟨k2, hk2⟩ : ∃ k, decide ((y.id : Int) = 1 ∧ (y.gen : Int) = 1) = k := ⟨_, rfl⟩
      rw [hk2] at heq
      have hgu2 := guard_eqlH
      have HK2 : Hid ((y.id = 1) = (k2 = true)) := Lib.hid (by
        rw [← hk2]
        simp only [decide_eq_true_eq, eq_iff_iff]
        obtain ⟨z, hz, z1, z2, -⟩ := HG.out.root
        exact ⟨fun e => by have := HG.out.uid HY.out.1 hz (by omega); subst this; exact ⟨by omega, by omega⟩, fun e => by omega⟩)
      clear hk2
      go_upto_region 2 with fail
      obtain ⟨n0, n1, n2⟩ := HSS.out w2.drew (Below.refl _ _).drew
      go_region_held3 (fun W => W.cell? ⟨r, 0, none⟩ = some (pA (Y.ip y.id)) ∧ W.cell? ⟨Y.ip y.id, 0, none⟩ = some (.int .i64 (y.id : Int)) ∧ W.cell? ⟨Y.ip y.id, 1, none⟩ = some (.int .i64 (y.gen : Int)))
        (first
          | assumption
          | (with_reducible exact HSS.out _ (Below.refl _ _).drew))
        (first
          | (go_at_call 12; (with_reducible refine (HRO.out _).mono ?_); rintro e w3 ⟨rfl, hb3⟩; have hB3 : Below w2.heap.size w2 w3 := (Below.refl _ _).drew.trans (hb3.mono (Nat.le_refl _)); have hS3 := HSS.out w3 hB3))
      all_goals
        have HBR3 := Lib.hid (blk_below HBR2.out hB3)
        have HB3 : Hid (Below w.heap.size w w3) := Lib.hid (HB2.out.trans (hB3.mono HB2.out.size))
        rename_i hHeld
        clear hHeld hS3 hB3 hb3 n0 n1 n2
        cases k2 with
        | true =>
          go_wp2_with fail
          go_ret
          exact ⟨false, rfl, by
            have e1 : y.id = 1 := by have := HK2.out; simpa using this
            simp only [Bool.false_eq_true, false_iff]
            rw [HY.out.2.2, e1]
            exact bel_root (by rw [← e1]; exact HNE.out), HB3.out⟩
        | false =>
          have HN1 : Hid (y.id ≠ 1) := Lib.hid (fun e => by have := HK2.out; simp at this; exact this e)
          obtain ⟨z, hz, hzk⟩ := isD_iff.1 (par_in HG.out HY.out.1 HY.out.2.1)
          obtain ⟨z1, z2⟩ := nget_mem hz
          have hm3 := HM.out.below HG.out.kind HB3.out
          obtain ⟨f0, f1, -⟩ := hm3.folder HY.out.1 HY.out.2.1
          have r1 := cell_of HBR3.out (j := 1) rfl
          have hge : genO f.I y.par = z.gen := by unfold genO; rw [hz]
          have hfo : fol f.I ⟨(y.par : Int), (genO f.I y.par : Int)⟩ = .inr z := by
            unfold fol fnd
            dsimp only
            rw [hz]
            dsimp only
            rw [if_pos (by rw [hge])]
            dsimp only
            rw [if_pos hzk]
          have HOP := Lib.hid (open_any hm3 HG.out ⟨(y.par : Int), (genO f.I y.par : Int)⟩ ⟨by dsimp only; omega, by dsimp only; have := HG.out.rng z z1; omega, by dsimp only; omega, by dsimp only; have h1 := HG.out.gen z z1; have h2 := HBD.out.gns z.id; have h3 := HT.out; omega⟩)
          rw [opV_inr hfo] at HOP
          have HZ : Hid (z ∈ f.I ∧ z.kind = 2 ∧ z.id = y.par) := Lib.hid ⟨z1, hzk, by omega⟩
          clear hz hzk z1 z2 hm3 hge hfo
          go_wp2_with fail
          refine HOP.out.mono ?_
          rintro e w4 ⟨rfl, hb4⟩
          have hr4 := blk_below HBR3.out hb4
          obtain ⟨w5, hw5⟩ : ∃ W5, W5 = ((w4.setCell ⟨r, 0, none⟩ (pA (Y.ip z.id))).setCell ⟨r, 1, none⟩ (pA (Y.hp z.id))) := ⟨_, rfl⟩
          obtain ⟨hwr5, hk5⟩ := set2 hr4 (pA (Y.ip z.id)) (pA (Y.hp z.id))
          rw [← hw5] at hwr5 hk5
          have v0 := cell_of hr4 (j := 0) rfl
          have v1 := cell_of hr4 (j := 1) rfl
          have u0 := frozen_of_row w4 r 0 _ _ hr4
          have u1 := frozen_of_row w4 r 1 _ _ hr4
          have HB5 : Hid (Below w.heap.size w w5) := Lib.hid ((HB3.out.trans (hb4.mono HB3.out.size)).trans (hwr5.below.mono HRW.out))
          have HK5 := Lib.hid hk5
          have HW5 := Lib.hid hw5
          clear hb4 hr4 hw5 hwr5 hk5
          go_wp2_with fail
          rw [← HW5.out]
          go_roundw
          case rel => exact ⟨z, Lib.hid ⟨HZ.out.1, HZ.out.2.1, by rw [HY.out.2.2, bel_same HG.out.ids HY.out.1 HN1.out HNE.out, HZ.out.2.2]⟩, HK5, HB5, Lib.hid (blk_lt HK5.out)⟩
          case measure =>
            have e1 := deepAt_of (rk := rk) HM.out.iinj HZ.out.1 (cell_of HK5.out (j := 0) rfl)
            rw [e1, HMS.out, HZ.out.2.2]
            exact HRK.out y HY.out.1 HY.out.2.1 HN1.out
end Go.Proofs.Ytoaahhgngelnaaa
