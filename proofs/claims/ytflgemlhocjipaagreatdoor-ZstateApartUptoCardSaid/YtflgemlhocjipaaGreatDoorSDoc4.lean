/-
  What the document's own change, end and Apply return. Condition: memory holds a good state.
  What the document's own change returns. Condition: memory holds a good state, and the changes; no path is very long.
  What the document's own Apply returns. Condition: memory holds a good state, and the changes; no path is very long.
-/
import Derived.Test.YtflgemlhocjipaaGreatDoorSDoc1
import Derived.Test.YtflgemlhocjipaaGreatDoorRef11
import Derived.Test.YtflgemlhocjipaaGreatDoorLDoc2
import Derived.Test.YtflgemlhocjipaaGreatDoorSSeen
namespace Go.Proofs.YtflgemlhocjipaaGreatDoor
set_option maxRecDepth 100000
open Go.ChangeShapes Go.WideShapes Go.ChangeAt Go.RowKit Go.Proofs.Zn Go.Proofs.Zt
open Go.Proofs.Zs (St Lst Rep Tx)

theorem four_box (w : World) (o1 o2 o3 o4 : Obj) : ∃ w4, w4 = (((w.alloc o1).alloc o2).alloc o3).alloc o4 ∧ Below w.heap.size w w4 ∧ w4.heap[w.heap.size]? = some o1 ∧ w4.heap[w.heap.size + 1]? = some o2 ∧ w4.heap[w.heap.size + 1 + 1]? = some o3 ∧ w4.heap[w.heap.size + 1 + 1 + 1]? = some o4 ∧ w4.heap.size = w.heap.size + 4 := by
  have s1 : (w.alloc o1).heap.size = w.heap.size + 1 := by simp
  have s2 : ((w.alloc o1).alloc o2).heap.size = w.heap.size + 1 + 1 := by simp
  have s3 : (((w.alloc o1).alloc o2).alloc o3).heap.size = w.heap.size + 1 + 1 + 1 := by simp
  refine ⟨_, rfl, (((((Below.refl w.heap.size w).alloc (Nat.le_refl _) o1).alloc (by omega) o2).alloc (by omega) o3).alloc (by omega) o4), ?_, ?_, ?_, ?_, by simp⟩
  · exact blk_alloc (blk_alloc (blk_alloc (new_block w o1) o2) o3) o4
  · have := new_block (w.alloc o1) o2
    rw [s1] at this
    exact blk_alloc (blk_alloc this o3) o4
  · have := new_block ((w.alloc o1).alloc o2) o3
    rw [s2] at this
    exact blk_alloc this o4
  · have := new_block (((w.alloc o1).alloc o2).alloc o3) o4
    rw [s3] at this
    exact this
def RaPost (B : Nat) (a : St × Rep × List Evt) (w : World) (e : Ending) (w' : World) : Prop := ∃ vT vL vD vp ve, e = .returned (.tuple #[.agg #[.int .i64 a.1.z, vT, vL, vD], .agg #[.int .i64 a.2.1.c, .int .i64 a.2.1.s, vp], ve]) ∧ RW w' B vT vL vD a.1 ∧ PsW w' B vp a.2.1.ps ∧ EvW w' B ve a.2.2 ∧ Below w.heap.size w w'
theorem LsW.of_own {w : World} {base B : Nat} {A : Option Addr} {c : Nat} {l : List Lv} (h : w.ownsRow base 102 5 (.slice A l.length c) l.length (lvcells l)) (he : ∀ x ∈ l, LvOk w B x) : LsW w B (.slice A l.length c) (l.map lvL) :=
  ⟨A, c, l, rfl, ⟨Rd.of_own (cell := lvcell) h (fun _ _ => rfl) (by omega), Tg.of_own h (by decide), he⟩, rfl⟩
/-- What came in, or is new. -/
theorem TrW.of_trow {w w' : World} {B : Nat} {v : Value} {T : Tr} {n : Nat} (h : TRow (fun A => Tg w B A n) w w' v T) (hT : 0 < n) (hb : Below w.heap.size w w') : TrW w' B v T := by
  rcases h with ⟨A, c, rfl, hr, hq⟩ | h
  · exact ⟨A, c, rfl, hr.below hb, fun _ => (hq.below hb) hT⟩
  · exact .of_own h
set_option maxHeartbeats 4000000 in
theorem vend_any {w : World} {B : Nat} {S : St} {vT vL vD : Value} (h : RW w B vT vL vD S) (hB : B ≤ w.heap.size) (hg : Zs.Gd S) (hD : S.D.length ≤ 100000) (s : Int) :
    Calls Tryz.prog 74 #[.agg #[.int .i64 S.z, vT, vL, vD], .int .i64 s] w (RaPost B (Zs.fin S s) w) := by
  obtain ⟨z, T, L, D⟩ := S
  have h0 := h
  obtain ⟨⟨AT, cT, rfl, hrT, htT⟩, ⟨AL, cL, rfl, hrL⟩, ⟨AD, cD, l, rfl, hrD, hlD⟩⟩ := h
  dsimp only at *
  subst hlD
  rw [List.length_map] at hD
  have hT0 : 0 < T.length := by
    obtain ⟨y, hy, -⟩ := hg.T.root
    exact List.length_pos_of_mem (get_some hy).1
  obtain ⟨w3, hw3⟩ : ∃ xx, xx = ((w.alloc (.cells #[.int .i64 z, .slice AT T.length cT, .slice AL L.length cL, .slice AD l.length cD] 31)).alloc (.cells #[.int .i64 0, .slice none 0 0, .slice none 0 0, .slice none 0 0] 31)).alloc (.cells #[.int .i64 0, .int .i64 0, .slice none 0 0] 50) := ⟨_, rfl⟩
  obtain ⟨q, eq⟩ : ∃ xx, xx = w.heap.size := ⟨_, rfl⟩
  obtain ⟨r, er⟩ : ∃ xx, xx = w.heap.size + 1 := ⟨_, rfl⟩
  obtain ⟨p, ep⟩ : ∃ xx, xx = w.heap.size + 1 + 1 := ⟨_, rfl⟩
  have hx := four_box w (.cells #[.int .i64 z, .slice AT T.length cT, .slice AL L.length cL, .slice AD l.length cD] 31) (.cells #[.int .i64 0, .slice none 0 0, .slice none 0 0, .slice none 0 0] 31) (.cells #[.int .i64 0, .int .i64 0, .slice none 0 0] 50) (.cells #[] 50)
  have hb3 : Below w.heap.size w w3 := by rw [hw3]; exact box3 w _ _ _
  have hkq : w3.heap[q]? = some (.cells #[.int .i64 z, .slice AT T.length cT, .slice AL L.length cL, .slice AD l.length cD] 31 (0, 0)) := by rw [hw3, eq]; exact blk_alloc (blk_alloc (new_block w _) _) _
  have hkr : w3.heap[r]? = some (.cells #[.int .i64 0, .slice none 0 0, .slice none 0 0, .slice none 0 0] 31 (0, 0)) := by
    have h9 := new_block (w.alloc (.cells #[.int .i64 z, .slice AT T.length cT, .slice AL L.length cL, .slice AD l.length cD] 31)) (.cells #[.int .i64 0, .slice none 0 0, .slice none 0 0, .slice none 0 0] 31)
    rw [show (w.alloc (.cells #[.int .i64 z, .slice AT T.length cT, .slice AL L.length cL, .slice AD l.length cD] 31)).heap.size = w.heap.size + 1 by simp, ← er] at h9
    rw [hw3]; exact blk_alloc h9 _
  have hkp : w3.heap[p]? = some (.cells #[.int .i64 0, .int .i64 0, .slice none 0 0] 50 (0, 0)) := by
    have h9 := new_block ((w.alloc (.cells #[.int .i64 z, .slice AT T.length cT, .slice AL L.length cL, .slice AD l.length cD] 31)).alloc (.cells #[.int .i64 0, .slice none 0 0, .slice none 0 0, .slice none 0 0] 31)) (.cells #[.int .i64 0, .int .i64 0, .slice none 0 0] 50)
    rw [show ((w.alloc (.cells #[.int .i64 z, .slice AT T.length cT, .slice AL L.length cL, .slice AD l.length cD] 31)).alloc (.cells #[.int .i64 0, .slice none 0 0, .slice none 0 0, .slice none 0 0] 31)).heap.size = w.heap.size + 1 + 1 by simp, ← ep] at h9
    rw [hw3]; exact h9
  clear hx
  have hne : w.heap.size ≤ q ∧ w.heap.size ≤ r ∧ w.heap.size ≤ p ∧ q ≠ r ∧ q ≠ p ∧ r ≠ p := by omega
  have HEN := Lib.hid (rend_any (Q := fun A => Tg w3 B A T.length) (c := cT) (htT.below hb3) (hrT.below hb3) hg.T z s)
  obtain ⟨R, hR⟩ : ∃ R, endL T z s = R := ⟨_, rfl⟩
  obtain ⟨K, hK⟩ : ∃ K, Le.cls L s = K := ⟨_, rfl⟩
  have HFI : Hid (Zs.fin ⟨z, T, L, l.map lvL⟩ s = (⟨z, R.1, K.1, Zs.fg (l.map lvL) s⟩, Zs.er K.2, R.2)) := Lib.hid (by unfold Zs.fin; rw [hR, hK])
  rw [hR] at HEN
  have HCL : Hid (∀ (W : World), Below w.heap.size w W → Calls Tryz.prog 116 #[.slice AL L.length cL, .int .i64 s] W (Lq.RoPost B K W)) := Lib.hid (fun W hW => by rw [← hK]; exact Lq.rclose_any (hrL.below hW) hg.L s)
  have HFG : Hid (∀ (W : World) (a1 a2 : Option Addr) (n1 c1 n2 c2 : Nat), Below w.heap.size w W → Calls Tryz.prog 114 #[.agg #[.int .i64 z, .slice a1 n1 c1, .slice a2 n2 c2, .slice AD l.length cD], .int .i64 s] W (VfPost z (.slice a1 n1 c1) (.slice a2 n2 c2) l s W)) := Lib.hid (fun W a1 a2 n1 c1 n2 c2 hW => vforget_any (hrD.sk (.of_below hW)) hD z a1 a2 n1 c1 n2 c2 s)
  have HEA : Hid (∀ x ∈ l, LvOk w B x) := Lib.hid hrD.each
  have HT0 := Lib.hid hT0
  have HBQ : Hid (B ≤ q ∧ B ≤ r ∧ B ≤ p) := Lib.hid (by omega)
  have HB3 := Lib.hid hb3
  have HNE := Lib.hid hne
  have HW3 := Lib.hid hw3
  have EQ := Lib.hid eq
  have ER := Lib.hid er
  have EP := Lib.hid ep
  have HQ := Lib.hid hkq
  have HR := Lib.hid hkr
  have HP := Lib.hid hkp
  obtain ⟨nT, hnT⟩ : ∃ n, T.length = n := ⟨_, rfl⟩
  obtain ⟨nL, hnL⟩ : ∃ n, L.length = n := ⟨_, rfl⟩
  obtain ⟨nD, hnD⟩ : ∃ n, l.length = n := ⟨_, rfl⟩
  rw [hnT, hnL, hnD] at HW3 hkq HQ ⊢
  rw [hnT] at HEN HT0
  rw [hnL] at HCL
  rw [hnD] at HFG
  have q0 := cell_of hkq (j := 0) rfl
  have q1 := cell_of hkq (j := 1) rfl
  have q2 := cell_of hkq (j := 2) rfl
  have q3 := cell_of hkq (j := 3) rfl
  clear h0 hg hD hrT htT hrL hrD hT0 hw3 eq er ep hb3 hkq hkr hkp hne hR hK hnT hnL hnD
  go_enter Tryz.func74, Tryz.ntmps74
  go_upto_region 1 with fail
  rw [← HW3.out, ← EP.out, ← ER.out, ← EQ.out]
  go_wp2_with fail
  refine HEN.out.mono ?_
  rintro e w4 ⟨v1, v2, rfl, ht4, ho4, hb4⟩
  have htw := TrW.of_trow ht4 HT0.out hb4
  have hev : EvW w4 B v2 R.2 := EvW.of_own ho4
  obtain ⟨A4, c4, rfl, -, -⟩ := id htw
  obtain ⟨A5, c5, rfl, -, -⟩ := id hev
  have hq4 := blk_below HQ.out hb4
  obtain ⟨w5, hw5⟩ : ∃ xx, xx = w4.setCell ⟨q, 1, none⟩ (.slice A4 R.1.length c4) := ⟨_, rfl⟩
  obtain ⟨hwr5, hq5⟩ := seti hq4 1 (.slice A4 R.1.length c4)
  rw [← hw5] at hwr5 hq5
  have hq5' : w5.heap[q]? = some (.cells #[.int .i64 z, .slice A4 R.1.length c4, .slice AL nL cL, .slice AD nD cD] 31 (0, 0)) := hq5
  have hB5 : Below w.heap.size w w5 := (HB3.out.trans (hb4.mono HB3.out.size)).trans (hwr5.below.mono HNE.out.1)
  have HC5 := Lib.hid (HCL.out w5 hB5)
  have HT5 := Lib.hid (htw.wr hwr5 HBQ.out.1 hq4 (by decide))
  have HE5 := Lib.hid (hev.wr hwr5 HBQ.out.1 hq4 (by decide))
  have HR5 := Lib.hid (hwr5.blk (Ne.symm HNE.out.2.2.2.1) (blk_below HR.out hb4))
  have HP5 := Lib.hid (hwr5.blk (Ne.symm HNE.out.2.2.2.2.1) (blk_below HP.out hb4))
  have HQ5 := Lib.hid hq5'
  have HB5 := Lib.hid hB5
  have HW5 := Lib.hid hw5
  have s0 := cell_of hq4 (j := 0) rfl
  have s1 := cell_of hq4 (j := 1) rfl
  have s2 := cell_of hq4 (j := 2) rfl
  have s3 := cell_of hq4 (j := 3) rfl
  have f1 := frozen_of_row w4 q 1 _ _ hq4
  have u0 := cell_of hq5' (j := 0) rfl
  have u1 := cell_of hq5' (j := 1) rfl
  have u2 := cell_of hq5' (j := 2) rfl
  have u3 := cell_of hq5' (j := 3) rfl
  clear ht4 ho4 hb4 htw hev hq4 hw5 hwr5 hq5 hq5' hB5
  go_upto_region 3 with fail
  rw [← HW5.out]
  go_wp2_with fail
  refine HC5.out.mono ?_
  rintro e w6 ⟨v6, rfl, hd6, hb6⟩
  obtain ⟨A6, c6, rfl, -⟩ := id hd6
  have hq6 := blk_below HQ5.out hb6
  obtain ⟨w7, hw7⟩ : ∃ xx, xx = w6.setCell ⟨q, 2, none⟩ (.slice A6 K.1.length c6) := ⟨_, rfl⟩
  obtain ⟨hwr7, hq7⟩ := seti hq6 2 (.slice A6 K.1.length c6)
  rw [← hw7] at hwr7 hq7
  have hq7' : w7.heap[q]? = some (.cells #[.int .i64 z, .slice A4 R.1.length c4, .slice A6 K.1.length c6, .slice AD nD cD] 31 (0, 0)) := hq7
  have hB7 : Below w.heap.size w w7 := (HB5.out.trans (hb6.mono HB5.out.size)).trans (hwr7.below.mono HNE.out.1)
  have HF7 := Lib.hid (HFG.out w7 A4 A6 R.1.length c4 K.1.length c6 hB7)
  have HT7 := Lib.hid ((HT5.out.sk (.of_below hb6)).wr hwr7 HBQ.out.1 hq6 (by decide))
  have HE7 := Lib.hid ((HE5.out.sk (.of_below hb6)).wr hwr7 HBQ.out.1 hq6 (by decide))
  have HL7 := Lib.hid (DV.wr hd6 hwr7 HBQ.out.1 hq6 (by decide))
  have HR7 := Lib.hid (hwr7.blk (Ne.symm HNE.out.2.2.2.1) (blk_below HR5.out hb6))
  have HP7 := Lib.hid (hwr7.blk (Ne.symm HNE.out.2.2.2.2.1) (blk_below HP5.out hb6))
  have HB7 := Lib.hid hB7
  have HW7 := Lib.hid hw7
  have v0 := cell_of hq6 (j := 0) rfl
  have v1 := cell_of hq6 (j := 1) rfl
  have v2 := cell_of hq6 (j := 2) rfl
  have v3 := cell_of hq6 (j := 3) rfl
  have f2 := frozen_of_row w6 q 2 _ _ hq6
  have x0 := cell_of hq7' (j := 0) rfl
  have x1 := cell_of hq7' (j := 1) rfl
  have x2 := cell_of hq7' (j := 2) rfl
  have x3 := cell_of hq7' (j := 3) rfl
  clear hd6 hb6 hq6 hw7 hwr7 hq7 hq7' hB7
  go_upto_region 5 with fail
  rw [← HW7.out]
  go_wp2_with fail
  refine HF7.out.mono ?_
  rintro e w8 ⟨A8, c8, rfl, ho8, hb8⟩
  obtain ⟨F, hF⟩ : ∃ F, fgv l s = F := ⟨_, rfl⟩
  have HFM : Hid (F.map lvL = Zs.fg (l.map lvL) s ∧ ∀ x ∈ F, x ∈ l) := Lib.hid (by rw [← hF]; exact ⟨fgv_map l s, fun x hx => (List.mem_filter.1 hx).1⟩)
  rw [hF] at ho8 ⊢
  have hr8 := blk_below HR7.out hb8
  have hp8 := blk_below HP7.out hb8
  obtain ⟨w9, hw9⟩ : ∃ xx, xx = ((((w8.setCell ⟨r, 0, none⟩ (.int .i64 z)).setCell ⟨r, 1, none⟩ (.slice A4 R.1.length c4)).setCell ⟨r, 2, none⟩ (.slice A6 K.1.length c6)).setCell ⟨r, 3, none⟩ (.slice A8 F.length c8)) := ⟨_, rfl⟩
  obtain ⟨hwrw9, hkw9⟩ := set4 hr8 (.int .i64 z) (.slice A4 R.1.length c4) (.slice A6 K.1.length c6) (.slice A8 F.length c8)
  rw [← hw9] at hwrw9 hkw9
  have hp9 := hwrw9.blk (Ne.symm HNE.out.2.2.2.2.2) hp8
  obtain ⟨w10, hw10⟩ : ∃ xx, xx = (((w9.setCell ⟨p, 0, none⟩ (.int .i64 K.2)).setCell ⟨p, 1, none⟩ (.int .i64 0)).setCell ⟨p, 2, none⟩ (.slice none 0 0)) := ⟨_, rfl⟩
  obtain ⟨hwrw10, hkw10⟩ := set3 hp9 (.int .i64 K.2) (.int .i64 0) (.slice none 0 0)
  rw [← hw10] at hwrw10 hkw10
  have hr10 := hwrw10.blk HNE.out.2.2.2.2.2 hkw9
  have ho10 := own_gb (own_gb ho8 hwrw9.gb (own_ne ho8 hr8 (by decide))) hwrw10.gb (own_ne (own_gb ho8 hwrw9.gb (own_ne ho8 hr8 (by decide))) hp9 (by decide))
  have hB10 : Below w.heap.size w w10 := ((HB7.out.trans (hb8.mono HB7.out.size)).trans (hwrw9.below.mono HNE.out.2.1)).trans (hwrw10.below.mono HNE.out.2.2.1)
  have HE : Hid (RaPost B (Zs.fin ⟨z, T, L, l.map lvL⟩ s) w (.returned (.tuple #[.agg #[.int .i64 z, .slice A4 R.1.length c4, .slice A6 K.1.length c6, .slice A8 F.length c8], .agg #[.int .i64 K.2, .int .i64 0, .slice none 0 0], .slice A5 R.2.length c5])) w10) := Lib.hid
    (by
      rw [HFI.out]
      exact ⟨_, _, _, _, _, rfl, ⟨(((HT7.out.sk (.of_below hb8)).wr hwrw9 HBQ.out.2.1 hr8 (by decide)).wr hwrw10 HBQ.out.2.2 hp9 (by decide)), (DV.wr (DV.wr (DV.sk HL7.out (.of_below hb8)) hwrw9 HBQ.out.2.1 hr8 (by decide)) hwrw10 HBQ.out.2.2 hp9 (by decide)),
        by rw [← HFM.out.1]; exact LsW.of_own ho10 (fun x hx => (HEA.out x (HFM.out.2 x hx)).sk (.of_below hB10))⟩, PsW.nil _ _, ((HE7.out.sk (.of_below hb8)).wr hwrw9 HBQ.out.2.1 hr8 (by decide)).wr hwrw10 HBQ.out.2.2 hp9 (by decide), hB10⟩)
  have y0 := cell_of hr8 (j := 0) rfl
  have y1 := cell_of hr8 (j := 1) rfl
  have y2 := cell_of hr8 (j := 2) rfl
  have y3 := cell_of hr8 (j := 3) rfl
  have g0 := frozen_of_row w8 _ 0 _ _ hr8
  have g1 := frozen_of_row w8 _ 1 _ _ hr8
  have g2 := frozen_of_row w8 _ 2 _ _ hr8
  have g3 := frozen_of_row w8 _ 3 _ _ hr8
  have a0 := cell_of hp8 (j := 0) rfl
  have a1 := cell_of hp8 (j := 1) rfl
  have a2 := cell_of hp8 (j := 2) rfl
  have b0 := frozen_of_row w8 _ 0 _ _ hp8
  have b1 := frozen_of_row w8 _ 1 _ _ hp8
  have b2 := frozen_of_row w8 _ 2 _ _ hp8
  have hnrp := HNE.out.2.2.2.2.2
  have hnpr := Ne.symm hnrp
  have d0 := cell_of hr10 (j := 0) rfl
  have d1 := cell_of hr10 (j := 1) rfl
  have d2 := cell_of hr10 (j := 2) rfl
  have d3 := cell_of hr10 (j := 3) rfl
  have e0 := cell_of hkw10 (j := 0) rfl
  have e1 := cell_of hkw10 (j := 1) rfl
  have e2 := cell_of hkw10 (j := 2) rfl
  have HW9 := Lib.hid hw9
  have HW10 := Lib.hid hw10
  clear hF ho8 hb8 hr8 hp8 hw9 hwrw9 hkw9 hp9 hw10 hwrw10 hkw10 hr10 ho10 hB10
  go_wp2_with fail
  rw [← HW9.out, ← HW10.out]
  exact bodyPost_ret (v := .tuple #[.agg #[.int .i64 z, .slice A4 R.1.length c4, .slice A6 K.1.length c6, .slice A8 F.length c8], .agg #[.int .i64 K.2, .int .i64 0, .slice none 0 0], .slice A5 R.2.length c5]) (by simp [results, Tryz.results74, go_sem, d0, d1, d2, d3, e0, e1, e2]) rfl HE.out
end Go.Proofs.YtflgemlhocjipaaGreatDoor
namespace Go.Proofs.YtflgemlhocjipaaGreatDoor
set_option maxRecDepth 100000
open Go.ChangeShapes Go.WideShapes Go.ChangeAt Go.RowKit Go.Proofs.Zn Go.Proofs.Zt
open Go.Proofs.Zs (St Lst Rep Tx)

theorem Tg.kept {w W : World} {B : Nat} {A : Option Addr} {n : Nat} (hg : Tg w B A n) (hs : ∀ b o, w.heap[b]? = some o → (b < B ∨ ∃ cs t fr, o = .cells cs t fr ∧ rowTy t = true) → W.heap[b]? = some o) : Tg W B A n := fun h0 a e => by
  rcases hg h0 a e with h1 | ⟨cs, t, fr, h1, h2⟩
  · exact .inl h1
  · exact .inr ⟨cs, t, fr, hs _ _ h1 (.inr ⟨cs, t, fr, rfl, h2⟩), h2⟩
theorem TrW.kept {w W : World} {B : Nat} {v : Value} {T : Tr} (h : TrW w B v T) (hs : ∀ b o, w.heap[b]? = some o → (b < B ∨ ∃ cs t fr, o = .cells cs t fr ∧ rowTy t = true) → W.heap[b]? = some o) : TrW W B v T := by
  obtain ⟨A, c, e, h1, h2⟩ := h
  exact ⟨A, c, e, h1.kept h2 hs, h2.kept hs⟩
theorem PsW.kept {w W : World} {B : Nat} {v : Value} {T : List Txt} (h : PsW w B v T) (hs : ∀ b o, w.heap[b]? = some o → (b < B ∨ ∃ cs t fr, o = .cells cs t fr ∧ rowTy t = true) → W.heap[b]? = some o) : PsW W B v T := by
  obtain ⟨A, c, e, h1, h2⟩ := h
  exact ⟨A, c, e, h1.kept h2 hs, h2.kept hs⟩
theorem EvW.kept {w W : World} {B : Nat} {v : Value} {T : List Evt} (h : EvW w B v T) (hs : ∀ b o, w.heap[b]? = some o → (b < B ∨ ∃ cs t fr, o = .cells cs t fr ∧ rowTy t = true) → W.heap[b]? = some o) : EvW W B v T := by
  obtain ⟨A, c, e, h1, h2⟩ := h
  exact ⟨A, c, e, h1.kept h2 hs, h2.kept hs⟩
theorem ra_drew {B : Nat} {a : St × Rep × List Evt} {w w' : World} {e : Ending} (h : RaPost B a w e w') : RaPost B a w e w'.drew := by
  obtain ⟨vT, vL, vD, vp, ve, e1, h1, h2, h3, h4⟩ := h
  have hd : SK B w' w'.drew := .of_below (Below.refl _ _).drew
  exact ⟨vT, vL, vD, vp, ve, e1, h1.sk hd, h2.sk hd, h3.sk hd, h4.drew⟩
set_option maxHeartbeats 8000000 in
theorem vchange_any {w : World} {B : Nat} {S : St} {vT vL vD : Value} (h : RW w B vT vL vD S) (hB : B ≤ w.heap.size) (hg : Zs.Gd S) (hD : S.D.length ≤ 10000) (t : Tx) {At : Option Addr} {nt ct : Nat} (hrd : Rd ccell 6 w At nt t.l) (hp : ∀ c ∈ t.l, c.path.length ≤ 2097152) :
    Calls Tryz.prog 73 #[.agg #[.int .i64 S.z, vT, vL, vD], .agg #[.int .i64 t.k, .int .i64 t.s, .int .i64 t.n, .int .i64 t.sp, .int .i64 t.now, .slice At nt ct]] w (RaPost B (Zs.chg S t) w) := by
  obtain ⟨z, T, L, D⟩ := S
  have h00 := h
  obtain ⟨⟨AT, cT, rfl, hrT, htT⟩, ⟨AL, cL, rfl, hrL⟩, ⟨AD, cD, l, rfl, hrD, hlD⟩⟩ := h
  dsimp only at *
  subst hlD
  rw [List.length_map] at hD
  have hT0 : 0 < T.length := by
    obtain ⟨y, hy, -⟩ := hg.T.root
    exact List.length_pos_of_mem (get_some hy).1
  obtain ⟨w4, hw4, hbw4, hkq, hkp, hkr, hks, hsw4⟩ := four_box w (.cells #[.int .i64 z, .slice AT T.length cT, .slice AL L.length cL, .slice AD l.length cD] 31) (.cells #[.int .i64 t.k, .int .i64 t.s, .int .i64 t.n, .int .i64 t.sp, .int .i64 t.now, .slice At nt ct] 38) (.cells #[.int .i64 0, .slice none 0 0, .slice none 0 0, .slice none 0 0] 31) (.cells #[.int .i64 0, .int .i64 0, .slice none 0 0] 50)
  obtain ⟨q, eq⟩ : ∃ xx, xx = w.heap.size := ⟨_, rfl⟩
  obtain ⟨p, ep⟩ : ∃ xx, xx = w.heap.size + 1 := ⟨_, rfl⟩
  obtain ⟨r, er⟩ : ∃ xx, xx = w.heap.size + 1 + 1 := ⟨_, rfl⟩
  obtain ⟨s, es⟩ : ∃ xx, xx = w.heap.size + 1 + 1 + 1 := ⟨_, rfl⟩
  rw [← eq] at hkq
  rw [← ep] at hkp
  rw [← er] at hkr
  rw [← es] at hks
  have hne : w.heap.size ≤ q ∧ w.heap.size ≤ r ∧ w.heap.size ≤ s ∧ q ≠ r ∧ q ≠ s ∧ r ≠ s := by omega
  obtain ⟨a, ha⟩ : ∃ a, Zs.chg ⟨z, T, L, l.map lvL⟩ t = a := ⟨_, rfl⟩
  rw [ha]
  have hfd := vfind_any (hrD.sk (.of_below hbw4)) (by omega) z (.slice AT T.length cT) (.slice AL L.length cL) rfl rfl t.s (c := cD)
  have HFI := Lib.hid hfd
  have HRW : Hid (∀ (W : World), Below w.heap.size w W → RW W B (.slice AT T.length cT) (.slice AL L.length cL) (.slice AD l.length cD) ⟨z, T, L, l.map lvL⟩) := Lib.hid (fun W hW => h00.below hW)
  have HDO : Hid (t.l.length ≤ 6 → ∀ (W : World), Below w.heap.size w W → Calls Tryz.prog 113 #[.slice AT T.length cT, .agg #[.int .i64 z, .int .i64 t.s], .slice At nt ct] W (RdPost (fun A => Tg W B A T.length) (doL T z t.s t.l) W)) := Lib.hid (fun h6 W hW => rdo_any (Q := fun A => Tg W B A T.length) (cT := cT) (htT.below hW) (hrT.below hW) hg.T z t.s (hrd.below hW) (by rw [← hrd.len]; omega) hp)
  have HFG : Hid (∀ (W : World) (a1 a2 : Option Addr) (n1 c1 n2 c2 : Nat), Below w.heap.size w W → Calls Tryz.prog 114 #[.agg #[.int .i64 z, .slice a1 n1 c1, .slice a2 n2 c2, .slice AD l.length cD], .int .i64 t.s] W (VfPost z (.slice a1 n1 c1) (.slice a2 n2 c2) l t.s W)) := Lib.hid (fun W a1 a2 n1 c1 n2 c2 hW => vforget_any (hrD.sk (.of_below hW)) (by omega) z a1 a2 n1 c1 n2 c2 t.s)
  have HEA : Hid (∀ x ∈ l, LvOk w B x) := Lib.hid hrD.each
  have hNt := hrd.len
  have HN := Lib.hid hNt
  have HT0 := Lib.hid hT0
  have HDL := Lib.hid hD
  have HBQ : Hid (B ≤ q ∧ B ≤ r ∧ B ≤ s ∧ B ≤ w.heap.size) := Lib.hid (by omega)
  have HB4 := Lib.hid hbw4
  have HNE := Lib.hid hne
  have HA := Lib.hid ha
  have HW4 := Lib.hid hw4
  have EQ := Lib.hid eq
  have EP := Lib.hid ep
  have ER := Lib.hid er
  have ES := Lib.hid es
  have HQ := Lib.hid hkq
  have HP := Lib.hid hkp
  have HR := Lib.hid hkr
  have HS := Lib.hid hks
  obtain ⟨nT, hnT⟩ : ∃ n, T.length = n := ⟨_, rfl⟩
  obtain ⟨nL, hnL⟩ : ∃ n, L.length = n := ⟨_, rfl⟩
  obtain ⟨nD, hnD⟩ : ∃ n, l.length = n := ⟨_, rfl⟩
  rw [hnT, hnL, hnD] at HW4 hkq HQ HFI HRW ⊢
  rw [hnT] at HDO HT0
  rw [hnD] at HFG HDL
  have q0 := cell_of hkq (j := 0) rfl
  have q1 := cell_of hkq (j := 1) rfl
  have q2 := cell_of hkq (j := 2) rfl
  have q3 := cell_of hkq (j := 3) rfl
  have p0 := cell_of hkp (j := 0) rfl
  have p1 := cell_of hkp (j := 1) rfl
  have p2 := cell_of hkp (j := 2) rfl
  have p3 := cell_of hkp (j := 3) rfl
  have p4 := cell_of hkp (j := 4) rfl
  have p5 := cell_of hkp (j := 5) rfl
  have HND := Lib.hid hnD
  have HPN : Hid (p ≠ q ∧ p ≠ r ∧ p ≠ s) := Lib.hid (by omega)
  clear h00 hB hg hD hrT htT hrL hrD hT0 hw4 eq er ep es hbw4 hkq hkr hkp hks hne hfd hrd hp hNt ha hnT hnL hnD hsw4
  go_enter Tryz.func73, Tryz.ntmps73
  go_upto_region 1 with fail
  rw [← HW4.out, ← ES.out, ← ER.out, ← EP.out, ← EQ.out]
  go_wp2_with fail
  refine HFI.out.mono ?_
  rintro e w5 ⟨x, rfl, hx, hxo, hb5⟩
  obtain ⟨w6, hw6⟩ : ∃ xx, xx = w5.alloc (.cells #[.int .i64 x.s, .int .i64 x.n, .int .i64 x.c, .int .i64 x.rs, .slice x.A x.m x.k] 102) := ⟨_, rfl⟩
  obtain ⟨f, ef⟩ : ∃ xx, xx = w5.heap.size := ⟨_, rfl⟩
  have hbw6 : Below w5.heap.size w5 w6 := by rw [hw6]; exact box_below w5 _
  have hkf : w6.heap[f]? = some (.cells #[.int .i64 x.s, .int .i64 x.n, .int .i64 x.c, .int .i64 x.rs, .slice x.A x.m x.k] 102 (0, 0)) := by rw [hw6, ef]; exact new_block w5 _
  have hb46 : Below w4.heap.size w4 w6 := hb5.trans (hbw6.mono hb5.size)
  have hB6 : Below w.heap.size w w6 := HB4.out.trans (hb46.mono HB4.out.size)
  have hq6 := blk_below HQ.out hb46
  have hp6 := blk_below HP.out hb46
  have HR6 := Lib.hid (blk_below HR.out hb46)
  have HS6 := Lib.hid (blk_below HS.out hb46)
  have HX6 := Lib.hid (hxo.sk (.of_below hbw6))
  have HXL := Lib.hid hx
  have HB6 := Lib.hid hB6
  have HQ6 := Lib.hid hq6
  have HP6 := Lib.hid hp6
  have HF6 := Lib.hid hkf
  have hxn : x.n = (Zs.fd (l.map lvL) t.s).n := by rw [← hx]; rfl
  have hxr : (⟨x.c, x.rs, x.ps⟩ : Rep) = (Zs.fd (l.map lvL) t.s).r := by rw [← hx]; rfl
  have HXN := Lib.hid hxn
  have HXR := Lib.hid hxr
  have HW6 := Lib.hid hw6
  have EF := Lib.hid ef
  have HFN : Hid (f ≠ r ∧ f ≠ s ∧ f ≠ q) := Lib.hid (by
    have h1 := blk_lt (blk_below HR.out hb5)
    have h2 := blk_lt (blk_below HS.out hb5)
    have h3 := blk_lt (blk_below HQ.out hb5)
    omega)
  have u0 := cell_of hq6 (j := 0) rfl
  have u1 := cell_of hq6 (j := 1) rfl
  have u2 := cell_of hq6 (j := 2) rfl
  have u3 := cell_of hq6 (j := 3) rfl
  have v0 := cell_of hp6 (j := 0) rfl
  have v1 := cell_of hp6 (j := 1) rfl
  have v2 := cell_of hp6 (j := 2) rfl
  have v3 := cell_of hp6 (j := 3) rfl
  have v4 := cell_of hp6 (j := 4) rfl
  have v5 := cell_of hp6 (j := 5) rfl
  have f0 := cell_of hkf (j := 0) rfl
  have f1 := cell_of hkf (j := 1) rfl
  have f2 := cell_of hkf (j := 2) rfl
  have f3 := cell_of hkf (j := 3) rfl
  have f4 := cell_of hkf (j := 4) rfl
  obtain ⟨b1, hb1⟩ : ∃ b, decide (t.n < 1) = b := ⟨_, rfl⟩
  obtain ⟨b2, hb2⟩ : ∃ b, decide (4611686018427387904 < t.n) = b := ⟨_, rfl⟩
  obtain ⟨b3, hb3⟩ : ∃ b, decide (t.n < x.n) = b := ⟨_, rfl⟩
  obtain ⟨b4, hb4⟩ : ∃ b, decide ((6 : Int) < (nt : Int)) = b := ⟨_, rfl⟩
  obtain ⟨b5, hb5'⟩ : ∃ b, (t.n == x.n) = b := ⟨_, rfl⟩
  have HBB : Hid ((b1 = true ∨ b2 = true ∨ b3 = true ∨ b4 = true) ↔ (t.n < 1 ∨ Zt.mx < t.n ∨ t.n < (Zs.fd (l.map lvL) t.s).n ∨ 6 < t.l.length)) := Lib.hid (by
    rw [← hb1, ← hb2, ← hb3, ← hb4, ← hxn, decide_eq_true_iff, decide_eq_true_iff, decide_eq_true_iff, decide_eq_true_iff, HN.out]
    unfold mx
    omega)
  have HB5 := Lib.hid hb5'
  clear hx hxo hb5 hb46 hB6 hq6 hp6 hkf hbw6 hxn hxr hw6 ef q0 q1 q2 q3 p0 p1 p2 p3 p4 p5
  go_upto_region 2 with fail
  rw [← HW6.out, ← EF.out]
  cases b1 with
  | true =>
    have HD : Hid (a = (⟨z, T, L, l.map lvL⟩, Zs.er 1, [])) := Lib.hid (by rw [← HA.out]; unfold Zs.chg; rw [if_pos (HBB.out.1 (by simp))])
    have hr6 := HR6.out
    have hs6 := HS6.out
    obtain ⟨w7, hw7⟩ : ∃ xx, xx = ((((w6.setCell ⟨r, 0, none⟩ (.int .i64 z)).setCell ⟨r, 1, none⟩ (.slice AT nT cT)).setCell ⟨r, 2, none⟩ (.slice AL nL cL)).setCell ⟨r, 3, none⟩ (.slice AD nD cD)) := ⟨_, rfl⟩
    obtain ⟨hwrw7, hkw7⟩ := set4 hr6 (.int .i64 z) (.slice AT nT cT) (.slice AL nL cL) (.slice AD nD cD)
    rw [← hw7] at hwrw7 hkw7
    have hs7 := hwrw7.blk (Ne.symm HNE.out.2.2.2.2.2) hs6
    obtain ⟨w8, hw8⟩ : ∃ xx, xx = (((w7.setCell ⟨s, 0, none⟩ (.int .i64 1)).setCell ⟨s, 1, none⟩ (.int .i64 0)).setCell ⟨s, 2, none⟩ (.slice none 0 0)) := ⟨_, rfl⟩
    obtain ⟨hwrw8, hkw8⟩ := set3 hs7 (.int .i64 1) (.int .i64 0) (.slice none 0 0)
    rw [← hw8] at hwrw8 hkw8
    have hr8 := hwrw8.blk HNE.out.2.2.2.2.2 hkw7
    have hB8 : Below w.heap.size w w8 := (HB6.out.trans (hwrw7.below.mono HNE.out.2.1)).trans (hwrw8.below.mono HNE.out.2.2.1)
    have HE : Hid (RaPost B a w (.returned (.tuple #[.agg #[.int .i64 z, .slice AT nT cT, .slice AL nL cL, .slice AD nD cD], .agg #[.int .i64 1, .int .i64 0, .slice none 0 0], .slice none 0 0])) w8) := Lib.hid
      (by rw [HD.out]; exact ⟨_, _, _, _, _, rfl, HRW.out w8 hB8, PsW.nil _ _, EvW.nil _ _, hB8⟩)
    have y0 := cell_of hr6 (j := 0) rfl
    have y1 := cell_of hr6 (j := 1) rfl
    have y2 := cell_of hr6 (j := 2) rfl
    have y3 := cell_of hr6 (j := 3) rfl
    have g0 := frozen_of_row w6 _ 0 _ _ hr6
    have g1 := frozen_of_row w6 _ 1 _ _ hr6
    have g2 := frozen_of_row w6 _ 2 _ _ hr6
    have g3 := frozen_of_row w6 _ 3 _ _ hr6
    have x0 := cell_of hs6 (j := 0) rfl
    have x1 := cell_of hs6 (j := 1) rfl
    have x2 := cell_of hs6 (j := 2) rfl
    have h0 := frozen_of_row w6 _ 0 _ _ hs6
    have h1 := frozen_of_row w6 _ 1 _ _ hs6
    have h2 := frozen_of_row w6 _ 2 _ _ hs6
    have d0 := cell_of hr8 (j := 0) rfl
    have d1 := cell_of hr8 (j := 1) rfl
    have d2 := cell_of hr8 (j := 2) rfl
    have d3 := cell_of hr8 (j := 3) rfl
    have e0 := cell_of hkw8 (j := 0) rfl
    have e1 := cell_of hkw8 (j := 1) rfl
    have e2 := cell_of hkw8 (j := 2) rfl
    have hnrp := HNE.out.2.2.2.2.2
    have hnpr := Ne.symm hnrp
    have HW7 := Lib.hid hw7
    have HW8 := Lib.hid hw8
    clear hr6 hs6 hw7 hwrw7 hkw7 hs7 hw8 hwrw8 hkw8 hr8 hB8
    go_wp2_with fail
    rw [← HW7.out, ← HW8.out]
    exact bodyPost_ret (v := .tuple #[.agg #[.int .i64 z, .slice AT nT cT, .slice AL nL cL, .slice AD nD cD], .agg #[.int .i64 1, .int .i64 0, .slice none 0 0], .slice none 0 0]) (by simp [results, Tryz.results73, go_sem, d0, d1, d2, d3, e0, e1, e2]) rfl HE.out
  | false =>
    cases b2 with
    | true =>
      have HD : Hid (a = (⟨z, T, L, l.map lvL⟩, Zs.er 1, [])) := Lib.hid (by rw [← HA.out]; unfold Zs.chg; rw [if_pos (HBB.out.1 (by simp))])
      have hr6 := HR6.out
      have hs6 := HS6.out
      obtain ⟨w7, hw7⟩ : ∃ xx, xx = ((((w6.setCell ⟨r, 0, none⟩ (.int .i64 z)).setCell ⟨r, 1, none⟩ (.slice AT nT cT)).setCell ⟨r, 2, none⟩ (.slice AL nL cL)).setCell ⟨r, 3, none⟩ (.slice AD nD cD)) := ⟨_, rfl⟩
      obtain ⟨hwrw7, hkw7⟩ := set4 hr6 (.int .i64 z) (.slice AT nT cT) (.slice AL nL cL) (.slice AD nD cD)
      rw [← hw7] at hwrw7 hkw7
      have hs7 := hwrw7.blk (Ne.symm HNE.out.2.2.2.2.2) hs6
      obtain ⟨w8, hw8⟩ : ∃ xx, xx = (((w7.setCell ⟨s, 0, none⟩ (.int .i64 1)).setCell ⟨s, 1, none⟩ (.int .i64 0)).setCell ⟨s, 2, none⟩ (.slice none 0 0)) := ⟨_, rfl⟩
      obtain ⟨hwrw8, hkw8⟩ := set3 hs7 (.int .i64 1) (.int .i64 0) (.slice none 0 0)
      rw [← hw8] at hwrw8 hkw8
      have hr8 := hwrw8.blk HNE.out.2.2.2.2.2 hkw7
      have hB8 : Below w.heap.size w w8 := (HB6.out.trans (hwrw7.below.mono HNE.out.2.1)).trans (hwrw8.below.mono HNE.out.2.2.1)
      have HE : Hid (RaPost B a w (.returned (.tuple #[.agg #[.int .i64 z, .slice AT nT cT, .slice AL nL cL, .slice AD nD cD], .agg #[.int .i64 1, .int .i64 0, .slice none 0 0], .slice none 0 0])) w8) := Lib.hid
        (by rw [HD.out]; exact ⟨_, _, _, _, _, rfl, HRW.out w8 hB8, PsW.nil _ _, EvW.nil _ _, hB8⟩)
      have y0 := cell_of hr6 (j := 0) rfl
      have y1 := cell_of hr6 (j := 1) rfl
      have y2 := cell_of hr6 (j := 2) rfl
      have y3 := cell_of hr6 (j := 3) rfl
      have g0 := frozen_of_row w6 _ 0 _ _ hr6
      have g1 := frozen_of_row w6 _ 1 _ _ hr6
      have g2 := frozen_of_row w6 _ 2 _ _ hr6
      have g3 := frozen_of_row w6 _ 3 _ _ hr6
      have x0 := cell_of hs6 (j := 0) rfl
      have x1 := cell_of hs6 (j := 1) rfl
      have x2 := cell_of hs6 (j := 2) rfl
      have h0 := frozen_of_row w6 _ 0 _ _ hs6
      have h1 := frozen_of_row w6 _ 1 _ _ hs6
      have h2 := frozen_of_row w6 _ 2 _ _ hs6
      have d0 := cell_of hr8 (j := 0) rfl
      have d1 := cell_of hr8 (j := 1) rfl
      have d2 := cell_of hr8 (j := 2) rfl
      have d3 := cell_of hr8 (j := 3) rfl
      have e0 := cell_of hkw8 (j := 0) rfl
      have e1 := cell_of hkw8 (j := 1) rfl
      have e2 := cell_of hkw8 (j := 2) rfl
      have hnrp := HNE.out.2.2.2.2.2
      have hnpr := Ne.symm hnrp
      have HW7 := Lib.hid hw7
      have HW8 := Lib.hid hw8
      clear hr6 hs6 hw7 hwrw7 hkw7 hs7 hw8 hwrw8 hkw8 hr8 hB8
      go_wp2_with fail
      rw [← HW7.out, ← HW8.out]
      exact bodyPost_ret (v := .tuple #[.agg #[.int .i64 z, .slice AT nT cT, .slice AL nL cL, .slice AD nD cD], .agg #[.int .i64 1, .int .i64 0, .slice none 0 0], .slice none 0 0]) (by simp [results, Tryz.results73, go_sem, d0, d1, d2, d3, e0, e1, e2]) rfl HE.out
    | false =>
      cases b3 with
      | true =>
        have HD : Hid (a = (⟨z, T, L, l.map lvL⟩, Zs.er 1, [])) := Lib.hid (by rw [← HA.out]; unfold Zs.chg; rw [if_pos (HBB.out.1 (by simp))])
        have hr6 := HR6.out
        have hs6 := HS6.out
        obtain ⟨w7, hw7⟩ : ∃ xx, xx = ((((w6.setCell ⟨r, 0, none⟩ (.int .i64 z)).setCell ⟨r, 1, none⟩ (.slice AT nT cT)).setCell ⟨r, 2, none⟩ (.slice AL nL cL)).setCell ⟨r, 3, none⟩ (.slice AD nD cD)) := ⟨_, rfl⟩
        obtain ⟨hwrw7, hkw7⟩ := set4 hr6 (.int .i64 z) (.slice AT nT cT) (.slice AL nL cL) (.slice AD nD cD)
        rw [← hw7] at hwrw7 hkw7
        have hs7 := hwrw7.blk (Ne.symm HNE.out.2.2.2.2.2) hs6
        obtain ⟨w8, hw8⟩ : ∃ xx, xx = (((w7.setCell ⟨s, 0, none⟩ (.int .i64 1)).setCell ⟨s, 1, none⟩ (.int .i64 0)).setCell ⟨s, 2, none⟩ (.slice none 0 0)) := ⟨_, rfl⟩
        obtain ⟨hwrw8, hkw8⟩ := set3 hs7 (.int .i64 1) (.int .i64 0) (.slice none 0 0)
        rw [← hw8] at hwrw8 hkw8
        have hr8 := hwrw8.blk HNE.out.2.2.2.2.2 hkw7
        have hB8 : Below w.heap.size w w8 := (HB6.out.trans (hwrw7.below.mono HNE.out.2.1)).trans (hwrw8.below.mono HNE.out.2.2.1)
        have HE : Hid (RaPost B a w (.returned (.tuple #[.agg #[.int .i64 z, .slice AT nT cT, .slice AL nL cL, .slice AD nD cD], .agg #[.int .i64 1, .int .i64 0, .slice none 0 0], .slice none 0 0])) w8) := Lib.hid
          (by rw [HD.out]; exact ⟨_, _, _, _, _, rfl, HRW.out w8 hB8, PsW.nil _ _, EvW.nil _ _, hB8⟩)
        have y0 := cell_of hr6 (j := 0) rfl
        have y1 := cell_of hr6 (j := 1) rfl
        have y2 := cell_of hr6 (j := 2) rfl
        have y3 := cell_of hr6 (j := 3) rfl
        have g0 := frozen_of_row w6 _ 0 _ _ hr6
        have g1 := frozen_of_row w6 _ 1 _ _ hr6
        have g2 := frozen_of_row w6 _ 2 _ _ hr6
        have g3 := frozen_of_row w6 _ 3 _ _ hr6
        have x0 := cell_of hs6 (j := 0) rfl
        have x1 := cell_of hs6 (j := 1) rfl
        have x2 := cell_of hs6 (j := 2) rfl
        have h0 := frozen_of_row w6 _ 0 _ _ hs6
        have h1 := frozen_of_row w6 _ 1 _ _ hs6
        have h2 := frozen_of_row w6 _ 2 _ _ hs6
        have d0 := cell_of hr8 (j := 0) rfl
        have d1 := cell_of hr8 (j := 1) rfl
        have d2 := cell_of hr8 (j := 2) rfl
        have d3 := cell_of hr8 (j := 3) rfl
        have e0 := cell_of hkw8 (j := 0) rfl
        have e1 := cell_of hkw8 (j := 1) rfl
        have e2 := cell_of hkw8 (j := 2) rfl
        have hnrp := HNE.out.2.2.2.2.2
        have hnpr := Ne.symm hnrp
        have HW7 := Lib.hid hw7
        have HW8 := Lib.hid hw8
        clear hr6 hs6 hw7 hwrw7 hkw7 hs7 hw8 hwrw8 hkw8 hr8 hB8
        go_wp2_with fail
        rw [← HW7.out, ← HW8.out]
        exact bodyPost_ret (v := .tuple #[.agg #[.int .i64 z, .slice AT nT cT, .slice AL nL cL, .slice AD nD cD], .agg #[.int .i64 1, .int .i64 0, .slice none 0 0], .slice none 0 0]) (by simp [results, Tryz.results73, go_sem, d0, d1, d2, d3, e0, e1, e2]) rfl HE.out
      | false =>
        cases b4 with
        | true =>
          have HD : Hid (a = (⟨z, T, L, l.map lvL⟩, Zs.er 1, [])) := Lib.hid (by rw [← HA.out]; unfold Zs.chg; rw [if_pos (HBB.out.1 (by simp))])
          have hr6 := HR6.out
          have hs6 := HS6.out
          obtain ⟨w7, hw7⟩ : ∃ xx, xx = ((((w6.setCell ⟨r, 0, none⟩ (.int .i64 z)).setCell ⟨r, 1, none⟩ (.slice AT nT cT)).setCell ⟨r, 2, none⟩ (.slice AL nL cL)).setCell ⟨r, 3, none⟩ (.slice AD nD cD)) := ⟨_, rfl⟩
          obtain ⟨hwrw7, hkw7⟩ := set4 hr6 (.int .i64 z) (.slice AT nT cT) (.slice AL nL cL) (.slice AD nD cD)
          rw [← hw7] at hwrw7 hkw7
          have hs7 := hwrw7.blk (Ne.symm HNE.out.2.2.2.2.2) hs6
          obtain ⟨w8, hw8⟩ : ∃ xx, xx = (((w7.setCell ⟨s, 0, none⟩ (.int .i64 1)).setCell ⟨s, 1, none⟩ (.int .i64 0)).setCell ⟨s, 2, none⟩ (.slice none 0 0)) := ⟨_, rfl⟩
          obtain ⟨hwrw8, hkw8⟩ := set3 hs7 (.int .i64 1) (.int .i64 0) (.slice none 0 0)
          rw [← hw8] at hwrw8 hkw8
          have hr8 := hwrw8.blk HNE.out.2.2.2.2.2 hkw7
          have hB8 : Below w.heap.size w w8 := (HB6.out.trans (hwrw7.below.mono HNE.out.2.1)).trans (hwrw8.below.mono HNE.out.2.2.1)
          have HE : Hid (RaPost B a w (.returned (.tuple #[.agg #[.int .i64 z, .slice AT nT cT, .slice AL nL cL, .slice AD nD cD], .agg #[.int .i64 1, .int .i64 0, .slice none 0 0], .slice none 0 0])) w8) := Lib.hid
            (by rw [HD.out]; exact ⟨_, _, _, _, _, rfl, HRW.out w8 hB8, PsW.nil _ _, EvW.nil _ _, hB8⟩)
          have y0 := cell_of hr6 (j := 0) rfl
          have y1 := cell_of hr6 (j := 1) rfl
          have y2 := cell_of hr6 (j := 2) rfl
          have y3 := cell_of hr6 (j := 3) rfl
          have g0 := frozen_of_row w6 _ 0 _ _ hr6
          have g1 := frozen_of_row w6 _ 1 _ _ hr6
          have g2 := frozen_of_row w6 _ 2 _ _ hr6
          have g3 := frozen_of_row w6 _ 3 _ _ hr6
          have x0 := cell_of hs6 (j := 0) rfl
          have x1 := cell_of hs6 (j := 1) rfl
          have x2 := cell_of hs6 (j := 2) rfl
          have h0 := frozen_of_row w6 _ 0 _ _ hs6
          have h1 := frozen_of_row w6 _ 1 _ _ hs6
          have h2 := frozen_of_row w6 _ 2 _ _ hs6
          have d0 := cell_of hr8 (j := 0) rfl
          have d1 := cell_of hr8 (j := 1) rfl
          have d2 := cell_of hr8 (j := 2) rfl
          have d3 := cell_of hr8 (j := 3) rfl
          have e0 := cell_of hkw8 (j := 0) rfl
          have e1 := cell_of hkw8 (j := 1) rfl
          have e2 := cell_of hkw8 (j := 2) rfl
          have hnrp := HNE.out.2.2.2.2.2
          have hnpr := Ne.symm hnrp
          have HW7 := Lib.hid hw7
          have HW8 := Lib.hid hw8
          clear hr6 hs6 hw7 hwrw7 hkw7 hs7 hw8 hwrw8 hkw8 hr8 hB8
          go_wp2_with fail
          rw [← HW7.out, ← HW8.out]
          exact bodyPost_ret (v := .tuple #[.agg #[.int .i64 z, .slice AT nT cT, .slice AL nL cL, .slice AD nD cD], .agg #[.int .i64 1, .int .i64 0, .slice none 0 0], .slice none 0 0]) (by simp [results, Tryz.results73, go_sem, d0, d1, d2, d3, e0, e1, e2]) rfl HE.out
        | false =>
          have HOK : Hid (¬ (t.n < 1 ∨ Zt.mx < t.n ∨ t.n < (Zs.fd (l.map lvL) t.s).n ∨ 6 < t.l.length)) := Lib.hid (fun hh => by
            rcases HBB.out.2 hh with h9 | h9 | h9 | h9 <;> cases h9)
          have hnrp := HNE.out.2.2.2.2.2
          have hnpr := Ne.symm hnrp
          have hnqr := HNE.out.2.2.2.1
          have hnrq := Ne.symm hnqr
          have hnqs := HNE.out.2.2.2.2.1
          have hnsq := Ne.symm hnqs
          have hnfr := HFN.out.1
          have hnrf := Ne.symm hnfr
          have hnfs := HFN.out.2.1
          have hnsf := Ne.symm hnfs
          cases b5 with
          | true =>
            have HD : Hid (a = (⟨z, T, L, l.map lvL⟩, ⟨x.c, x.rs, x.ps⟩, [])) := Lib.hid (by
              have e5 : t.n = x.n := by simpa using HB5.out
              rw [← HA.out]; unfold Zs.chg; rw [if_neg HOK.out, if_pos (by rw [e5]; exact HXN.out), ← HXR.out])
            have HFIN : Hid (∀ (W : World), Below w.heap.size w W → Below w6.heap.size w6 W ∨ (∃ W1, Wr r w6 W1 ∧ Wr s W1 W) ∨ (∃ W1, Wr s w6 W1 ∧ Wr r W1 W) → RaPost B a w (.returned (.tuple #[.agg #[.int .i64 z, .slice AT nT cT, .slice AL nL cL, .slice AD nD cD], .agg #[.int .i64 x.c, .int .i64 x.rs, .slice x.A x.m x.k], .slice none 0 0])) W) := Lib.hid (fun W hW hh => by
              have hx : LvOk W B x := by
                rcases hh with hh | ⟨W1, h1, h2⟩ | ⟨W1, h1, h2⟩
                · exact HX6.out.sk (.of_below hh)
                · exact ⟨(HX6.out.rd.wr HX6.out.tg h1 HBQ.out.2.1 HR6.out (by decide)).wr (HX6.out.tg.wr h1 HBQ.out.2.1 HR6.out (by decide)) h2 HBQ.out.2.2.1 (h1.blk hnpr HS6.out) (by decide), (HX6.out.tg.wr h1 HBQ.out.2.1 HR6.out (by decide)).wr h2 HBQ.out.2.2.1 (h1.blk hnpr HS6.out) (by decide)⟩
                · exact ⟨(HX6.out.rd.wr HX6.out.tg h1 HBQ.out.2.2.1 HS6.out (by decide)).wr (HX6.out.tg.wr h1 HBQ.out.2.2.1 HS6.out (by decide)) h2 HBQ.out.2.1 (h1.blk hnrp HR6.out) (by decide), (HX6.out.tg.wr h1 HBQ.out.2.2.1 HS6.out (by decide)).wr h2 HBQ.out.2.1 (h1.blk hnrp HR6.out) (by decide)⟩
              rw [HD.out]
              have hm : x.m = x.ps.length := hx.rd.len.symm
              exact ⟨_, _, _, _, _, rfl, HRW.out W hW, ⟨x.A, x.k, by rw [hm], by have h9 := hx.rd; rw [hm] at h9; exact h9, by have h9 := hx.tg; rw [hm] at h9; exact h9⟩, EvW.nil _ _, hW⟩)
            have hr6 := HR6.out
            have hs6 := HS6.out
            have y0 := cell_of hr6 (j := 0) rfl
            have y1 := cell_of hr6 (j := 1) rfl
            have y2 := cell_of hr6 (j := 2) rfl
            have y3 := cell_of hr6 (j := 3) rfl
            have g0 := frozen_of_row w6 _ 0 _ _ hr6
            have g1 := frozen_of_row w6 _ 1 _ _ hr6
            have g2 := frozen_of_row w6 _ 2 _ _ hr6
            have g3 := frozen_of_row w6 _ 3 _ _ hr6
            have x0 := cell_of hs6 (j := 0) rfl
            have x1 := cell_of hs6 (j := 1) rfl
            have x2 := cell_of hs6 (j := 2) rfl
            have h0 := frozen_of_row w6 _ 0 _ _ hs6
            have h1 := frozen_of_row w6 _ 1 _ _ hs6
            have h2 := frozen_of_row w6 _ 2 _ _ hs6
            clear hr6 hs6
            go_upto_region 5 with fail
            go_region
            all_goals
              first
                | (obtain ⟨w7, hw7⟩ : ∃ xx, xx = ((((w6.setCell ⟨r, 0, none⟩ (.int .i64 z)).setCell ⟨r, 1, none⟩ (.slice AT nT cT)).setCell ⟨r, 2, none⟩ (.slice AL nL cL)).setCell ⟨r, 3, none⟩ (.slice AD nD cD)) := ⟨_, rfl⟩
                   obtain ⟨hwr7, hk7⟩ := set4 HR6.out (.int .i64 z) (.slice AT nT cT) (.slice AL nL cL) (.slice AD nD cD)
                   rw [← hw7] at hwr7 hk7
                   have hs7 := hwr7.blk hnpr HS6.out
                   obtain ⟨w8, hw8⟩ : ∃ xx, xx = (((w7.setCell ⟨s, 0, none⟩ (.int .i64 x.c)).setCell ⟨s, 1, none⟩ (.int .i64 x.rs)).setCell ⟨s, 2, none⟩ (.slice x.A x.m x.k)) := ⟨_, rfl⟩
                   obtain ⟨hwr8, hk8⟩ := set3 hs7 (.int .i64 x.c) (.int .i64 x.rs) (.slice x.A x.m x.k)
                   rw [← hw8] at hwr8 hk8
                   have hk9 := hwr8.blk hnrp hk7
                   have HE := Lib.hid (ra_drew (HFIN.out w8 ((HB6.out.trans (hwr7.below.mono HNE.out.2.1)).trans (hwr8.below.mono HNE.out.2.2.1)) (.inr (.inl ⟨w7, hwr7, hwr8⟩))))
                   rw [← hw7, ← hw8]
                   have d0 := cell_of hk9 (j := 0) rfl
                   have d1 := cell_of hk9 (j := 1) rfl
                   have d2 := cell_of hk9 (j := 2) rfl
                   have d3 := cell_of hk9 (j := 3) rfl
                   have e0 := cell_of hk8 (j := 0) rfl
                   have e1 := cell_of hk8 (j := 1) rfl
                   have e2 := cell_of hk8 (j := 2) rfl
                   clear hwr7 hk7 hs7 hwr8 hk8 hk9 hw7 hw8)
                | (obtain ⟨w7, hw7⟩ : ∃ xx, xx = (((w6.setCell ⟨s, 0, none⟩ (.int .i64 x.c)).setCell ⟨s, 1, none⟩ (.int .i64 x.rs)).setCell ⟨s, 2, none⟩ (.slice x.A x.m x.k)) := ⟨_, rfl⟩
                   obtain ⟨hwr7, hk7⟩ := set3 HS6.out (.int .i64 x.c) (.int .i64 x.rs) (.slice x.A x.m x.k)
                   rw [← hw7] at hwr7 hk7
                   have hs7 := hwr7.blk hnrp HR6.out
                   obtain ⟨w8, hw8⟩ : ∃ xx, xx = ((((w7.setCell ⟨r, 0, none⟩ (.int .i64 z)).setCell ⟨r, 1, none⟩ (.slice AT nT cT)).setCell ⟨r, 2, none⟩ (.slice AL nL cL)).setCell ⟨r, 3, none⟩ (.slice AD nD cD)) := ⟨_, rfl⟩
                   obtain ⟨hwr8, hk9⟩ := set4 hs7 (.int .i64 z) (.slice AT nT cT) (.slice AL nL cL) (.slice AD nD cD)
                   rw [← hw8] at hwr8 hk9
                   have hk8 := hwr8.blk hnpr hk7
                   have HE := Lib.hid (ra_drew (HFIN.out w8 ((HB6.out.trans (hwr7.below.mono HNE.out.2.2.1)).trans (hwr8.below.mono HNE.out.2.1)) (.inr (.inr ⟨w7, hwr7, hwr8⟩))))
                   rw [← hw7, ← hw8]
                   have d0 := cell_of hk9 (j := 0) rfl
                   have d1 := cell_of hk9 (j := 1) rfl
                   have d2 := cell_of hk9 (j := 2) rfl
                   have d3 := cell_of hk9 (j := 3) rfl
                   have e0 := cell_of hk8 (j := 0) rfl
                   have e1 := cell_of hk8 (j := 1) rfl
                   have e2 := cell_of hk8 (j := 2) rfl
                   clear hwr7 hk7 hs7 hwr8 hk8 hk9 hw7 hw8)
            all_goals
              go_wp2_with fail
              exact bodyPost_ret (v := .tuple #[.agg #[.int .i64 z, .slice AT nT cT, .slice AL nL cL, .slice AD nD cD], .agg #[.int .i64 x.c, .int .i64 x.rs, .slice x.A x.m x.k], .slice none 0 0]) (by simp [results, Tryz.results73, go_sem, d0, d1, d2, d3, e0, e1, e2]) rfl HE.out
          | false =>
            obtain ⟨R, hR⟩ : ∃ R, doL T z t.s t.l = R := ⟨_, rfl⟩
            have hl6 : t.l.length ≤ 6 := by have := HOK.out; omega
            have HDC := Lib.hid (HDO.out hl6 w6 HB6.out)
            rw [hR] at HDC
            have HPL : Hid (R.ps.length ≤ 6 ∧ t.l.length ≤ 6) := Lib.hid ⟨by rw [← hR]; exact Nat.le_trans (Zs.do_ps _ _ _ _) hl6, hl6⟩
            have HD : Hid (a = (⟨z, R.T, L, Zs.fg (l.map lvL) t.s ++ [⟨t.s, t.n, ⟨R.e, 0, R.ps⟩⟩]⟩, ⟨R.e, 0, R.ps⟩, R.es)) := Lib.hid (by
              have e5 : ¬ t.n = x.n := by simpa using HB5.out
              rw [← HA.out]; unfold Zs.chg; rw [if_neg HOK.out, if_neg (by rw [← HXN.out]; exact e5), hR])
            clear hR hl6
            go_upto_region 6 with fail
            go_wp2_with fail
            refine HDC.out.mono ?_
            rintro e w7 ⟨v1, v2, v3, rfl, ht7, ho2, ho3, hb7⟩
            have htw := TrW.of_trow ht7 HT0.out hb7
            obtain ⟨A1, c1, rfl, -, -⟩ := id htw
            obtain ⟨A2, c2, rfl, -, -, -⟩ := own_form ho2
            obtain ⟨A3, c3, rfl, -, -, -⟩ := own_form ho3
            have hq7 := blk_below HQ6.out hb7
            have hB7 := HB6.out.trans (hb7.mono HB6.out.size)
            obtain ⟨w8, hw8⟩ : ∃ xx, xx = w7.setCell ⟨q, 1, none⟩ (.slice A1 R.T.length c1) := ⟨_, rfl⟩
            obtain ⟨hwr8, hq8⟩ := seti hq7 1 (.slice A1 R.T.length c1)
            rw [← hw8] at hwr8 hq8
            have hq8' : w8.heap[q]? = some (.cells #[.int .i64 z, .slice A1 R.T.length c1, .slice AL nL cL, .slice AD nD cD] 31 (0, 0)) := hq8
            have HT8 := Lib.hid (htw.wr hwr8 HBQ.out.1 hq7 (by decide))
            have HP8 := Lib.hid (Wr.own hwr8 hq7 (own_base ho2 HB6.out.size) (by decide))
            have HE8 := Lib.hid (Wr.own hwr8 hq7 (own_base ho3 HB6.out.size) (by decide))
            have hB8 : Below w.heap.size w w8 := hB7.trans (hwr8.below.mono HNE.out.1)
            have hp8 := hwr8.blk HPN.out.1 (blk_below HP6.out hb7)
            have hr8 := hwr8.blk hnrq (blk_below HR6.out hb7)
            have hs8 := hwr8.blk hnsq (blk_below HS6.out hb7)
            obtain ⟨w9, hw9⟩ : ∃ xx, xx = w8.alloc (.cells #[.int .i64 R.e, .int .i64 0, .slice A2 R.ps.length c2] 50) := ⟨_, rfl⟩
            obtain ⟨g, eg⟩ : ∃ xx, xx = w8.heap.size := ⟨_, rfl⟩
            have hbw9 : Below w8.heap.size w8 w9 := by rw [hw9]; exact box_below w8 _
            have hkg : w9.heap[g]? = some (.cells #[.int .i64 R.e, .int .i64 0, .slice A2 R.ps.length c2] 50 (0, 0)) := by rw [hw9, eg]; exact new_block w8 _
            have hB9 := hB8.trans (hbw9.mono hB8.size)
            have HF9 := Lib.hid (HFG.out w9 A1 AL R.T.length c1 nL cL hB9)
            have HB9 := Lib.hid hB9
            have HQ9 := Lib.hid (blk_below hq8' hbw9)
            have HP9 := Lib.hid (blk_below hp8 hbw9)
            have HR9 := Lib.hid (blk_below hr8 hbw9)
            have HS9 := Lib.hid (blk_below hs8 hbw9)
            have HG9 := Lib.hid hkg
            have HGN : Hid (g ≠ q ∧ g ≠ r ∧ g ≠ s) := Lib.hid (by
              have h1 := blk_lt hq8'
              have h2 := blk_lt hr8
              have h3 := blk_lt hs8
              omega)
            have HW8 := Lib.hid hw8
            have HW9 := Lib.hid hw9
            have EG := Lib.hid eg
            have HBX9 : Hid (Below w8.heap.size w8 w9) := Lib.hid hbw9
            have s0 := cell_of hq7 (j := 0) rfl
            have s1 := cell_of hq7 (j := 1) rfl
            have s2 := cell_of hq7 (j := 2) rfl
            have s3 := cell_of hq7 (j := 3) rfl
            have f1 := frozen_of_row w7 q 1 _ _ hq7
            have hq9 := HQ9.out
            have hp9 := HP9.out
            have i0 := cell_of hq9 (j := 0) rfl
            have i1 := cell_of hq9 (j := 1) rfl
            have i2 := cell_of hq9 (j := 2) rfl
            have i3 := cell_of hq9 (j := 3) rfl
            have j0 := cell_of hp9 (j := 0) rfl
            have j1 := cell_of hp9 (j := 1) rfl
            have j2 := cell_of hp9 (j := 2) rfl
            have j3 := cell_of hp9 (j := 3) rfl
            have j4 := cell_of hp9 (j := 4) rfl
            have j5 := cell_of hp9 (j := 5) rfl
            clear ht7 ho2 ho3 hb7 htw hq7 hw8 hwr8 hq8 hq8' hB7 hB8 hp8 hr8 hs8 hw9 eg hbw9 hkg hB9 hq9 hp9 u0 u1 u2 u3 v0 v1 v2 v3 v4 v5 f0 f2 f3 f4
            go_upto_region 8 with fail
            rw [← HW8.out]
            go_upto_region 9 with fail
            rw [← HW9.out, ← EG.out]
            go_wp2_with fail
            refine HF9.out.mono ?_
            rintro e w10 ⟨A10, c10, rfl, ho10, hb10⟩
            obtain ⟨F, hF⟩ : ∃ F, fgv l t.s = F := ⟨_, rfl⟩
            have HFM : Hid (F.map lvL = Zs.fg (l.map lvL) t.s ∧ (∀ y ∈ F, y ∈ l) ∧ F.length ≤ nD) := Lib.hid (by rw [← hF]; exact ⟨fgv_map l t.s, fun y hy => (List.mem_filter.1 hy).1, by rw [← HND.out]; exact List.length_filter_le _ _⟩)
            rw [hF] at ho10 ⊢
            have hq10 := blk_below HQ9.out hb10
            obtain ⟨w11, hw11⟩ : ∃ xx, xx = ((((w10.setCell ⟨q, 0, none⟩ (.int .i64 z)).setCell ⟨q, 1, none⟩ (.slice A1 R.T.length c1)).setCell ⟨q, 2, none⟩ (.slice AL nL cL)).setCell ⟨q, 3, none⟩ (.slice A10 F.length c10)) := ⟨_, rfl⟩
            obtain ⟨hwrw11, hkw11⟩ := set4 hq10 (.int .i64 z) (.slice A1 R.T.length c1) (.slice AL nL cL) (.slice A10 F.length c10)
            rw [← hw11] at hwrw11 hkw11
            have hB11 : Below w.heap.size w w11 := (HB9.out.trans (hb10.mono HB9.out.size)).trans (hwrw11.below.mono HNE.out.1)
            have hp11 := hwrw11.blk HPN.out.1 (blk_below HP9.out hb10)
            have hg11 := hwrw11.blk HGN.out.1 (blk_below HG9.out hb10)
            have hr11 := hwrw11.blk hnrq (blk_below HR9.out hb10)
            have hs11 := hwrw11.blk hnsq (blk_below HS9.out hb10)
            have ho11 := own_base (Wr.own hwrw11 hq10 ho10 (by decide)) HB9.out.size
            have hb12 := box_below w11 (.cells #[.int .i64 t.s, .int .i64 t.n, .int .i64 R.e, .int .i64 0, .slice A2 R.ps.length c2] 102)
            have hk12 := new_block w11 (.cells #[.int .i64 t.s, .int .i64 t.n, .int .i64 R.e, .int .i64 0, .slice A2 R.ps.length c2] 102)
            obtain ⟨w12, hw12⟩ : ∃ xx, xx = w11.alloc (.cells #[.int .i64 t.s, .int .i64 t.n, .int .i64 R.e, .int .i64 0, .slice A2 R.ps.length c2] 102) := ⟨_, rfl⟩
            obtain ⟨nb, enb⟩ : ∃ xx, xx = w11.heap.size := ⟨_, rfl⟩
            rw [← hw12] at hb12 hk12
            rw [← enb] at hk12
            have ho11' := (Wr.own hwrw11 hq10 ho10 (by decide))
            have ho12 := own_below ho11' hb12
            have hq12 := blk_below hkw11 hb12
            have hsz12 : w9.heap.size ≤ w12.heap.size := by have := hb10.size; have := hwrw11.below.size; have := hb12.size; omega
            have HK12 : Hid (∀ k, k < w9.heap.size → k ≠ q → w12.heap[k]? = w9.heap[k]?) := Lib.hid (fun k hk hkq => (hb12.block k (by have := hb10.size; have := hwrw11.below.size; omega)).trans ((hwrw11.rest k hkq).trans (hb10.block k hk)))
            have HR12 := Lib.hid (blk_below hr11 hb12)
            have HS12 := Lib.hid (blk_below hs11 hb12)
            have HG12 := Lib.hid (blk_below hg11 hb12)
            have HB12 := Lib.hid (hB11.trans (hb12.mono hB11.size))
            have k0 := cell_of hq10 (j := 0) rfl
            have k1 := cell_of hq10 (j := 1) rfl
            have k2 := cell_of hq10 (j := 2) rfl
            have k3 := cell_of hq10 (j := 3) rfl
            have kk0 := frozen_of_row w10 _ 0 _ _ hq10
            have kk1 := frozen_of_row w10 _ 1 _ _ hq10
            have kk2 := frozen_of_row w10 _ 2 _ _ hq10
            have kk3 := frozen_of_row w10 _ 3 _ _ hq10
            have m0 := cell_of hkw11 (j := 0) rfl
            have m1 := cell_of hkw11 (j := 1) rfl
            have m2 := cell_of hkw11 (j := 2) rfl
            have m3 := cell_of hkw11 (j := 3) rfl
            have n0 := cell_of hp11 (j := 0) rfl
            have n1 := cell_of hp11 (j := 1) rfl
            have n2 := cell_of hp11 (j := 2) rfl
            have n3 := cell_of hp11 (j := 3) rfl
            have n4 := cell_of hp11 (j := 4) rfl
            have n5 := cell_of hp11 (j := 5) rfl
            have o0 := cell_of hg11 (j := 0) rfl
            have o1 := cell_of hg11 (j := 1) rfl
            have o2 := cell_of hg11 (j := 2) rfl
            have mm0 := cell_of hq12 (j := 0) rfl
            have mm1 := cell_of hq12 (j := 1) rfl
            have mm2 := cell_of hq12 (j := 2) rfl
            have mm3 := cell_of hq12 (j := 3) rfl
            have HW11 := Lib.hid hw11
            have HW12 := Lib.hid hw12
            have ENB := Lib.hid enb
            obtain ⟨i0, hi, hz0, hz1, hz2⟩ := info_parts infoLast
            have HFL : Hid (F.length ≤ 100000) := Lib.hid (by have := HFM.out.2.2; have := HDL.out; omega)
            have hfl := HFL.out
            clear hb10 hq10 hwrw11 hkw11 hB11 hp11 hg11 hr11 hs11 ho11 ho10 ho11' hb12 hw11 hw12 enb 
            go_upto_region 10 with fail
            rw [← HW11.out]
            go_wp2_with (at_builtin; rw [← HW12.out, ← ENB.out]; refine wpList_append_own _ rfl _ _ 29 rfl w9.heap.size 102 i0 _ 5 56 Tryz.underlying29 hi hz0 hz1 hz2 rfl (by decide) _ _ _ rfl ho12 ⟨nb, 0, none⟩ 1 1 (lvcell ⟨t.s, t.n, R.e, 0, A2, R.ps.length, c2, R.ps⟩) rfl rfl (World.news_of_block hk12) (lvcell_one _) (by unfold maxLen; omega) (by omega) hsz12 ?_; intro v13 w13 hown13 hg13 hnil13; obtain ⟨A13, c13, rfl, -, -, -⟩ := own_form hown13; have hq13 := gbo_blk ho12 hg13 hq12 (by decide); have sz3 := cell_of hq13 (j := 3) rfl; have fz3 := frozen_of_row w13 q 3 _ _ hq13; go_upto_region 11 with fail)
            have hgb : w12.grownBy w13 (Value.slice A10 F.length c10).ownBlock := hg13
            have hwz : w.heap.size ≤ w12.heap.size := HB12.out.size
            have hw9z : w.heap.size ≤ w9.heap.size := HB9.out.size
            have hB13 : Below w.heap.size w w13 := HB12.out.grown hgb hwz (fun j hj => Nat.le_trans hw9z (ho12.lt j hj).1)
            have hr13 := gbo_blk ho12 hgb HR12.out (by decide)
            have hs13 := gbo_blk ho12 hgb HS12.out (by decide)
            have hg13' := gbo_blk ho12 hgb HG12.out (by decide)
            obtain ⟨w14, hw14⟩ : ∃ xx, xx = w13.setCell ⟨q, 3, none⟩ (.slice A13 (F.length + 1) c13) := ⟨_, rfl⟩
            obtain ⟨hwr14, hq14⟩ := seti hq13 3 (.slice A13 (F.length + 1) c13)
            rw [← hw14] at hwr14 hq14
            have hq14' : w14.heap[q]? = some (.cells #[.int .i64 z, .slice A1 R.T.length c1, .slice AL nL cL, .slice A13 (F.length + 1) c13] 31 (0, 0)) := hq14
            have hK14 : ∀ k, k < w9.heap.size → k ≠ q → w14.heap[k]? = w9.heap[k]? := fun k hk hkq =>
              (hwr14.rest k hkq).trans ((hgb.block k (Nat.lt_of_lt_of_le hk hsz12) (fun e => by have := (ho12.lt k e.symm).1; omega)).trans (HK12.out k hk hkq))
            have hB14 : Below w.heap.size w w14 := hB13.trans (hwr14.below.mono HNE.out.1)
            have hks : ∀ b o, w8.heap[b]? = some o → (b < B ∨ ∃ cs t fr, o = .cells cs t fr ∧ rowTy t = true) → w14.heap[b]? = some o := fun b o ho hb => by
              have hlt := (Array.getElem?_eq_some_iff.1 ho).1
              have h98 := HBX9.out.block b hlt
              have hbq : b ≠ q := by
                rintro rfl
                rcases hb with hb | ⟨cs, t', fr, rfl, h2⟩
                · have := HBQ.out.1; omega
                · rw [ho, HQ9.out] at h98
                  injection h98 with h98
                  injection h98 with _ h98 _
                  subst h98
                  exact absurd h2 (by decide)
              exact (hK14 b (Nat.lt_of_lt_of_le hlt HBX9.out.size) hbq).trans (h98.trans ho)
            have HT14 := Lib.hid (HT8.out.kept hks)
            have HPS := Lib.hid ((PsW.of_own (B := B) HP8.out).kept hks)
            have HEV := Lib.hid ((EvW.of_own (B := B) HE8.out).kept hks)
            have hown14 : w14.ownsRow w9.heap.size 102 5 (.slice A13 (F ++ [(⟨t.s, t.n, R.e, 0, A2, R.ps.length, c2, R.ps⟩ : Lv)]).length c13) (F ++ [(⟨t.s, t.n, R.e, 0, A2, R.ps.length, c2, R.ps⟩ : Lv)]).length (lvcells (F ++ [⟨t.s, t.n, R.e, 0, A2, R.ps.length, c2, R.ps⟩])) := by
              have h9 := Wr.own hwr14 hq13 hown13 (by decide)
              rw [lvcells_append]
              simpa [lvcells] using h9
            have HLS : Hid (LsW w14 B (.slice A13 (F.length + 1) c13) (Zs.fg (l.map lvL) t.s ++ [⟨t.s, t.n, ⟨R.e, 0, R.ps⟩⟩])) := Lib.hid (by
              have h9 := LsW.of_own (B := B) hown14 (fun y hy => by
                rcases List.mem_append.1 hy with hy | hy
                · exact (HEA.out y (HFM.out.2.1 y hy)).sk (.of_below hB14)
                · rw [List.mem_singleton.1 hy]
                  obtain ⟨A', c', e', h1, h2⟩ := HPS.out
                  injection e' with e1 e2 e3
                  subst e1
                  exact ⟨h1, h2⟩)
              rw [List.map_append, HFM.out.1, List.length_append] at h9
              exact h9)
            have HRA : Hid (RW w14 B (.slice A1 R.T.length c1) (.slice AL nL cL) (.slice A13 (F.length + 1) c13) ⟨z, R.T, L, Zs.fg (l.map lvL) t.s ++ [⟨t.s, t.n, ⟨R.e, 0, R.ps⟩⟩]⟩) := Lib.hid
              ⟨HT14.out, (HRW.out w14 hB14).tab, HLS.out⟩
            have hr14 := hwr14.blk hnrq hr13
            have hs14 := hwr14.blk hnsq hs13
            have hg14 := hwr14.blk HGN.out.1 hg13'
            have HR14 := Lib.hid hr14
            have HS14 := Lib.hid hs14
            have HB14 := Lib.hid hB14
            have HFIN : Hid (∀ (W : World), Below w.heap.size w W → (∃ W1, Wr r w14 W1 ∧ Wr s W1 W) ∨ (∃ W1, Wr s w14 W1 ∧ Wr r W1 W) → RaPost B a w (.returned (.tuple #[.agg #[.int .i64 z, .slice A1 R.T.length c1, .slice AL nL cL, .slice A13 (F.length + 1) c13], .agg #[.int .i64 R.e, .int .i64 0, .slice A2 R.ps.length c2], .slice A3 R.es.length c3])) W) := Lib.hid (fun W hW hh => by
              rw [HD.out]
              rcases hh with ⟨W1, h1, h2⟩ | ⟨W1, h1, h2⟩
              · exact ⟨_, _, _, _, _, rfl, (HRA.out.wr h1 HBQ.out.2.1 HR14.out (by decide)).wr h2 HBQ.out.2.2.1 (h1.blk hnpr HS14.out) (by decide), (HPS.out.wr h1 HBQ.out.2.1 HR14.out (by decide)).wr h2 HBQ.out.2.2.1 (h1.blk hnpr HS14.out) (by decide), (HEV.out.wr h1 HBQ.out.2.1 HR14.out (by decide)).wr h2 HBQ.out.2.2.1 (h1.blk hnpr HS14.out) (by decide), hW⟩
              · exact ⟨_, _, _, _, _, rfl, (HRA.out.wr h1 HBQ.out.2.2.1 HS14.out (by decide)).wr h2 HBQ.out.2.1 (h1.blk hnrp HR14.out) (by decide), (HPS.out.wr h1 HBQ.out.2.2.1 HS14.out (by decide)).wr h2 HBQ.out.2.1 (h1.blk hnrp HR14.out) (by decide), (HEV.out.wr h1 HBQ.out.2.2.1 HS14.out (by decide)).wr h2 HBQ.out.2.1 (h1.blk hnrp HR14.out) (by decide), hW⟩)
            have hngr := HGN.out.2.1
            have hnrg := Ne.symm hngr
            have hngs := HGN.out.2.2
            have hnsg := Ne.symm hngs
            have HW14 := Lib.hid hw14
            clear s0 s1 s2 s3 f1 i1 i2 i3 j0 j1 j2 j3 j4 j5 k0 k1 k2 k3 kk0 kk1 kk2 kk3 m0 m1 m2 m3 n0 n1 n2 n3 n4 n5 o0 o1 o2 mm0 mm1 mm2 mm3 sz3 fz3
            clear hg13 hgb hnil13 hown13 hwz hw9z hB13 hr13 hs13 hg13' hw14 hwr14 hq14 hK14 hB14 hks hown14 hq13 ho12 hq12 hk12
            rw [← HW14.out]
            have y0 := cell_of hq14' (j := 0) rfl
            have y1 := cell_of hq14' (j := 1) rfl
            have y2 := cell_of hq14' (j := 2) rfl
            have y3 := cell_of hq14' (j := 3) rfl
            have u0 := cell_of hg14 (j := 0) rfl
            have u1 := cell_of hg14 (j := 1) rfl
            have u2 := cell_of hg14 (j := 2) rfl
            have v0 := cell_of hr14 (j := 0) rfl
            have v1 := cell_of hr14 (j := 1) rfl
            have v2 := cell_of hr14 (j := 2) rfl
            have v3 := cell_of hr14 (j := 3) rfl
            have vg0 := frozen_of_row w14 _ 0 _ _ hr14
            have vg1 := frozen_of_row w14 _ 1 _ _ hr14
            have vg2 := frozen_of_row w14 _ 2 _ _ hr14
            have vg3 := frozen_of_row w14 _ 3 _ _ hr14
            have x0 := cell_of hs14 (j := 0) rfl
            have x1 := cell_of hs14 (j := 1) rfl
            have x2 := cell_of hs14 (j := 2) rfl
            have xg0 := frozen_of_row w14 _ 0 _ _ hs14
            have xg1 := frozen_of_row w14 _ 1 _ _ hs14
            have xg2 := frozen_of_row w14 _ 2 _ _ hs14
            clear hr14 hs14 hq14' hg14
            go_region
            all_goals
              first
                | (obtain ⟨w7, hw7⟩ : ∃ xx, xx = ((((w14.setCell ⟨r, 0, none⟩ (.int .i64 z)).setCell ⟨r, 1, none⟩ (.slice A1 R.T.length c1)).setCell ⟨r, 2, none⟩ (.slice AL nL cL)).setCell ⟨r, 3, none⟩ (.slice A13 (F.length + 1) c13)) := ⟨_, rfl⟩
                   obtain ⟨hwr7, hk7⟩ := set4 HR14.out (.int .i64 z) (.slice A1 R.T.length c1) (.slice AL nL cL) (.slice A13 (F.length + 1) c13)
                   rw [← hw7] at hwr7 hk7
                   have hs7 := hwr7.blk hnpr HS14.out
                   obtain ⟨w8, hw8⟩ : ∃ xx, xx = (((w7.setCell ⟨s, 0, none⟩ (.int .i64 R.e)).setCell ⟨s, 1, none⟩ (.int .i64 0)).setCell ⟨s, 2, none⟩ (.slice A2 R.ps.length c2)) := ⟨_, rfl⟩
                   obtain ⟨hwr8, hk8⟩ := set3 hs7 (.int .i64 R.e) (.int .i64 0) (.slice A2 R.ps.length c2)
                   rw [← hw8] at hwr8 hk8
                   have hk9 := hwr8.blk hnrp hk7
                   have HE := Lib.hid (ra_drew (HFIN.out w8 ((HB14.out.trans (hwr7.below.mono HNE.out.2.1)).trans (hwr8.below.mono HNE.out.2.2.1)) (.inl ⟨w7, hwr7, hwr8⟩)))
                   rw [← hw7, ← hw8]
                   have d0 := cell_of hk9 (j := 0) rfl
                   have d1 := cell_of hk9 (j := 1) rfl
                   have d2 := cell_of hk9 (j := 2) rfl
                   have d3 := cell_of hk9 (j := 3) rfl
                   have e0 := cell_of hk8 (j := 0) rfl
                   have e1 := cell_of hk8 (j := 1) rfl
                   have e2 := cell_of hk8 (j := 2) rfl
                   clear hwr7 hk7 hs7 hwr8 hk8 hk9 hw7 hw8)
                | (obtain ⟨w7, hw7⟩ : ∃ xx, xx = (((w14.setCell ⟨s, 0, none⟩ (.int .i64 R.e)).setCell ⟨s, 1, none⟩ (.int .i64 0)).setCell ⟨s, 2, none⟩ (.slice A2 R.ps.length c2)) := ⟨_, rfl⟩
                   obtain ⟨hwr7, hk7⟩ := set3 HS14.out (.int .i64 R.e) (.int .i64 0) (.slice A2 R.ps.length c2)
                   rw [← hw7] at hwr7 hk7
                   have hs7 := hwr7.blk hnrp HR14.out
                   obtain ⟨w8, hw8⟩ : ∃ xx, xx = ((((w7.setCell ⟨r, 0, none⟩ (.int .i64 z)).setCell ⟨r, 1, none⟩ (.slice A1 R.T.length c1)).setCell ⟨r, 2, none⟩ (.slice AL nL cL)).setCell ⟨r, 3, none⟩ (.slice A13 (F.length + 1) c13)) := ⟨_, rfl⟩
                   obtain ⟨hwr8, hk9⟩ := set4 hs7 (.int .i64 z) (.slice A1 R.T.length c1) (.slice AL nL cL) (.slice A13 (F.length + 1) c13)
                   rw [← hw8] at hwr8 hk9
                   have hk8 := hwr8.blk hnpr hk7
                   have HE := Lib.hid (ra_drew (HFIN.out w8 ((HB14.out.trans (hwr7.below.mono HNE.out.2.2.1)).trans (hwr8.below.mono HNE.out.2.1)) (.inr ⟨w7, hwr7, hwr8⟩)))
                   rw [← hw7, ← hw8]
                   have d0 := cell_of hk9 (j := 0) rfl
                   have d1 := cell_of hk9 (j := 1) rfl
                   have d2 := cell_of hk9 (j := 2) rfl
                   have d3 := cell_of hk9 (j := 3) rfl
                   have e0 := cell_of hk8 (j := 0) rfl
                   have e1 := cell_of hk8 (j := 1) rfl
                   have e2 := cell_of hk8 (j := 2) rfl
                   clear hwr7 hk7 hs7 hwr8 hk8 hk9 hw7 hw8)
            all_goals
              go_wp2_with fail
              exact bodyPost_ret (v := .tuple #[.agg #[.int .i64 z, .slice A1 R.T.length c1, .slice AL nL cL, .slice A13 (F.length + 1) c13], .agg #[.int .i64 R.e, .int .i64 0, .slice A2 R.ps.length c2], .slice A3 R.es.length c3]) (by simp [results, Tryz.results73, go_sem, d0, d1, d2, d3, e0, e1, e2]) rfl HE.out
end Go.Proofs.YtflgemlhocjipaaGreatDoor
namespace Go.Proofs.YtflgemlhocjipaaGreatDoor
set_option maxRecDepth 100000
open Go.ChangeShapes Go.WideShapes Go.ChangeAt Go.RowKit Go.Proofs.Zn Go.Proofs.Zt
open Go.Proofs.Zs (St Lst Rep Tx)

set_option maxHeartbeats 8000000 in
theorem vapply_any {w : World} {B : Nat} {S : St} {vT vL vD : Value} (h : RW w B vT vL vD S) (hB : B ≤ w.heap.size) (hg : Zs.Gd S) (hD : S.D.length ≤ 10000) (zx : Int) (t : Tx) {At : Option Addr} {nt ct : Nat} (hrd : Rd ccell 6 w At nt t.l) (hp : ∀ c ∈ t.l, c.path.length ≤ 2097152) :
    Calls Tryz.prog 30 #[.agg #[.int .i64 S.z, vT, vL, vD], .int .i64 zx, .agg #[.int .i64 t.k, .int .i64 t.s, .int .i64 t.n, .int .i64 t.sp, .int .i64 t.now, .slice At nt ct]] w (RaPost B (Zs.app S zx t) w) := by
  obtain ⟨z, T, L, D⟩ := S
  have h00 := h
  obtain ⟨⟨AT, cT, rfl, hrT, htT⟩, ⟨AL, cL, rfl, hrL⟩, ⟨AD, cD, l, rfl, hrD, hlD⟩⟩ := h
  dsimp only at *
  subst hlD
  have hDm := hD
  rw [List.length_map] at hD
  obtain ⟨w4, hw4, hbw4, hkq, hkp, hkr, hks, hsw4⟩ := four_box w (.cells #[.int .i64 z, .slice AT T.length cT, .slice AL L.length cL, .slice AD l.length cD] 31) (.cells #[.int .i64 t.k, .int .i64 t.s, .int .i64 t.n, .int .i64 t.sp, .int .i64 t.now, .slice At nt ct] 38) (.cells #[.int .i64 0, .slice none 0 0, .slice none 0 0, .slice none 0 0] 31) (.cells #[.int .i64 0, .int .i64 0, .slice none 0 0] 50)
  obtain ⟨q, eq⟩ : ∃ xx, xx = w.heap.size := ⟨_, rfl⟩
  obtain ⟨p, ep⟩ : ∃ xx, xx = w.heap.size + 1 := ⟨_, rfl⟩
  obtain ⟨r, er⟩ : ∃ xx, xx = w.heap.size + 1 + 1 := ⟨_, rfl⟩
  obtain ⟨s, es⟩ : ∃ xx, xx = w.heap.size + 1 + 1 + 1 := ⟨_, rfl⟩
  rw [← eq] at hkq
  rw [← ep] at hkp
  rw [← er] at hkr
  rw [← es] at hks
  have hne : w.heap.size ≤ q ∧ w.heap.size ≤ r ∧ w.heap.size ≤ s ∧ q ≠ r ∧ q ≠ s ∧ r ≠ s := by omega
  obtain ⟨a, ha⟩ : ∃ a, Zs.app ⟨z, T, L, l.map lvL⟩ zx t = a := ⟨_, rfl⟩
  rw [ha]
  have HRW : Hid (∀ (zz : Int) (W : World), Below w.heap.size w W → RW W B (.slice AT T.length cT) (.slice AL L.length cL) (.slice AD l.length cD) ⟨zz, T, L, l.map lvL⟩) := Lib.hid (fun zz W hW => ⟨h00.tree.sk (.of_below hW), DV.sk h00.tab (.of_below hW), h00.last.sk (.of_below hW)⟩)
  have HGZ : Hid (Zs.badZ ⟨z, T, L, l.map lvL⟩ zx = false → Zs.Gd ⟨zx, T, L, l.map lvL⟩) := Lib.hid (fun hb => by
    have h1 := Zs.badZ_false hb
    have h2 : 0 ≤ z := hg.z0
    exact Zs.set_gd hg (by have : z < zx := h1.1; omega) h1.2)
  have HGL : Hid (Le.Good L) := Lib.hid hg.L
  have HCH : Hid (Zs.Gd ⟨zx, T, L, l.map lvL⟩ → ∀ (W : World), Below w.heap.size w W → Calls Tryz.prog 73 #[.agg #[.int .i64 zx, .slice AT T.length cT, .slice AL L.length cL, .slice AD l.length cD], .agg #[.int .i64 t.k, .int .i64 t.s, .int .i64 t.n, .int .i64 t.sp, .int .i64 t.now, .slice At nt ct]] W (RaPost B (Zs.chg ⟨zx, T, L, l.map lvL⟩ t) W)) := Lib.hid (fun hg' W hW => vchange_any (HRW.out zx W hW) (Nat.le_trans hB hW.size) hg' hDm t (hrd.below hW) hp)
  have HEN : Hid (Zs.Gd ⟨zx, T, L, l.map lvL⟩ → ∀ (W : World), Below w.heap.size w W → Calls Tryz.prog 74 #[.agg #[.int .i64 zx, .slice AT T.length cT, .slice AL L.length cL, .slice AD l.length cD], .int .i64 t.s] W (RaPost B (Zs.fin ⟨zx, T, L, l.map lvL⟩ t.s) W)) := Lib.hid (fun hg' W hW => vend_any (HRW.out zx W hW) (Nat.le_trans hB hW.size) hg' (Nat.le_trans hDm (by omega)) t.s)
  obtain ⟨K1, hK1⟩ : ∃ K, Le.opn L ⟨zx, t.sp, t.now⟩ = K := ⟨_, rfl⟩
  obtain ⟨K2, hK2⟩ : ∃ K, Le.ren L t.s t.now = K := ⟨_, rfl⟩
  have HOP : Hid (∀ (W : World), Below w.heap.size w W → Calls Tryz.prog 70 #[.slice AL L.length cL, .int .i64 zx, .int .i64 t.sp, .int .i64 t.now] W (Lq.RoPost B K1 W)) := Lib.hid (fun W hW => by rw [← hK1]; exact Lq.ropen_any (hrL.below hW) HGL.out ⟨zx, t.sp, t.now⟩)
  have HRE : Hid (∀ (W : World), Below w.heap.size w W → Calls Tryz.prog 71 #[.slice AL L.length cL, .int .i64 t.s, .int .i64 t.now] W (Lq.RoPost B K2 W)) := Lib.hid (fun W hW => by rw [← hK2]; exact Lq.rrenew_any (hrL.below hW) HGL.out t.s t.now)
  have HGE : Hid (∀ (W : World), Below w.heap.size w W → Calls Tryz.prog 72 #[.slice AL L.length cL, .int .i64 t.s] W (Lq.RgPost W L t.s)) := Lib.hid (fun W hW => Lq.rget_any (hrL.below hW).rd (Nat.le_trans HGL.out.len (by decide)) t.s)
  have HK1 := Lib.hid hK1
  have HK2 := Lib.hid hK2
  have HBQ : Hid (B ≤ q ∧ B ≤ r ∧ B ≤ s ∧ B ≤ w.heap.size) := Lib.hid (by omega)
  have HB4 := Lib.hid hbw4
  have HNE := Lib.hid hne
  have HA := Lib.hid ha
  have HW4 := Lib.hid hw4
  have EQ := Lib.hid eq
  have EP := Lib.hid ep
  have ER := Lib.hid er
  have ES := Lib.hid es
  have HQ4 := Lib.hid hkq
  have HP4 := Lib.hid hkp
  have HR4 := Lib.hid hkr
  have HS4 := Lib.hid hks
  have HPN : Hid (p ≠ q ∧ p ≠ r ∧ p ≠ s) := Lib.hid (by omega)
  obtain ⟨nT, hnT⟩ : ∃ n, T.length = n := ⟨_, rfl⟩
  obtain ⟨nL, hnL⟩ : ∃ n, L.length = n := ⟨_, rfl⟩
  obtain ⟨nD, hnD⟩ : ∃ n, l.length = n := ⟨_, rfl⟩
  rw [hnT, hnL, hnD] at HW4 hkq HQ4 HRW HCH HEN ⊢
  rw [hnL] at HOP HRE HGE
  obtain ⟨b1, hb1⟩ : ∃ b, decide (zx ≤ z) = b := ⟨_, rfl⟩
  obtain ⟨b2, hb2⟩ : ∃ b, decide (4611686018427387904 < zx) = b := ⟨_, rfl⟩
  have HBZ : Hid (Zs.badZ ⟨z, T, L, l.map lvL⟩ zx = (b1 || b2)) := Lib.hid (by rw [← hb1, ← hb2]; rfl)
  have q0 := cell_of hkq (j := 0) rfl
  have q1 := cell_of hkq (j := 1) rfl
  have q2 := cell_of hkq (j := 2) rfl
  have q3 := cell_of hkq (j := 3) rfl
  have p0 := cell_of hkp (j := 0) rfl
  have p1 := cell_of hkp (j := 1) rfl
  have p2 := cell_of hkp (j := 2) rfl
  have p3 := cell_of hkp (j := 3) rfl
  have p4 := cell_of hkp (j := 4) rfl
  have p5 := cell_of hkp (j := 5) rfl
  have g0 := frozen_of_row w4 q 0 _ _ hkq
  clear h00 hB hg hD hDm hrT htT hrL hrD hw4 eq er ep es hbw4 hkq hkr hkp hks hne hrd hp ha hK1 hK2 hnT hnL hnD hsw4
  go_enter Tryz.func30, Tryz.ntmps30
  go_upto_region 1 with fail
  rw [← HW4.out, ← ES.out, ← ER.out, ← EP.out, ← EQ.out]
  cases b1 with
  | true =>
    have HD : Hid (a = (⟨z, T, L, l.map lvL⟩, Zs.er 1, [])) := Lib.hid (by rw [← HA.out]; unfold Zs.app; rw [if_pos (by rw [HBZ.out]; simp)])
    have HRA := Lib.hid (HRW.out z w4 HB4.out)
    have HPS := Lib.hid (PsW.nil w4 B)
    have HEV := Lib.hid (EvW.nil w4 B)
    have hnrp := HNE.out.2.2.2.2.2
    have hnpr := Ne.symm hnrp
    have lr6 := HR4.out
    have ls6 := HS4.out
    obtain ⟨y7, hy7⟩ : ∃ xx, xx = ((((w4.setCell ⟨r, 0, none⟩ (.int .i64 z)).setCell ⟨r, 1, none⟩ (.slice AT nT cT)).setCell ⟨r, 2, none⟩ (.slice AL nL cL)).setCell ⟨r, 3, none⟩ (.slice AD nD cD)) := ⟨_, rfl⟩
    obtain ⟨hwry7, hky7⟩ := set4 lr6 (.int .i64 z) (.slice AT nT cT) (.slice AL nL cL) (.slice AD nD cD)
    rw [← hy7] at hwry7 hky7
    have ls7 := hwry7.blk hnpr ls6
    obtain ⟨y8, hy8⟩ : ∃ xx, xx = (((y7.setCell ⟨s, 0, none⟩ (.int .i64 1)).setCell ⟨s, 1, none⟩ (.int .i64 0)).setCell ⟨s, 2, none⟩ (.slice none 0 0)) := ⟨_, rfl⟩
    obtain ⟨hwry8, hky8⟩ := set3 ls7 (.int .i64 1) (.int .i64 0) (.slice none 0 0)
    rw [← hy8] at hwry8 hky8
    have lr8 := hwry8.blk hnrp hky7
    have lB8 : Below w.heap.size w y8 := (HB4.out.trans (hwry7.below.mono HNE.out.2.1)).trans (hwry8.below.mono HNE.out.2.2.1)
    have HE : Hid (RaPost B a w (.returned (.tuple #[.agg #[.int .i64 z, .slice AT nT cT, .slice AL nL cL, .slice AD nD cD], .agg #[.int .i64 1, .int .i64 0, .slice none 0 0], .slice none 0 0])) y8) := Lib.hid
      (by rw [HD.out]; exact ⟨_, _, _, _, _, rfl, (HRA.out.wr hwry7 HBQ.out.2.1 lr6 (by decide)).wr hwry8 HBQ.out.2.2.1 ls7 (by decide), (HPS.out.wr hwry7 HBQ.out.2.1 lr6 (by decide)).wr hwry8 HBQ.out.2.2.1 ls7 (by decide), (HEV.out.wr hwry7 HBQ.out.2.1 lr6 (by decide)).wr hwry8 HBQ.out.2.2.1 ls7 (by decide), lB8⟩)
    have la0 := cell_of lr6 (j := 0) rfl
    have la1 := cell_of lr6 (j := 1) rfl
    have la2 := cell_of lr6 (j := 2) rfl
    have la3 := cell_of lr6 (j := 3) rfl
    have lb0 := frozen_of_row w4 _ 0 _ _ lr6
    have lb1 := frozen_of_row w4 _ 1 _ _ lr6
    have lb2 := frozen_of_row w4 _ 2 _ _ lr6
    have lb3 := frozen_of_row w4 _ 3 _ _ lr6
    have lc0 := cell_of ls6 (j := 0) rfl
    have lc1 := cell_of ls6 (j := 1) rfl
    have lc2 := cell_of ls6 (j := 2) rfl
    have ld0 := frozen_of_row w4 _ 0 _ _ ls6
    have ld1 := frozen_of_row w4 _ 1 _ _ ls6
    have ld2 := frozen_of_row w4 _ 2 _ _ ls6
    have le0 := cell_of lr8 (j := 0) rfl
    have le1 := cell_of lr8 (j := 1) rfl
    have le2 := cell_of lr8 (j := 2) rfl
    have le3 := cell_of lr8 (j := 3) rfl
    have lf0 := cell_of hky8 (j := 0) rfl
    have lf1 := cell_of hky8 (j := 1) rfl
    have lf2 := cell_of hky8 (j := 2) rfl
    have HY7 := Lib.hid hy7
    have HY8 := Lib.hid hy8
    clear lr6 ls6 hy7 hwry7 hky7 ls7 hy8 hwry8 hky8 lr8 lB8
    go_wp2_with fail
    rw [← HY7.out, ← HY8.out]
    exact bodyPost_ret (v := .tuple #[.agg #[.int .i64 z, .slice AT nT cT, .slice AL nL cL, .slice AD nD cD], .agg #[.int .i64 1, .int .i64 0, .slice none 0 0], .slice none 0 0]) (by simp [results, Tryz.results30, go_sem, le0, le1, le2, le3, lf0, lf1, lf2]) rfl HE.out
  | false =>
    cases b2 with
    | true =>
      have HD : Hid (a = (⟨z, T, L, l.map lvL⟩, Zs.er 1, [])) := Lib.hid (by rw [← HA.out]; unfold Zs.app; rw [if_pos (by rw [HBZ.out]; simp)])
      have HRA := Lib.hid (HRW.out z w4 HB4.out)
      have HPS := Lib.hid (PsW.nil w4 B)
      have HEV := Lib.hid (EvW.nil w4 B)
      have hnrp := HNE.out.2.2.2.2.2
      have hnpr := Ne.symm hnrp
      have lr6 := HR4.out
      have ls6 := HS4.out
      obtain ⟨y7, hy7⟩ : ∃ xx, xx = ((((w4.setCell ⟨r, 0, none⟩ (.int .i64 z)).setCell ⟨r, 1, none⟩ (.slice AT nT cT)).setCell ⟨r, 2, none⟩ (.slice AL nL cL)).setCell ⟨r, 3, none⟩ (.slice AD nD cD)) := ⟨_, rfl⟩
      obtain ⟨hwry7, hky7⟩ := set4 lr6 (.int .i64 z) (.slice AT nT cT) (.slice AL nL cL) (.slice AD nD cD)
      rw [← hy7] at hwry7 hky7
      have ls7 := hwry7.blk hnpr ls6
      obtain ⟨y8, hy8⟩ : ∃ xx, xx = (((y7.setCell ⟨s, 0, none⟩ (.int .i64 1)).setCell ⟨s, 1, none⟩ (.int .i64 0)).setCell ⟨s, 2, none⟩ (.slice none 0 0)) := ⟨_, rfl⟩
      obtain ⟨hwry8, hky8⟩ := set3 ls7 (.int .i64 1) (.int .i64 0) (.slice none 0 0)
      rw [← hy8] at hwry8 hky8
      have lr8 := hwry8.blk hnrp hky7
      have lB8 : Below w.heap.size w y8 := (HB4.out.trans (hwry7.below.mono HNE.out.2.1)).trans (hwry8.below.mono HNE.out.2.2.1)
      have HE : Hid (RaPost B a w (.returned (.tuple #[.agg #[.int .i64 z, .slice AT nT cT, .slice AL nL cL, .slice AD nD cD], .agg #[.int .i64 1, .int .i64 0, .slice none 0 0], .slice none 0 0])) y8) := Lib.hid
        (by rw [HD.out]; exact ⟨_, _, _, _, _, rfl, (HRA.out.wr hwry7 HBQ.out.2.1 lr6 (by decide)).wr hwry8 HBQ.out.2.2.1 ls7 (by decide), (HPS.out.wr hwry7 HBQ.out.2.1 lr6 (by decide)).wr hwry8 HBQ.out.2.2.1 ls7 (by decide), (HEV.out.wr hwry7 HBQ.out.2.1 lr6 (by decide)).wr hwry8 HBQ.out.2.2.1 ls7 (by decide), lB8⟩)
      have la0 := cell_of lr6 (j := 0) rfl
      have la1 := cell_of lr6 (j := 1) rfl
      have la2 := cell_of lr6 (j := 2) rfl
      have la3 := cell_of lr6 (j := 3) rfl
      have lb0 := frozen_of_row w4 _ 0 _ _ lr6
      have lb1 := frozen_of_row w4 _ 1 _ _ lr6
      have lb2 := frozen_of_row w4 _ 2 _ _ lr6
      have lb3 := frozen_of_row w4 _ 3 _ _ lr6
      have lc0 := cell_of ls6 (j := 0) rfl
      have lc1 := cell_of ls6 (j := 1) rfl
      have lc2 := cell_of ls6 (j := 2) rfl
      have ld0 := frozen_of_row w4 _ 0 _ _ ls6
      have ld1 := frozen_of_row w4 _ 1 _ _ ls6
      have ld2 := frozen_of_row w4 _ 2 _ _ ls6
      have le0 := cell_of lr8 (j := 0) rfl
      have le1 := cell_of lr8 (j := 1) rfl
      have le2 := cell_of lr8 (j := 2) rfl
      have le3 := cell_of lr8 (j := 3) rfl
      have lf0 := cell_of hky8 (j := 0) rfl
      have lf1 := cell_of hky8 (j := 1) rfl
      have lf2 := cell_of hky8 (j := 2) rfl
      have HY7 := Lib.hid hy7
      have HY8 := Lib.hid hy8
      clear lr6 ls6 hy7 hwry7 hky7 ls7 hy8 hwry8 hky8 lr8 lB8
      go_wp2_with fail
      rw [← HY7.out, ← HY8.out]
      exact bodyPost_ret (v := .tuple #[.agg #[.int .i64 z, .slice AT nT cT, .slice AL nL cL, .slice AD nD cD], .agg #[.int .i64 1, .int .i64 0, .slice none 0 0], .slice none 0 0]) (by simp [results, Tryz.results30, go_sem, le0, le1, le2, le3, lf0, lf1, lf2]) rfl HE.out
    | false =>
      have HG5 : Hid (Zs.Gd ⟨zx, T, L, l.map lvL⟩) := Lib.hid (HGZ.out HBZ.out)
      have HDO : Hid (a = Zs.doS ⟨zx, T, L, l.map lvL⟩ t) := Lib.hid (by rw [← HA.out]; unfold Zs.app; rw [if_neg (by rw [HBZ.out]; simp)])
      obtain ⟨w5, hw5⟩ : ∃ xx, xx = w4.setCell ⟨q, 0, none⟩ (.int .i64 zx) := ⟨_, rfl⟩
      obtain ⟨hwr5, hq5⟩ := seti HQ4.out 0 (.int .i64 zx)
      rw [← hw5] at hwr5 hq5
      have hq5' : w5.heap[q]? = some (.cells #[.int .i64 zx, .slice AT nT cT, .slice AL nL cL, .slice AD nD cD] 31 (0, 0)) := hq5
      have hp5 := hwr5.blk HPN.out.1 HP4.out
      have HQ5 := Lib.hid hq5'
      have HP5 := Lib.hid hp5
      have HR5 := Lib.hid (hwr5.blk (Ne.symm HNE.out.2.2.2.1) HR4.out)
      have HS5 := Lib.hid (hwr5.blk (Ne.symm HNE.out.2.2.2.2.1) HS4.out)
      have HB5 : Hid (Below w.heap.size w w5) := Lib.hid (HB4.out.trans (hwr5.below.mono HNE.out.1))
      have HW5 := Lib.hid hw5
      have HO5 := Lib.hid (HOP.out w5 HB5.out)
      have HE5 := Lib.hid (HRE.out w5 HB5.out)
      have HGE5 := Lib.hid (HGE.out w5 HB5.out)
      have u0 := cell_of hq5' (j := 0) rfl
      have u1 := cell_of hq5' (j := 1) rfl
      have u2 := cell_of hq5' (j := 2) rfl
      have u3 := cell_of hq5' (j := 3) rfl
      have j0 := cell_of hp5 (j := 0) rfl
      have j1 := cell_of hp5 (j := 1) rfl
      have j2 := cell_of hp5 (j := 2) rfl
      have j3 := cell_of hp5 (j := 3) rfl
      have j4 := cell_of hp5 (j := 4) rfl
      have j5 := cell_of hp5 (j := 5) rfl
      obtain ⟨k1, hk1⟩ : ∃ b, (t.k == 1) = b := ⟨_, rfl⟩
      obtain ⟨k2, hk2⟩ : ∃ b, (t.k == 2) = b := ⟨_, rfl⟩
      obtain ⟨k3, hk3⟩ : ∃ b, decide (t.k < 3) = b := ⟨_, rfl⟩
      obtain ⟨k5, hk5⟩ : ∃ b, decide (5 < t.k) = b := ⟨_, rfl⟩
      have HK1b := Lib.hid hk1
      have HK2b := Lib.hid hk2
      have HK3b := Lib.hid hk3
      have HK5b := Lib.hid hk5
      clear hw5 hwr5 hq5 hq5' hp5
      go_upto_region 4 with fail
      rw [← HW5.out]
      clear q0 q1 q2 q3 p0 p1 p2 p3 p4 p5 g0
      cases k1 with
      | true =>
        have HD0 : Hid (a = Zs.opnS ⟨zx, T, L, l.map lvL⟩ t.sp t.now) := Lib.hid (by rw [HDO.out]; unfold Zs.doS; rw [if_pos (by simpa using HK1b.out)])
        go_wp2_with fail
        refine HO5.out.mono ?_
        rintro e w6 ⟨v6, rfl, hd6, hb6⟩
        obtain ⟨A6, c6, rfl, -⟩ := id hd6
        have hq6 := blk_below HQ5.out hb6
        obtain ⟨w7, hw7⟩ : ∃ xx, xx = w6.setCell ⟨q, 2, none⟩ (.slice A6 K1.1.length c6) := ⟨_, rfl⟩
        obtain ⟨hwr7, hq7⟩ := seti hq6 2 (.slice A6 K1.1.length c6)
        rw [← hw7] at hwr7 hq7
        have hq7' : w7.heap[q]? = some (.cells #[.int .i64 zx, .slice AT nT cT, .slice A6 K1.1.length c6, .slice AD nD cD] 31 (0, 0)) := hq7
        have hB7 : Below w.heap.size w w7 := (HB5.out.trans (hb6.mono HB5.out.size)).trans (hwr7.below.mono HNE.out.1)
        have hL7 := DV.wr hd6 hwr7 HBQ.out.1 hq6 (by decide)
        have HRA : Hid (RW w7 B (.slice AT nT cT) (.slice A6 K1.1.length c6) (.slice AD nD cD) ⟨zx, T, K1.1, l.map lvL⟩) := Lib.hid ⟨(HRW.out zx w7 hB7).tree, hL7, (HRW.out zx w7 hB7).last⟩
        have HR7 := Lib.hid (hwr7.blk (Ne.symm HNE.out.2.2.2.1) (blk_below HR5.out hb6))
        have HS7 := Lib.hid (hwr7.blk (Ne.symm HNE.out.2.2.2.2.1) (blk_below HS5.out hb6))
        have HB7 := Lib.hid hB7
        have HW7 := Lib.hid hw7
        have HPS := Lib.hid (PsW.nil w7 B)
        have HEV := Lib.hid (EvW.nil w7 B)
        have v0 := cell_of hq6 (j := 0) rfl
        have v1 := cell_of hq6 (j := 1) rfl
        have v2 := cell_of hq6 (j := 2) rfl
        have v3 := cell_of hq6 (j := 3) rfl
        have f2 := frozen_of_row w6 q 2 _ _ hq6
        have s0 := cell_of hq7' (j := 0) rfl
        have s1 := cell_of hq7' (j := 1) rfl
        have s2 := cell_of hq7' (j := 2) rfl
        have s3 := cell_of hq7' (j := 3) rfl
        clear hd6 hb6 hq6 hw7 hwr7 hq7 hq7' hB7 hL7
        obtain ⟨kz, hkz⟩ : ∃ b, (K1.2 != 0) = b := ⟨_, rfl⟩
        have HKZ := Lib.hid hkz
        go_upto_region 7 with fail
        rw [← HW7.out]
        cases kz with
        | true =>
          have HD : Hid (a = (⟨zx, T, K1.1, l.map lvL⟩, ⟨K1.2, 0, []⟩, [])) := Lib.hid (by
            rw [HD0.out]; unfold Zs.opnS; dsimp only; rw [HK1.out, if_pos (by simpa using HKZ.out)]; rfl)
          have hnrp := HNE.out.2.2.2.2.2
          have hnpr := Ne.symm hnrp
          have lr6 := HR7.out
          have ls6 := HS7.out
          obtain ⟨y7, hy7⟩ : ∃ xx, xx = ((((w7.setCell ⟨r, 0, none⟩ (.int .i64 zx)).setCell ⟨r, 1, none⟩ (.slice AT nT cT)).setCell ⟨r, 2, none⟩ (.slice A6 K1.1.length c6)).setCell ⟨r, 3, none⟩ (.slice AD nD cD)) := ⟨_, rfl⟩
          obtain ⟨hwry7, hky7⟩ := set4 lr6 (.int .i64 zx) (.slice AT nT cT) (.slice A6 K1.1.length c6) (.slice AD nD cD)
          rw [← hy7] at hwry7 hky7
          have ls7 := hwry7.blk hnpr ls6
          obtain ⟨y8, hy8⟩ : ∃ xx, xx = (((y7.setCell ⟨s, 0, none⟩ (.int .i64 K1.2)).setCell ⟨s, 1, none⟩ (.int .i64 0)).setCell ⟨s, 2, none⟩ (.slice none 0 0)) := ⟨_, rfl⟩
          obtain ⟨hwry8, hky8⟩ := set3 ls7 (.int .i64 K1.2) (.int .i64 0) (.slice none 0 0)
          rw [← hy8] at hwry8 hky8
          have lr8 := hwry8.blk hnrp hky7
          have lB8 : Below w.heap.size w y8 := (HB7.out.trans (hwry7.below.mono HNE.out.2.1)).trans (hwry8.below.mono HNE.out.2.2.1)
          have HE : Hid (RaPost B a w (.returned (.tuple #[.agg #[.int .i64 zx, .slice AT nT cT, .slice A6 K1.1.length c6, .slice AD nD cD], .agg #[.int .i64 K1.2, .int .i64 0, .slice none 0 0], .slice none 0 0])) y8) := Lib.hid
            (by rw [HD.out]; exact ⟨_, _, _, _, _, rfl, (HRA.out.wr hwry7 HBQ.out.2.1 lr6 (by decide)).wr hwry8 HBQ.out.2.2.1 ls7 (by decide), (HPS.out.wr hwry7 HBQ.out.2.1 lr6 (by decide)).wr hwry8 HBQ.out.2.2.1 ls7 (by decide), (HEV.out.wr hwry7 HBQ.out.2.1 lr6 (by decide)).wr hwry8 HBQ.out.2.2.1 ls7 (by decide), lB8⟩)
          have la0 := cell_of lr6 (j := 0) rfl
          have la1 := cell_of lr6 (j := 1) rfl
          have la2 := cell_of lr6 (j := 2) rfl
          have la3 := cell_of lr6 (j := 3) rfl
          have lb0 := frozen_of_row w7 _ 0 _ _ lr6
          have lb1 := frozen_of_row w7 _ 1 _ _ lr6
          have lb2 := frozen_of_row w7 _ 2 _ _ lr6
          have lb3 := frozen_of_row w7 _ 3 _ _ lr6
          have lc0 := cell_of ls6 (j := 0) rfl
          have lc1 := cell_of ls6 (j := 1) rfl
          have lc2 := cell_of ls6 (j := 2) rfl
          have ld0 := frozen_of_row w7 _ 0 _ _ ls6
          have ld1 := frozen_of_row w7 _ 1 _ _ ls6
          have ld2 := frozen_of_row w7 _ 2 _ _ ls6
          have le0 := cell_of lr8 (j := 0) rfl
          have le1 := cell_of lr8 (j := 1) rfl
          have le2 := cell_of lr8 (j := 2) rfl
          have le3 := cell_of lr8 (j := 3) rfl
          have lf0 := cell_of hky8 (j := 0) rfl
          have lf1 := cell_of hky8 (j := 1) rfl
          have lf2 := cell_of hky8 (j := 2) rfl
          have HY7 := Lib.hid hy7
          have HY8 := Lib.hid hy8
          clear lr6 ls6 hy7 hwry7 hky7 ls7 hy8 hwry8 hky8 lr8 lB8
          go_wp2_with fail
          rw [← HY7.out, ← HY8.out]
          exact bodyPost_ret (v := .tuple #[.agg #[.int .i64 zx, .slice AT nT cT, .slice A6 K1.1.length c6, .slice AD nD cD], .agg #[.int .i64 K1.2, .int .i64 0, .slice none 0 0], .slice none 0 0]) (by simp [results, Tryz.results30, go_sem, le0, le1, le2, le3, lf0, lf1, lf2]) rfl HE.out
        | false =>
          have HD : Hid (a = (⟨zx, T, K1.1, l.map lvL⟩, ⟨0, zx, []⟩, [])) := Lib.hid (by
            rw [HD0.out]; unfold Zs.opnS; dsimp only; rw [HK1.out, if_neg (by simpa using HKZ.out)])
          have hnrp := HNE.out.2.2.2.2.2
          have hnpr := Ne.symm hnrp
          have lr6 := HR7.out
          have ls6 := HS7.out
          obtain ⟨y7, hy7⟩ : ∃ xx, xx = ((((w7.setCell ⟨r, 0, none⟩ (.int .i64 zx)).setCell ⟨r, 1, none⟩ (.slice AT nT cT)).setCell ⟨r, 2, none⟩ (.slice A6 K1.1.length c6)).setCell ⟨r, 3, none⟩ (.slice AD nD cD)) := ⟨_, rfl⟩
          obtain ⟨hwry7, hky7⟩ := set4 lr6 (.int .i64 zx) (.slice AT nT cT) (.slice A6 K1.1.length c6) (.slice AD nD cD)
          rw [← hy7] at hwry7 hky7
          have ls7 := hwry7.blk hnpr ls6
          obtain ⟨y8, hy8⟩ : ∃ xx, xx = (((y7.setCell ⟨s, 0, none⟩ (.int .i64 0)).setCell ⟨s, 1, none⟩ (.int .i64 zx)).setCell ⟨s, 2, none⟩ (.slice none 0 0)) := ⟨_, rfl⟩
          obtain ⟨hwry8, hky8⟩ := set3 ls7 (.int .i64 0) (.int .i64 zx) (.slice none 0 0)
          rw [← hy8] at hwry8 hky8
          have lr8 := hwry8.blk hnrp hky7
          have lB8 : Below w.heap.size w y8 := (HB7.out.trans (hwry7.below.mono HNE.out.2.1)).trans (hwry8.below.mono HNE.out.2.2.1)
          have HE : Hid (RaPost B a w (.returned (.tuple #[.agg #[.int .i64 zx, .slice AT nT cT, .slice A6 K1.1.length c6, .slice AD nD cD], .agg #[.int .i64 0, .int .i64 zx, .slice none 0 0], .slice none 0 0])) y8) := Lib.hid
            (by rw [HD.out]; exact ⟨_, _, _, _, _, rfl, (HRA.out.wr hwry7 HBQ.out.2.1 lr6 (by decide)).wr hwry8 HBQ.out.2.2.1 ls7 (by decide), (HPS.out.wr hwry7 HBQ.out.2.1 lr6 (by decide)).wr hwry8 HBQ.out.2.2.1 ls7 (by decide), (HEV.out.wr hwry7 HBQ.out.2.1 lr6 (by decide)).wr hwry8 HBQ.out.2.2.1 ls7 (by decide), lB8⟩)
          have la0 := cell_of lr6 (j := 0) rfl
          have la1 := cell_of lr6 (j := 1) rfl
          have la2 := cell_of lr6 (j := 2) rfl
          have la3 := cell_of lr6 (j := 3) rfl
          have lb0 := frozen_of_row w7 _ 0 _ _ lr6
          have lb1 := frozen_of_row w7 _ 1 _ _ lr6
          have lb2 := frozen_of_row w7 _ 2 _ _ lr6
          have lb3 := frozen_of_row w7 _ 3 _ _ lr6
          have lc0 := cell_of ls6 (j := 0) rfl
          have lc1 := cell_of ls6 (j := 1) rfl
          have lc2 := cell_of ls6 (j := 2) rfl
          have ld0 := frozen_of_row w7 _ 0 _ _ ls6
          have ld1 := frozen_of_row w7 _ 1 _ _ ls6
          have ld2 := frozen_of_row w7 _ 2 _ _ ls6
          have le0 := cell_of lr8 (j := 0) rfl
          have le1 := cell_of lr8 (j := 1) rfl
          have le2 := cell_of lr8 (j := 2) rfl
          have le3 := cell_of lr8 (j := 3) rfl
          have lf0 := cell_of hky8 (j := 0) rfl
          have lf1 := cell_of hky8 (j := 1) rfl
          have lf2 := cell_of hky8 (j := 2) rfl
          have HY7 := Lib.hid hy7
          have HY8 := Lib.hid hy8
          clear lr6 ls6 hy7 hwry7 hky7 ls7 hy8 hwry8 hky8 lr8 lB8
          go_wp2_with fail
          rw [← HY7.out, ← HY8.out]
          exact bodyPost_ret (v := .tuple #[.agg #[.int .i64 zx, .slice AT nT cT, .slice A6 K1.1.length c6, .slice AD nD cD], .agg #[.int .i64 0, .int .i64 zx, .slice none 0 0], .slice none 0 0]) (by simp [results, Tryz.results30, go_sem, le0, le1, le2, le3, lf0, lf1, lf2]) rfl HE.out
      | false =>
        go_upto_region 10 with fail
        cases k2 with
        | true =>
          have HD : Hid (a = (⟨zx, T, K2.1, l.map lvL⟩, ⟨K2.2, 0, []⟩, [])) := Lib.hid (by
            rw [HDO.out]; unfold Zs.doS; rw [if_neg (by simpa using HK1b.out), if_pos (by simpa using HK2b.out)]; unfold Zs.renS; dsimp only; rw [HK2.out]; rfl)
          go_wp2_with fail
          refine HE5.out.mono ?_
          rintro e w6 ⟨v6, rfl, hd6, hb6⟩
          obtain ⟨A6, c6, rfl, -⟩ := id hd6
          have hq6 := blk_below HQ5.out hb6
          obtain ⟨w7, hw7⟩ : ∃ xx, xx = w6.setCell ⟨q, 2, none⟩ (.slice A6 K2.1.length c6) := ⟨_, rfl⟩
          obtain ⟨hwr7, hq7⟩ := seti hq6 2 (.slice A6 K2.1.length c6)
          rw [← hw7] at hwr7 hq7
          have hq7' : w7.heap[q]? = some (.cells #[.int .i64 zx, .slice AT nT cT, .slice A6 K2.1.length c6, .slice AD nD cD] 31 (0, 0)) := hq7
          have hB7 : Below w.heap.size w w7 := (HB5.out.trans (hb6.mono HB5.out.size)).trans (hwr7.below.mono HNE.out.1)
          have hL7 := DV.wr hd6 hwr7 HBQ.out.1 hq6 (by decide)
          have HRA : Hid (RW w7 B (.slice AT nT cT) (.slice A6 K2.1.length c6) (.slice AD nD cD) ⟨zx, T, K2.1, l.map lvL⟩) := Lib.hid ⟨(HRW.out zx w7 hB7).tree, hL7, (HRW.out zx w7 hB7).last⟩
          have HR7 := Lib.hid (hwr7.blk (Ne.symm HNE.out.2.2.2.1) (blk_below HR5.out hb6))
          have HS7 := Lib.hid (hwr7.blk (Ne.symm HNE.out.2.2.2.2.1) (blk_below HS5.out hb6))
          have HB7 := Lib.hid hB7
          have HW7 := Lib.hid hw7
          have HPS := Lib.hid (PsW.nil w7 B)
          have HEV := Lib.hid (EvW.nil w7 B)
          have v0 := cell_of hq6 (j := 0) rfl
          have v1 := cell_of hq6 (j := 1) rfl
          have v2 := cell_of hq6 (j := 2) rfl
          have v3 := cell_of hq6 (j := 3) rfl
          have f2 := frozen_of_row w6 q 2 _ _ hq6
          have s0 := cell_of hq7' (j := 0) rfl
          have s1 := cell_of hq7' (j := 1) rfl
          have s2 := cell_of hq7' (j := 2) rfl
          have s3 := cell_of hq7' (j := 3) rfl
          clear hd6 hb6 hq6 hw7 hwr7 hq7 hq7' hB7 hL7
          go_upto_region 13 with fail
          rw [← HW7.out]
          have hnrp := HNE.out.2.2.2.2.2
          have hnpr := Ne.symm hnrp
          have lr6 := HR7.out
          have ls6 := HS7.out
          obtain ⟨y7, hy7⟩ : ∃ xx, xx = ((((w7.setCell ⟨r, 0, none⟩ (.int .i64 zx)).setCell ⟨r, 1, none⟩ (.slice AT nT cT)).setCell ⟨r, 2, none⟩ (.slice A6 K2.1.length c6)).setCell ⟨r, 3, none⟩ (.slice AD nD cD)) := ⟨_, rfl⟩
          obtain ⟨hwry7, hky7⟩ := set4 lr6 (.int .i64 zx) (.slice AT nT cT) (.slice A6 K2.1.length c6) (.slice AD nD cD)
          rw [← hy7] at hwry7 hky7
          have ls7 := hwry7.blk hnpr ls6
          obtain ⟨y8, hy8⟩ : ∃ xx, xx = (((y7.setCell ⟨s, 0, none⟩ (.int .i64 K2.2)).setCell ⟨s, 1, none⟩ (.int .i64 0)).setCell ⟨s, 2, none⟩ (.slice none 0 0)) := ⟨_, rfl⟩
          obtain ⟨hwry8, hky8⟩ := set3 ls7 (.int .i64 K2.2) (.int .i64 0) (.slice none 0 0)
          rw [← hy8] at hwry8 hky8
          have lr8 := hwry8.blk hnrp hky7
          have lB8 : Below w.heap.size w y8 := (HB7.out.trans (hwry7.below.mono HNE.out.2.1)).trans (hwry8.below.mono HNE.out.2.2.1)
          have HE : Hid (RaPost B a w (.returned (.tuple #[.agg #[.int .i64 zx, .slice AT nT cT, .slice A6 K2.1.length c6, .slice AD nD cD], .agg #[.int .i64 K2.2, .int .i64 0, .slice none 0 0], .slice none 0 0])) y8) := Lib.hid
            (by rw [HD.out]; exact ⟨_, _, _, _, _, rfl, (HRA.out.wr hwry7 HBQ.out.2.1 lr6 (by decide)).wr hwry8 HBQ.out.2.2.1 ls7 (by decide), (HPS.out.wr hwry7 HBQ.out.2.1 lr6 (by decide)).wr hwry8 HBQ.out.2.2.1 ls7 (by decide), (HEV.out.wr hwry7 HBQ.out.2.1 lr6 (by decide)).wr hwry8 HBQ.out.2.2.1 ls7 (by decide), lB8⟩)
          have la0 := cell_of lr6 (j := 0) rfl
          have la1 := cell_of lr6 (j := 1) rfl
          have la2 := cell_of lr6 (j := 2) rfl
          have la3 := cell_of lr6 (j := 3) rfl
          have lb0 := frozen_of_row w7 _ 0 _ _ lr6
          have lb1 := frozen_of_row w7 _ 1 _ _ lr6
          have lb2 := frozen_of_row w7 _ 2 _ _ lr6
          have lb3 := frozen_of_row w7 _ 3 _ _ lr6
          have lc0 := cell_of ls6 (j := 0) rfl
          have lc1 := cell_of ls6 (j := 1) rfl
          have lc2 := cell_of ls6 (j := 2) rfl
          have ld0 := frozen_of_row w7 _ 0 _ _ ls6
          have ld1 := frozen_of_row w7 _ 1 _ _ ls6
          have ld2 := frozen_of_row w7 _ 2 _ _ ls6
          have le0 := cell_of lr8 (j := 0) rfl
          have le1 := cell_of lr8 (j := 1) rfl
          have le2 := cell_of lr8 (j := 2) rfl
          have le3 := cell_of lr8 (j := 3) rfl
          have lf0 := cell_of hky8 (j := 0) rfl
          have lf1 := cell_of hky8 (j := 1) rfl
          have lf2 := cell_of hky8 (j := 2) rfl
          have HY7 := Lib.hid hy7
          have HY8 := Lib.hid hy8
          clear lr6 ls6 hy7 hwry7 hky7 ls7 hy8 hwry8 hky8 lr8 lB8
          go_wp2_with fail
          rw [← HY7.out, ← HY8.out]
          exact bodyPost_ret (v := .tuple #[.agg #[.int .i64 zx, .slice AT nT cT, .slice A6 K2.1.length c6, .slice AD nD cD], .agg #[.int .i64 K2.2, .int .i64 0, .slice none 0 0], .slice none 0 0]) (by simp [results, Tryz.results30, go_sem, le0, le1, le2, le3, lf0, lf1, lf2]) rfl HE.out
        | false =>
          go_upto_region 14 with fail
          cases k3 with
          | true =>
            have HKK : t.k < 3 ∨ 5 < t.k := .inl (by simpa using HK3b.out)
            have HD : Hid (a = (⟨zx, T, L, l.map lvL⟩, Zs.er 1, [])) := Lib.hid (by
              rw [HDO.out]; unfold Zs.doS; rw [if_neg (by simpa using HK1b.out), if_neg (by simpa using HK2b.out), if_pos (by simpa using HKK)])
            have HRA := Lib.hid (HRW.out zx w5 HB5.out)
            have HPS := Lib.hid (PsW.nil w5 B)
            have HEV := Lib.hid (EvW.nil w5 B)
            have hnrp := HNE.out.2.2.2.2.2
            have hnpr := Ne.symm hnrp
            have lr6 := HR5.out
            have ls6 := HS5.out
            obtain ⟨y7, hy7⟩ : ∃ xx, xx = ((((w5.setCell ⟨r, 0, none⟩ (.int .i64 zx)).setCell ⟨r, 1, none⟩ (.slice AT nT cT)).setCell ⟨r, 2, none⟩ (.slice AL nL cL)).setCell ⟨r, 3, none⟩ (.slice AD nD cD)) := ⟨_, rfl⟩
            obtain ⟨hwry7, hky7⟩ := set4 lr6 (.int .i64 zx) (.slice AT nT cT) (.slice AL nL cL) (.slice AD nD cD)
            rw [← hy7] at hwry7 hky7
            have ls7 := hwry7.blk hnpr ls6
            obtain ⟨y8, hy8⟩ : ∃ xx, xx = (((y7.setCell ⟨s, 0, none⟩ (.int .i64 1)).setCell ⟨s, 1, none⟩ (.int .i64 0)).setCell ⟨s, 2, none⟩ (.slice none 0 0)) := ⟨_, rfl⟩
            obtain ⟨hwry8, hky8⟩ := set3 ls7 (.int .i64 1) (.int .i64 0) (.slice none 0 0)
            rw [← hy8] at hwry8 hky8
            have lr8 := hwry8.blk hnrp hky7
            have lB8 : Below w.heap.size w y8 := (HB5.out.trans (hwry7.below.mono HNE.out.2.1)).trans (hwry8.below.mono HNE.out.2.2.1)
            have HE : Hid (RaPost B a w (.returned (.tuple #[.agg #[.int .i64 zx, .slice AT nT cT, .slice AL nL cL, .slice AD nD cD], .agg #[.int .i64 1, .int .i64 0, .slice none 0 0], .slice none 0 0])) y8) := Lib.hid
              (by rw [HD.out]; exact ⟨_, _, _, _, _, rfl, (HRA.out.wr hwry7 HBQ.out.2.1 lr6 (by decide)).wr hwry8 HBQ.out.2.2.1 ls7 (by decide), (HPS.out.wr hwry7 HBQ.out.2.1 lr6 (by decide)).wr hwry8 HBQ.out.2.2.1 ls7 (by decide), (HEV.out.wr hwry7 HBQ.out.2.1 lr6 (by decide)).wr hwry8 HBQ.out.2.2.1 ls7 (by decide), lB8⟩)
            have la0 := cell_of lr6 (j := 0) rfl
            have la1 := cell_of lr6 (j := 1) rfl
            have la2 := cell_of lr6 (j := 2) rfl
            have la3 := cell_of lr6 (j := 3) rfl
            have lb0 := frozen_of_row w5 _ 0 _ _ lr6
            have lb1 := frozen_of_row w5 _ 1 _ _ lr6
            have lb2 := frozen_of_row w5 _ 2 _ _ lr6
            have lb3 := frozen_of_row w5 _ 3 _ _ lr6
            have lc0 := cell_of ls6 (j := 0) rfl
            have lc1 := cell_of ls6 (j := 1) rfl
            have lc2 := cell_of ls6 (j := 2) rfl
            have ld0 := frozen_of_row w5 _ 0 _ _ ls6
            have ld1 := frozen_of_row w5 _ 1 _ _ ls6
            have ld2 := frozen_of_row w5 _ 2 _ _ ls6
            have le0 := cell_of lr8 (j := 0) rfl
            have le1 := cell_of lr8 (j := 1) rfl
            have le2 := cell_of lr8 (j := 2) rfl
            have le3 := cell_of lr8 (j := 3) rfl
            have lf0 := cell_of hky8 (j := 0) rfl
            have lf1 := cell_of hky8 (j := 1) rfl
            have lf2 := cell_of hky8 (j := 2) rfl
            have HY7 := Lib.hid hy7
            have HY8 := Lib.hid hy8
            clear lr6 ls6 hy7 hwry7 hky7 ls7 hy8 hwry8 hky8 lr8 lB8
            go_wp2_with fail
            rw [← HY7.out, ← HY8.out]
            exact bodyPost_ret (v := .tuple #[.agg #[.int .i64 zx, .slice AT nT cT, .slice AL nL cL, .slice AD nD cD], .agg #[.int .i64 1, .int .i64 0, .slice none 0 0], .slice none 0 0]) (by simp [results, Tryz.results30, go_sem, le0, le1, le2, le3, lf0, lf1, lf2]) rfl HE.out
          | false =>
            cases k5 with
            | true =>
              have HKK : t.k < 3 ∨ 5 < t.k := .inr (by simpa using HK5b.out)
              have HD : Hid (a = (⟨zx, T, L, l.map lvL⟩, Zs.er 1, [])) := Lib.hid (by
                rw [HDO.out]; unfold Zs.doS; rw [if_neg (by simpa using HK1b.out), if_neg (by simpa using HK2b.out), if_pos (by simpa using HKK)])
              have HRA := Lib.hid (HRW.out zx w5 HB5.out)
              have HPS := Lib.hid (PsW.nil w5 B)
              have HEV := Lib.hid (EvW.nil w5 B)
              have hnrp := HNE.out.2.2.2.2.2
              have hnpr := Ne.symm hnrp
              have lr6 := HR5.out
              have ls6 := HS5.out
              obtain ⟨y7, hy7⟩ : ∃ xx, xx = ((((w5.setCell ⟨r, 0, none⟩ (.int .i64 zx)).setCell ⟨r, 1, none⟩ (.slice AT nT cT)).setCell ⟨r, 2, none⟩ (.slice AL nL cL)).setCell ⟨r, 3, none⟩ (.slice AD nD cD)) := ⟨_, rfl⟩
              obtain ⟨hwry7, hky7⟩ := set4 lr6 (.int .i64 zx) (.slice AT nT cT) (.slice AL nL cL) (.slice AD nD cD)
              rw [← hy7] at hwry7 hky7
              have ls7 := hwry7.blk hnpr ls6
              obtain ⟨y8, hy8⟩ : ∃ xx, xx = (((y7.setCell ⟨s, 0, none⟩ (.int .i64 1)).setCell ⟨s, 1, none⟩ (.int .i64 0)).setCell ⟨s, 2, none⟩ (.slice none 0 0)) := ⟨_, rfl⟩
              obtain ⟨hwry8, hky8⟩ := set3 ls7 (.int .i64 1) (.int .i64 0) (.slice none 0 0)
              rw [← hy8] at hwry8 hky8
              have lr8 := hwry8.blk hnrp hky7
              have lB8 : Below w.heap.size w y8 := (HB5.out.trans (hwry7.below.mono HNE.out.2.1)).trans (hwry8.below.mono HNE.out.2.2.1)
              have HE : Hid (RaPost B a w (.returned (.tuple #[.agg #[.int .i64 zx, .slice AT nT cT, .slice AL nL cL, .slice AD nD cD], .agg #[.int .i64 1, .int .i64 0, .slice none 0 0], .slice none 0 0])) y8) := Lib.hid
                (by rw [HD.out]; exact ⟨_, _, _, _, _, rfl, (HRA.out.wr hwry7 HBQ.out.2.1 lr6 (by decide)).wr hwry8 HBQ.out.2.2.1 ls7 (by decide), (HPS.out.wr hwry7 HBQ.out.2.1 lr6 (by decide)).wr hwry8 HBQ.out.2.2.1 ls7 (by decide), (HEV.out.wr hwry7 HBQ.out.2.1 lr6 (by decide)).wr hwry8 HBQ.out.2.2.1 ls7 (by decide), lB8⟩)
              have la0 := cell_of lr6 (j := 0) rfl
              have la1 := cell_of lr6 (j := 1) rfl
              have la2 := cell_of lr6 (j := 2) rfl
              have la3 := cell_of lr6 (j := 3) rfl
              have lb0 := frozen_of_row w5 _ 0 _ _ lr6
              have lb1 := frozen_of_row w5 _ 1 _ _ lr6
              have lb2 := frozen_of_row w5 _ 2 _ _ lr6
              have lb3 := frozen_of_row w5 _ 3 _ _ lr6
              have lc0 := cell_of ls6 (j := 0) rfl
              have lc1 := cell_of ls6 (j := 1) rfl
              have lc2 := cell_of ls6 (j := 2) rfl
              have ld0 := frozen_of_row w5 _ 0 _ _ ls6
              have ld1 := frozen_of_row w5 _ 1 _ _ ls6
              have ld2 := frozen_of_row w5 _ 2 _ _ ls6
              have le0 := cell_of lr8 (j := 0) rfl
              have le1 := cell_of lr8 (j := 1) rfl
              have le2 := cell_of lr8 (j := 2) rfl
              have le3 := cell_of lr8 (j := 3) rfl
              have lf0 := cell_of hky8 (j := 0) rfl
              have lf1 := cell_of hky8 (j := 1) rfl
              have lf2 := cell_of hky8 (j := 2) rfl
              have HY7 := Lib.hid hy7
              have HY8 := Lib.hid hy8
              clear lr6 ls6 hy7 hwry7 hky7 ls7 hy8 hwry8 hky8 lr8 lB8
              go_wp2_with fail
              rw [← HY7.out, ← HY8.out]
              exact bodyPost_ret (v := .tuple #[.agg #[.int .i64 zx, .slice AT nT cT, .slice AL nL cL, .slice AD nD cD], .agg #[.int .i64 1, .int .i64 0, .slice none 0 0], .slice none 0 0]) (by simp [results, Tryz.results30, go_sem, le0, le1, le2, le3, lf0, lf1, lf2]) rfl HE.out
            | false =>
              have HDF : Hid (a = Zs.forS ⟨zx, T, L, l.map lvL⟩ t) := Lib.hid (by
                rw [HDO.out]; unfold Zs.doS; rw [if_neg (by simpa using HK1b.out), if_neg (by simpa using HK2b.out), if_neg (by have h1 := HK3b.out; have h2 := HK5b.out; simp only [decide_eq_false_iff_not] at h1 h2; omega)])
              obtain ⟨ok, hok⟩ : ∃ b, (Le.has L t.s).isSome = b := ⟨_, rfl⟩
              obtain ⟨x, hx⟩ : ∃ x, Lq.fnd L t.s = x := ⟨_, rfl⟩
              have HGG : Hid (Calls Tryz.prog 72 #[.slice AL nL cL, .int .i64 t.s] w5 (fun e w' => e = .returned (.tuple #[.agg #[.int .i64 x.i, .int .i64 x.s, .int .i64 x.l], .bool ok]) ∧ Below w5.heap.size w5 w')) := Lib.hid (by
                have h9 := HGE5.out
                unfold Lq.RgPost at h9
                rw [hx, hok] at h9
                exact h9)
              have HHX : Hid (∀ y, Le.has L t.s = some y → y = x) := Lib.hid (fun y hy => by rw [← hx, Lq.fnd_some hy])
              have HOKb := Lib.hid hok
              clear hok hx HGE5
              go_upto_region 16 with fail
              go_wp2_with fail
              refine HGG.out.mono ?_
              rintro e w6 ⟨rfl, hb6⟩
              obtain ⟨w7, hw7⟩ : ∃ xx, xx = w6.alloc (.cells #[.int .i64 x.i, .int .i64 x.s, .int .i64 x.l] 82) := ⟨_, rfl⟩
              obtain ⟨g, eg⟩ : ∃ xx, xx = w6.heap.size := ⟨_, rfl⟩
              have hbw7 : Below w6.heap.size w6 w7 := by rw [hw7]; exact box_below w6 _
              have hkg : w7.heap[g]? = some (.cells #[.int .i64 x.i, .int .i64 x.s, .int .i64 x.l] 82 (0, 0)) := by rw [hw7, eg]; exact new_block w6 _
              have hb57 : Below w5.heap.size w5 w7 := hb6.trans (hbw7.mono hb6.size)
              have HB7 : Hid (Below w.heap.size w w7) := Lib.hid (HB5.out.trans (hb57.mono HB5.out.size))
              have hq7 := blk_below HQ5.out hb57
              have hp7 := blk_below HP5.out hb57
              have HR7 := Lib.hid (blk_below HR5.out hb57)
              have HS7 := Lib.hid (blk_below HS5.out hb57)
              have HW7 := Lib.hid hw7
              have EG := Lib.hid eg
              have s0 := cell_of hq7 (j := 0) rfl
              have s1 := cell_of hq7 (j := 1) rfl
              have s2 := cell_of hq7 (j := 2) rfl
              have s3 := cell_of hq7 (j := 3) rfl
              have v0 := cell_of hp7 (j := 0) rfl
              have v1 := cell_of hp7 (j := 1) rfl
              have v2 := cell_of hp7 (j := 2) rfl
              have v3 := cell_of hp7 (j := 3) rfl
              have v4 := cell_of hp7 (j := 4) rfl
              have v5 := cell_of hp7 (j := 5) rfl
              have f0 := cell_of hkg (j := 0) rfl
              have f1 := cell_of hkg (j := 1) rfl
              have f2 := cell_of hkg (j := 2) rfl
              clear hb6 hbw7 hw7 eg hb57 hq7 hp7 hkg
              go_upto_region 17 with fail
              rw [← HW7.out, ← EG.out]
              cases ok with
              | false =>
                have HD : Hid (a = (⟨zx, T, L, l.map lvL⟩, Zs.er 100, [])) := Lib.hid (by
                  have h9 := HOKb.out
                  have hn : Le.has L t.s = none := by
                    cases h8 : Le.has L t.s with
                    | none => rfl
                    | some y => rw [h8] at h9; cases h9
                  rw [HDF.out]; unfold Zs.forS; dsimp only; rw [hn])
                have HRA := Lib.hid (HRW.out zx w7 HB7.out)
                have HPS := Lib.hid (PsW.nil w7 B)
                have HEV := Lib.hid (EvW.nil w7 B)
                have hnrp := HNE.out.2.2.2.2.2
                have hnpr := Ne.symm hnrp
                have lr6 := HR7.out
                have ls6 := HS7.out
                obtain ⟨y7, hy7⟩ : ∃ xx, xx = ((((w7.setCell ⟨r, 0, none⟩ (.int .i64 zx)).setCell ⟨r, 1, none⟩ (.slice AT nT cT)).setCell ⟨r, 2, none⟩ (.slice AL nL cL)).setCell ⟨r, 3, none⟩ (.slice AD nD cD)) := ⟨_, rfl⟩
                obtain ⟨hwry7, hky7⟩ := set4 lr6 (.int .i64 zx) (.slice AT nT cT) (.slice AL nL cL) (.slice AD nD cD)
                rw [← hy7] at hwry7 hky7
                have ls7 := hwry7.blk hnpr ls6
                obtain ⟨y8, hy8⟩ : ∃ xx, xx = (((y7.setCell ⟨s, 0, none⟩ (.int .i64 100)).setCell ⟨s, 1, none⟩ (.int .i64 0)).setCell ⟨s, 2, none⟩ (.slice none 0 0)) := ⟨_, rfl⟩
                obtain ⟨hwry8, hky8⟩ := set3 ls7 (.int .i64 100) (.int .i64 0) (.slice none 0 0)
                rw [← hy8] at hwry8 hky8
                have lr8 := hwry8.blk hnrp hky7
                have lB8 : Below w.heap.size w y8 := (HB7.out.trans (hwry7.below.mono HNE.out.2.1)).trans (hwry8.below.mono HNE.out.2.2.1)
                have HE : Hid (RaPost B a w (.returned (.tuple #[.agg #[.int .i64 zx, .slice AT nT cT, .slice AL nL cL, .slice AD nD cD], .agg #[.int .i64 100, .int .i64 0, .slice none 0 0], .slice none 0 0])) y8) := Lib.hid
                  (by rw [HD.out]; exact ⟨_, _, _, _, _, rfl, (HRA.out.wr hwry7 HBQ.out.2.1 lr6 (by decide)).wr hwry8 HBQ.out.2.2.1 ls7 (by decide), (HPS.out.wr hwry7 HBQ.out.2.1 lr6 (by decide)).wr hwry8 HBQ.out.2.2.1 ls7 (by decide), (HEV.out.wr hwry7 HBQ.out.2.1 lr6 (by decide)).wr hwry8 HBQ.out.2.2.1 ls7 (by decide), lB8⟩)
                have la0 := cell_of lr6 (j := 0) rfl
                have la1 := cell_of lr6 (j := 1) rfl
                have la2 := cell_of lr6 (j := 2) rfl
                have la3 := cell_of lr6 (j := 3) rfl
                have lb0 := frozen_of_row w7 _ 0 _ _ lr6
                have lb1 := frozen_of_row w7 _ 1 _ _ lr6
                have lb2 := frozen_of_row w7 _ 2 _ _ lr6
                have lb3 := frozen_of_row w7 _ 3 _ _ lr6
                have lc0 := cell_of ls6 (j := 0) rfl
                have lc1 := cell_of ls6 (j := 1) rfl
                have lc2 := cell_of ls6 (j := 2) rfl
                have ld0 := frozen_of_row w7 _ 0 _ _ ls6
                have ld1 := frozen_of_row w7 _ 1 _ _ ls6
                have ld2 := frozen_of_row w7 _ 2 _ _ ls6
                have le0 := cell_of lr8 (j := 0) rfl
                have le1 := cell_of lr8 (j := 1) rfl
                have le2 := cell_of lr8 (j := 2) rfl
                have le3 := cell_of lr8 (j := 3) rfl
                have lf0 := cell_of hky8 (j := 0) rfl
                have lf1 := cell_of hky8 (j := 1) rfl
                have lf2 := cell_of hky8 (j := 2) rfl
                have HY7 := Lib.hid hy7
                have HY8 := Lib.hid hy8
                clear lr6 ls6 hy7 hwry7 hky7 ls7 hy8 hwry8 hky8 lr8 lB8
                go_wp2_with fail
                rw [← HY7.out, ← HY8.out]
                exact bodyPost_ret (v := .tuple #[.agg #[.int .i64 zx, .slice AT nT cT, .slice AL nL cL, .slice AD nD cD], .agg #[.int .i64 100, .int .i64 0, .slice none 0 0], .slice none 0 0]) (by simp [results, Tryz.results30, go_sem, le0, le1, le2, le3, lf0, lf1, lf2]) rfl HE.out
              | true =>
                have HHS : Hid (Le.has L t.s = some x) := Lib.hid (by
                  have h9 := HOKb.out
                  cases h8 : Le.has L t.s with
                  | none => rw [h8] at h9; cases h9
                  | some y => rw [HHX.out y h8])
                obtain ⟨k4, hk4⟩ : ∃ b, (t.k == 4) = b := ⟨_, rfl⟩
                have HK4 := Lib.hid hk4
                go_upto_region 19 with fail
                cases k4 with
                | true =>
                  obtain ⟨ac, hac⟩ : ∃ x, Zs.chg ⟨zx, T, L, l.map lvL⟩ t = x := ⟨_, rfl⟩
                  have HC7 := Lib.hid (HCH.out HG5.out w7 HB7.out)
                  rw [hac] at HC7
                  have HD : Hid (a = ac) := Lib.hid (by
                    rw [HDF.out]; unfold Zs.forS; dsimp only; rw [HHS.out]; dsimp only; rw [if_pos (by simpa using HK4.out), hac])
                  clear hac
                  go_wp2_with fail
                  refine HC7.out.mono ?_
                  rintro e w8 ⟨v1, v2, v3, v4, v5, rfl, hrw, hps, hev, hb8⟩
                  obtain ⟨⟨A1, c1, rfl, -, -⟩, ⟨A2, c2, rfl, -⟩, ⟨A3, c3, l3, rfl, -, -⟩⟩ := id hrw
                  obtain ⟨A4, c4, rfl, -, -⟩ := id hps
                  obtain ⟨A5, c5, rfl, -, -⟩ := id hev
                  have HRA := Lib.hid hrw
                  have HPS := Lib.hid hps
                  have HEV := Lib.hid hev
                  have HB8 : Hid (Below w.heap.size w w8) := Lib.hid (HB7.out.trans (hb8.mono HB7.out.size))
                  have HR8 := Lib.hid (blk_below HR7.out hb8)
                  have HS8 := Lib.hid (blk_below HS7.out hb8)
                  clear hrw hps hev hb8
                  have hnrp := HNE.out.2.2.2.2.2
                  have hnpr := Ne.symm hnrp
                  have lr6 := HR8.out
                  have ls6 := HS8.out
                  obtain ⟨y7, hy7⟩ : ∃ xx, xx = ((((w8.setCell ⟨r, 0, none⟩ (.int .i64 ac.1.z)).setCell ⟨r, 1, none⟩ (.slice A1 ac.1.T.length c1)).setCell ⟨r, 2, none⟩ (.slice A2 ac.1.L.length c2)).setCell ⟨r, 3, none⟩ (.slice A3 l3.length c3)) := ⟨_, rfl⟩
                  obtain ⟨hwry7, hky7⟩ := set4 lr6 (.int .i64 ac.1.z) (.slice A1 ac.1.T.length c1) (.slice A2 ac.1.L.length c2) (.slice A3 l3.length c3)
                  rw [← hy7] at hwry7 hky7
                  have ls7 := hwry7.blk hnpr ls6
                  obtain ⟨y8, hy8⟩ : ∃ xx, xx = (((y7.setCell ⟨s, 0, none⟩ (.int .i64 ac.2.1.c)).setCell ⟨s, 1, none⟩ (.int .i64 ac.2.1.s)).setCell ⟨s, 2, none⟩ (.slice A4 ac.2.1.ps.length c4)) := ⟨_, rfl⟩
                  obtain ⟨hwry8, hky8⟩ := set3 ls7 (.int .i64 ac.2.1.c) (.int .i64 ac.2.1.s) (.slice A4 ac.2.1.ps.length c4)
                  rw [← hy8] at hwry8 hky8
                  have lr8 := hwry8.blk hnrp hky7
                  have lB8 : Below w.heap.size w y8 := (HB8.out.trans (hwry7.below.mono HNE.out.2.1)).trans (hwry8.below.mono HNE.out.2.2.1)
                  have HE : Hid (RaPost B a w (.returned (.tuple #[.agg #[.int .i64 ac.1.z, .slice A1 ac.1.T.length c1, .slice A2 ac.1.L.length c2, .slice A3 l3.length c3], .agg #[.int .i64 ac.2.1.c, .int .i64 ac.2.1.s, .slice A4 ac.2.1.ps.length c4], .slice A5 ac.2.2.length c5])) y8) := Lib.hid
                    (by rw [HD.out]; exact ⟨_, _, _, _, _, rfl, (HRA.out.wr hwry7 HBQ.out.2.1 lr6 (by decide)).wr hwry8 HBQ.out.2.2.1 ls7 (by decide), (HPS.out.wr hwry7 HBQ.out.2.1 lr6 (by decide)).wr hwry8 HBQ.out.2.2.1 ls7 (by decide), (HEV.out.wr hwry7 HBQ.out.2.1 lr6 (by decide)).wr hwry8 HBQ.out.2.2.1 ls7 (by decide), lB8⟩)
                  have la0 := cell_of lr6 (j := 0) rfl
                  have la1 := cell_of lr6 (j := 1) rfl
                  have la2 := cell_of lr6 (j := 2) rfl
                  have la3 := cell_of lr6 (j := 3) rfl
                  have lb0 := frozen_of_row w8 _ 0 _ _ lr6
                  have lb1 := frozen_of_row w8 _ 1 _ _ lr6
                  have lb2 := frozen_of_row w8 _ 2 _ _ lr6
                  have lb3 := frozen_of_row w8 _ 3 _ _ lr6
                  have lc0 := cell_of ls6 (j := 0) rfl
                  have lc1 := cell_of ls6 (j := 1) rfl
                  have lc2 := cell_of ls6 (j := 2) rfl
                  have ld0 := frozen_of_row w8 _ 0 _ _ ls6
                  have ld1 := frozen_of_row w8 _ 1 _ _ ls6
                  have ld2 := frozen_of_row w8 _ 2 _ _ ls6
                  have le0 := cell_of lr8 (j := 0) rfl
                  have le1 := cell_of lr8 (j := 1) rfl
                  have le2 := cell_of lr8 (j := 2) rfl
                  have le3 := cell_of lr8 (j := 3) rfl
                  have lf0 := cell_of hky8 (j := 0) rfl
                  have lf1 := cell_of hky8 (j := 1) rfl
                  have lf2 := cell_of hky8 (j := 2) rfl
                  have HY7 := Lib.hid hy7
                  have HY8 := Lib.hid hy8
                  clear lr6 ls6 hy7 hwry7 hky7 ls7 hy8 hwry8 hky8 lr8 lB8
                  go_wp2_with fail
                  rw [← HY7.out, ← HY8.out]
                  exact bodyPost_ret (v := .tuple #[.agg #[.int .i64 ac.1.z, .slice A1 ac.1.T.length c1, .slice A2 ac.1.L.length c2, .slice A3 l3.length c3], .agg #[.int .i64 ac.2.1.c, .int .i64 ac.2.1.s, .slice A4 ac.2.1.ps.length c4], .slice A5 ac.2.2.length c5]) (by simp [results, Tryz.results30, go_sem, le0, le1, le2, le3, lf0, lf1, lf2]) rfl HE.out
                | false =>
                  obtain ⟨k6, hk6⟩ : ∃ b, (t.k == 5) = b := ⟨_, rfl⟩
                  obtain ⟨ln, hln⟩ : ∃ b, (x.l != t.now) = b := ⟨_, rfl⟩
                  have HK6 := Lib.hid hk6
                  have HLN := Lib.hid hln
                  go_upto_region 21 with fail
                  cases k6 with
                  | false =>
                    have HNL : Hid (¬ (t.k = 5 ∧ x.l ≠ t.now)) := Lib.hid (fun hh => by have h9 := HK6.out; simp [hh.1] at h9)
                    obtain ⟨ac, hac⟩ : ∃ x, Zs.fin ⟨zx, T, L, l.map lvL⟩ t.s = x := ⟨_, rfl⟩
                    have HC7 := Lib.hid (HEN.out HG5.out w7 HB7.out)
                    rw [hac] at HC7
                    have HD : Hid (a = ac) := Lib.hid (by
                      rw [HDF.out]; unfold Zs.forS; dsimp only; rw [HHS.out]; dsimp only; rw [if_neg (by simpa using HK4.out), if_neg HNL.out, hac])
                    clear hac
                    go_wp2_with fail
                    refine HC7.out.mono ?_
                    rintro e w8 ⟨v1, v2, v3, v4, v5, rfl, hrw, hps, hev, hb8⟩
                    obtain ⟨⟨A1, c1, rfl, -, -⟩, ⟨A2, c2, rfl, -⟩, ⟨A3, c3, l3, rfl, -, -⟩⟩ := id hrw
                    obtain ⟨A4, c4, rfl, -, -⟩ := id hps
                    obtain ⟨A5, c5, rfl, -, -⟩ := id hev
                    have HRA := Lib.hid hrw
                    have HPS := Lib.hid hps
                    have HEV := Lib.hid hev
                    have HB8 : Hid (Below w.heap.size w w8) := Lib.hid (HB7.out.trans (hb8.mono HB7.out.size))
                    have HR8 := Lib.hid (blk_below HR7.out hb8)
                    have HS8 := Lib.hid (blk_below HS7.out hb8)
                    clear hrw hps hev hb8
                    have hnrp := HNE.out.2.2.2.2.2
                    have hnpr := Ne.symm hnrp
                    have lr6 := HR8.out
                    have ls6 := HS8.out
                    obtain ⟨y7, hy7⟩ : ∃ xx, xx = ((((w8.setCell ⟨r, 0, none⟩ (.int .i64 ac.1.z)).setCell ⟨r, 1, none⟩ (.slice A1 ac.1.T.length c1)).setCell ⟨r, 2, none⟩ (.slice A2 ac.1.L.length c2)).setCell ⟨r, 3, none⟩ (.slice A3 l3.length c3)) := ⟨_, rfl⟩
                    obtain ⟨hwry7, hky7⟩ := set4 lr6 (.int .i64 ac.1.z) (.slice A1 ac.1.T.length c1) (.slice A2 ac.1.L.length c2) (.slice A3 l3.length c3)
                    rw [← hy7] at hwry7 hky7
                    have ls7 := hwry7.blk hnpr ls6
                    obtain ⟨y8, hy8⟩ : ∃ xx, xx = (((y7.setCell ⟨s, 0, none⟩ (.int .i64 ac.2.1.c)).setCell ⟨s, 1, none⟩ (.int .i64 ac.2.1.s)).setCell ⟨s, 2, none⟩ (.slice A4 ac.2.1.ps.length c4)) := ⟨_, rfl⟩
                    obtain ⟨hwry8, hky8⟩ := set3 ls7 (.int .i64 ac.2.1.c) (.int .i64 ac.2.1.s) (.slice A4 ac.2.1.ps.length c4)
                    rw [← hy8] at hwry8 hky8
                    have lr8 := hwry8.blk hnrp hky7
                    have lB8 : Below w.heap.size w y8 := (HB8.out.trans (hwry7.below.mono HNE.out.2.1)).trans (hwry8.below.mono HNE.out.2.2.1)
                    have HE : Hid (RaPost B a w (.returned (.tuple #[.agg #[.int .i64 ac.1.z, .slice A1 ac.1.T.length c1, .slice A2 ac.1.L.length c2, .slice A3 l3.length c3], .agg #[.int .i64 ac.2.1.c, .int .i64 ac.2.1.s, .slice A4 ac.2.1.ps.length c4], .slice A5 ac.2.2.length c5])) y8) := Lib.hid
                      (by rw [HD.out]; exact ⟨_, _, _, _, _, rfl, (HRA.out.wr hwry7 HBQ.out.2.1 lr6 (by decide)).wr hwry8 HBQ.out.2.2.1 ls7 (by decide), (HPS.out.wr hwry7 HBQ.out.2.1 lr6 (by decide)).wr hwry8 HBQ.out.2.2.1 ls7 (by decide), (HEV.out.wr hwry7 HBQ.out.2.1 lr6 (by decide)).wr hwry8 HBQ.out.2.2.1 ls7 (by decide), lB8⟩)
                    have la0 := cell_of lr6 (j := 0) rfl
                    have la1 := cell_of lr6 (j := 1) rfl
                    have la2 := cell_of lr6 (j := 2) rfl
                    have la3 := cell_of lr6 (j := 3) rfl
                    have lb0 := frozen_of_row w8 _ 0 _ _ lr6
                    have lb1 := frozen_of_row w8 _ 1 _ _ lr6
                    have lb2 := frozen_of_row w8 _ 2 _ _ lr6
                    have lb3 := frozen_of_row w8 _ 3 _ _ lr6
                    have lc0 := cell_of ls6 (j := 0) rfl
                    have lc1 := cell_of ls6 (j := 1) rfl
                    have lc2 := cell_of ls6 (j := 2) rfl
                    have ld0 := frozen_of_row w8 _ 0 _ _ ls6
                    have ld1 := frozen_of_row w8 _ 1 _ _ ls6
                    have ld2 := frozen_of_row w8 _ 2 _ _ ls6
                    have le0 := cell_of lr8 (j := 0) rfl
                    have le1 := cell_of lr8 (j := 1) rfl
                    have le2 := cell_of lr8 (j := 2) rfl
                    have le3 := cell_of lr8 (j := 3) rfl
                    have lf0 := cell_of hky8 (j := 0) rfl
                    have lf1 := cell_of hky8 (j := 1) rfl
                    have lf2 := cell_of hky8 (j := 2) rfl
                    have HY7 := Lib.hid hy7
                    have HY8 := Lib.hid hy8
                    clear lr6 ls6 hy7 hwry7 hky7 ls7 hy8 hwry8 hky8 lr8 lB8
                    go_wp2_with fail
                    rw [← HY7.out, ← HY8.out]
                    exact bodyPost_ret (v := .tuple #[.agg #[.int .i64 ac.1.z, .slice A1 ac.1.T.length c1, .slice A2 ac.1.L.length c2, .slice A3 l3.length c3], .agg #[.int .i64 ac.2.1.c, .int .i64 ac.2.1.s, .slice A4 ac.2.1.ps.length c4], .slice A5 ac.2.2.length c5]) (by simp [results, Tryz.results30, go_sem, le0, le1, le2, le3, lf0, lf1, lf2]) rfl HE.out
                  | true =>
                    cases ln with
                    | false =>
                      have HNL : Hid (¬ (t.k = 5 ∧ x.l ≠ t.now)) := Lib.hid (fun hh => by have h9 := HLN.out; simp [hh.2] at h9)
                      obtain ⟨ac, hac⟩ : ∃ x, Zs.fin ⟨zx, T, L, l.map lvL⟩ t.s = x := ⟨_, rfl⟩
                      have HC7 := Lib.hid (HEN.out HG5.out w7 HB7.out)
                      rw [hac] at HC7
                      have HD : Hid (a = ac) := Lib.hid (by
                        rw [HDF.out]; unfold Zs.forS; dsimp only; rw [HHS.out]; dsimp only; rw [if_neg (by simpa using HK4.out), if_neg HNL.out, hac])
                      clear hac
                      go_wp2_with fail
                      refine HC7.out.mono ?_
                      rintro e w8 ⟨v1, v2, v3, v4, v5, rfl, hrw, hps, hev, hb8⟩
                      obtain ⟨⟨A1, c1, rfl, -, -⟩, ⟨A2, c2, rfl, -⟩, ⟨A3, c3, l3, rfl, -, -⟩⟩ := id hrw
                      obtain ⟨A4, c4, rfl, -, -⟩ := id hps
                      obtain ⟨A5, c5, rfl, -, -⟩ := id hev
                      have HRA := Lib.hid hrw
                      have HPS := Lib.hid hps
                      have HEV := Lib.hid hev
                      have HB8 : Hid (Below w.heap.size w w8) := Lib.hid (HB7.out.trans (hb8.mono HB7.out.size))
                      have HR8 := Lib.hid (blk_below HR7.out hb8)
                      have HS8 := Lib.hid (blk_below HS7.out hb8)
                      clear hrw hps hev hb8
                      have hnrp := HNE.out.2.2.2.2.2
                      have hnpr := Ne.symm hnrp
                      have lr6 := HR8.out
                      have ls6 := HS8.out
                      obtain ⟨y7, hy7⟩ : ∃ xx, xx = ((((w8.setCell ⟨r, 0, none⟩ (.int .i64 ac.1.z)).setCell ⟨r, 1, none⟩ (.slice A1 ac.1.T.length c1)).setCell ⟨r, 2, none⟩ (.slice A2 ac.1.L.length c2)).setCell ⟨r, 3, none⟩ (.slice A3 l3.length c3)) := ⟨_, rfl⟩
                      obtain ⟨hwry7, hky7⟩ := set4 lr6 (.int .i64 ac.1.z) (.slice A1 ac.1.T.length c1) (.slice A2 ac.1.L.length c2) (.slice A3 l3.length c3)
                      rw [← hy7] at hwry7 hky7
                      have ls7 := hwry7.blk hnpr ls6
                      obtain ⟨y8, hy8⟩ : ∃ xx, xx = (((y7.setCell ⟨s, 0, none⟩ (.int .i64 ac.2.1.c)).setCell ⟨s, 1, none⟩ (.int .i64 ac.2.1.s)).setCell ⟨s, 2, none⟩ (.slice A4 ac.2.1.ps.length c4)) := ⟨_, rfl⟩
                      obtain ⟨hwry8, hky8⟩ := set3 ls7 (.int .i64 ac.2.1.c) (.int .i64 ac.2.1.s) (.slice A4 ac.2.1.ps.length c4)
                      rw [← hy8] at hwry8 hky8
                      have lr8 := hwry8.blk hnrp hky7
                      have lB8 : Below w.heap.size w y8 := (HB8.out.trans (hwry7.below.mono HNE.out.2.1)).trans (hwry8.below.mono HNE.out.2.2.1)
                      have HE : Hid (RaPost B a w (.returned (.tuple #[.agg #[.int .i64 ac.1.z, .slice A1 ac.1.T.length c1, .slice A2 ac.1.L.length c2, .slice A3 l3.length c3], .agg #[.int .i64 ac.2.1.c, .int .i64 ac.2.1.s, .slice A4 ac.2.1.ps.length c4], .slice A5 ac.2.2.length c5])) y8) := Lib.hid
                        (by rw [HD.out]; exact ⟨_, _, _, _, _, rfl, (HRA.out.wr hwry7 HBQ.out.2.1 lr6 (by decide)).wr hwry8 HBQ.out.2.2.1 ls7 (by decide), (HPS.out.wr hwry7 HBQ.out.2.1 lr6 (by decide)).wr hwry8 HBQ.out.2.2.1 ls7 (by decide), (HEV.out.wr hwry7 HBQ.out.2.1 lr6 (by decide)).wr hwry8 HBQ.out.2.2.1 ls7 (by decide), lB8⟩)
                      have la0 := cell_of lr6 (j := 0) rfl
                      have la1 := cell_of lr6 (j := 1) rfl
                      have la2 := cell_of lr6 (j := 2) rfl
                      have la3 := cell_of lr6 (j := 3) rfl
                      have lb0 := frozen_of_row w8 _ 0 _ _ lr6
                      have lb1 := frozen_of_row w8 _ 1 _ _ lr6
                      have lb2 := frozen_of_row w8 _ 2 _ _ lr6
                      have lb3 := frozen_of_row w8 _ 3 _ _ lr6
                      have lc0 := cell_of ls6 (j := 0) rfl
                      have lc1 := cell_of ls6 (j := 1) rfl
                      have lc2 := cell_of ls6 (j := 2) rfl
                      have ld0 := frozen_of_row w8 _ 0 _ _ ls6
                      have ld1 := frozen_of_row w8 _ 1 _ _ ls6
                      have ld2 := frozen_of_row w8 _ 2 _ _ ls6
                      have le0 := cell_of lr8 (j := 0) rfl
                      have le1 := cell_of lr8 (j := 1) rfl
                      have le2 := cell_of lr8 (j := 2) rfl
                      have le3 := cell_of lr8 (j := 3) rfl
                      have lf0 := cell_of hky8 (j := 0) rfl
                      have lf1 := cell_of hky8 (j := 1) rfl
                      have lf2 := cell_of hky8 (j := 2) rfl
                      have HY7 := Lib.hid hy7
                      have HY8 := Lib.hid hy8
                      clear lr6 ls6 hy7 hwry7 hky7 ls7 hy8 hwry8 hky8 lr8 lB8
                      go_wp2_with fail
                      rw [← HY7.out, ← HY8.out]
                      exact bodyPost_ret (v := .tuple #[.agg #[.int .i64 ac.1.z, .slice A1 ac.1.T.length c1, .slice A2 ac.1.L.length c2, .slice A3 l3.length c3], .agg #[.int .i64 ac.2.1.c, .int .i64 ac.2.1.s, .slice A4 ac.2.1.ps.length c4], .slice A5 ac.2.2.length c5]) (by simp [results, Tryz.results30, go_sem, le0, le1, le2, le3, lf0, lf1, lf2]) rfl HE.out
                    | true =>
                      have HD : Hid (a = (⟨zx, T, L, l.map lvL⟩, Zs.er 1, [])) := Lib.hid (by
                        rw [HDF.out]; unfold Zs.forS; dsimp only; rw [HHS.out]; dsimp only; rw [if_neg (by simpa using HK4.out), if_pos ⟨by simpa using HK6.out, by simpa using HLN.out⟩])
                      have HRA := Lib.hid (HRW.out zx w7 HB7.out)
                      have HPS := Lib.hid (PsW.nil w7 B)
                      have HEV := Lib.hid (EvW.nil w7 B)
                      have hnrp := HNE.out.2.2.2.2.2
                      have hnpr := Ne.symm hnrp
                      have lr6 := HR7.out
                      have ls6 := HS7.out
                      obtain ⟨y7, hy7⟩ : ∃ xx, xx = ((((w7.setCell ⟨r, 0, none⟩ (.int .i64 zx)).setCell ⟨r, 1, none⟩ (.slice AT nT cT)).setCell ⟨r, 2, none⟩ (.slice AL nL cL)).setCell ⟨r, 3, none⟩ (.slice AD nD cD)) := ⟨_, rfl⟩
                      obtain ⟨hwry7, hky7⟩ := set4 lr6 (.int .i64 zx) (.slice AT nT cT) (.slice AL nL cL) (.slice AD nD cD)
                      rw [← hy7] at hwry7 hky7
                      have ls7 := hwry7.blk hnpr ls6
                      obtain ⟨y8, hy8⟩ : ∃ xx, xx = (((y7.setCell ⟨s, 0, none⟩ (.int .i64 1)).setCell ⟨s, 1, none⟩ (.int .i64 0)).setCell ⟨s, 2, none⟩ (.slice none 0 0)) := ⟨_, rfl⟩
                      obtain ⟨hwry8, hky8⟩ := set3 ls7 (.int .i64 1) (.int .i64 0) (.slice none 0 0)
                      rw [← hy8] at hwry8 hky8
                      have lr8 := hwry8.blk hnrp hky7
                      have lB8 : Below w.heap.size w y8 := (HB7.out.trans (hwry7.below.mono HNE.out.2.1)).trans (hwry8.below.mono HNE.out.2.2.1)
                      have HE : Hid (RaPost B a w (.returned (.tuple #[.agg #[.int .i64 zx, .slice AT nT cT, .slice AL nL cL, .slice AD nD cD], .agg #[.int .i64 1, .int .i64 0, .slice none 0 0], .slice none 0 0])) y8) := Lib.hid
                        (by rw [HD.out]; exact ⟨_, _, _, _, _, rfl, (HRA.out.wr hwry7 HBQ.out.2.1 lr6 (by decide)).wr hwry8 HBQ.out.2.2.1 ls7 (by decide), (HPS.out.wr hwry7 HBQ.out.2.1 lr6 (by decide)).wr hwry8 HBQ.out.2.2.1 ls7 (by decide), (HEV.out.wr hwry7 HBQ.out.2.1 lr6 (by decide)).wr hwry8 HBQ.out.2.2.1 ls7 (by decide), lB8⟩)
                      have la0 := cell_of lr6 (j := 0) rfl
                      have la1 := cell_of lr6 (j := 1) rfl
                      have la2 := cell_of lr6 (j := 2) rfl
                      have la3 := cell_of lr6 (j := 3) rfl
                      have lb0 := frozen_of_row w7 _ 0 _ _ lr6
                      have lb1 := frozen_of_row w7 _ 1 _ _ lr6
                      have lb2 := frozen_of_row w7 _ 2 _ _ lr6
                      have lb3 := frozen_of_row w7 _ 3 _ _ lr6
                      have lc0 := cell_of ls6 (j := 0) rfl
                      have lc1 := cell_of ls6 (j := 1) rfl
                      have lc2 := cell_of ls6 (j := 2) rfl
                      have ld0 := frozen_of_row w7 _ 0 _ _ ls6
                      have ld1 := frozen_of_row w7 _ 1 _ _ ls6
                      have ld2 := frozen_of_row w7 _ 2 _ _ ls6
                      have le0 := cell_of lr8 (j := 0) rfl
                      have le1 := cell_of lr8 (j := 1) rfl
                      have le2 := cell_of lr8 (j := 2) rfl
                      have le3 := cell_of lr8 (j := 3) rfl
                      have lf0 := cell_of hky8 (j := 0) rfl
                      have lf1 := cell_of hky8 (j := 1) rfl
                      have lf2 := cell_of hky8 (j := 2) rfl
                      have HY7 := Lib.hid hy7
                      have HY8 := Lib.hid hy8
                      clear lr6 ls6 hy7 hwry7 hky7 ls7 hy8 hwry8 hky8 lr8 lB8
                      go_wp2_with fail
                      rw [← HY7.out, ← HY8.out]
                      exact bodyPost_ret (v := .tuple #[.agg #[.int .i64 zx, .slice AT nT cT, .slice AL nL cL, .slice AD nD cD], .agg #[.int .i64 1, .int .i64 0, .slice none 0 0], .slice none 0 0]) (by simp [results, Tryz.results30, go_sem, le0, le1, le2, le3, lf0, lf1, lf2]) rfl HE.out
end Go.Proofs.YtflgemlhocjipaaGreatDoor
