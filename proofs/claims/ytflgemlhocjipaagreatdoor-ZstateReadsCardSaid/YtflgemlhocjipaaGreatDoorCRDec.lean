/-
  What the document's Decode returns of bytes that read. Condition: their array takes no more than 2^61.
-/
import Derived.Test.YtflgemlhocjipaaGreatDoorCDec
import Derived.Test.YtflgemlhocjipaaGreatDoorQRDec
import Derived.Test.YtflgemlhocjipaaGreatDoorCAp
namespace Go.Proofs.YtflgemlhocjipaaGreatDoor
set_option maxRecDepth 100000
open Go.ChangeShapes Go.WideShapes Go.ChangeAt Go.RowKit Go.Proofs.Zn Go.Proofs.Zt
open Go.Proofs.Zs (St Lst Rep Tx)
open Pq (Fld FReads Reads fcs ams errL bytL sm dc Sm Bys byts)

theorem ap_dec {b : List Int} (h : apS hk pk b = none) : decS b = none := by unfold decS; rw [h]; rfl
theorem ap_dec2 {b : List Int} {f g : List Fld} (h : apS hk pk b = some (f, g)) : decS b = some (txOf f g) := by unfold decS; rw [h]; rfl
theorem rep_add (m : Nat) (l : List Int) : rep (m + 1) l = rep m l ++ l := by
  induction m with
  | zero => simp [rep]
  | succ m ih => rw [rep_succ, ih, ← List.append_assoc, ← rep_succ, ih]
set_option maxHeartbeats 16000000 in
theorem rdecode_txn {w : World} {ba : Option Addr} {bl bc : Nat} {zs : List Int} (hR : Reads .u8 w ba bl zs) (hB : Bys zs) (hc : bl ≤ bc) (hcm : bc ≤ 2305843009213693952) : Calls Tryz.prog 26 #[.slice ba bl bc] w (DcPost w (decS zs)) := by
  obtain ⟨w1, hw1⟩ : ∃ xx, xx = w.alloc (.cells #[.int .i64 0, .int .i64 0, .int .i64 0, .int .i64 0, .int .i64 0, .slice none 0 0] 38) := ⟨_, rfl⟩
  obtain ⟨q, eq⟩ : ∃ xx, xx = w.heap.size := ⟨_, rfl⟩
  have hbw1 : Below w.heap.size w w1 := by rw [hw1]; exact box_below w _
  have hkq : w1.heap[q]? = some (.cells #[.int .i64 0, .int .i64 0, .int .i64 0, .int .i64 0, .int .i64 0, .slice none 0 0] 38 (0, 0)) := by rw [hw1, eq]; exact new_block w _
  obtain ⟨w2, hw2⟩ : ∃ xx, xx = w1.alloc (.cells #[.int .i64 1, .int .i64 2, .int .i64 2, .int .i64 2, .int .i64 2, .int .i64 1] 3) := ⟨_, rfl⟩
  obtain ⟨p, ep⟩ : ∃ xx, xx = w1.heap.size := ⟨_, rfl⟩
  have hbw2 : Below w1.heap.size w1 w2 := by rw [hw2]; exact box_below w1 _
  have hkp : w2.heap[p]? = some (.cells #[.int .i64 1, .int .i64 2, .int .i64 2, .int .i64 2, .int .i64 2, .int .i64 1] 3 (0, 0)) := by rw [hw2, ep]; exact new_block w1 _
  have hr2 : Reads .i64 w2 (some ⟨p, 0, none⟩) 6 hk := reads_blk (zs := hk) hkp rfl
  have HB12 := Lib.hid hbw2
  have HB1 := Lib.hid hbw1
  have HR := Lib.hid (hR.kept hbw1)
  have HB := Lib.hid hB
  have HQ := Lib.hid hkq
  have HS := Lib.hid (Pq.rsome_any _ ba 6 6 bl bc _ zs w2 hr2 ((hR.kept hbw1).kept hbw2) hB (by decide) hc hcm)
  have HZL := Lib.hid hR.1
  have HW1 := Lib.hid hw1
  have EQ := Lib.hid eq
  have HW2 := Lib.hid hw2
  have EP := Lib.hid ep
  obtain ⟨R, hr⟩ : ∃ r, decS zs = r := ⟨_, rfl⟩
  have HRR := Lib.hid hr
  rw [hr]
  clear hR hB hw1 eq hbw1 hkq hr hw2 ep hbw2 hkp hr2
  go_enter Tryz.func26, Tryz.ntmps26
  go_upto_region 1 with fail
  rw [← HW1.out, ← EQ.out]
  go_wp2_with fail
  rw [← HW2.out, ← EP.out]
  refine HS.out.mono ?_
  rintro e w3 ⟨A, c, rfl, hf, hb3⟩
  have HB3 : Hid (Below w1.heap.size w1 w3) := Lib.hid (HB12.out.trans (hb3.mono HB12.out.size))
  clear hb3
  cases hs : sm hk zs with
  | bad er =>
    have hne : (er == 0) = false := by simpa using Pq.sm_bad_ne hs
    have hne2 : (er != 0) = true := by simpa using Pq.sm_bad_ne hs
    have HN : Hid (apS hk pk zs = none) := Lib.hid (ar_bad hs)
    simp only [Sm.e, Sm.l, Sm.n, Pq.Sm.e, Pq.Sm.l, Pq.Sm.n, List.length_nil]
    clear hf hs
    have hq9 := blk_below HQ.out HB3.out
    have z0 := cell_of hq9 (j := 0) rfl
    have z1 := cell_of hq9 (j := 1) rfl
    have z2 := cell_of hq9 (j := 2) rfl
    have z3 := cell_of hq9 (j := 3) rfl
    have z4 := cell_of hq9 (j := 4) rfl
    have z5 := cell_of hq9 (j := 5) rfl
    have g0 := frozen_of_row w3 _ 0 _ _ hq9
    have g1 := frozen_of_row w3 _ 1 _ _ hq9
    have g2 := frozen_of_row w3 _ 2 _ _ hq9
    have g3 := frozen_of_row w3 _ 3 _ _ hq9
    have g4 := frozen_of_row w3 _ 4 _ _ hq9
    have g5 := frozen_of_row w3 _ 5 _ _ hq9
    obtain ⟨w99, hw99⟩ : ∃ xx, xx = ((((((w3.setCell ⟨q, 0, none⟩ (.int .i64 0)).setCell ⟨q, 1, none⟩ (.int .i64 0)).setCell ⟨q, 2, none⟩ (.int .i64 0)).setCell ⟨q, 3, none⟩ (.int .i64 0)).setCell ⟨q, 4, none⟩ (.int .i64 0)).setCell ⟨q, 5, none⟩ (.slice none 0 0)) := ⟨_, rfl⟩
    obtain ⟨hwrw99, hkw99⟩ := set6 hq9 (.int .i64 0) (.int .i64 0) (.int .i64 0) (.int .i64 0) (.int .i64 0) (.slice none 0 0)
    rw [← hw99] at hwrw99 hkw99
    have HE : Hid (DcPost w R (.returned (.tuple #[.agg #[.int .i64 0, .int .i64 0, .int .i64 0, .int .i64 0, .int .i64 0, .slice none 0 0], .int .i64 110])) w99) := Lib.hid (dc_none (by rw [← HRR.out]; exact ap_dec HN.out) ((HB1.out.trans (HB3.out.mono HB1.out.size)).trans (by rw [← EQ.out]; exact hwrw99.below)))
    have y0 := cell_of hkw99 (j := 0) rfl
    have y1 := cell_of hkw99 (j := 1) rfl
    have y2 := cell_of hkw99 (j := 2) rfl
    have y3 := cell_of hkw99 (j := 3) rfl
    have y4 := cell_of hkw99 (j := 4) rfl
    have y5 := cell_of hkw99 (j := 5) rfl
    have HW99 := Lib.hid hw99
    clear hw99 hwrw99 hkw99 hq9
    go_wp2_with fail
    rw [← HW99.out]
    exact bodyPost_ret (v := .tuple #[.agg #[.int .i64 0, .int .i64 0, .int .i64 0, .int .i64 0, .int .i64 0, .slice none 0 0], .int .i64 110]) (by simp [results, Tryz.results26, go_sem, y0, y1, y2, y3, y4, y5]) rfl HE.out
  | good f n =>
    rw [hs] at hf
    have hsg := Pq.sm_good HB.out hs
    have hfl : f.length = 6 := by rw [hsg.2.2.2]; rfl
    have hnn := last_nn HB.out hs (by omega)
    have hnz : n ≤ bl := by have := hsg.1; have := HZL.out; omega
    simp only [Sm.e, Sm.l, Sm.n, Pq.Sm.e, Pq.Sm.l, Pq.Sm.n] at hf ⊢
    have HS2 := Lib.hid hs
    rw [hfl] at hf ⊢
    obtain ⟨b0, o0, rfl, hcell⟩ := hf.1.2 (by omega)
    have a0 := (hcell 0 (by omega)).2.1
    have a1 := (hcell 1 (by omega)).2.1
    have a2 := (hcell 2 (by omega)).2.1
    have a3 := (hcell 3 (by omega)).2.1
    have a4 := (hcell 4 (by omega)).2.1
    have a5 := (hcell 5 (by omega)).2.1
    obtain ⟨k0, hk0⟩ : ∃ k, (f.getD 0 Pq.z0).n = k := ⟨_, rfl⟩
    obtain ⟨k1, hk1⟩ : ∃ k, (f.getD 1 Pq.z0).n = k := ⟨_, rfl⟩
    obtain ⟨k2, hk2⟩ : ∃ k, (f.getD 2 Pq.z0).n = k := ⟨_, rfl⟩
    obtain ⟨k3, hk3⟩ : ∃ k, (f.getD 3 Pq.z0).n = k := ⟨_, rfl⟩
    obtain ⟨k4, hk4⟩ : ∃ k, (f.getD 4 Pq.z0).n = k := ⟨_, rfl⟩
    obtain ⟨k5, hk5⟩ : ∃ k, (f.getD 5 Pq.z0).n = k := ⟨_, rfl⟩
    have hkl : lastN f = k5 := by unfold lastN; rw [hfl, hk5]
    rw [hkl] at hnn
    have HKL := Lib.hid hkl
    have HFD : Hid (∀ g, txOf f g = ⟨k0, k1, k2, k3, k4, chs g⟩) := Lib.hid (fun g => by rw [← hk0, ← hk1, ← hk2, ← hk3, ← hk4]; rfl)
    rw [hk0] at a0
    rw [hk1] at a1
    rw [hk2] at a2
    rw [hk3] at a3
    rw [hk4] at a4
    rw [hk5] at a5
    clear hcell hf hs hsg hfl hkl hk0 hk1 hk2 hk3 hk4 hk5
    by_cases hk6 : 6 < k5
    · have HN : Hid (apS hk pk zs = none) := Lib.hid (ar_many HS2.out (by rw [HKL.out]; exact hk6))
      have hq9 := blk_below HQ.out HB3.out
      have z0 := cell_of hq9 (j := 0) rfl
      have z1 := cell_of hq9 (j := 1) rfl
      have z2 := cell_of hq9 (j := 2) rfl
      have z3 := cell_of hq9 (j := 3) rfl
      have z4 := cell_of hq9 (j := 4) rfl
      have z5 := cell_of hq9 (j := 5) rfl
      have g0 := frozen_of_row w3 _ 0 _ _ hq9
      have g1 := frozen_of_row w3 _ 1 _ _ hq9
      have g2 := frozen_of_row w3 _ 2 _ _ hq9
      have g3 := frozen_of_row w3 _ 3 _ _ hq9
      have g4 := frozen_of_row w3 _ 4 _ _ hq9
      have g5 := frozen_of_row w3 _ 5 _ _ hq9
      obtain ⟨w99, hw99⟩ : ∃ xx, xx = ((((((w3.setCell ⟨q, 0, none⟩ (.int .i64 0)).setCell ⟨q, 1, none⟩ (.int .i64 0)).setCell ⟨q, 2, none⟩ (.int .i64 0)).setCell ⟨q, 3, none⟩ (.int .i64 0)).setCell ⟨q, 4, none⟩ (.int .i64 0)).setCell ⟨q, 5, none⟩ (.slice none 0 0)) := ⟨_, rfl⟩
      obtain ⟨hwrw99, hkw99⟩ := set6 hq9 (.int .i64 0) (.int .i64 0) (.int .i64 0) (.int .i64 0) (.int .i64 0) (.slice none 0 0)
      rw [← hw99] at hwrw99 hkw99
      have HE : Hid (DcPost w R (.returned (.tuple #[.agg #[.int .i64 0, .int .i64 0, .int .i64 0, .int .i64 0, .int .i64 0, .slice none 0 0], .int .i64 110])) w99) := Lib.hid (dc_none (by rw [← HRR.out]; exact ap_dec HN.out) ((HB1.out.trans (HB3.out.mono HB1.out.size)).trans (by rw [← EQ.out]; exact hwrw99.below)))
      have y0 := cell_of hkw99 (j := 0) rfl
      have y1 := cell_of hkw99 (j := 1) rfl
      have y2 := cell_of hkw99 (j := 2) rfl
      have y3 := cell_of hkw99 (j := 3) rfl
      have y4 := cell_of hkw99 (j := 4) rfl
      have y5 := cell_of hkw99 (j := 5) rfl
      have HW99 := Lib.hid hw99
      clear hw99 hwrw99 hkw99 hq9
      go_wp2_with fail
      rw [← HW99.out]
      exact bodyPost_ret (v := .tuple #[.agg #[.int .i64 0, .int .i64 0, .int .i64 0, .int .i64 0, .int .i64 0, .slice none 0 0], .int .i64 110]) (by simp [results, Tryz.results26, go_sem, y0, y1, y2, y3, y4, y5]) rfl HE.out
    · by_cases hbig : 4096 < bl
      · have HN : Hid (apS hk pk zs = none) := Lib.hid (ar_long (by rw [HZL.out]; exact hbig))
        have hbi : decide ((4096 : Int) < (bl : Int)) = true := by simpa using (by omega : (4096 : Int) < (bl : Int))
        have hbn : decide (4096 < bl) = true := by simpa using hbig
        have hq9 := blk_below HQ.out HB3.out
        have z0 := cell_of hq9 (j := 0) rfl
        have z1 := cell_of hq9 (j := 1) rfl
        have z2 := cell_of hq9 (j := 2) rfl
        have z3 := cell_of hq9 (j := 3) rfl
        have z4 := cell_of hq9 (j := 4) rfl
        have z5 := cell_of hq9 (j := 5) rfl
        have g0 := frozen_of_row w3 _ 0 _ _ hq9
        have g1 := frozen_of_row w3 _ 1 _ _ hq9
        have g2 := frozen_of_row w3 _ 2 _ _ hq9
        have g3 := frozen_of_row w3 _ 3 _ _ hq9
        have g4 := frozen_of_row w3 _ 4 _ _ hq9
        have g5 := frozen_of_row w3 _ 5 _ _ hq9
        obtain ⟨w99, hw99⟩ : ∃ xx, xx = ((((((w3.setCell ⟨q, 0, none⟩ (.int .i64 0)).setCell ⟨q, 1, none⟩ (.int .i64 0)).setCell ⟨q, 2, none⟩ (.int .i64 0)).setCell ⟨q, 3, none⟩ (.int .i64 0)).setCell ⟨q, 4, none⟩ (.int .i64 0)).setCell ⟨q, 5, none⟩ (.slice none 0 0)) := ⟨_, rfl⟩
        obtain ⟨hwrw99, hkw99⟩ := set6 hq9 (.int .i64 0) (.int .i64 0) (.int .i64 0) (.int .i64 0) (.int .i64 0) (.slice none 0 0)
        rw [← hw99] at hwrw99 hkw99
        have HE : Hid (DcPost w R (.returned (.tuple #[.agg #[.int .i64 0, .int .i64 0, .int .i64 0, .int .i64 0, .int .i64 0, .slice none 0 0], .int .i64 110])) w99) := Lib.hid (dc_none (by rw [← HRR.out]; exact ap_dec HN.out) ((HB1.out.trans (HB3.out.mono HB1.out.size)).trans (by rw [← EQ.out]; exact hwrw99.below)))
        have y0 := cell_of hkw99 (j := 0) rfl
        have y1 := cell_of hkw99 (j := 1) rfl
        have y2 := cell_of hkw99 (j := 2) rfl
        have y3 := cell_of hkw99 (j := 3) rfl
        have y4 := cell_of hkw99 (j := 4) rfl
        have y5 := cell_of hkw99 (j := 5) rfl
        have HW99 := Lib.hid hw99
        clear hw99 hwrw99 hkw99 hq9
        go_wp2_with fail
        rw [← HW99.out]
        exact bodyPost_ret (v := .tuple #[.agg #[.int .i64 0, .int .i64 0, .int .i64 0, .int .i64 0, .int .i64 0, .slice none 0 0], .int .i64 110]) (by simp [results, Tryz.results26, go_sem, y0, y1, y2, y3, y4, y5]) rfl HE.out
      · have hbi : decide ((4096 : Int) < (bl : Int)) = false := by simpa using (by omega : ¬ (4096 : Int) < (bl : Int))
        have hbn : decide (4096 < bl) = false := by simpa using hbig
        have hd6 : decide (6 < k5) = false := by simpa using hk6
        have HNL : Hid (¬ 4096 < zs.length) := Lib.hid (by rw [HZL.out]; exact hbig)
        obtain ⟨m, hm⟩ : ∃ m : Nat, k5 = (m : Int) := ⟨k5.toNat, by omega⟩
        subst hm
        have hm6 : m ≤ 6 := by omega
        have HC5 : Hid (∀ W, Below w3.heap.size w3 W → W.cell? ⟨b0, o0 + 15 + 1, none⟩ = some (.int .i64 (m : Int))) := Lib.hid (fun W hW => (hW.cell (p := ⟨b0, _, none⟩) (Pq.cell_lt a5)).trans a5)
        have HC4 : Hid (∀ W, Below w3.heap.size w3 W → W.cell? ⟨b0, o0 + 1, none⟩ = some (.int .i64 k0) ∧ W.cell? ⟨b0, o0 + 3 + 1, none⟩ = some (.int .i64 k1) ∧ W.cell? ⟨b0, o0 + 6 + 1, none⟩ = some (.int .i64 k2) ∧ W.cell? ⟨b0, o0 + 9 + 1, none⟩ = some (.int .i64 k3) ∧ W.cell? ⟨b0, o0 + 12 + 1, none⟩ = some (.int .i64 k4)) := Lib.hid (fun W hW => by
          have hlt := Pq.cell_lt a0
          exact ⟨(hW.cell (p := ⟨b0, _, none⟩) hlt).trans a0, (hW.cell (p := ⟨b0, _, none⟩) hlt).trans a1, (hW.cell (p := ⟨b0, _, none⟩) hlt).trans a2, (hW.cell (p := ⟨b0, _, none⟩) hlt).trans a3, (hW.cell (p := ⟨b0, _, none⟩) hlt).trans a4⟩)
        have HN0 : Hid (w3.ownsRow w3.heap.size 3 1 (.slice none 0 0) (0 * 6) ((rep 0 pk).map (Value.int .i64))) := Lib.hid (World.ownsRow_nil _ _ _ _)
        go_upto_region 5 with fail
        clear a0 a1 a2 a3 a4 a5 hbi hbn hd6
        go_wp2_with fail
        go_loopw [7, 8] (fun v i wr => ∃ (j : Nat), j ≤ m ∧ i = .int .i64 j ∧ Hid (wr.ownsRow w3.heap.size 3 1 v (j * 6) ((rep j pk).map (Value.int .i64))) ∧ Hid (Below w3.heap.size w3 wr)) (fun _ i _ => m - (intOf i).toNat)
        case atStart => exact ⟨0, Nat.zero_le _, rfl, HN0, Lib.hid (Below.refl _ _)⟩
        case round =>
          obtain ⟨j, hj, rfl, HV, HX⟩ := hrel
          have c5 := HC5.out _ HX.out
          by_cases hlt : j < m
          · have hji : (j : Int) < (m : Int) := by omega
            have hwj : IntKind.i64.wrap ((j : Int) + 1) = (j : Int) + 1 := by rw [IntKind.wrap_i64]; omega
            obtain ⟨ii, hii, hiz, his, hib⟩ := info_parts Pq.info3
            obtain ⟨w5, hw5⟩ : ∃ xx, xx = wr.alloc (.cells #[.int .i64 1, .int .i64 3, .int .i64 3, .int .i64 2, .int .i64 4, .int .i64 4] 3) := ⟨_, rfl⟩
            obtain ⟨r, er⟩ : ∃ xx, xx = wr.heap.size := ⟨_, rfl⟩
            have hbw5 : Below wr.heap.size wr w5 := by rw [hw5]; exact box_below wr _
            have hkr : w5.heap[r]? = some (.cells #[.int .i64 1, .int .i64 3, .int .i64 3, .int .i64 2, .int .i64 4, .int .i64 4] 3 (0, 0)) := by rw [hw5, er]; exact new_block wr _
            have HOW := Lib.hid (own_below HV.out hbw5)
            obtain ⟨A7, c7, rfl, -, -, -⟩ := own_form HV.out
            have HRP : Hid (rep (j + 1) pk = rep j pk ++ pk) := Lib.hid (rep_add j pk)
            have HNW : Hid (∀ k u, (pk.map (Value.int .i64))[k]? = some u → w5.cell? ((⟨r, 0, none⟩ : Addr).add k) = some u) := Lib.hid (World.news_of_block (cs := (pk.map (Value.int .i64)).toArray) hkr)
            have hz5 : w3.heap.size ≤ w5.heap.size := Nat.le_trans HX.out.size hbw5.size
            have HX5 := Lib.hid (HX.out.trans (hbw5.mono HX.out.size))
            have HW5 := Lib.hid hw5
            have ER := Lib.hid er
            clear hw5 er hbw5 hkr
            go_upto_region 8 with fail
            clear c5
            go_wp2_with (at_builtin; rw [← HW5.out, ← ER.out]; refine wpList_append_lies w5 rfl (.tmp 44) (.tmp 45) 120 rfl w3.heap.size 3 ii (.int .i64 0) 1 8 Tryz.underlying120 hii hiz his hib rfl (by decide) (.slice A7 (j * 6) c7) (j * 6) ((rep j pk).map (Value.int .i64)) rfl HOW.out ⟨r, 0, none⟩ 6 6 (pk.map (Value.int .i64)) rfl rfl HNW.out (by decide) (by decide) (by unfold maxLen; omega) (by omega) hz5 _ rfl ?_; intro g6 cap6 w6 hown6 hgrow6 hat6 hlt6; have HO6 := Lib.hid hown6; have HX6 : Hid (Below w3.heap.size w3 w6) := Lib.hid (HX5.out.trans (Lq.gb_own HOW.out hgrow6 (Nat.le_refl _) hz5)); clear hown6 hgrow6 hat6 hlt6)
            go_round
            case rel => exact ⟨j + 1, hlt, by go_num, by rw [HRP.out, List.map_append, Nat.succ_mul]; exact HO6, HX6⟩
            case measure => simp [intOf]; omega
          · obtain rfl : j = m := by omega
            have hji : ¬ (j : Int) < (j : Int) := by omega
            obtain ⟨A7, c7, rfl, hRK, hc7, -⟩ := Pq.own_reads HV.out
            obtain ⟨Z, zc, hsl, hZ, hz1, hz2⟩ := Pq.sub_from ((HR.out.kept HB3.out).kept HX.out) hc n hnz
            obtain ⟨qq, hqq⟩ : ∃ q, q = bl - n := ⟨_, rfl⟩
            rw [← hqq] at hsl hZ hz1
            obtain ⟨T, hT⟩ : ∃ T, T = j * 6 := ⟨_, rfl⟩
            rw [← hT] at hRK
            have HRD := Lib.hid (Pq.rdecode_any A7 Z T c7 qq zc (rep j pk) (zs.drop n) wr hRK hZ (Pq.bys_drop n HB.out) (by omega) hz1 (by omega))
            have HT := Lib.hid hT
            have HXX : Hid (Below w1.heap.size w1 wr) := Lib.hid (HB3.out.trans (HX.out.mono HB3.out.size))
            rw [← hT]
            clear hRK hZ hqq hT
            go_wp2_with fail
            refine HRD.out.mono ?_
            rintro e wd ⟨A8, c8, rfl, hf8, hbd⟩
            have HBd : Hid (Below w1.heap.size w1 wd) := Lib.hid (HXX.out.trans (hbd.mono HXX.out.size))
            have HB3d : Hid (Below w3.heap.size w3 wd) := Lib.hid (HX.out.trans (hbd.mono HX.out.size))
            cases hd : dc (rep j pk) (zs.drop n) with
            | bad er =>
              have hne : (er == 0) = false := by simpa using dc_bad_ne hd
              have hne2 : (er != 0) = true := by simpa using dc_bad_ne hd
              have HN : Hid (apS hk pk zs = none) := Lib.hid (by rw [ar_rest HS2.out HNL.out HKL.out hm6 hd]; rfl)
              simp only [Sm.e, Sm.l, Pq.Sm.e, Pq.Sm.l, List.length_nil]
              clear hf8 hd hbd hsl c5
              have hq9 := blk_below HQ.out HBd.out
              have z0 := cell_of hq9 (j := 0) rfl
              have z1 := cell_of hq9 (j := 1) rfl
              have z2 := cell_of hq9 (j := 2) rfl
              have z3 := cell_of hq9 (j := 3) rfl
              have z4 := cell_of hq9 (j := 4) rfl
              have z5 := cell_of hq9 (j := 5) rfl
              have g0 := frozen_of_row wd _ 0 _ _ hq9
              have g1 := frozen_of_row wd _ 1 _ _ hq9
              have g2 := frozen_of_row wd _ 2 _ _ hq9
              have g3 := frozen_of_row wd _ 3 _ _ hq9
              have g4 := frozen_of_row wd _ 4 _ _ hq9
              have g5 := frozen_of_row wd _ 5 _ _ hq9
              obtain ⟨w99, hw99⟩ : ∃ xx, xx = ((((((wd.setCell ⟨q, 0, none⟩ (.int .i64 0)).setCell ⟨q, 1, none⟩ (.int .i64 0)).setCell ⟨q, 2, none⟩ (.int .i64 0)).setCell ⟨q, 3, none⟩ (.int .i64 0)).setCell ⟨q, 4, none⟩ (.int .i64 0)).setCell ⟨q, 5, none⟩ (.slice none 0 0)) := ⟨_, rfl⟩
              obtain ⟨hwrw99, hkw99⟩ := set6 hq9 (.int .i64 0) (.int .i64 0) (.int .i64 0) (.int .i64 0) (.int .i64 0) (.slice none 0 0)
              rw [← hw99] at hwrw99 hkw99
              have HE : Hid (DcPost w R (.returned (.tuple #[.agg #[.int .i64 0, .int .i64 0, .int .i64 0, .int .i64 0, .int .i64 0, .slice none 0 0], .int .i64 110])) w99) := Lib.hid (dc_none (by rw [← HRR.out]; exact ap_dec HN.out) ((HB1.out.trans (HBd.out.mono HB1.out.size)).trans (by rw [← EQ.out]; exact hwrw99.below)))
              have y0 := cell_of hkw99 (j := 0) rfl
              have y1 := cell_of hkw99 (j := 1) rfl
              have y2 := cell_of hkw99 (j := 2) rfl
              have y3 := cell_of hkw99 (j := 3) rfl
              have y4 := cell_of hkw99 (j := 4) rfl
              have y5 := cell_of hkw99 (j := 5) rfl
              have HW99 := Lib.hid hw99
              clear hw99 hwrw99 hkw99 hq9
              go_wp2_with fail
              rw [← HW99.out]
              exact bodyPost_ret (v := .tuple #[.agg #[.int .i64 0, .int .i64 0, .int .i64 0, .int .i64 0, .int .i64 0, .slice none 0 0], .int .i64 110]) (by simp [results, Tryz.results26, go_sem, y0, y1, y2, y3, y4, y5]) rfl HE.out
            | good g n2 =>
              have HAP : Hid (apS hk pk zs = some (f, g)) := Lib.hid (by rw [ar_rest HS2.out HNL.out HKL.out hm6 hd]; rfl)
              obtain ⟨e1, e2, e3, e4, e5, e6, e7⟩ := apS_some HB.out HAP.out
              have hgl : g.length = j * 6 := by
                have h := congrArg List.length e5
                rw [HKL.out, Int.toNat_natCast, rep_length] at h
                simpa [pk] using h
              rw [hd] at hf8
              simp only [Sm.e, Sm.l, Pq.Sm.e, Pq.Sm.l] at hf8 ⊢
              have HGL := Lib.hid hgl
              have HGN : Hid (∀ i, i < g.length → 0 ≤ (g.getD i Pq.z0).n ∧ (g.getD i Pq.z0).n ≤ 4611686018427387904) := Lib.hid (fun i hi => by
                have hm := errL_mem e2 (g.getD i Pq.z0) (by rw [List.getD_eq_getElem?_getD, List.getElem?_eq_getElem hi]; exact List.getElem_mem _)
                rcases Pq.ams_zero hm with ⟨_, e, e', _⟩ | ⟨_, e, e', _⟩ | ⟨_, e, _⟩ | ⟨_, e, e', _⟩ <;> (try unfold Pq.big at e') <;> omega)
              have HG := Lib.hid hf8.1
              have HRT : Hid (R = some (txOf f g)) := Lib.hid (by rw [← HRR.out]; exact ap_dec2 HAP.out)
              rw [hgl]
              obtain ⟨N, hN⟩ : ∃ N, N = j * 6 := ⟨_, rfl⟩
              rw [← hN]
              have HNJ := Lib.hid hN
              clear hN
              rw [hgl] at HG
              clear e1 e2 e3 e4 e5 e6 e7 hgl hf8 hd hsl c5 hbd
              have HS : Hid (∀ W, Below wd.heap.size wd W → W.cell? ⟨b0, o0 + 1, none⟩ = some (.int .i64 k0) ∧ W.cell? ⟨b0, o0 + 3 + 1, none⟩ = some (.int .i64 k1) ∧ W.cell? ⟨b0, o0 + 6 + 1, none⟩ = some (.int .i64 k2) ∧ W.cell? ⟨b0, o0 + 9 + 1, none⟩ = some (.int .i64 k3) ∧ W.cell? ⟨b0, o0 + 12 + 1, none⟩ = some (.int .i64 k4) ∧ Below wd.heap.size wd W) := Lib.hid (fun W hW => by
                obtain ⟨c0, c1, c2, c3, c4⟩ := HC4.out W (HB3d.out.trans (hW.mono HB3d.out.size))
                exact ⟨c0, c1, c2, c3, c4, hW⟩)
              have HSA : Hid (∀ W o, (W.cell? ⟨b0, o0 + 1, none⟩ = some (.int .i64 k0) ∧ W.cell? ⟨b0, o0 + 3 + 1, none⟩ = some (.int .i64 k1) ∧ W.cell? ⟨b0, o0 + 6 + 1, none⟩ = some (.int .i64 k2) ∧ W.cell? ⟨b0, o0 + 9 + 1, none⟩ = some (.int .i64 k3) ∧ W.cell? ⟨b0, o0 + 12 + 1, none⟩ = some (.int .i64 k4) ∧ Below wd.heap.size wd W) → (W.alloc o).cell? ⟨b0, o0 + 1, none⟩ = some (.int .i64 k0) ∧ (W.alloc o).cell? ⟨b0, o0 + 3 + 1, none⟩ = some (.int .i64 k1) ∧ (W.alloc o).cell? ⟨b0, o0 + 6 + 1, none⟩ = some (.int .i64 k2) ∧ (W.alloc o).cell? ⟨b0, o0 + 9 + 1, none⟩ = some (.int .i64 k3) ∧ (W.alloc o).cell? ⟨b0, o0 + 12 + 1, none⟩ = some (.int .i64 k4) ∧ Below wd.heap.size wd (W.alloc o)) := Lib.hid (fun W o hS => by
                obtain ⟨-, -, -, -, -, hW⟩ := hS
                exact HS.out _ (hW.trans ((box_below W o).mono hW.size)))
              go_upto_region 12 with fail
              go_region_held3 (fun W => W.cell? ⟨b0, o0 + 1, none⟩ = some (.int .i64 k0) ∧ W.cell? ⟨b0, o0 + 3 + 1, none⟩ = some (.int .i64 k1) ∧ W.cell? ⟨b0, o0 + 6 + 1, none⟩ = some (.int .i64 k2) ∧ W.cell? ⟨b0, o0 + 9 + 1, none⟩ = some (.int .i64 k3) ∧ W.cell? ⟨b0, o0 + 12 + 1, none⟩ = some (.int .i64 k4) ∧ Below wd.heap.size wd W)
                (first
                  | exact HS.out _ (Below.refl _ _).drew
                  | exact HS.out _ (box_below _ _).drew
                  | (with_reducible assumption)
                  | (with_reducible exact HSA.out _ _ (by with_reducible assumption)))
                (fail)
              rename_i hHeld
              clear hHeld
              obtain ⟨w8, hw8⟩ : ∃ w8, w8 = (wd.alloc (.cells #[.int .i64 k0, .int .i64 k1, .int .i64 k2, .int .i64 k3, .int .i64 k4, .slice none 0 0] 38)).drew := ⟨_, rfl⟩
              obtain ⟨r, er⟩ : ∃ r, r = wd.heap.size := ⟨_, rfl⟩
              have hr8 : w8.heap[r]? = some (.cells #[.int .i64 k0, .int .i64 k1, .int .i64 k2, .int .i64 k3, .int .i64 k4, .slice none 0 0] 38 (0, 0)) := by rw [hw8, er]; exact new_block wd _
              have hb8 : Below wd.heap.size wd w8 := by rw [hw8]; exact (box_below wd _).drew
              rw [← hw8, ← er]
              have HST : Hid (∃ v, w8.heap[r]? = some (.cells #[.int .i64 k0, .int .i64 k1, .int .i64 k2, .int .i64 k3, .int .i64 k4, v] 38 (0, 0)) ∧ w8.ownsRow wd.heap.size 79 6 v 0 (ccells ((chs g).take 0))) := Lib.hid ⟨_, hr8, World.ownsRow_nil _ _ _ _⟩
              have HB8 := Lib.hid hb8
              have ER := Lib.hid er
              obtain ⟨ic, hic, hcz, hcs, hcb⟩ := info_parts infoC
              clear hw8 hr8 hb8 er HS HSA
              go_wp2_with fail
              go_loopw [12] (fun i wr => ∃ (jj : Nat), jj ≤ j ∧ i = .int .i64 jj ∧ Hid (∃ v, wr.heap[r]? = some (.cells #[.int .i64 k0, .int .i64 k1, .int .i64 k2, .int .i64 k3, .int .i64 k4, v] 38 (0, 0)) ∧ wr.ownsRow wd.heap.size 79 6 v jj (ccells ((chs g).take jj))) ∧ Hid (Below wd.heap.size wd wr)) (fun i _ => j - (intOf i).toNat)
              case atStart => exact ⟨0, Nat.zero_le _, rfl, HST, HB8⟩
              case round =>
                obtain ⟨jj, hjl, rfl, HV2, HX2⟩ := hrel
                clear HV HX
                have HV := HV2
                have HX := HX2
                clear HV2 HX2
                obtain ⟨v, hv, hown⟩ := HV.out
                have c5 := HC5.out _ (HB3d.out.trans (HX.out.mono HB3d.out.size))
                by_cases hlt : jj < j
                · obtain ⟨b, off, e, hgc⟩ := HG.out.2 (by omega)
                  subst e
                  have hgc' : ∀ i, i < j * 6 → _ := hgc
                  clear hgc'
                  obtain ⟨K0, hK0⟩ : ∃ K, K = jj * 6 := ⟨_, rfl⟩
                  obtain ⟨K1, hK1⟩ : ∃ K, K = jj * 6 + 1 := ⟨_, rfl⟩
                  obtain ⟨K2, hK2⟩ : ∃ K, K = jj * 6 + 2 := ⟨_, rfl⟩
                  obtain ⟨K3, hK3⟩ : ∃ K, K = jj * 6 + 3 := ⟨_, rfl⟩
                  obtain ⟨K4, hK4⟩ : ∃ K, K = jj * 6 + 4 := ⟨_, rfl⟩
                  obtain ⟨K5, hK5⟩ : ∃ K, K = jj * 6 + 5 := ⟨_, rfl⟩
                  have d0 := (hgc (jj * 6) (by omega)).2.1
                  have d1 := (hgc (jj * 6 + 1) (by omega)).2.2
                  have d2 := (hgc (jj * 6 + 2) (by omega)).2.2
                  have d3 := (hgc (jj * 6 + 3) (by omega)).2.1
                  have d4 := (hgc (jj * 6 + 4) (by omega)).2.1
                  have d5 := (hgc (jj * 6 + 5) (by omega)).2.1
                  have hm6x : IntKind.i64.wrap (6 * (jj : Int)) = (K0 : Int) := by rw [IntKind.wrap_i64]; omega
                  have hm1x : IntKind.i64.wrap ((K0 : Int) + 1) = (K1 : Int) := by rw [IntKind.wrap_i64]; omega
                  have hm2x : IntKind.i64.wrap ((K0 : Int) + 2) = (K2 : Int) := by rw [IntKind.wrap_i64]; omega
                  have hm3x : IntKind.i64.wrap ((K0 : Int) + 3) = (K3 : Int) := by rw [IntKind.wrap_i64]; omega
                  have hm4x : IntKind.i64.wrap ((K0 : Int) + 4) = (K4 : Int) := by rw [IntKind.wrap_i64]; omega
                  have hm5x : IntKind.i64.wrap ((K0 : Int) + 5) = (K5 : Int) := by rw [IntKind.wrap_i64]; omega
                  have hb0x : (K0 : Int) < (N : Int) := by have := HNJ.out; omega
                  have hz0x : (0 : Int) ≤ (K0 : Int) := by omega
                  have hb1x : (K1 : Int) < (N : Int) := by have := HNJ.out; omega
                  have hz1x : (0 : Int) ≤ (K1 : Int) := by omega
                  have hb2x : (K2 : Int) < (N : Int) := by have := HNJ.out; omega
                  have hz2x : (0 : Int) ≤ (K2 : Int) := by omega
                  have hb3x : (K3 : Int) < (N : Int) := by have := HNJ.out; omega
                  have hz3x : (0 : Int) ≤ (K3 : Int) := by omega
                  have hb4x : (K4 : Int) < (N : Int) := by have := HNJ.out; omega
                  have hz4x : (0 : Int) ≤ (K4 : Int) := by omega
                  have hb5x : (K5 : Int) < (N : Int) := by have := HNJ.out; omega
                  have hz5x : (0 : Int) ≤ (K5 : Int) := by omega
                  have hjj : (jj : Int) < (j : Int) := by omega
                  have hwjj : IntKind.i64.wrap ((jj : Int) + 1) = (jj : Int) + 1 := by rw [IntKind.wrap_i64]; omega
                  obtain ⟨x, hx⟩ : ∃ x, chAt g jj = x := ⟨_, rfl⟩
                  obtain ⟨y0, h0⟩ : ∃ y, (g.getD (jj * 6) Pq.z0).n = y := ⟨_, rfl⟩
                  obtain ⟨y1, h1⟩ : ∃ y, (g.getD (jj * 6 + 1) Pq.z0).s = y := ⟨_, rfl⟩
                  obtain ⟨y2, h2⟩ : ∃ y, (g.getD (jj * 6 + 2) Pq.z0).s = y := ⟨_, rfl⟩
                  obtain ⟨y3, h3⟩ : ∃ y, (g.getD (jj * 6 + 3) Pq.z0).n = y := ⟨_, rfl⟩
                  obtain ⟨y4, h4⟩ : ∃ y, (g.getD (jj * 6 + 4) Pq.z0).n = y := ⟨_, rfl⟩
                  obtain ⟨y5, h5⟩ : ∃ y, (g.getD (jj * 6 + 5) Pq.z0).n = y := ⟨_, rfl⟩
                  have hy3 : 0 ≤ y3 ∧ y3 ≤ 4611686018427387904 := by
                    rw [← h3]
                    exact HGN.out (jj * 6 + 3) (by rw [HGL.out]; omega)
                  have hcx : ccell x = [.int .i64 y0, .string y1, .string y2, .int .i64 (y3 - 1), .bool (y4 == 1), .bool (y5 == 1)] := by
                    rw [← hx]
                    simp only [ccell, chAt, h0, h1, h2, h3, h4, h5, BL]
                  have hw3 : IntKind.i64.wrap (y3 - 1) = y3 - 1 := by rw [IntKind.wrap_i64]; omega
                  have HTK : Hid ((chs g).take (jj + 1) = (chs g).take jj ++ [x]) := Lib.hid (by
                    rw [chs_is j HGL.out, List.take_add_one]
                    simp [hlt, hx])
                  rw [h0] at d0
                  rw [h1] at d1
                  rw [h2] at d2
                  rw [h3] at d3
                  rw [h4] at d4
                  rw [h5] at d5
                  rw [← hK0] at d0
                  rw [← hK1] at d1
                  rw [← hK2] at d2
                  rw [← hK3] at d3
                  rw [← hK4] at d4
                  rw [← hK5] at d5
                  have hbl : b < wd.heap.size := Pq.cell_lt d0
                  have HSW : Hid (∀ W, Below wd.heap.size wd W → W.cell? ⟨b, off + K0 * 3 + 1, none⟩ = some (.int .i64 y0) ∧ W.cell? ⟨b, off + K1 * 3 + 2, none⟩ = some (.string y1) ∧ W.cell? ⟨b, off + K2 * 3 + 2, none⟩ = some (.string y2) ∧ W.cell? ⟨b, off + K3 * 3 + 1, none⟩ = some (.int .i64 y3) ∧ W.cell? ⟨b, off + K4 * 3 + 1, none⟩ = some (.int .i64 y4) ∧ W.cell? ⟨b, off + K5 * 3 + 1, none⟩ = some (.int .i64 y5) ∧ Below wd.heap.size wd W) := Lib.hid (fun W hW => ⟨(hW.cell (p := ⟨b, _, none⟩) hbl).trans d0, (hW.cell (p := ⟨b, _, none⟩) hbl).trans d1, (hW.cell (p := ⟨b, _, none⟩) hbl).trans d2, (hW.cell (p := ⟨b, _, none⟩) hbl).trans d3, (hW.cell (p := ⟨b, _, none⟩) hbl).trans d4, (hW.cell (p := ⟨b, _, none⟩) hbl).trans d5, hW⟩)
                  have HQW : Hid (∀ W, Below wr.heap.size wr W → W.cell? ⟨b, off + K0 * 3 + 1, none⟩ = some (.int .i64 y0) ∧ W.cell? ⟨b, off + K1 * 3 + 2, none⟩ = some (.string y1) ∧ W.cell? ⟨b, off + K2 * 3 + 2, none⟩ = some (.string y2) ∧ W.cell? ⟨b, off + K3 * 3 + 1, none⟩ = some (.int .i64 y3) ∧ W.cell? ⟨b, off + K4 * 3 + 1, none⟩ = some (.int .i64 y4) ∧ W.cell? ⟨b, off + K5 * 3 + 1, none⟩ = some (.int .i64 y5) ∧ Below wd.heap.size wd W) := Lib.hid (fun W hW => HSW.out W (HX.out.trans (hW.mono HX.out.size)))
                  have HOQ : Hid (∀ W, Below wr.heap.size wr W → W.ownsRow wd.heap.size 79 6 v jj (ccells ((chs g).take jj))) := Lib.hid (fun W hW => own_below hown hW)
                  have HHG : Hid (∀ W w6, Below wr.heap.size wr W → W.grownBy w6 v.ownBlock → w6.heap[r]? = some (.cells #[.int .i64 k0, .int .i64 k1, .int .i64 k2, .int .i64 k3, .int .i64 k4, v] 38 (0, 0)) ∧ Below wd.heap.size wd w6) := Lib.hid (fun W w6 hWo hg => by
                    have hoo := own_below hown hWo
                    exact ⟨gbo_blk hoo hg (blk_below hv hWo) (by decide), (HX.out.trans (hWo.mono HX.out.size)).trans (Lq.gb_own hoo hg (Nat.le_refl _) (Nat.le_trans HX.out.size hWo.size))⟩)
                  have HSG : Hid (∀ w6, (w6.heap[r]? = some (.cells #[.int .i64 k0, .int .i64 k1, .int .i64 k2, .int .i64 k3, .int .i64 k4, v] 38 (0, 0)) ∧ Below wd.heap.size wd w6) → w6.cell? ⟨b, off + K0 * 3 + 1, none⟩ = some (.int .i64 y0) ∧ w6.cell? ⟨b, off + K1 * 3 + 2, none⟩ = some (.string y1) ∧ w6.cell? ⟨b, off + K2 * 3 + 2, none⟩ = some (.string y2) ∧ w6.cell? ⟨b, off + K3 * 3 + 1, none⟩ = some (.int .i64 y3) ∧ w6.cell? ⟨b, off + K4 * 3 + 1, none⟩ = some (.int .i64 y4) ∧ w6.cell? ⟨b, off + K5 * 3 + 1, none⟩ = some (.int .i64 y5) ∧ Below wd.heap.size wd w6) := Lib.hid (fun w6 h => HSW.out w6 h.2)
                  have HWB : Hid (∀ w6 x, (w6.heap[r]? = some (.cells #[.int .i64 k0, .int .i64 k1, .int .i64 k2, .int .i64 k3, .int .i64 k4, v] 38 (0, 0)) ∧ Below wd.heap.size wd w6) → (w6.setCell ⟨r, 5, none⟩ x).heap[r]? = some (.cells #[.int .i64 k0, .int .i64 k1, .int .i64 k2, .int .i64 k3, .int .i64 k4, x] 38 (0, 0)) ∧ Below wd.heap.size wd (w6.setCell ⟨r, 5, none⟩ x)) := Lib.hid (fun w6 x h => by
                    obtain ⟨h1, h2⟩ := seti h.1 5 x
                    exact ⟨h2, h.2.trans (by rw [← ER.out]; exact h1.below)⟩)
                  have HSE : Hid (∀ w6 x, (w6.heap[r]? = some (.cells #[.int .i64 k0, .int .i64 k1, .int .i64 k2, .int .i64 k3, .int .i64 k4, v] 38 (0, 0)) ∧ Below wd.heap.size wd w6) → (w6.setCell ⟨r, 5, none⟩ x).cell? ⟨b, off + K0 * 3 + 1, none⟩ = some (.int .i64 y0) ∧ (w6.setCell ⟨r, 5, none⟩ x).cell? ⟨b, off + K1 * 3 + 2, none⟩ = some (.string y1) ∧ (w6.setCell ⟨r, 5, none⟩ x).cell? ⟨b, off + K2 * 3 + 2, none⟩ = some (.string y2) ∧ (w6.setCell ⟨r, 5, none⟩ x).cell? ⟨b, off + K3 * 3 + 1, none⟩ = some (.int .i64 y3) ∧ (w6.setCell ⟨r, 5, none⟩ x).cell? ⟨b, off + K4 * 3 + 1, none⟩ = some (.int .i64 y4) ∧ (w6.setCell ⟨r, 5, none⟩ x).cell? ⟨b, off + K5 * 3 + 1, none⟩ = some (.int .i64 y5) ∧ Below wd.heap.size wd (w6.setCell ⟨r, 5, none⟩ x)) := Lib.hid (fun w6 x h => HSW.out _ (HWB.out w6 x h).2)
                  have HCX := Lib.hid hcx
                  have hsx := HX.out.size
                  obtain ⟨W8, hW8⟩ : ∃ W8, W8 = (wr.alloc (.cells #[.int .i64 y0, .string y1, .string y2, .int .i64 (y3 - 1), .bool (y4 == 1), .bool (y5 == 1)] 79)).drew := ⟨_, rfl⟩
                  have hD : Below wr.heap.size wr W8 := by rw [hW8]; exact (box_below _ _).drew
                  have hNB : W8.heap[wr.heap.size]? = some (.cells #[.int .i64 y0, .string y1, .string y2, .int .i64 (y3 - 1), .bool (y4 == 1), .bool (y5 == 1)] 79 (0, 0)) := by rw [hW8]; exact new_block wr _
                  have c8 : W8.cell? ⟨r, 5, none⟩ = some v := cell_of (blk_below hv hD) (j := 5) rfl
                  have cd : wr.drew.cell? ⟨r, 5, none⟩ = some v := cell_of (blk_below hv (Below.refl _ wr).drew) (j := 5) rfl
                  have hz8 : wd.heap.size ≤ W8.heap.size := Nat.le_trans hsx hD.size
                  rw [hW8] at hD hNB hz8 c8
                  clear hW8
                  clear hK0 hK1 hK2 hK3 hK4 hK5 h0 h1 h2 h3 h4 h5 hx hy3 hcx d0 d1 d2 d3 d4 d5 hbl hv hown hgc
                  go_upto_region 17 with fail
                  clear c5
                  refine wp_region_held_drew (S := (fun W => W.cell? ⟨b, off + K0 * 3 + 1, none⟩ = some (.int .i64 y0) ∧ W.cell? ⟨b, off + K1 * 3 + 2, none⟩ = some (.string y1) ∧ W.cell? ⟨b, off + K2 * 3 + 2, none⟩ = some (.string y2) ∧ W.cell? ⟨b, off + K3 * 3 + 1, none⟩ = some (.int .i64 y3) ∧ W.cell? ⟨b, off + K4 * 3 + 1, none⟩ = some (.int .i64 y4) ∧ W.cell? ⟨b, off + K5 * 3 + 1, none⟩ = some (.int .i64 y5) ∧ Below wd.heap.size wd W)) (by kernel_rfl) (HQW.out _ (Below.refl _ _).drew) (fun hHeld => ?_)
                  refine wpAnyH_take (i := 0) (v := ?_) rfl (by kernel_rfl) (by kernel_rfl) (by kernel_rfl) (fun _ _ _ h => h) (Or.inl ⟨by rfl, ?_⟩) (by assumption) ?_
                  rotate_left
                  · intro w hSw
                    try dsimp only at hSw
                    go_simp
                    try with_reducible rfl
                  try simp only [Act.put, List.setIfInBounds_toArray]
                  refine wpAnyH_take (i := 2) (v := ?_) rfl (by kernel_rfl) (by kernel_rfl) (by kernel_rfl) (fun _ _ _ h => h) (Or.inl ⟨by rfl, ?_⟩) (by assumption) ?_
                  rotate_left
                  · intro w hSw
                    try dsimp only at hSw
                    go_simp
                    try with_reducible rfl
                  try simp only [Act.put]
                  refine wpAnyH_take (i := 3) (v := ?_) rfl (by kernel_rfl) (by kernel_rfl) (by kernel_rfl) (fun _ _ _ h => h) (Or.inl ⟨by rfl, ?_⟩) (by assumption) ?_
                  rotate_left
                  · intro w hSw
                    try dsimp only at hSw
                    go_simp
                    try with_reducible rfl
                  try simp only [Act.put]
                  refine wpAnyH_take (i := 4) (v := ?_) rfl (by kernel_rfl) (by kernel_rfl) (by kernel_rfl) (fun _ _ _ h => h) (Or.inl ⟨by rfl, ?_⟩) (by assumption) ?_
                  rotate_left
                  · intro w hSw
                    try dsimp only at hSw
                    go_simp
                    try with_reducible rfl
                  try simp only [Act.put]
                  refine wpAnyH_take (i := 5) (v := ?_) rfl (by kernel_rfl) (by kernel_rfl) (by kernel_rfl) (fun _ _ _ h => h) (Or.inl ⟨by rfl, ?_⟩) (by assumption) ?_
                  rotate_left
                  · intro w hSw
                    try dsimp only at hSw
                    go_simp
                    try with_reducible rfl
                  try simp only [Act.put]
                  refine wpAnyH_take (i := 6) (v := ?_) rfl (by kernel_rfl) (by kernel_rfl) (by kernel_rfl) (fun _ _ _ h => h) (Or.inl ⟨by rfl, ?_⟩) (by assumption) ?_
                  rotate_left
                  · intro w hSw
                    try dsimp only at hSw
                    go_simp
                    try with_reducible rfl
                  try simp only [Act.put]
                  refine wpAnyH_take (i := 7) (v := ?_) rfl (by kernel_rfl) (by kernel_rfl) (by kernel_rfl) (fun _ _ _ h => h) (Or.inl ⟨by rfl, ?_⟩) (by assumption) ?_
                  rotate_left
                  · intro w hSw
                    try dsimp only at hSw
                    go_simp
                    try with_reducible rfl
                  try simp only [Act.put]
                  refine wpAnyH_take (i := 8) (v := ?_) rfl (by kernel_rfl) (by kernel_rfl) (by kernel_rfl) (fun _ _ _ h => h) (Or.inl ⟨by rfl, ?_⟩) (by assumption) ?_
                  rotate_left
                  · intro w hSw
                    try dsimp only at hSw
                    go_simp
                    try with_reducible rfl
                  try simp only [Act.put]
                  refine wpAnyH_take (i := 9) (v := ?_) rfl (by kernel_rfl) (by kernel_rfl) (by kernel_rfl) (fun _ _ _ h => h) (Or.inl ⟨by rfl, ?_⟩) (by assumption) ?_
                  rotate_left
                  · intro w hSw
                    try dsimp only at hSw
                    go_simp
                    try with_reducible rfl
                  try simp only [Act.put]
                  refine wpAnyH_take (i := 10) (v := ?_) rfl (by kernel_rfl) (by kernel_rfl) (by kernel_rfl) (fun _ _ _ h => h) (Or.inl ⟨by rfl, ?_⟩) (by assumption) ?_
                  rotate_left
                  · intro w hSw
                    try dsimp only at hSw
                    go_simp
                    try with_reducible rfl
                  try simp only [Act.put]
                  refine wpAnyH_take (i := 11) (v := ?_) rfl (by kernel_rfl) (by kernel_rfl) (by kernel_rfl) (fun _ _ _ h => h) (Or.inl ⟨by rfl, ?_⟩) (by assumption) ?_
                  rotate_left
                  · intro w hSw
                    try dsimp only at hSw
                    go_simp
                    try with_reducible rfl
                  try simp only [Act.put]
                  refine wpAnyH_take (i := 12) (v := ?_) rfl (by kernel_rfl) (by kernel_rfl) (by kernel_rfl) (fun _ _ _ h => h) (Or.inl ⟨by rfl, ?_⟩) (by assumption) ?_
                  rotate_left
                  · intro w hSw
                    try dsimp only at hSw
                    go_simp
                    try with_reducible rfl
                  try simp only [Act.put]
                  refine wpAnyH_take (i := 13) (v := ?_) rfl (by kernel_rfl) (by kernel_rfl) (by kernel_rfl) (fun _ _ _ h => h) (Or.inl ⟨by rfl, ?_⟩) (by assumption) ?_
                  rotate_left
                  · intro w hSw
                    try dsimp only at hSw
                    go_simp
                    try with_reducible rfl
                  try simp only [Act.put]
                  refine wpAnyH_take (i := 14) (v := ?_) rfl (by kernel_rfl) (by kernel_rfl) (by kernel_rfl) (fun _ _ _ h => h) (Or.inl ⟨by rfl, ?_⟩) (by assumption) ?_
                  rotate_left
                  · intro w hSw
                    try dsimp only at hSw
                    go_simp
                    try with_reducible rfl
                  try simp only [Act.put]
                  refine wpAnyH_take (i := 15) (v := ?_) rfl (by kernel_rfl) (by kernel_rfl) (by kernel_rfl) (fun _ _ _ h => h) (Or.inl ⟨by rfl, ?_⟩) (by assumption) ?_
                  rotate_left
                  · intro w hSw
                    try dsimp only at hSw
                    go_simp
                    try with_reducible rfl
                  try simp only [Act.put]
                  refine wpAnyH_take (i := 16) (v := ?_) rfl (by kernel_rfl) (by kernel_rfl) (by kernel_rfl) (fun _ _ _ h => h) (Or.inl ⟨by rfl, ?_⟩) (by assumption) ?_
                  rotate_left
                  · intro w hSw
                    try dsimp only at hSw
                    go_simp
                    try with_reducible rfl
                  try simp only [Act.put]
                  refine wpAnyH_take (i := 17) (v := ?_) rfl (by kernel_rfl) (by kernel_rfl) (by kernel_rfl) (fun _ _ _ h => h) (Or.inl ⟨by rfl, ?_⟩) (by assumption) ?_
                  rotate_left
                  · intro w hSw
                    try dsimp only at hSw
                    go_simp
                    try with_reducible rfl
                  try simp only [Act.put]
                  refine wpAnyH_take (i := 18) (v := ?_) rfl (by kernel_rfl) (by kernel_rfl) (by kernel_rfl) (fun _ _ _ h => h) (Or.inl ⟨by rfl, ?_⟩) (by assumption) ?_
                  rotate_left
                  · intro w hSw
                    try dsimp only at hSw
                    go_simp
                    try with_reducible rfl
                  try simp only [Act.put]
                  refine wpAnyH_take (i := 19) (v := ?_) rfl (by kernel_rfl) (by kernel_rfl) (by kernel_rfl) (fun _ _ _ h => h) (Or.inl ⟨by rfl, ?_⟩) (by assumption) ?_
                  rotate_left
                  · intro w hSw
                    try dsimp only at hSw
                    go_simp
                    try with_reducible rfl
                  try simp only [Act.put]
                  refine wpAnyH_take (i := 20) (v := ?_) rfl (by kernel_rfl) (by kernel_rfl) (by kernel_rfl) (fun _ _ _ h => h) (Or.inl ⟨by rfl, ?_⟩) (by assumption) ?_
                  rotate_left
                  · intro w hSw
                    try dsimp only at hSw
                    go_simp
                    try with_reducible rfl
                  try simp only [Act.put]
                  refine wpAnyH_take (i := 21) (v := ?_) rfl (by kernel_rfl) (by kernel_rfl) (by kernel_rfl) (fun _ _ _ h => h) (Or.inl ⟨by rfl, ?_⟩) (by assumption) ?_
                  rotate_left
                  · intro w hSw
                    try dsimp only at hSw
                    go_simp
                    try with_reducible rfl
                  try simp only [Act.put]
                  refine wpAnyH_take (i := 22) (v := ?_) rfl (by kernel_rfl) (by kernel_rfl) (by kernel_rfl) (fun _ _ _ h => h) (Or.inl ⟨by rfl, ?_⟩) (by assumption) ?_
                  rotate_left
                  · intro w hSw
                    try dsimp only at hSw
                    go_simp
                    try with_reducible rfl
                  try simp only [Act.put]
                  refine wpAnyH_take (i := 23) (v := ?_) rfl (by kernel_rfl) (by kernel_rfl) (by kernel_rfl) (fun _ _ _ h => h) (Or.inl ⟨by rfl, ?_⟩) (by assumption) ?_
                  rotate_left
                  · intro w hSw
                    try dsimp only at hSw
                    go_simp
                    try with_reducible rfl
                  try simp only [Act.put]
                  refine wpAnyH_take (i := 24) (v := ?_) rfl (by kernel_rfl) (by kernel_rfl) (by kernel_rfl) (fun _ _ _ h => h) (Or.inl ⟨by rfl, ?_⟩) (by assumption) ?_
                  rotate_left
                  · intro w hSw
                    try dsimp only at hSw
                    go_simp
                    try with_reducible rfl
                  try simp only [Act.put]
                  refine wpAnyH_take (i := 25) (v := ?_) rfl (by kernel_rfl) (by kernel_rfl) (by kernel_rfl) (fun _ _ _ h => h) (Or.inl ⟨by rfl, ?_⟩) (by assumption) ?_
                  rotate_left
                  · intro w hSw
                    try dsimp only at hSw
                    go_simp
                    try with_reducible rfl
                  try simp only [Act.put]
                  refine wpAnyH_take (i := 26) (v := ?_) rfl (by kernel_rfl) (by kernel_rfl) (by kernel_rfl) (fun _ _ _ h => h) (Or.inl ⟨by rfl, ?_⟩) (by assumption) ?_
                  rotate_left
                  · intro w hSw
                    try dsimp only at hSw
                    go_simp
                    try with_reducible rfl
                  try simp only [Act.put]
                  refine wpAnyH_take (i := 27) (v := ?_) rfl (by kernel_rfl) (by kernel_rfl) (by kernel_rfl) (fun _ _ _ h => h) (Or.inl ⟨by rfl, ?_⟩) (by assumption) ?_
                  rotate_left
                  · intro w hSw
                    try dsimp only at hSw
                    go_simp
                    try with_reducible rfl
                  try simp only [Act.put]
                  refine wpAnyH_take (i := 28) (v := ?_) rfl (by kernel_rfl) (by kernel_rfl) (by kernel_rfl) (fun _ _ _ h => h) (Or.inl ⟨by rfl, ?_⟩) (by assumption) ?_
                  rotate_left
                  · intro w hSw
                    try dsimp only at hSw
                    go_simp
                    try with_reducible rfl
                  try simp only [Act.put]
                  refine wpAnyH_take (i := 29) (v := ?_) rfl (by kernel_rfl) (by kernel_rfl) (by kernel_rfl) (fun _ _ _ h => h) (Or.inl ⟨by rfl, ?_⟩) (by assumption) ?_
                  rotate_left
                  · intro w hSw
                    try dsimp only at hSw
                    go_simp
                    try with_reducible rfl
                  try simp only [Act.put]
                  refine wpAnyH_take (i := 30) (v := ?_) rfl (by kernel_rfl) (by kernel_rfl) (by kernel_rfl) (fun _ _ _ h => h) (Or.inl ⟨by rfl, ?_⟩) (by assumption) ?_
                  rotate_left
                  · intro w hSw
                    try dsimp only at hSw
                    go_simp
                    try with_reducible rfl
                  try simp only [Act.put]
                  refine wpAnyH_take (i := 31) (v := ?_) rfl (by kernel_rfl) (by kernel_rfl) (by kernel_rfl) (fun _ _ _ h => h) (Or.inl ⟨by rfl, ?_⟩) (by assumption) ?_
                  rotate_left
                  · intro w hSw
                    try dsimp only at hSw
                    go_simp
                    try with_reducible rfl
                  try simp only [Act.put]
                  refine wpAnyH_take (i := 32) (v := ?_) rfl (by kernel_rfl) (by kernel_rfl) (by kernel_rfl) (fun _ _ _ h => h) (Or.inl ⟨by rfl, ?_⟩) (by assumption) ?_
                  rotate_left
                  · intro w hSw
                    try dsimp only at hSw
                    go_simp
                    try with_reducible rfl
                  try simp only [Act.put]
                  refine wpAnyH_take (i := 33) (v := ?_) rfl (by kernel_rfl) (by kernel_rfl) (by kernel_rfl) (fun _ _ _ h => h) (Or.inl ⟨by rfl, ?_⟩) (by assumption) ?_
                  rotate_left
                  · intro w hSw
                    try dsimp only at hSw
                    go_simp
                    try with_reducible rfl
                  try simp only [Act.put]
                  refine wpAnyH_take (i := 34) (v := ?_) rfl (by kernel_rfl) (by kernel_rfl) (by kernel_rfl) (fun _ _ _ h => h) (Or.inl ⟨by rfl, ?_⟩) (by assumption) ?_
                  rotate_left
                  · intro w hSw
                    try dsimp only at hSw
                    go_simp
                    try with_reducible rfl
                  try simp only [Act.put]
                  refine wpAnyH_take (i := 35) (v := ?_) rfl (by kernel_rfl) (by kernel_rfl) (by kernel_rfl) (fun _ _ _ h => h) (Or.inl ⟨by rfl, ?_⟩) (by assumption) ?_
                  rotate_left
                  · intro w hSw
                    try dsimp only at hSw
                    go_simp
                    try with_reducible rfl
                  try simp only [Act.put]
                  refine wpAnyH_take (i := 36) (v := ?_) rfl (by kernel_rfl) (by kernel_rfl) (by kernel_rfl) (fun _ _ _ h => h) (Or.inl ⟨by rfl, ?_⟩) (by assumption) ?_
                  rotate_left
                  · intro w hSw
                    try dsimp only at hSw
                    go_simp
                    try with_reducible rfl
                  try simp only [Act.put]
                  refine wpAnyH_take (i := 37) (v := ?_) rfl (by kernel_rfl) (by kernel_rfl) (by kernel_rfl) (fun _ _ _ h => h) (Or.inl ⟨by rfl, ?_⟩) (by assumption) ?_
                  rotate_left
                  · intro w hSw
                    try dsimp only at hSw
                    go_simp
                    try with_reducible rfl
                  try simp only [Act.put]
                  refine wpAnyH_take (i := 38) (v := ?_) rfl (by kernel_rfl) (by kernel_rfl) (by kernel_rfl) (fun _ _ _ h => h) (Or.inl ⟨by rfl, ?_⟩) (by assumption) ?_
                  rotate_left
                  · intro w hSw
                    try dsimp only at hSw
                    go_simp
                    try with_reducible rfl
                  try simp only [Act.put]
                  refine wpAnyH_take (i := 39) (v := ?_) rfl (by kernel_rfl) (by kernel_rfl) (by kernel_rfl) (fun _ _ _ h => h) (Or.inl ⟨by rfl, ?_⟩) (by assumption) ?_
                  rotate_left
                  · intro w hSw
                    try dsimp only at hSw
                    go_simp
                    try with_reducible rfl
                  try simp only [Act.put]
                  refine wpAnyH_take (i := 40) (v := ?_) rfl (by kernel_rfl) (by kernel_rfl) (by kernel_rfl) (fun _ _ _ h => h) (Or.inl ⟨by rfl, ?_⟩) (by assumption) ?_
                  rotate_left
                  · intro w hSw
                    try dsimp only at hSw
                    go_simp
                    try with_reducible rfl
                  try simp only [Act.put]
                  refine wpAnyH_ready (rs := [1, 41]) (by kernel_rfl) (by simp) ?_
                  refine AllReadyH.cons rfl (fun K hK => ?_) (AllReadyH.cons rfl (fun K hK => ?_) AllReadyH.nil)
                  · go_simp
                    refine hK.out _ _ (by (try dsimp only); first | assumption | exact HQW.out _ (Below.refl _ _).drew | exact HQW.out _ (box_below _ _).drew | (with_reducible exact HSG.out _ hS6) | (with_reducible exact HSE.out _ _ hS6)) (fun hHeld => ?_)
                    clear hK K
                    try simp only [Act.put, List.setIfInBounds_toArray, List.set_cons_zero, List.set_cons_succ]
                    refine wpAnyH_ready (rs := [41]) (by kernel_rfl) (by simp) ?_
                    refine AllReadyH.cons rfl (fun K hK => ?_) AllReadyH.nil
                    go_simp
                    refine hK.out _ _ (by (try dsimp only); first | assumption | exact HQW.out _ (Below.refl _ _).drew | exact HQW.out _ (box_below _ _).drew | (with_reducible exact HSG.out _ hS6) | (with_reducible exact HSE.out _ _ hS6)) (fun hHeld => ?_)
                    clear hK K
                    try simp only [Act.put, List.setIfInBounds_toArray, List.set_cons_zero, List.set_cons_succ]
                    refine wpAnyH_ready (rs := [42]) (by kernel_rfl) (by simp) ?_
                    refine AllReadyH.cons rfl (fun K hK => ?_) AllReadyH.nil
                    refine step_append_lies _ (by rfl) _ _ _ (by rfl) wd.heap.size 79 ic _ 6 56 Tryz.underlying36 hic hcz hcs hcb rfl (by decide) v jj (ccells ((chs g).take jj)) (by rfl) (HOQ.out _ hD) _ 1 1 [.int .i64 y0, .string y1, .string y2, .int .i64 (y3 - 1), .bool (y4 == 1), .bool (y5 == 1)] (by rfl) rfl (World.news_of_block hNB) (by intro u hu; simp only [List.mem_cons, List.not_mem_nil, or_false] at hu; rcases hu with rfl | rfl | rfl | rfl | rfl | rfl <;> rfl) (by decide) (by unfold maxLen; omega) (by omega) hz8 _ rfl ?_
                    intro g6 cap w6 hown hgrow hat hlt6
                    have hS6 := HHG.out _ _ hD hgrow
                    have n5 := cell_of hS6.1 (j := 5) rfl
                    have f5 := frozen_of_row w6 r 5 _ _ hS6.1
                    refine hK.out _ _ (by (try dsimp only); first | assumption | exact HQW.out _ (Below.refl _ _).drew | exact HQW.out _ (box_below _ _).drew | (with_reducible exact HSG.out _ hS6) | (with_reducible exact HSE.out _ _ hS6)) (fun hHeld => ?_)
                    clear hK K
                    try simp only [Act.put, List.setIfInBounds_toArray]
                    refine wpAnyH_take (i := 43) (v := ?_) rfl (by kernel_rfl) (by kernel_rfl) (by kernel_rfl) (fun _ _ _ h => h) (Or.inl ⟨by rfl, ?_⟩) (by assumption) ?_
                    rotate_left
                    · intro w hSw
                      try dsimp only at hSw
                      go_simp
                      try with_reducible rfl
                    try simp only [Act.put]
                    refine wpAnyH_ready (rs := [44]) (by kernel_rfl) (by simp) ?_
                    refine AllReadyH.cons rfl (fun K hK => ?_) AllReadyH.nil
                    go_simp
                    refine hK.out _ _ (by (try dsimp only); first | assumption | exact HQW.out _ (Below.refl _ _).drew | exact HQW.out _ (box_below _ _).drew | (with_reducible exact HSG.out _ hS6) | (with_reducible exact HSE.out _ _ hS6)) (fun hHeld => ?_)
                    clear hK K
                    try simp only [Act.put, List.setIfInBounds_toArray, List.set_cons_zero, List.set_cons_succ]
                    refine wpAnyH_done (by kernel_rfl) ?_ _
                    have hfin := HWB.out w6 (.slice (some ⟨g6, 0, none⟩) (jj + 1) cap) hS6
                    have hs7 := seti hS6.1 5 (Value.slice (some ⟨g6, 0, none⟩) (jj + 1) cap)
                    have ho7 := own_gb hown hs7.1.gb (own_ne hown hS6.1 (by decide))
                    obtain ⟨w7, hw7⟩ : ∃ w7, w7 = w6.setCell ⟨r, 5, none⟩ (.slice (some ⟨g6, 0, none⟩) (jj + 1) cap) := ⟨_, rfl⟩
                    rw [← hw7] at hfin ho7
                    rw [← hw7]
                    have HV7 : Hid (∃ v, w7.heap[r]? = some (.cells #[.int .i64 k0, .int .i64 k1, .int .i64 k2, .int .i64 k3, .int .i64 k4, v] 38 (0, 0)) ∧ w7.ownsRow wd.heap.size 79 6 v (jj + 1) (ccells ((chs g).take (jj + 1)))) := Lib.hid ⟨_, hfin.1, by
                      rw [HTK.out, ccells_append, show ccells [x] = ccell x from by simp [ccells], HCX.out]
                      exact ho7⟩
                    have HX7 : Hid (Below wd.heap.size wd w7) := Lib.hid hfin.2
                    clear hfin hs7 ho7 hw7 hown hgrow hat hlt6 hS6 n5 f5 hD hNB hz8 c8 cd
                    go_wp2_with fail
                    go_roundw
                    case rel => exact ⟨jj + 1, hlt, by go_num, HV7, HX7⟩
                    case measure => simp [intOf]; omega
                  · go_simp
                    refine hK.out _ _ (by (try dsimp only); first | assumption | exact HQW.out _ (Below.refl _ _).drew | exact HQW.out _ (box_below _ _).drew | (with_reducible exact HSG.out _ hS6) | (with_reducible exact HSE.out _ _ hS6)) (fun hHeld => ?_)
                    clear hK K
                    try simp only [Act.put, List.setIfInBounds_toArray, List.set_cons_zero, List.set_cons_succ]
                    refine wpAnyH_ready (rs := [1]) (by kernel_rfl) (by simp) ?_
                    refine AllReadyH.cons rfl (fun K hK => ?_) AllReadyH.nil
                    go_simp
                    refine hK.out _ _ (by (try dsimp only); first | assumption | exact HQW.out _ (Below.refl _ _).drew | exact HQW.out _ (box_below _ _).drew | (with_reducible exact HSG.out _ hS6) | (with_reducible exact HSE.out _ _ hS6)) (fun hHeld => ?_)
                    clear hK K
                    try simp only [Act.put, List.setIfInBounds_toArray, List.set_cons_zero, List.set_cons_succ]
                    refine wpAnyH_ready (rs := [42]) (by kernel_rfl) (by simp) ?_
                    refine AllReadyH.cons rfl (fun K hK => ?_) AllReadyH.nil
                    refine step_append_lies _ (by rfl) _ _ _ (by rfl) wd.heap.size 79 ic _ 6 56 Tryz.underlying36 hic hcz hcs hcb rfl (by decide) v jj (ccells ((chs g).take jj)) (by rfl) (HOQ.out _ hD) _ 1 1 [.int .i64 y0, .string y1, .string y2, .int .i64 (y3 - 1), .bool (y4 == 1), .bool (y5 == 1)] (by rfl) rfl (World.news_of_block hNB) (by intro u hu; simp only [List.mem_cons, List.not_mem_nil, or_false] at hu; rcases hu with rfl | rfl | rfl | rfl | rfl | rfl <;> rfl) (by decide) (by unfold maxLen; omega) (by omega) hz8 _ rfl ?_
                    intro g6 cap w6 hown hgrow hat hlt6
                    have hS6 := HHG.out _ _ hD hgrow
                    have n5 := cell_of hS6.1 (j := 5) rfl
                    have f5 := frozen_of_row w6 r 5 _ _ hS6.1
                    refine hK.out _ _ (by (try dsimp only); first | assumption | exact HQW.out _ (Below.refl _ _).drew | exact HQW.out _ (box_below _ _).drew | (with_reducible exact HSG.out _ hS6) | (with_reducible exact HSE.out _ _ hS6)) (fun hHeld => ?_)
                    clear hK K
                    try simp only [Act.put, List.setIfInBounds_toArray]
                    refine wpAnyH_take (i := 43) (v := ?_) rfl (by kernel_rfl) (by kernel_rfl) (by kernel_rfl) (fun _ _ _ h => h) (Or.inl ⟨by rfl, ?_⟩) (by assumption) ?_
                    rotate_left
                    · intro w hSw
                      try dsimp only at hSw
                      go_simp
                      try with_reducible rfl
                    try simp only [Act.put]
                    refine wpAnyH_ready (rs := [44]) (by kernel_rfl) (by simp) ?_
                    refine AllReadyH.cons rfl (fun K hK => ?_) AllReadyH.nil
                    go_simp
                    refine hK.out _ _ (by (try dsimp only); first | assumption | exact HQW.out _ (Below.refl _ _).drew | exact HQW.out _ (box_below _ _).drew | (with_reducible exact HSG.out _ hS6) | (with_reducible exact HSE.out _ _ hS6)) (fun hHeld => ?_)
                    clear hK K
                    try simp only [Act.put, List.setIfInBounds_toArray, List.set_cons_zero, List.set_cons_succ]
                    refine wpAnyH_done (by kernel_rfl) ?_ _
                    have hfin := HWB.out w6 (.slice (some ⟨g6, 0, none⟩) (jj + 1) cap) hS6
                    have hs7 := seti hS6.1 5 (Value.slice (some ⟨g6, 0, none⟩) (jj + 1) cap)
                    have ho7 := own_gb hown hs7.1.gb (own_ne hown hS6.1 (by decide))
                    obtain ⟨w7, hw7⟩ : ∃ w7, w7 = w6.setCell ⟨r, 5, none⟩ (.slice (some ⟨g6, 0, none⟩) (jj + 1) cap) := ⟨_, rfl⟩
                    rw [← hw7] at hfin ho7
                    rw [← hw7]
                    have HV7 : Hid (∃ v, w7.heap[r]? = some (.cells #[.int .i64 k0, .int .i64 k1, .int .i64 k2, .int .i64 k3, .int .i64 k4, v] 38 (0, 0)) ∧ w7.ownsRow wd.heap.size 79 6 v (jj + 1) (ccells ((chs g).take (jj + 1)))) := Lib.hid ⟨_, hfin.1, by
                      rw [HTK.out, ccells_append, show ccells [x] = ccell x from by simp [ccells], HCX.out]
                      exact ho7⟩
                    have HX7 : Hid (Below wd.heap.size wd w7) := Lib.hid hfin.2
                    clear hfin hs7 ho7 hw7 hown hgrow hat hlt6 hS6 n5 f5 hD hNB hz8 c8 cd
                    go_wp2_with fail
                    go_roundw
                    case rel => exact ⟨jj + 1, hlt, by go_num, HV7, HX7⟩
                    case measure => simp [intOf]; omega
                · obtain rfl : jj = j := by omega
                  have hji2 : ¬ (jj : Int) < (jj : Int) := by omega
                  obtain ⟨A3, e3, rfl, -, -, -⟩ := own_form hown
                  have hqb : Below w1.heap.size w1 wr := HBd.out.trans (HX.out.mono HBd.out.size)
                  have hq9 := blk_below HQ.out hqb
                  have r0 := cell_of hv (j := 0) rfl
                  have r1 := cell_of hv (j := 1) rfl
                  have r2 := cell_of hv (j := 2) rfl
                  have r3 := cell_of hv (j := 3) rfl
                  have r4 := cell_of hv (j := 4) rfl
                  have r5 := cell_of hv (j := 5) rfl
                  have z0 := cell_of hq9 (j := 0) rfl
                  have z1 := cell_of hq9 (j := 1) rfl
                  have z2 := cell_of hq9 (j := 2) rfl
                  have z3 := cell_of hq9 (j := 3) rfl
                  have z4 := cell_of hq9 (j := 4) rfl
                  have z5 := cell_of hq9 (j := 5) rfl
                  have g0 := frozen_of_row wr _ 0 _ _ hq9
                  have g1 := frozen_of_row wr _ 1 _ _ hq9
                  have g2 := frozen_of_row wr _ 2 _ _ hq9
                  have g3 := frozen_of_row wr _ 3 _ _ hq9
                  have g4 := frozen_of_row wr _ 4 _ _ hq9
                  have g5 := frozen_of_row wr _ 5 _ _ hq9
                  obtain ⟨w9, hw9⟩ : ∃ xx, xx = ((((((wr.setCell ⟨q, 0, none⟩ (.int .i64 k0)).setCell ⟨q, 1, none⟩ (.int .i64 k1)).setCell ⟨q, 2, none⟩ (.int .i64 k2)).setCell ⟨q, 3, none⟩ (.int .i64 k3)).setCell ⟨q, 4, none⟩ (.int .i64 k4)).setCell ⟨q, 5, none⟩ (.slice A3 jj e3)) := ⟨_, rfl⟩
                  obtain ⟨hwrw9, hkw9⟩ := set6 hq9 (.int .i64 k0) (.int .i64 k1) (.int .i64 k2) (.int .i64 k3) (.int .i64 k4) (.slice A3 jj e3)
                  rw [← hw9] at hwrw9 hkw9
                  have ho9 := own_gb hown hwrw9.gb (own_ne hown hq9 (by decide))
                  have HE : Hid (DcPost w R (.returned (.tuple #[.agg #[.int .i64 k0, .int .i64 k1, .int .i64 k2, .int .i64 k3, .int .i64 k4, .slice A3 jj e3], .int .i64 0])) w9) := Lib.hid (by
                    have hcl : (chs g).length = jj := by rw [chs_is jj HGL.out]; simp
                    rw [List.take_of_length_le (Nat.le_of_eq hcl)] at ho9
                    refine ⟨(HB1.out.trans (hqb.mono HB1.out.size)).trans (by rw [← EQ.out]; exact hwrw9.below), ?_⟩
                    rw [HRT.out, HFD.out]
                    show ∃ A c, _ ∧ Rd ccell 6 w9 A (chs g).length (chs g)
                    rw [hcl]
                    exact ⟨A3, e3, rfl, Rd.of_own ho9 (fun _ _ => rfl) (by decide)⟩)
                  have y0 := cell_of hkw9 (j := 0) rfl
                  have y1 := cell_of hkw9 (j := 1) rfl
                  have y2 := cell_of hkw9 (j := 2) rfl
                  have y3 := cell_of hkw9 (j := 3) rfl
                  have y4 := cell_of hkw9 (j := 4) rfl
                  have y5 := cell_of hkw9 (j := 5) rfl
                  have HW9 := Lib.hid hw9
                  clear hw9 hwrw9 hkw9 hq9 hv hown ho9 hqb
                  go_wp2_with fail
                  rw [← HW9.out]
                  exact bodyPost_ret (v := .tuple #[.agg #[.int .i64 k0, .int .i64 k1, .int .i64 k2, .int .i64 k3, .int .i64 k4, .slice A3 jj e3], .int .i64 0]) (by simp [results, Tryz.results26, go_sem, y0, y1, y2, y3, y4, y5]) rfl HE.out
end Go.Proofs.YtflgemlhocjipaaGreatDoor
