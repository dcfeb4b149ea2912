/-
  What ledger.find leaves of a new ledger's struct, on a disk that lives: the ledger that is there, if there is one. Conditions: the ledger's sectors are the disk's; no more than 65536 of them.
-/
import Derived.Test.YtdbpnfceabklkaaFind1
namespace Go.Proofs.Ytdbpnfceabklkaa
set_option maxRecDepth 100000
open Go.ChangeShapes Go.WideShapes Go.ChangeAt Go.RowKit

set_option maxHeartbeats 2000000 in
theorem find_any (B q p fr sz : Nat) (D : Dk) (w : World) (hD : PDisk w B p D) (hq : w.heap[q]? = some (.cells (lcells p ⟨fr, sz, mk0, []⟩ (.slice none 0 0)).toArray 74 (0, 0))) (hd : D.dead = false) (hfit : fr + 2 + 2 * sz ≤ D.firm.length) (hn : D.firm.length ≤ 65536) :
    Calls Try.prog 38 #[.pointer (some ⟨q, 0, none⟩)] w (FdPost w q p fr sz D) := by
  have hok : Dok D := by obtain ⟨_, _, _, h⟩ := hD; exact h.ok
  have hLok := cur_ok hok
  have hLn : (cur D).length = D.firm.length := cur_len D
  have hc := LCells.of (G := ⟨fr, sz, mk0, []⟩) hq nok0
  have HCT := Lib.hid (count_any B q p ⟨fr, sz, mk0, []⟩ (.slice none 0 0) D w hD hc hd (by show fr ≤ 65536; omega) (by show fr + 1 < _; omega))
  obtain ⟨L, hL⟩ : ∃ L, L = cur D := ⟨_, rfl⟩
  obtain ⟨m, hm⟩ : ∃ m, m = (rdMk (cur D) fr).1 := ⟨_, rfl⟩
  obtain ⟨k, hk⟩ : ∃ k, k = (rdMk (cur D) fr).2 := ⟨_, rfl⟩
  have hmok := rdMk_ok hLok (fr := fr) (by rw [hLn]; omega)
  rw [← hm] at hmok
  have HNM := Lib.hid hmok.2
  have HSL := Lib.hid hmok.1
  have HMK : Hid (rdMk (cur D) fr = (m, k)) := Lib.hid (by rw [hm, hk])
  change Hid (Calls _ _ _ _ fun e w' => e = .returned (.tuple #[.agg (mcells (rdMk (cur D) fr).1).toArray, .bool (rdMk (cur D) fr).2]) ∧ _) at HCT
  rw [← hm, ← hk] at HCT
  have HQ := Lib.hid hq
  have HDK := Lib.hid hD
  have HLK := Lib.hid hLok
  have HLN := Lib.hid hLn
  have HD := Lib.hid hd
  have HSA : Hid ((Try.prog.info? 72).map (·.size) = some (mcells m).toArray.size) := Lib.hid (by rw [List.size_toArray, mcells_len HNM.out]; exact size72)
  have HSZ : Hid ((Try.prog.info? 72).map (·.size) = some (mcells m).length) := Lib.hid (by rw [mcells_len HNM.out]; exact size72)
  have HZA : Hid (Z11.size = (mcells m).toArray.size) := Lib.hid (by rw [z11_size, List.size_toArray, mcells_len HNM.out])
  have HOA : Hid ((mcells m).toArray.all (·.oneCell') = true) := Lib.hid (all_oneCell_toArray (mcells_one _))
  have hql := (Array.getElem?_eq_some_iff.1 hq).1
  clear hm hk hmok hq hD hLok hLn hd hok hc hL
  go_enter Try.func38, Try.ntmps38
  go_upto_region 2 with (first
    | ((with_reducible refine HCT.out.mono ?_); rintro e w2 ⟨rfl, hb2⟩; have HB2 := Lib.hid hb2; clear hb2)
    | (with_reducible refine wpList_alloc72 rfl rfl ?_)
    | ((with_reducible refine wpList_store_new rfl 72 (.tmp 3) (.tmp 10) rfl Z11 (mcells m).toArray ?_ ?_ HSA.out HZA.out HOA.out ?_); rfl; rfl)
    | fail)
  try simp only [Act.put, List.setIfInBounds_toArray, List.set_cons_zero, List.set_cons_succ]
  obtain ⟨w3, hw3⟩ : ∃ w3, w3 = w2.alloc (.cells (mcells m).toArray 72) := ⟨_, rfl⟩
  rw [← hw3]
  have HG3 : Hid (w3.heap[w2.heap.size]? = some (.cells (mcells m).toArray 72 (0, 0))) := Lib.hid (by rw [hw3]; exact new_block w2 _)
  have HB3 : Hid (Below w.heap.size w w3) := Lib.hid (by rw [hw3]; exact HB2.out.trans ((box_below w2 _).mono HB2.out.size))
  have HQ3 : Hid (w3.heap[q]? = some (.cells (lcells p ⟨fr, sz, mk0, []⟩ (.slice none 0 0)).toArray 74 (0, 0))) := Lib.hid ((HB3.out.block q hql).trans HQ.out)
  clear hw3
  have hc3 := LCells.of (G := ⟨fr, sz, mk0, []⟩) HQ3.out nok0
  have HC3 := Lib.hid hc3
  have g9 : w3.cell? ⟨w2.heap.size, 9, none⟩ = some (.int .i64 (m.half : Int)) := by rw [cell_of_row w3 _ _ _ _ _ HG3.out, List.getElem?_toArray]; exact mcells_half HNM.out
  have g10 : w3.cell? ⟨w2.heap.size, 10, none⟩ = some (.int .i64 (m.used : Int)) := by rw [cell_of_row w3 _ _ _ _ _ HG3.out, List.getElem?_toArray]; exact mcells_used HNM.out
  have HMO : Hid (∀ n : Nat, Calls Try.prog 32 #[.pointer (some ⟨q, 0, none⟩)] (w3.drewN n) fun e w' => e = .returned (.int .i64 ((sz : Int) * 64)) ∧ w' = w3.drewN n) := Lib.hid (fun n =>
    (most_any q p ⟨fr, sz, mk0, []⟩ (.slice none 0 0) (w3.drewN n) (HC3.out.kept (below_drewN (Below.refl _ _) n)) (by show sz ≤ 65536; omega)).mono fun _ _ ⟨h1, h2⟩ => ⟨h1, h2.symm⟩)
  clear hc3
  have hh0 : (0 : Int) ≤ (m.half : Int) := by omega
  have hu0 : (0 : Int) ≤ (m.used : Int) := by omega
  cases k with
  | false =>
    go_wp2_with fail
    go_quiet (fail)
    go_wp2_with fail
    go_ret
    exact ⟨(grown_of_below' HB3.out nq), .inr ⟨rfl, fun m' bs' hf => by have h := hf.pk; rw [HMK.out] at h; injection h with _ h; cases h⟩⟩
  | true =>
    by_cases h1 : 1 < m.half
    · have h1' : (1 : Int) < (m.half : Int) := by omega
      go_wp2_with fail
      go_quiet (fail)
      go_wp2_with fail
      go_ret
      exact ⟨(grown_of_below' HB3.out nq), .inr ⟨rfl, fun m' bs' hf => by have h := hf.pk; rw [HMK.out] at h; injection h with h _; have := hf.half; rw [← h] at this; omega⟩⟩
    · have h1' : ¬ (1 : Int) < (m.half : Int) := by omega
      by_cases h2 : sz * 64 < m.used
      · have h2' : (sz : Int) * 64 < (m.used : Int) := by omega
        go_wp2_with fail
        go_quiet ((go_at_call 32; exact Calls.quiet_of_same (HMO.out _)))
        go_wp2_with fail
        go_ret
        exact ⟨(grown_of_below' HB3.out nq), .inr ⟨rfl, fun m' bs' hf => by have h := hf.pk; rw [HMK.out] at h; injection h with h _; have := hf.used; rw [← h] at this; omega⟩⟩
      · have h2' : ¬ (sz : Int) * 64 < (m.used : Int) := by omega
        go_wp2_with fail
        go_quiet ((go_at_call 32; exact Calls.quiet_of_same (HMO.out _)))
        have HRG := Lib.hid (range_whole (w := w3.drewN nq) HG3.out)
        have HTH : Hid ((w3.drewN nq).there q 3 (mcells m).toArray.size) := Lib.hid (there_part (w := w3.drewN nq) HQ3.out (by rw [List.size_toArray, List.size_toArray, mcells_len HNM.out, lcells_len nok0]; decide))
        go_upto_region 5 with (first
          | ((with_reducible refine wpList_load_mid rfl 72 (.tmp 3) rfl w2.heap.size 0 ?_ (mcells m) _ HRG.out Try.underlying72 ?_ HSZ.out ?_); rfl; rfl)
          | ((with_reducible refine wpList_store_mid rfl 72 (.tmp 29) (.tmp 27) rfl q 3 (mcells m).toArray ?_ ?_ HTH.out HSA.out HOA.out ?_); rfl; rfl)
          | fail)
        try simp only [Act.put]
        obtain ⟨w4, hw4⟩ : ∃ w4, w4 = (w3.drewN nq).setCells q 3 (mcells m) := ⟨_, rfl⟩
        have hw4' : (w3.drewN nq).setCells q 3 (mcells m).toArray.toList = w4 := hw4.symm
        rw [hw4']
        clear hw4'
        have HQ4 : Hid (w4.heap[q]? = some (.cells (lcells p ⟨fr, sz, m, []⟩ (.slice none 0 0)).toArray 74 (0, 0))) := Lib.hid (by rw [hw4]; exact set_mark (w := w3.drewN nq) (G := ⟨fr, sz, mk0, []⟩) nok0 HNM.out HQ3.out)
        have HGW : Hid (w.grownBy w4 (some q)) := Lib.hid (by rw [hw4]; exact (grown_of_below' HB3.out nq).trans (setCells_grown _ _ _))
        have hne3 : w2.heap.size ≠ q := by have := HB2.out.size; omega
        have HG4 : Hid (w4.heap[w2.heap.size]? = some (.cells (mcells m).toArray 72 (0, 0))) := Lib.hid (by rw [hw4, setCells_other _ _ _ _ hne3]; exact HG3.out)
        have k9 : w4.cell? ⟨w2.heap.size, 9, none⟩ = some (.int .i64 (m.half : Int)) := by rw [cell_of_row w4 _ _ _ _ _ HG4.out, List.getElem?_toArray]; exact mcells_half HNM.out
        obtain ⟨b0, hb0⟩ : ∃ b0, b0 = fr + 2 + m.half * sz := ⟨_, rfl⟩
        have hbg := (begin_any q p ⟨fr, sz, m, []⟩ (.slice none 0 0) m.half w4 (LCells.of HQ4.out HNM.out) (by show fr ≤ 65536; omega) (by show sz ≤ 65536; omega) (by omega))
        change Calls _ _ _ _ fun e w' => e = .returned (.int .i64 ((fr + 2 + m.half * sz : Nat) : Int)) ∧ _ at hbg
        rw [← hb0] at hbg
        have HBG := Lib.hid hbg
        have hsz := half_le (h := m.half) (sz := sz) (by omega)
        have HB0 := Lib.hid hb0
        have hbl : b0 ≤ fr + 2 + sz := by omega
        clear hw4 hbg hb0 hsz g9 g10
        go_wp2_with fail
        refine HBG.out.mono ?_
        rintro e w5 ⟨rfl, nb, rfl⟩
        have HST : Hid (FdRel w q p fr sz m (cur D) b0 w2.heap.size (.int .i64 (b0 : Int)) (w4.drewN nb)) := Lib.hid ⟨0, b0, .slice none 0 0, rfl, rfl, by omega, HQ4.out, by rw [Nat.mul_zero, Nat.min_zero]; exact World.ownsRow_nil _ _ _ _, HG4.out, HGW.out.trans (grown_of_below' (below_drewN (Below.refl _ _) nb) 0)⟩
        clear h2' h1' hu0 hh0
        have h2n : m.used ≤ sz * 64 := by omega
        go_wp2_with fail
        go_loopw [5, 6] (fun v5 _ wr => FdRel w q p fr sz m (cur D) b0 w2.heap.size v5 wr) (fun v5 _ _ => (b0 + sz + 1) - (intOf v5).toNat)
        case atStart => exact HST.out
        case round =>
          obtain ⟨i, t, bv, ht, rfl, hi, hqr, hrow, hg3, hgr⟩ := hrel
          obtain ⟨n, hn'⟩ : ∃ n, n = min m.used (64 * i) := ⟨_, rfl⟩
          rw [← hn'] at hrow
          have hlc := LCells.of (G := ⟨fr, sz, m, []⟩) hqr HNM.out
          obtain ⟨A, cb, rfl, hncb, hcbm, -⟩ := own_form hrow
          have b14 := hlc.c14
          have r10 : wr.cell? ⟨w2.heap.size, 10, none⟩ = some (.int .i64 (m.used : Int)) := by rw [cell_of_row wr _ _ _ _ _ hg3, List.getElem?_toArray]; exact mcells_used HNM.out
          have HQR := Lib.hid hqr
          have HROW := Lib.hid hrow
          have HG3R := Lib.hid hg3
          have HGR := Lib.hid hgr
          have HLC := Lib.hid hlc
          have HT := Lib.hid ht
          have HI := Lib.hid hi
          have HNN := Lib.hid hn'
          by_cases hlt : n < m.used
          · have hlt' : (n : Int) < (m.used : Int) := by omega
            have hi2 : t < b0 + sz := by omega
            have htn : t < D.firm.length := by omega
            obtain ⟨sv, hsv⟩ : ∃ sv, sv = (cur D).getD t [] := ⟨_, rfl⟩
            have HSO : Hid (Sok sv) := Lib.hid (by rw [hsv]; exact lok_getD HLK.out (by rw [HLN.out]; exact htn))
            have HSV : Hid (sv = (cur D).getD (b0 + i) []) := Lib.hid (by rw [hsv, ht])
            have HLR := Lib.hid (fun n' => lread_any B q p t ⟨fr, sz, m, []⟩ (.slice A n cb) D (wr.drewN n') ((HDK.out.grown HQ.out hgr).kept (below_drewN (Below.refl _ _) n')) (hlc.kept (below_drewN (Below.refl _ _) n')) HD.out htn)
            rw [← hsv] at HLR
            obtain ⟨C, hC⟩ : ∃ C, C = (ints sv).toArray := ⟨_, rfl⟩
            rw [← hC] at HLR
            have HC := Lib.hid hC
            have HS2 : Hid ((Try.prog.info? 86).map (·.size) = some C.size) := Lib.hid (by rw [hC, List.size_toArray, ints_length, HSO.out.1]; exact size86)
            have HZC : Hid (Z64.size = C.size) := Lib.hid (by rw [z64_size, hC, List.size_toArray, ints_length, HSO.out.1])
            have HON : Hid (C.all (·.oneCell') = true) := Lib.hid (by rw [hC]; exact all_oneCell_toArray (ints_one _))
            have ht0 : (0 : Int) ≤ (t : Int) := by omega
            have ht1 : (t : Int) ≤ 200000 := by omega
            clear hqr hrow hg3 hgr hlc ht hi hn' hsv hC
            go_wp2_with fail
            go_quiet (fail)
            go_upto_region 9 with (first
              | ((with_reducible refine (HLR.out _).mono ?_); rintro e w6 ⟨rfl, hb6⟩; have HB6 := Lib.hid hb6; clear hb6)
              | (with_reducible refine wpList_alloc86 rfl rfl ?_)
              | ((with_reducible refine wpList_store_new rfl 86 (.tmp 6) (.tmp 46) rfl Z64 C ?_ ?_ HS2.out HZC.out HON.out ?_); rfl; rfl)
              | fail)
            try simp only [Act.put, List.setIfInBounds_toArray, List.set_cons_zero, List.set_cons_succ]
            have HW7 : Hid (Below wr.heap.size wr (w6.alloc (.cells C 86)).drew) := Lib.hid (((below_drewN (Below.refl _ _) _).trans (HB6.out.trans ((box_below w6 _).mono HB6.out.size))).drew)
            have HG7 : Hid ((w6.alloc (.cells C 86)).drew.heap[w6.heap.size]? = some (.cells (ints sv).toArray 86 (0, 0))) := Lib.hid (by rw [← HC.out]; exact new_block w6 _)
            obtain ⟨w7, hw7⟩ : ∃ w7, w7 = w6.alloc (.cells C 86) := ⟨_, rfl⟩
            rw [← hw7] at HW7 HG7 ⊢
            clear hw7
            obtain ⟨c, hc⟩ : ∃ c, c = min 64 (m.used - n) := ⟨_, rfl⟩
            have hw59 : IntKind.i64.wrap ((m.used : Int) - (n : Int)) = (m.used : Int) - (n : Int) := by rw [IntKind.wrap_i64]; omega
            have hm60 : min (64 : Int) ((m.used : Int) - (n : Int)) = (c : Int) := by omega
            have hc64 : c ≤ 64 := by omega
            obtain ⟨S61, hs61, A61, k61, rfl, hr61⟩ := arr_to (W := w7.drew) (g := w6.heap.size) (s := sv) HSO.out HG7.out c hc64
            have HCC := Lib.hid hc
            have HR61 := Lib.hid hr61
            have l14 : w7.cell? ⟨q, 14, none⟩ = some (.slice A n cb) := (HW7.out.cell (p := ⟨q, 14, none⟩) (cell_lt b14)).trans b14
            have HOW := Lib.hid (own_below HROW.out HW7.out)
            have HWS : Hid (w.heap.size ≤ w7.drew.heap.size) := Lib.hid (Nat.le_trans HGR.out.size HW7.out.size)
            have h47 : n + c ≤ 140737488355328 := by omega
            have HS9 : Hid (w7.drew.cell? ⟨w2.heap.size, 10, none⟩ = some (.int .i64 (m.used : Int))) := Lib.hid ((HW7.out.cell (p := ⟨w2.heap.size, 10, none⟩) (cell_lt r10)).trans r10)
            have HNX := Lib.hid (fun (v2 : Value) (w8 : World) (ho : w8.ownsRow w.heap.size 5 1 v2 (n + c) (ints (rd (cur D) b0 n) ++ ints (sv.take c))) (hg : w7.drew.grownBy w8 (Value.slice A n cb).ownBlock) =>
              fd_next HNM.out HNN.out hlt HCC.out HQR.out HSV.out HSO.out.1 HG3R.out HGR.out HROW.out HW7.out ho hg)
            have hn64 : n ≤ 200000 * 64 := by omega
            clear hc hr61 b14 r10
            refine wp_region_held_drew (S := fun w' => w'.cell? ⟨w2.heap.size, 10, none⟩ = some (.int .i64 (m.used : Int))) (by kernel_rfl) HS9.out (fun hHeld => ?_)
            refine take_op 0 47 (.pointer (some ⟨q, 0, none⟩)) rfl rfl (by kernel_rfl) (by kernel_rfl) (by kernel_rfl) (fun _ _ _ h => h) (.inl ⟨by rfl, fun w' hw' => by go_simp⟩) hHeld ?_
            simp only [List.set_cons_zero, List.set_cons_succ]
            refine take_op 1 48 (.pointer (some ⟨q, 0, none⟩)) rfl rfl (by kernel_rfl) (by kernel_rfl) (by kernel_rfl) (fun _ _ _ h => h) (.inl ⟨by rfl, fun w' hw' => by go_simp⟩) hHeld ?_
            simp only [List.set_cons_zero, List.set_cons_succ]
            refine take_op 2 49 (.pointer (some ⟨q, 0, none⟩)) rfl rfl (by kernel_rfl) (by kernel_rfl) (by kernel_rfl) (fun _ _ _ h => h) (.inl ⟨by rfl, fun w' hw' => by go_simp⟩) hHeld ?_
            simp only [List.set_cons_zero, List.set_cons_succ]
            refine take_op 3 50 (.pointer (some ⟨q, 14, none⟩)) rfl rfl (by kernel_rfl) (by kernel_rfl) (by kernel_rfl) (fun _ _ _ h => h) (.inl ⟨by rfl, fun w' hw' => by go_simp⟩) hHeld ?_
            simp only [List.set_cons_zero, List.set_cons_succ]
            refine take_op 5 52 (.pointer (some ⟨w2.heap.size, 10, none⟩)) rfl rfl (by kernel_rfl) (by kernel_rfl) (by kernel_rfl) (fun _ _ _ h => h) (.inl ⟨by rfl, fun w' hw' => by go_simp⟩) hHeld ?_
            simp only [List.set_cons_zero, List.set_cons_succ]
            refine take_op 6 53 (.int .i64 (m.used : Int)) rfl rfl (by kernel_rfl) (by kernel_rfl) (by kernel_rfl) (fun _ _ _ h => h) (.inl ⟨by rfl, fun w' hw' => by go_simp⟩) hHeld ?_
            simp only [List.set_cons_zero, List.set_cons_succ]
            refine take_op 7 54 (.pointer (some ⟨q, 0, none⟩)) rfl rfl (by kernel_rfl) (by kernel_rfl) (by kernel_rfl) (fun _ _ _ h => h) (.inl ⟨by rfl, fun w' hw' => by go_simp⟩) hHeld ?_
            simp only [List.set_cons_zero, List.set_cons_succ]
            refine take_op 8 55 (.pointer (some ⟨q, 0, none⟩)) rfl rfl (by kernel_rfl) (by kernel_rfl) (by kernel_rfl) (fun _ _ _ h => h) (.inl ⟨by rfl, fun w' hw' => by go_simp⟩) hHeld ?_
            simp only [List.set_cons_zero, List.set_cons_succ]
            refine take_op 9 56 (.pointer (some ⟨q, 14, none⟩)) rfl rfl (by kernel_rfl) (by kernel_rfl) (by kernel_rfl) (fun _ _ _ h => h) (.inl ⟨by rfl, fun w' hw' => by go_simp⟩) hHeld ?_
            simp only [List.set_cons_zero, List.set_cons_succ]
            refine wpAnyH_ready (rs := [4, 10]) (by kernel_rfl) (by simp) (AllReadyH.cons rfl (fun K hK => ?_) (AllReadyH.cons rfl (fun K hK => ?_) AllReadyH.nil))
            · go_simp
              refine hK.out _ _ hHeld (fun _ => ?_)
              refine wpAnyH_ready (rs := [10]) (by kernel_rfl) (by simp) (AllReadyH.cons rfl (fun K2 hK2 => ?_) AllReadyH.nil)
              go_simp
              refine hK2.out _ _ hHeld (fun _ => ?_)
              refine take_op 11 58 (.int .i64 (n : Int)) rfl rfl (by kernel_rfl) (by kernel_rfl) (by kernel_rfl) (fun _ _ _ h => h) (.inl ⟨by rfl, fun w' hw' => by go_simp⟩) hHeld ?_
              simp only [List.set_cons_zero, List.set_cons_succ]
              refine take_op 12 59 (.int .i64 ((m.used : Int) - (n : Int))) rfl rfl (by kernel_rfl) (by kernel_rfl) (by kernel_rfl) (fun _ _ _ h => h) (.inl ⟨by rfl, fun w' hw' => by go_simp⟩) hHeld ?_
              simp only [List.set_cons_zero, List.set_cons_succ]
              refine take_op 13 60 (.int .i64 (c : Int)) rfl rfl (by kernel_rfl) (by kernel_rfl) (by kernel_rfl) (fun _ _ _ h => h) (.inl ⟨by rfl, fun w' hw' => by go_simp⟩) hHeld ?_
              simp only [List.set_cons_zero, List.set_cons_succ]
              refine take_op 14 61 (.slice A61 c k61) rfl rfl (by kernel_rfl) (by kernel_rfl) (by kernel_rfl) (fun _ _ _ h => h) (.inl ⟨by rfl, fun w' hw' => by go_simp⟩) hHeld ?_
              simp only [List.set_cons_zero, List.set_cons_succ]
              refine wpAnyH_ready (rs := [15]) (by kernel_rfl) (by simp) (AllReadyH.cons rfl (fun K3 hK3 => ?_) AllReadyH.nil)
              rw [if_pos (by rfl)]
              refine app5_l 62 rfl (.tmp 51) (.tmp 61) rfl w.heap.size (.slice A n cb) n (ints (rd (cur D) b0 n)) rfl HOW.out A61 c k61 (sv.take c) rfl HR61.out h47 HWS.out ?_
              intro v2 w8 ho8 hg8
              have HX := Lib.hid (HNX.out v2 w8 ho8 hg8)
              obtain ⟨A2, k2, rfl, -, -, -⟩ := own_form ho8
              have hz := fd_cells HNM.out HQR.out HG3R.out HROW.out HW7.out hg8
              obtain ⟨z14, z10, zf, z10'⟩ := hz
              clear ho8 hg8
              simp only [List.set_cons_zero, List.set_cons_succ]
              refine hK3.out _ _ z10 (fun hHeld3 => ?_)
              refine take_op 16 63 (.pointer (some ⟨q, 0, none⟩)) rfl rfl (by kernel_rfl) (by kernel_rfl) (by kernel_rfl) (fun _ _ _ h => h) (.inl ⟨by rfl, fun w' hw' => by go_simp⟩) hHeld3 ?_
              simp only [List.set_cons_zero, List.set_cons_succ]
              refine take_op 17 64 (.pointer (some ⟨q, 14, none⟩)) rfl rfl (by kernel_rfl) (by kernel_rfl) (by kernel_rfl) (fun _ _ _ h => h) (.inl ⟨by rfl, fun w' hw' => by go_simp⟩) hHeld3 ?_
              simp only [List.set_cons_zero, List.set_cons_succ]
              refine wpAnyH_ready (rs := [18]) (by kernel_rfl) (by simp) (AllReadyH.cons rfl (fun K4 hK4 => ?_) AllReadyH.nil)
              go_simp
              refine hK4.out _ _ (z10' _) (fun _ => ?_)
              refine wpAnyH_done (by kernel_rfl) ?_ _
              go_wp2_with fail
              go_roundw
              case rel => rw [HT.out]; exact HX.out
              case measure => simp [intOf]; omega
            · go_simp
              refine hK.out _ _ hHeld (fun _ => ?_)
              refine take_op 11 58 (.int .i64 (n : Int)) rfl rfl (by kernel_rfl) (by kernel_rfl) (by kernel_rfl) (fun _ _ _ h => h) (.inl ⟨by rfl, fun w' hw' => by go_simp⟩) hHeld ?_
              simp only [List.set_cons_zero, List.set_cons_succ]
              refine take_op 12 59 (.int .i64 ((m.used : Int) - (n : Int))) rfl rfl (by kernel_rfl) (by kernel_rfl) (by kernel_rfl) (fun _ _ _ h => h) (.inl ⟨by rfl, fun w' hw' => by go_simp⟩) hHeld ?_
              simp only [List.set_cons_zero, List.set_cons_succ]
              refine take_op 13 60 (.int .i64 (c : Int)) rfl rfl (by kernel_rfl) (by kernel_rfl) (by kernel_rfl) (fun _ _ _ h => h) (.inl ⟨by rfl, fun w' hw' => by go_simp⟩) hHeld ?_
              simp only [List.set_cons_zero, List.set_cons_succ]
              refine take_op 14 61 (.slice A61 c k61) rfl rfl (by kernel_rfl) (by kernel_rfl) (by kernel_rfl) (fun _ _ _ h => h) (.inl ⟨by rfl, fun w' hw' => by go_simp⟩) hHeld ?_
              simp only [List.set_cons_zero, List.set_cons_succ]
              refine wpAnyH_ready (rs := [4]) (by kernel_rfl) (by simp) (AllReadyH.cons rfl (fun K2 hK2 => ?_) AllReadyH.nil)
              go_simp
              refine hK2.out _ _ hHeld (fun _ => ?_)
              refine wpAnyH_ready (rs := [15]) (by kernel_rfl) (by simp) (AllReadyH.cons rfl (fun K3 hK3 => ?_) AllReadyH.nil)
              rw [if_pos (by rfl)]
              refine app5_l 62 rfl (.tmp 51) (.tmp 61) rfl w.heap.size (.slice A n cb) n (ints (rd (cur D) b0 n)) rfl HOW.out A61 c k61 (sv.take c) rfl HR61.out h47 HWS.out ?_
              intro v2 w8 ho8 hg8
              have HX := Lib.hid (HNX.out v2 w8 ho8 hg8)
              obtain ⟨A2, k2, rfl, -, -, -⟩ := own_form ho8
              have hz := fd_cells HNM.out HQR.out HG3R.out HROW.out HW7.out hg8
              obtain ⟨z14, z10, zf, z10'⟩ := hz
              clear ho8 hg8
              simp only [List.set_cons_zero, List.set_cons_succ]
              refine hK3.out _ _ z10 (fun hHeld3 => ?_)
              refine take_op 16 63 (.pointer (some ⟨q, 0, none⟩)) rfl rfl (by kernel_rfl) (by kernel_rfl) (by kernel_rfl) (fun _ _ _ h => h) (.inl ⟨by rfl, fun w' hw' => by go_simp⟩) hHeld3 ?_
              simp only [List.set_cons_zero, List.set_cons_succ]
              refine take_op 17 64 (.pointer (some ⟨q, 14, none⟩)) rfl rfl (by kernel_rfl) (by kernel_rfl) (by kernel_rfl) (fun _ _ _ h => h) (.inl ⟨by rfl, fun w' hw' => by go_simp⟩) hHeld3 ?_
              simp only [List.set_cons_zero, List.set_cons_succ]
              refine wpAnyH_ready (rs := [18]) (by kernel_rfl) (by simp) (AllReadyH.cons rfl (fun K4 hK4 => ?_) AllReadyH.nil)
              go_simp
              refine hK4.out _ _ (z10' _) (fun _ => ?_)
              refine wpAnyH_done (by kernel_rfl) ?_ _
              go_wp2_with fail
              go_roundw
              case rel => rw [HT.out]; exact HX.out
              case measure => simp [intOf]; omega
          · have hge : ¬ (n : Int) < (m.used : Int) := by omega
            clear hqr hrow hg3 hgr hlc ht hi hn'
            have hnu : n = m.used := by have := HNN.out; omega
            have HRD := Lib.hid (own_reads HROW.out (rd_bys HLK.out b0 n))
            have HRC := Lib.hid (fun k => recs_any A n cb (rd (cur D) b0 n) (wr.drewN k) (by obtain ⟨A', c', e, h, _⟩ := HRD.out; injection e with e1 e2 e3; subst e1; exact h.kept (below_drewN (Below.refl _ _) k)) hncb (by omega))
            have HNU := Lib.hid hnu
            clear hnu
            go_wp2_with fail
            go_quiet (fail)
            go_wp2_with fail
            refine (HRC.out _).mono ?_
            rintro e w9 ⟨v, l, r, rfl, hr, hg, -, hb9⟩
            have HE := Lib.hid (fd_end HMK.out (by omega) h2n HB0.out HNU.out HQR.out HROW.out HGR.out ((below_drewN (Below.refl _ _) _).trans hb9) hr hg)
            clear hr hg hb9
            go_wp2_with fail
            go_ret
            exact HE.out
end Go.Proofs.Ytdbpnfceabklkaa
