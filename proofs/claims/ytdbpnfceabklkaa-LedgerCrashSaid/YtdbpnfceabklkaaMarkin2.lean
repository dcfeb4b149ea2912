/-
  What ledger.markIn returns of a slot, on a disk that lives: the mark that its sector is, and whether it is whole. No condition.
-/
import Derived.Test.YtdbpnfceabklkaaMarkin
namespace Go.Proofs.Ytdbpnfceabklkaa
set_option maxRecDepth 100000
open Go.ChangeShapes Go.WideShapes Go.ChangeAt Go.RowKit

theorem below_cells {w w' : World} {B g o : Nat} {vs : List Value} (h : Below B w w') (hg : B ≤ g) (hB : B ≤ w.heap.size := by exact Nat.le_refl _) : Below B w (w'.setCells g o vs) :=
  h.grown (setCells_grown _ _ _) (Nat.le_trans hB h.size) (fun k e => by injection e with e; omega)
theorem there_other {w : World} {g k : Nat} {cs : Array Value} {vs : List Value} {t : TypeId} {n : Nat} (h : w.heap[g]? = some (.cells cs t (0, 0))) (hk : g ≠ k) (hn : n ≤ cs.size) : (w.setCells k 0 vs).there g 0 n :=
  there_whole ((setCells_other vs 0 w g hk).trans h) hn
/-- What the last region reads. -/
structure MT (g7 g8 b : Nat) (s : List Int) (W : World) : Prop where
  c7 : W.heap[g7]? = some (.cells (ints (s.take 8)).toArray 70 (0, 0))
  c8 : W.heap[g8]? = some (.cells (ints (s.drop 56)).toArray 70 (0, 0))
  c6 : W.heap[b]? = some (.cells (ints s).toArray 86 (0, 0))
theorem mt_cell {g7 g8 b : Nat} {s : List Int} {W : World} {z : Int} (hs : Sok s) (hz : z = s.getD 8 0) (h : MT g7 g8 b s W) : W.cell? ⟨b, 8, none⟩ = some (.int .u8 z) := by
  rw [cell_of_row W b 8 _ _ _ h.c6, List.getElem?_toArray]
  unfold ints
  rw [List.getElem?_map, List.getElem?_eq_getElem (by rw [hs.1]; decide), hz, getD_eq _ (by rw [hs.1]; decide)]; rfl
theorem mt_reads {g7 g8 b : Nat} {s : List Int} {W : World} (hs : Sok s) (h : MT g7 g8 b s W) : Reads W (some ⟨b, 9, none⟩) 4 ((s.drop 9).take 4) :=
  reads_mk (by rw [List.length_take, List.length_drop, hs.1]; rfl) (fun _ => ⟨b, 9, rfl, fun i hi => by
    rw [cell_of_row W b _ _ _ _ h.c6, List.getElem?_toArray, take_getD _ _ _ hi, drop_getD]
    unfold ints
    rw [List.getElem?_map, List.getElem?_eq_getElem (by rw [hs.1]; omega), getD_eq _ (by rw [hs.1]; omega)]; rfl⟩) (bys_take _ (bys_drop _ hs.2))
theorem mt_set {g7 g8 b g : Nat} {s : List Int} {W : World} {vs : List Value} (h : MT g7 g8 b s W) (hne : g7 ≠ g ∧ g8 ≠ g ∧ b ≠ g) : MT g7 g8 b s (W.setCells g 0 vs) :=
  ⟨(setCells_other vs 0 W _ hne.1).trans h.c7, (setCells_other vs 0 W _ hne.2.1).trans h.c8, (setCells_other vs 0 W _ hne.2.2).trans h.c6⟩
theorem markin_end {w wx : World} {m : Mk} (hm : (mcells m).length = 11) (h : wx.heap[w.heap.size]? = some (.cells Z11 72 (0, 0))) (hb : Below w.heap.size w wx) :
    (wx.setCells w.heap.size 0 (mcells m)).heap[w.heap.size]? = some (.cells (mcells m).toArray 72 (0, 0)) ∧ Below w.heap.size w (wx.setCells w.heap.size 0 (mcells m)) :=
  ⟨set_whole h (by rw [hm, z11_size]), below_cells hb (Nat.le_refl _)⟩
theorem results_ct {fn : Func} {p q : Tmp} {T : TypeId} {d : TypeDesc} (h : fn.results = #[.cell p T, .tmp q]) (hd : Try.prog.underlying T = some d) (hr : d.isRow = true) (tmps : Array Value) (w : World) (g : Nat) (cs : List Value) (v : Value) (hi : (Try.prog.info? T).map (·.size) = some cs.length)
    (hp : tmps.getD p undef = .pointer (some ⟨g, 0, none⟩)) (hq : tmps.getD q undef = v) (hg : w.heap[g]? = some (.cells cs.toArray T (0, 0))) : (results fn tmps).run Try.prog w = .ok (.tuple #[.agg cs.toArray, v]) w := by
  have hp' : tmps[p]?.getD undef = .pointer (some ⟨g, 0, none⟩) := by simpa using hp
  have hq' : tmps[q]?.getD undef = v := by simpa using hq
  have r2 := run_loadVar_mid (P := Try.prog) w g 0 T cs d (range_whole hg) hd hr hi
  simp [results, h, hp', hq', asAddr, r2]
set_option maxHeartbeats 1000000 in
theorem markin_any (B q p slot : Nat) (G : Lg) (bv : Value) (D : Dk) (w : World) (hD : PDisk w B p D) (h : LCells w q p G bv) (hd : D.dead = false) (hf : G.fr ≤ 65536) (hn : G.fr + slot < D.firm.length) (hsl : slot ≤ 1) :
    Calls Try.prog 55 #[.pointer (some ⟨q, 0, none⟩), .int .i64 (slot : Int)] w fun e w' => e = .returned (.tuple #[.agg (mcells (mkOf ((cur D).getD (G.fr + slot) []) slot).1).toArray, .bool (mkOf ((cur D).getD (G.fr + slot) []) slot).2]) ∧ Below w.heap.size w w' := by
  have hok : Dok D := by obtain ⟨_, _, _, h⟩ := hD; exact h.ok
  have HS : Hid (Sok ((cur D).getD (G.fr + slot) [])) := Lib.hid (lok_getD (cur_ok hok) (by rw [cur_len]; exact hn))
  obtain ⟨s, hs⟩ : ∃ s, s = (cur D).getD (G.fr + slot) [] := ⟨_, rfl⟩
  have hb1 := box_below w (.cells Z11 72)
  have hlr := (lread_any B q p (G.fr + slot) G bv D (w.alloc (.cells Z11 72)) (hD.kept hb1) (h.kept hb1) hd hn)
  rw [show ((G.fr + slot : Nat) : Int) = (G.fr : Int) + (slot : Int) by omega] at hlr
  have HLR := Lib.hid hlr
  clear hlr
  rw [← hs] at HS HLR ⊢
  have c1 : (w.alloc (.cells Z11 72)).cell? ⟨q, 1, none⟩ = some (.int .i64 (G.fr : Int)) := (hb1.cell (p := ⟨q, 1, none⟩) (cell_lt h.c1)).trans h.c1
  obtain ⟨w1, hw1⟩ : ∃ w1, w1 = w.alloc (.cells Z11 72) := ⟨_, rfl⟩
  have hz1 : w1.heap.size = w.heap.size + 1 := by rw [hw1]; simp
  have HZ1 := Lib.hid hz1
  have HB1 : Hid (Below w.heap.size w w1) := Lib.hid (by rw [hw1]; exact hb1)
  have HG1 : Hid (w1.heap[w.heap.size]? = some (.cells Z11 72 (0, 0))) := Lib.hid (by rw [hw1]; exact new_block w _)
  rw [← hw1] at HLR c1
  obtain ⟨C, hC⟩ : ∃ C, C = (ints s).toArray := ⟨_, rfl⟩
  rw [← hC] at HLR
  have HC := Lib.hid hC
  have HL : Hid ((ints s).length = 64) := Lib.hid (by rw [ints_length]; exact HS.out.1)
  have HS2 : Hid ((Try.prog.info? 86).map (·.size) = some C.size) := Lib.hid (by rw [hC, List.size_toArray, HL.out]; exact size86)
  have HZC : Hid (Z64.size = C.size) := Lib.hid (by rw [z64_size, hC, List.size_toArray, HL.out])
  have HON : Hid (C.all (·.oneCell') = true) := Lib.hid (by rw [hC]; exact all_oneCell_toArray (ints_one _))
  have hs0 : (0 : Int) ≤ (slot : Int) := by omega
  have hs1 : (slot : Int) ≤ 1 := by omega
  have hf0 : (0 : Int) ≤ (G.fr : Int) := by omega
  have hf1 : (G.fr : Int) ≤ 65536 := by omega
  clear hs hD h hok hd hn hb1 hC hz1
  go_enter Try.func55, Try.ntmps55
  go_upto_region 1 with (first | (with_reducible refine wpList_alloc72 rfl rfl ?_) | fail)
  rw [← hw1]
  clear hw1
  go_upto_region 2 with (first
    | ((with_reducible refine HLR.out.mono ?_); rintro e w2 ⟨rfl, hb2⟩; have HB2 := Lib.hid hb2; clear hb2 c1)
    | (with_reducible refine wpList_alloc86 rfl rfl ?_)
    | ((with_reducible refine wpList_store_new rfl 86 (.tmp 6) (.tmp 16) rfl Z64 C ?_ ?_ HS2.out HZC.out HON.out ?_); rfl; rfl)
    | fail)
  obtain ⟨w3, hw3⟩ : ∃ w3, w3 = w2.alloc (.cells C 86) := ⟨_, rfl⟩
  rw [← hw3]
  have HG6 : Hid (w3.heap[w2.heap.size]? = some (.cells (ints s).toArray 86 (0, 0))) := Lib.hid (by rw [hw3, ← HC.out]; exact new_block w2 _)
  have HB3 : Hid (Below w1.heap.size w1 w3) := Lib.hid (by rw [hw3]; exact HB2.out.trans ((box_below w2 _).mono HB2.out.size))
  have HL3 : Hid (w2.heap.size < w3.heap.size) := Lib.hid (by rw [hw3]; simp)
  clear hw3
  have har1 : ∀ W : World, (Instr.arrayAt 70 (.slice (some ⟨w2.heap.size, 0, none⟩) 8 64)).run Try.prog W = .ok (.pointer (some ⟨w2.heap.size, 0, none⟩)) W := fun W => by simp [Instr.arrayAt, Sem.run_bind, run_underlying Try.underlying70]
  have har2 : ∀ W : World, (Instr.arrayAt 70 (.slice (some ⟨w2.heap.size, 56, none⟩) 8 8)).run Try.prog W = .ok (.pointer (some ⟨w2.heap.size, 56, none⟩)) W := fun W => by simp [Instr.arrayAt, Sem.run_bind, run_underlying Try.underlying70]
  have HF8 : Hid ((ints (s.take 8)).length = 8) := Lib.hid (by rw [ints_length, List.length_take, HS.out.1]; rfl)
  have HT8 : Hid ((ints (s.drop 56)).length = 8) := Lib.hid (by rw [ints_length, List.length_drop, HS.out.1])
  have HFS : Hid ((Try.prog.info? 70).map (·.size) = some (ints (s.take 8)).length) := Lib.hid (by rw [HF8.out]; exact size70)
  have HTS : Hid ((Try.prog.info? 70).map (·.size) = some (ints (s.drop 56)).length) := Lib.hid (by rw [HT8.out]; exact size70)
  have HFA : Hid ((Try.prog.info? 70).map (·.size) = some (ints (s.take 8)).toArray.size) := Lib.hid (by rw [List.size_toArray]; exact HFS.out)
  have HTA : Hid ((Try.prog.info? 70).map (·.size) = some (ints (s.drop 56)).toArray.size) := Lib.hid (by rw [List.size_toArray]; exact HTS.out)
  have HFZ : Hid ((ints (s.take 8)).toArray.size ≤ Z8.size) := Lib.hid (by rw [List.size_toArray, HF8.out]; exact Nat.le_of_eq z8_size.symm)
  have HTZ : Hid ((ints (s.drop 56)).toArray.size ≤ Z8.size) := Lib.hid (by rw [List.size_toArray, HT8.out]; exact Nat.le_of_eq z8_size.symm)
  have HFO : Hid ((ints (s.take 8)).toArray.all (·.oneCell') = true) := Lib.hid (all_oneCell_toArray (ints_one _))
  have HTO : Hid ((ints (s.drop 56)).toArray.all (·.oneCell') = true) := Lib.hid (all_oneCell_toArray (ints_one _))
  -- the two blocks, in either order
  have hbl : ∀ W : World, Below w3.heap.size w3 W → MS w2.heap.size s W := fun W hb => ms_block HG6.out (hb.block _ HL3.out)
  have HBL := Lib.hid hbl
  have hn1 : ((w3.drew).alloc (.cells Z8 70)).heap.size = w3.heap.size + 1 := by simp
  have hx0 := new_block w3.drew (.cells Z8 70)
  have hx1 := new_block ((w3.drew).alloc (.cells Z8 70)) (.cells Z8 70)
  rw [hn1] at hx1
  have hA : Below w3.heap.size w3 ((w3.drew).alloc (.cells Z8 70)) := (Below.refl _ _).drew.alloc (Nat.le_refl _) _
  have hB : Below w3.heap.size w3 (((w3.drew).alloc (.cells Z8 70)).alloc (.cells Z8 70)) := hA.alloc (by simp) _
  have hy0 : (((w3.drew).alloc (.cells Z8 70)).alloc (.cells Z8 70)).heap[w3.heap.size]? = some (.cells Z8 70 (0, 0)) := (Below.heap_alloc _ _ _ (by simp)).trans hx0
  have HA := Lib.hid hA
  have HB := Lib.hid hB
  have HY0 := Lib.hid hy0
  have HY1 := Lib.hid hx1
  have HN1 := Lib.hid hn1
  have HM1 := Lib.hid (mk_two HS.out.1 hy0 hx1 (by omega) (Nat.le_refl _) (Nat.le_succ _) hB)
  have HM2 := Lib.hid (mk_two HS.out.1 hx1 hy0 (by omega) (Nat.le_succ _) (Nat.le_refl _) hB)
  clear hbl hn1 hx0 hx1 hA hB hy0
  simp only [Act.put, List.setIfInBounds_toArray, List.set_cons_zero, List.set_cons_succ]
  go_cut [7, 8] (fun v7 v8 wx => MkMid w3 s v7 v8 wx)
  case first =>
    refine wp_region_held_drew (S := MS w2.heap.size s) (by kernel_rfl) (HBL.out _ (Below.refl _ _).drew) (fun hHeld => ?_)
    refine take_op 0 17 (.slice (some ⟨w2.heap.size, 0, none⟩) 8 64) rfl rfl (by kernel_rfl) (by kernel_rfl) (by kernel_rfl) (fun _ _ _ h => h) (.inl ⟨by rfl, fun w' hw' => by go_simp⟩) hHeld ?_
    simp only [List.set_cons_zero, List.set_cons_succ]
    refine take_op 1 18 (.pointer (some ⟨w2.heap.size, 0, none⟩)) rfl rfl (by kernel_rfl) (by kernel_rfl) (by kernel_rfl) (fun _ _ _ h => h) (.inl ⟨by rfl, fun w' hw' => by go_simp⟩) hHeld ?_
    simp only [List.set_cons_zero, List.set_cons_succ]
    refine take_op 2 19 (.agg (ints (s.take 8)).toArray) rfl rfl (by kernel_rfl) (by kernel_rfl) (by kernel_rfl) (fun _ _ _ h => h) (yieldsIf_load_mid (by rfl) 70 (.tmp 18) rfl w2.heap.size 0 rfl (ints (s.take 8)) (.array 8 5) (fun w h => h.1) Try.underlying70 rfl HFS.out) hHeld ?_
    simp only [List.set_cons_zero, List.set_cons_succ]
    refine take_op 3 20 (.slice (some ⟨w2.heap.size, 56, none⟩) 8 8) rfl rfl (by kernel_rfl) (by kernel_rfl) (by kernel_rfl) (fun _ _ _ h => h) (.inl ⟨by rfl, fun w' hw' => by go_simp⟩) hHeld ?_
    simp only [List.set_cons_zero, List.set_cons_succ]
    refine take_op 4 21 (.pointer (some ⟨w2.heap.size, 56, none⟩)) rfl rfl (by kernel_rfl) (by kernel_rfl) (by kernel_rfl) (fun _ _ _ h => h) (.inl ⟨by rfl, fun w' hw' => by go_simp⟩) hHeld ?_
    simp only [List.set_cons_zero, List.set_cons_succ]
    refine take_op 5 22 (.agg (ints (s.drop 56)).toArray) rfl rfl (by kernel_rfl) (by kernel_rfl) (by kernel_rfl) (fun _ _ _ h => h) (yieldsIf_load_mid (by rfl) 70 (.tmp 21) rfl w2.heap.size 56 rfl (ints (s.drop 56)) (.array 8 5) (fun w h => h.2) Try.underlying70 rfl HTS.out) hHeld ?_
    simp only [List.set_cons_zero, List.set_cons_succ]
    refine wpAnyH_ready (rs := [6, 7]) (by kernel_rfl) (by simp) (AllReadyH.cons rfl (fun K hK => ?_) (AllReadyH.cons rfl (fun K hK => ?_) AllReadyH.nil))
    · rw [if_pos (by rfl)]
      refine alloc70_l 7 rfl rfl ?_
      simp only [List.set_cons_zero, List.set_cons_succ]
      refine hK.out _ _ (HBL.out _ HA.out) (fun _ => ?_)
      refine wpAnyH_ready (rs := [7]) (by kernel_rfl) (by simp) (AllReadyH.cons rfl (fun K2 hK2 => ?_) AllReadyH.nil)
      rw [if_pos (by rfl)]
      refine alloc70_l 8 rfl rfl ?_
      rw [HN1.out]
      simp only [List.set_cons_zero, List.set_cons_succ]
      refine hK2.out _ _ (HBL.out _ HB.out) (fun _ => ?_)
      refine wpAnyH_ready (rs := [8]) (by kernel_rfl) (by simp) (AllReadyH.cons rfl (fun K3 hK3 => ?_) AllReadyH.nil)
      rw [if_pos (by rfl)]
      refine store_l rfl 70 (.tmp 7) (.tmp 19) rfl w3.heap.size 0 (ints (s.take 8)).toArray rfl rfl (there_whole HY0.out HFZ.out) HFA.out HFO.out ?_
      refine hK3.out _ _ (HBL.out _ (below_cells HB.out (Nat.le_refl _))) (fun _ => ?_)
      refine wpAnyH_ready (rs := [9]) (by kernel_rfl) (by simp) (AllReadyH.cons rfl (fun K4 hK4 => ?_) AllReadyH.nil)
      rw [if_pos (by rfl)]
      refine store_l rfl 70 (.tmp 8) (.tmp 22) rfl (w3.heap.size + 1) 0 (ints (s.drop 56)).toArray rfl rfl (there_other HY1.out (by omega) HTZ.out) HTA.out HTO.out ?_
      refine hK4.out _ _ (HBL.out _ HM1.out.below) (fun _ => ?_)
      refine wpAnyH_done (by kernel_rfl) ?_ _
      go_wp2_with fail
      go_meet
      exact HM1.out
    · rw [if_pos (by rfl)]
      refine alloc70_l 8 rfl rfl ?_
      simp only [List.set_cons_zero, List.set_cons_succ]
      refine hK.out _ _ (HBL.out _ HA.out) (fun _ => ?_)
      refine wpAnyH_ready (rs := [6]) (by kernel_rfl) (by simp) (AllReadyH.cons rfl (fun K2 hK2 => ?_) AllReadyH.nil)
      rw [if_pos (by rfl)]
      refine alloc70_l 7 rfl rfl ?_
      rw [HN1.out]
      simp only [List.set_cons_zero, List.set_cons_succ]
      refine hK2.out _ _ (HBL.out _ HB.out) (fun _ => ?_)
      refine wpAnyH_ready (rs := [8]) (by kernel_rfl) (by simp) (AllReadyH.cons rfl (fun K3 hK3 => ?_) AllReadyH.nil)
      rw [if_pos (by rfl)]
      refine store_l rfl 70 (.tmp 7) (.tmp 19) rfl (w3.heap.size + 1) 0 (ints (s.take 8)).toArray rfl rfl (there_whole HY1.out HFZ.out) HFA.out HFO.out ?_
      refine hK3.out _ _ (HBL.out _ (below_cells HB.out (Nat.le_succ _))) (fun _ => ?_)
      refine wpAnyH_ready (rs := [9]) (by kernel_rfl) (by simp) (AllReadyH.cons rfl (fun K4 hK4 => ?_) AllReadyH.nil)
      rw [if_pos (by rfl)]
      refine store_l rfl 70 (.tmp 8) (.tmp 22) rfl w3.heap.size 0 (ints (s.drop 56)).toArray rfl rfl (there_other HY0.out (by omega) HTZ.out) HTA.out HTO.out ?_
      refine hK4.out _ _ (HBL.out _ HM2.out.below) (fun _ => ?_)
      refine wpAnyH_done (by kernel_rfl) ?_ _
      go_wp2_with fail
      go_meet
      exact HM2.out
  case rest =>
    obtain ⟨⟨g7, g8, rfl, rfl, h7, h8⟩, hbx⟩ := hcut
    have h6 : wc.heap[w2.heap.size]? = some (.cells (ints s).toArray 86 (0, 0)) := (hbx.block _ HL3.out).trans HG6.out
    have hbw : Below w1.heap.size w1 wc := HB3.out.trans (hbx.mono HB3.out.size)
    have h4 : wc.heap[w.heap.size]? = some (.cells Z11 72 (0, 0)) := (hbw.block _ (by rw [HZ1.out]; omega)).trans HG1.out
    have hbb : Below w.heap.size w wc := HB1.out.trans (hbw.mono HB1.out.size)
    obtain ⟨z, hz⟩ : ∃ z, z = s.getD 8 0 := ⟨_, rfl⟩
    obtain ⟨u, hu⟩ : ∃ u, u = le ((s.drop 9).take 4) := ⟨_, rfl⟩
    have hzb := bys_getD HS.out.2 8
    rw [← hz] at hzb
    obtain ⟨z0, z1⟩ := hzb
    have hS3 : ∀ W : World, W.heap = wc.heap → MT g7 g8 w2.heap.size s W := fun W e => ⟨by rw [e]; exact h7, by rw [e]; exact h8, by rw [e]; exact h6⟩
    have HS3 := Lib.hid hS3
    have HJ : Hid (∀ W : World, MT g7 g8 w2.heap.size s W → Calls Try.prog 45 #[.slice (some ⟨w2.heap.size, 9, none⟩) 4 55] W fun e w' => e = .returned (.int .i64 u) ∧ W = w') := Lib.hid (fun W hW => by
      rw [hu]; exact join_any _ 4 55 _ W (mt_reads HS.out hW) (Nat.le_refl _))
    have HZ := Lib.hid hz
    have HU := Lib.hid hu
    have HNE : Hid (g7 ≠ w.heap.size ∧ g8 ≠ w.heap.size ∧ w2.heap.size ≠ w.heap.size) := Lib.hid (by
      refine ⟨fun e => ?_, fun e => ?_, fun e => ?_⟩
      · rw [e, h4] at h7; injection h7 with h7; injection h7 with _ h7 _; cases h7
      · rw [e, h4] at h8; injection h8 with h8; injection h8 with _ h8 _; cases h8
      · rw [e, h4] at h6; injection h6 with h6; injection h6 with _ h6 _; cases h6)
    have HML : Hid ((mcells (mkOf s slot).1).length = 11) := Lib.hid (mcells_len (mkOf_ok HS.out slot).2)
    have H4 := Lib.hid h4
    have HBB := Lib.hid hbb
    have HMC : Hid ((#[Value.int .i64 (slot : Int)] ++ (ints (s.take 8)).toArray ++ #[.int .i64 z, .int .i64 u]) = (mcells (mkOf s slot).1).toArray) := Lib.hid (by
      have hu0 := (le_take4 (bys_drop 9 HS.out.2)).1
      have e1 : ((s.getD 8 0).toNat : Int) = s.getD 8 0 := by rw [← hz]; omega
      have e2 : ((le ((s.drop 9).take 4)).toNat : Int) = le ((s.drop 9).take 4) := by omega
      simp only [mkOf, mcells, e1, e2, hz, hu]
      simp)
    have HSA : Hid ((Try.prog.info? 72).map (·.size) = some (mcells (mkOf s slot).1).toArray.size) := Lib.hid (by rw [List.size_toArray, HML.out]; exact size72)
    have HSO : Hid ((mcells (mkOf s slot).1).toArray.all (·.oneCell') = true) := Lib.hid (all_oneCell_toArray (mcells_one _))
    have HSZ : Hid ((mcells (mkOf s slot).1).toArray.size ≤ Z11.size) := Lib.hid (by rw [List.size_toArray, HML.out]; exact Nat.le_of_eq z11_size.symm)
    have HEND := Lib.hid (markin_end (wx := wc.drew) HML.out h4 hbb.drew)
    have HSI : Hid ((Try.prog.info? 72).map (·.size) = some (mcells (mkOf s slot).1).length) := Lib.hid (by rw [HML.out]; exact size72)
    have hwz : IntKind.i64.wrap z = z := by rw [IntKind.wrap_i64]; omega
    have HFA8 : Hid ((s.take 8).length = 8) := Lib.hid (by rw [List.length_take, HS.out.1]; rfl)
    have HTA8 : Hid ((s.drop 56).length = 8) := Lib.hid (by rw [List.length_drop, HS.out.1])
    have HFC : Hid ((ints (s.take 8)).toArray.size = 8) := Lib.hid (by rw [List.size_toArray]; exact HF8.out)
    clear h7 h8 hbx h6 hbw h4 hbb hz hu hS3
    go_wp2_with fail
    refine wp_region_held_drew (S := MT g7 g8 w2.heap.size s) (by kernel_rfl) (HS3.out _ rfl) (fun hHeld => ?_)
    refine take_op 0 23 (.int .i64 (slot : Int)) rfl rfl (by kernel_rfl) (by kernel_rfl) (by kernel_rfl) (fun _ _ _ h => h) (.inl ⟨by rfl, fun w' hw' => by go_simp⟩) hHeld ?_
    simp only [List.set_cons_zero, List.set_cons_succ]
    refine take_op 1 24 (.agg (ints (s.take 8)).toArray) rfl rfl (by kernel_rfl) (by kernel_rfl) (by kernel_rfl) (fun _ _ _ h => h) (yieldsIf_load_mid (by rfl) 70 (.tmp 7) rfl g7 0 rfl (ints (s.take 8)) (.array 8 5) (fun w h => range_whole h.c7) Try.underlying70 rfl HFS.out) hHeld ?_
    simp only [List.set_cons_zero, List.set_cons_succ]
    refine take_op 2 25 (.pointer (some ⟨w2.heap.size, 8, none⟩)) rfl rfl (by kernel_rfl) (by kernel_rfl) (by kernel_rfl) (fun _ _ _ h => h) (.inl ⟨by rfl, fun w' hw' => by go_simp⟩) hHeld ?_
    simp only [List.set_cons_zero, List.set_cons_succ]
    refine take_op 3 26 (.int .u8 z) rfl rfl (by kernel_rfl) (by kernel_rfl) (by kernel_rfl) (fun _ _ _ h => h) (.inl ⟨by rfl, fun w' hw' => by have hc := mt_cell HS.out HZ.out hw'; go_simp⟩) hHeld ?_
    simp only [List.set_cons_zero, List.set_cons_succ]
    refine take_op 4 27 (.int .i64 z) rfl rfl (by kernel_rfl) (by kernel_rfl) (by kernel_rfl) (fun _ _ _ h => h) (.inl ⟨by rfl, fun w' hw' => by go_simp⟩) hHeld ?_
    simp only [List.set_cons_zero, List.set_cons_succ]
    refine take_op 5 28 (.slice (some ⟨w2.heap.size, 9, none⟩) 4 55) rfl rfl (by kernel_rfl) (by kernel_rfl) (by kernel_rfl) (fun _ _ _ h => h) (.inl ⟨by rfl, fun w' hw' => by go_simp⟩) hHeld ?_
    simp only [List.set_cons_zero, List.set_cons_succ]
    refine take_op 8 31 (.agg (ints (s.take 8)).toArray) rfl rfl (by kernel_rfl) (by kernel_rfl) (by kernel_rfl) (fun _ _ _ h => h) (yieldsIf_load_mid (by rfl) 70 (.tmp 7) rfl g7 0 rfl (ints (s.take 8)) (.array 8 5) (fun w h => range_whole h.c7) Try.underlying70 rfl HFS.out) hHeld ?_
    simp only [List.set_cons_zero, List.set_cons_succ]
    refine take_op 9 32 (.agg (ints (s.drop 56)).toArray) rfl rfl (by kernel_rfl) (by kernel_rfl) (by kernel_rfl) (fun _ _ _ h => h) (yieldsIf_load_mid (by rfl) 70 (.tmp 8) rfl g8 0 rfl (ints (s.drop 56)) (.array 8 5) (fun w h => range_whole h.c8) Try.underlying70 rfl HTS.out) hHeld ?_
    simp only [List.set_cons_zero, List.set_cons_succ]
    refine take_op 10 33 (.bool (decide (s.take 8 = s.drop 56))) rfl rfl (by kernel_rfl) (by kernel_rfl) (by kernel_rfl) (fun _ _ _ h => h) (yields_eql70 (by rfl) (.tmp 31) (.tmp 32) rfl (s.take 8) (s.drop 56) rfl rfl HFA8.out HTA8.out) hHeld ?_
    simp only [List.set_cons_zero, List.set_cons_succ]
    refine wpAnyH_ready (rs := [6]) (by kernel_rfl) (by simp) (AllReadyH.cons rfl (fun K hK => ?_) AllReadyH.nil)
    go_simp
    refine (HJ.out _ hHeld).mono ?_
    rintro e w' ⟨rfl, rfl⟩
    go_wp2_with fail
    refine hK.out _ _ hHeld (fun _ => ?_)
    refine take_op 7 30 (.agg (#[.int .i64 (slot : Int)] ++ (ints (s.take 8)).toArray ++ #[.int .i64 z, .int .i64 u])) rfl rfl (by kernel_rfl) (by kernel_rfl) (by kernel_rfl) (fun _ _ _ h => h) (yields_build72 (by rfl) (.tmp 23) (.tmp 24) (.tmp 27) (.tmp 29) rfl (slot : Int) z u (ints (s.take 8)).toArray rfl rfl rfl rfl HFC.out) hHeld ?_
    simp only [List.set_cons_zero, List.set_cons_succ]
    rw [HMC.out]
    refine wpAnyH_ready (rs := [11]) (by kernel_rfl) (by simp) (AllReadyH.cons rfl (fun K2 hK2 => ?_) AllReadyH.nil)
    rw [if_pos (by rfl)]
    refine store_l rfl 72 (.tmp 4) (.tmp 30) rfl w.heap.size 0 (mcells (mkOf s slot).1).toArray rfl rfl (there_whole H4.out HSZ.out) HSA.out HSO.out ?_
    refine hK2.out _ _ (mt_set (HS3.out wc.drew rfl) HNE.out) (fun hHeld2 => ?_)
    refine take_op 12 5 (.bool (decide (s.take 8 = s.drop 56))) rfl rfl (by kernel_rfl) (by kernel_rfl) (by kernel_rfl) (fun _ _ _ h => h) (.inl ⟨by rfl, fun w' hw' => by go_simp⟩) hHeld2 ?_
    simp only [List.set_cons_zero, List.set_cons_succ]
    refine wpAnyH_done (by kernel_rfl) ?_ _
    go_wp2_with fail
    exact bodyPost_ret (v := .tuple #[.agg (mcells (mkOf s slot).1).toArray, .bool (mkOf s slot).2]) (results_ct rfl Try.underlying72 rfl _ _ w.heap.size (mcells (mkOf s slot).1) _ HSI.out rfl rfl (by exact HEND.out.1)) rfl ⟨rfl, HEND.out.2⟩
end Go.Proofs.Ytdbpnfceabklkaa
