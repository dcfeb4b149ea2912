/-
  What ledger.counting returns on a disk that lives: the mark that counts, and whether there is one. No condition.
-/
import Derived.Test.YtdbpnfceabklkaaMarkin2
namespace Go.Proofs.Ytdbpnfceabklkaa
set_option maxRecDepth 100000
open Go.ChangeShapes Go.WideShapes Go.ChangeAt Go.RowKit

/-- Between the reading of the slots and the way out. -/
structure CtMid (w : World) (g4 g6 : Nat) (a b : Mk) (wx : World) : Prop where
  r : wx.heap[w.heap.size]? = some (.cells Z11 72 (0, 0))
  a : wx.heap[g4]? = some (.cells (mcells a).toArray 72 (0, 0))
  b : wx.heap[g6]? = some (.cells (mcells b).toArray 72 (0, 0))
  below : Below w.heap.size w wx
theorem CtMid.kept {w wx wy : World} {g4 g6 : Nat} {a b : Mk} (h : CtMid w g4 g6 a b wx) (hb : Below wx.heap.size wx wy) : CtMid w g4 g6 a b wy :=
  ⟨(hb.block _ (Array.getElem?_eq_some_iff.1 h.r).1).trans h.r, (hb.block _ (Array.getElem?_eq_some_iff.1 h.a).1).trans h.a, (hb.block _ (Array.getElem?_eq_some_iff.1 h.b).1).trans h.b, h.below.trans (hb.mono h.below.size)⟩
theorem range_num {W : World} {g : Nat} {m : Mk} (hN : Nok m.num) (h : W.heap[g]? = some (.cells (mcells m).toArray 72 (0, 0))) : W.rangeAt g 1 (ints m.num) := fun j v hv => by
  have hj : j < 8 := by have := (List.getElem?_eq_some_iff.1 hv).1; rw [ints_length, hN.1] at this; exact this
  rw [cell_of_row W g _ _ _ _ h, List.getElem?_toArray, mcells_num hN j hj]; exact hv
set_option maxHeartbeats 1000000 in
theorem count_any (B q p : Nat) (G : Lg) (bv : Value) (D : Dk) (w : World) (hD : PDisk w B p D) (h : LCells w q p G bv) (hd : D.dead = false) (hf : G.fr ≤ 65536) (hn : G.fr + 1 < D.firm.length) :
    Calls Try.prog 51 #[.pointer (some ⟨q, 0, none⟩)] w fun e w' => e = .returned (.tuple #[.agg (mcells (rdMk (cur D) G.fr).1).toArray, .bool (rdMk (cur D) G.fr).2]) ∧ Below w.heap.size w w' := by
  have hok : Dok D := by obtain ⟨_, _, _, h⟩ := hD; exact h.ok
  have hS0 := lok_getD (cur_ok hok) (k := G.fr) (by rw [cur_len]; omega)
  have hS1 := lok_getD (cur_ok hok) (k := G.fr + 1) (by rw [cur_len]; exact hn)
  have hb1 := box_below w (.cells Z11 72)
  obtain ⟨w1, hw1⟩ : ∃ w1, w1 = w.alloc (.cells Z11 72) := ⟨_, rfl⟩
  have HR1 : Hid (w1.heap[w.heap.size]? = some (.cells Z11 72 (0, 0))) := Lib.hid (by rw [hw1]; exact new_block w _)
  rw [← hw1] at hb1
  have HB1 := Lib.hid hb1
  have ha := markin_any B q p 0 G bv D w1 (hD.kept hb1) (h.kept hb1) hd hf (by omega) (by omega)
  rw [show ((0 : Nat) : Int) = 0 from rfl, Nat.add_zero] at ha
  have HA := Lib.hid ha
  clear ha
  have hdd := fun W (hb : Below w1.heap.size w1 W) => markin_any B q p 1 G bv D W ((hD.kept hb1).kept hb) ((h.kept hb1).kept hb) hd hf hn (Nat.le_refl _)
  rw [show ((1 : Nat) : Int) = 1 from rfl] at hdd
  have HD := Lib.hid hdd
  clear hdd
  obtain ⟨mA, hmA⟩ : ∃ mA, mA = (mkOf ((cur D).getD G.fr []) 0).1 := ⟨_, rfl⟩
  obtain ⟨kA, hkA⟩ : ∃ kA, kA = (mkOf ((cur D).getD G.fr []) 0).2 := ⟨_, rfl⟩
  obtain ⟨mB, hmB⟩ : ∃ mB, mB = (mkOf ((cur D).getD (G.fr + 1) []) 1).1 := ⟨_, rfl⟩
  obtain ⟨kB, hkB⟩ : ∃ kB, kB = (mkOf ((cur D).getD (G.fr + 1) []) 1).2 := ⟨_, rfl⟩
  have HNA : Hid (Nok mA.num) := Lib.hid (by rw [hmA]; exact (mkOf_ok hS0 0).2)
  have HNB : Hid (Nok mB.num) := Lib.hid (by rw [hmB]; exact (mkOf_ok hS1 1).2)
  rw [← hmA, ← hkA] at HA
  rw [← hmB, ← hkB] at HD
  have HPK : Hid (rdMk (cur D) G.fr = pick (mA, kA) (mB, kB)) := Lib.hid (by unfold rdMk; rw [hmA, hkA, hmB, hkB])
  have HSA : Hid ((Try.prog.info? 72).map (·.size) = some (mcells mA).toArray.size) := Lib.hid (by rw [List.size_toArray, mcells_len HNA.out]; exact size72)
  have HSB : Hid ((Try.prog.info? 72).map (·.size) = some (mcells mB).toArray.size) := Lib.hid (by rw [List.size_toArray, mcells_len HNB.out]; exact size72)
  have HZA : Hid (Z11.size = (mcells mA).toArray.size) := Lib.hid (by rw [z11_size, List.size_toArray, mcells_len HNA.out])
  have HZB : Hid (Z11.size = (mcells mB).toArray.size) := Lib.hid (by rw [z11_size, List.size_toArray, mcells_len HNB.out])
  have HOA : Hid ((mcells mA).toArray.all (·.oneCell') = true) := Lib.hid (all_oneCell_toArray (mcells_one _))
  have HOB : Hid ((mcells mB).toArray.all (·.oneCell') = true) := Lib.hid (all_oneCell_toArray (mcells_one _))
  clear hmA hkA hmB hkB hok hS0 hS1 hb1 hD h hd hn
  rw [HPK.out]
  go_enter Try.func51, Try.ntmps51
  go_upto_region 1 with (first | (with_reducible refine wpList_alloc72 rfl rfl ?_) | fail)
  rw [← hw1]
  clear hw1
  go_upto_region 2 with (first
    | ((with_reducible refine HA.out.mono ?_); rintro e w2 ⟨rfl, hb2⟩; have HB2 := Lib.hid hb2; clear hb2)
    | (with_reducible refine wpList_alloc72 rfl rfl ?_)
    | ((with_reducible refine wpList_store_new rfl 72 (.tmp 4) (.tmp 11) rfl Z11 (mcells mA).toArray ?_ ?_ HSA.out HZA.out HOA.out ?_); rfl; rfl)
    | fail)
  try simp only [Act.put, List.setIfInBounds_toArray, List.set_cons_zero, List.set_cons_succ]
  obtain ⟨w3, hw3⟩ : ∃ w3, w3 = w2.alloc (.cells (mcells mA).toArray 72) := ⟨_, rfl⟩
  rw [← hw3]
  have HG4 : Hid (w3.heap[w2.heap.size]? = some (.cells (mcells mA).toArray 72 (0, 0))) := Lib.hid (by rw [hw3]; exact new_block w2 _)
  have HB3 : Hid (Below w1.heap.size w1 w3) := Lib.hid (by rw [hw3]; exact HB2.out.trans ((box_below w2 _).mono HB2.out.size))
  clear hw3
  have HD3 := Lib.hid (HD.out w3 HB3.out)
  go_upto_region 3 with (first
    | ((with_reducible refine HD3.out.mono ?_); rintro e w4 ⟨rfl, hb4⟩; have HB4 := Lib.hid hb4; clear hb4)
    | (with_reducible refine wpList_alloc72 rfl rfl ?_)
    | ((with_reducible refine wpList_store_new rfl 72 (.tmp 6) (.tmp 16) rfl Z11 (mcells mB).toArray ?_ ?_ HSB.out HZB.out HOB.out ?_); rfl; rfl)
    | fail)
  try simp only [Act.put, List.setIfInBounds_toArray, List.set_cons_zero, List.set_cons_succ]
  obtain ⟨w5, hw5⟩ : ∃ w5, w5 = w4.alloc (.cells (mcells mB).toArray 72) := ⟨_, rfl⟩
  rw [← hw5]
  have HM : Hid (CtMid w w2.heap.size w4.heap.size mA mB w5) := Lib.hid (by
    have hb5 : Below w3.heap.size w3 w5 := by rw [hw5]; exact HB4.out.trans ((box_below w4 _).mono HB4.out.size)
    have hb15 := HB3.out.trans (hb5.mono HB3.out.size)
    exact ⟨(hb15.block _ (Array.getElem?_eq_some_iff.1 HR1.out).1).trans HR1.out, (hb5.block _ (Array.getElem?_eq_some_iff.1 HG4.out).1).trans HG4.out, by rw [hw5]; exact new_block w4 _, HB1.out.trans (hb15.mono HB1.out.size)⟩)
  clear hw5
  by_cases hkb : kB = false
  · subst hkb
    have HMD := Lib.hid (fun n => HM.out.kept (below_drewN (Below.refl _ _) n))
    go_wp2_with fail
    go_quiet (fail)
    have HRES : Hid (Ending.returned (.tuple #[.agg (mcells mA).toArray, .bool kA]) = .returned (.tuple #[.agg (mcells (pick (mA, kA) (mB, false)).1).toArray, .bool (pick (mA, kA) (mB, false)).2])) := Lib.hid (by unfold pick; rw [if_neg (by simp)])
    have HRG := Lib.hid (range_whole (HMD.out nq).a)
    have HSI : Hid ((Try.prog.info? 72).map (·.size) = some (mcells mA).length) := Lib.hid (by rw [mcells_len HNA.out]; exact size72)
    have HTH := Lib.hid (there_whole (n := (mcells mA).toArray.size) (HMD.out nq).r (by rw [← HZA.out]; exact Nat.le_refl _))
    have HEND := Lib.hid (markin_end (mcells_len HNA.out) (HMD.out nq).r (HMD.out nq).below)
    go_wp2_with (first
      | ((with_reducible refine wpList_load_mid rfl 72 (.tmp 4) rfl w2.heap.size 0 ?_ (mcells mA) _ HRG.out Try.underlying72 ?_ HSI.out ?_); rfl; rfl)
      | ((with_reducible refine wpList_store_mid rfl 72 (.tmp 2) (.tmp 32) rfl w.heap.size 0 (mcells mA).toArray ?_ ?_ HTH.out HSA.out HOA.out ?_); rfl; rfl)
      | fail)
    exact bodyPost_ret (v := .tuple #[.agg (mcells mA).toArray, .bool kA]) (results_ct rfl Try.underlying72 rfl _ _ w.heap.size (mcells mA) _ HSI.out rfl rfl (by exact HEND.out.1)) rfl ⟨HRES.out, HEND.out.2⟩
  have hkb' : kB = true := by cases kB <;> simp_all
  subst hkb'
  clear hkb
  by_cases hka : kA = false
  · subst hka
    have HMD := Lib.hid (fun n => HM.out.kept (below_drewN (Below.refl _ _) n))
    go_wp2_with fail
    go_quiet (fail)
    have HRES : Hid (Ending.returned (.tuple #[.agg (mcells mB).toArray, .bool true]) = .returned (.tuple #[.agg (mcells (pick (mA, false) (mB, true)).1).toArray, .bool (pick (mA, false) (mB, true)).2])) := Lib.hid (by unfold pick; rw [if_pos ⟨rfl, .inl rfl⟩])
    have HRG := Lib.hid (range_whole (HMD.out nq).b)
    have HSI : Hid ((Try.prog.info? 72).map (·.size) = some (mcells mB).length) := Lib.hid (by rw [mcells_len HNB.out]; exact size72)
    have HTH := Lib.hid (there_whole (n := (mcells mB).toArray.size) (HMD.out nq).r (by rw [← HZB.out]; exact Nat.le_refl _))
    have HEND := Lib.hid (markin_end (mcells_len HNB.out) (HMD.out nq).r (HMD.out nq).below)
    go_wp2_with (first
      | ((with_reducible refine wpList_load_mid rfl 72 (.tmp 6) rfl w4.heap.size 0 ?_ (mcells mB) _ HRG.out Try.underlying72 ?_ HSI.out ?_); rfl; rfl)
      | ((with_reducible refine wpList_store_mid rfl 72 (.tmp 2) (.tmp 31) rfl w.heap.size 0 (mcells mB).toArray ?_ ?_ HTH.out HSB.out HOB.out ?_); rfl; rfl)
      | fail)
    exact bodyPost_ret (v := .tuple #[.agg (mcells mB).toArray, .bool true]) (results_ct rfl Try.underlying72 rfl _ _ w.heap.size (mcells mB) _ HSI.out rfl rfl (by exact HEND.out.1)) rfl ⟨HRES.out, HEND.out.2⟩
  · have hka' : kA = true := by cases kA <;> simp_all
    subst hka'
    clear hka
    have HFL : Hid ((Try.prog.info? 70).map (·.size) = some (ints mA.num).length) := Lib.hid (by rw [ints_length, HNA.out.1]; exact size70)
    have HTL : Hid ((Try.prog.info? 70).map (·.size) = some (ints mB.num).length) := Lib.hid (by rw [ints_length, HNB.out.1]; exact size70)
    have HNX := Lib.hid (next_any (ints mA.num).toArray mA.num w5.drew HNA.out rfl)
    have HNL : Hid ((nxt mA.num).length = 8) := Lib.hid (nok_nxt HNA.out).1
    have HBL : Hid (mB.num.length = 8) := Lib.hid HNB.out.1
    have HMD := Lib.hid (HM.out.kept (Below.refl _ _).drew)
    go_wp2_with fail
    refine wp_region_held_drew (S := CtMid w w2.heap.size w4.heap.size mA mB) (by kernel_rfl) HMD.out (fun hHeld => ?_)
    refine take_op 0 18 (.bool true) rfl rfl (by kernel_rfl) (by kernel_rfl) (by kernel_rfl) (fun _ _ _ h => h) (.inl ⟨by rfl, fun w' hw' => by go_simp⟩) hHeld ?_
    simp only [List.set_cons_zero, List.set_cons_succ]
    refine take_op 1 19 (.bool true) rfl rfl (by kernel_rfl) (by kernel_rfl) (by kernel_rfl) (fun _ _ _ h => h) (.inl ⟨by rfl, fun w' hw' => by go_simp⟩) hHeld ?_
    simp only [List.set_cons_zero, List.set_cons_succ]
    refine take_op 2 20 (.bool true) rfl rfl (by kernel_rfl) (by kernel_rfl) (by kernel_rfl) (fun _ _ _ h => h) (.inl ⟨by rfl, fun w' hw' => by go_simp⟩) hHeld ?_
    simp only [List.set_cons_zero, List.set_cons_succ]
    refine take_op 3 21 (.bool false) rfl rfl (by kernel_rfl) (by kernel_rfl) (by kernel_rfl) (fun _ _ _ h => h) (.inl ⟨by rfl, fun w' hw' => by go_simp⟩) hHeld ?_
    simp only [List.set_cons_zero, List.set_cons_succ]
    refine take_op 4 22 (.bool false) rfl rfl (by kernel_rfl) (by kernel_rfl) (by kernel_rfl) (fun _ _ _ h => h) (.inl ⟨by rfl, fun w' hw' => by go_simp⟩) hHeld ?_
    simp only [List.set_cons_zero, List.set_cons_succ]
    refine take_op 5 23 (.pointer (some ⟨w4.heap.size, 1, none⟩)) rfl rfl (by kernel_rfl) (by kernel_rfl) (by kernel_rfl) (fun _ _ _ h => h) (.inl ⟨by rfl, fun w' hw' => by go_simp⟩) hHeld ?_
    simp only [List.set_cons_zero, List.set_cons_succ]
    refine take_op 6 24 (.agg (ints mB.num).toArray) rfl rfl (by kernel_rfl) (by kernel_rfl) (by kernel_rfl) (fun _ _ _ h => h) (yieldsIf_load_mid (by rfl) 70 (.tmp 23) rfl w4.heap.size 1 rfl (ints mB.num) (.array 8 5) (fun w h => range_num HNB.out h.b) Try.underlying70 rfl HTL.out) hHeld ?_
    simp only [List.set_cons_zero, List.set_cons_succ]
    refine take_op 7 25 (.pointer (some ⟨w2.heap.size, 1, none⟩)) rfl rfl (by kernel_rfl) (by kernel_rfl) (by kernel_rfl) (fun _ _ _ h => h) (.inl ⟨by rfl, fun w' hw' => by go_simp⟩) hHeld ?_
    simp only [List.set_cons_zero, List.set_cons_succ]
    refine take_op 8 26 (.agg (ints mA.num).toArray) rfl rfl (by kernel_rfl) (by kernel_rfl) (by kernel_rfl) (fun _ _ _ h => h) (yieldsIf_load_mid (by rfl) 70 (.tmp 25) rfl w2.heap.size 1 rfl (ints mA.num) (.array 8 5) (fun w h => range_num HNA.out h.a) Try.underlying70 rfl HFL.out) hHeld ?_
    simp only [List.set_cons_zero, List.set_cons_succ]
    refine wpAnyH_ready (rs := [9]) (by kernel_rfl) (by simp) (AllReadyH.cons rfl (fun K hK => ?_) AllReadyH.nil)
    go_simp
    refine HNX.out.mono ?_
    rintro e w6 ⟨rfl, hb6⟩
    have HM6 := Lib.hid (HMD.out.kept hb6)
    clear hb6
    go_wp2_with fail
    refine hK.out _ _ HM6.out (fun hHeld2 => ?_)
    refine take_op 10 28 (.bool (decide (mB.num = nxt mA.num))) rfl rfl (by kernel_rfl) (by kernel_rfl) (by kernel_rfl) (fun _ _ _ h => h) (yields_eql70 (by rfl) (.tmp 24) (.tmp 27) rfl mB.num (nxt mA.num) rfl rfl HBL.out HNL.out) hHeld2 ?_
    simp only [List.set_cons_zero, List.set_cons_succ]
    refine take_op 11 29 (.bool (decide (mB.num = nxt mA.num))) rfl rfl (by kernel_rfl) (by kernel_rfl) (by kernel_rfl) (fun _ _ _ h => h) (.inl ⟨by rfl, fun w' hw' => by go_simp⟩) hHeld2 ?_
    simp only [List.set_cons_zero, List.set_cons_succ]
    refine take_op 12 30 (.bool (decide (mB.num = nxt mA.num))) rfl rfl (by kernel_rfl) (by kernel_rfl) (by kernel_rfl) (fun _ _ _ h => h) (.inl ⟨by rfl, fun w' hw' => by go_simp⟩) hHeld2 ?_
    simp only [List.set_cons_zero, List.set_cons_succ]
    refine wpAnyH_done (by kernel_rfl) ?_ _
    by_cases hq : mB.num = nxt mA.num
    · rw [decide_eq_true hq]
      have HRES : Hid (Ending.returned (.tuple #[.agg (mcells mB).toArray, .bool true]) = .returned (.tuple #[.agg (mcells (pick (mA, true) (mB, true)).1).toArray, .bool (pick (mA, true) (mB, true)).2])) := Lib.hid (by unfold pick; rw [if_pos ⟨rfl, .inr hq⟩])
      have HRG := Lib.hid (range_whole HM6.out.b)
      have HSI : Hid ((Try.prog.info? 72).map (·.size) = some (mcells mB).length) := Lib.hid (by rw [mcells_len HNB.out]; exact size72)
      have HTH := Lib.hid (there_whole (n := (mcells mB).toArray.size) HM6.out.r (by rw [← HZB.out]; exact Nat.le_refl _))
      have HEND := Lib.hid (markin_end (mcells_len HNB.out) HM6.out.r HM6.out.below)
      clear hq
      go_wp2_with (first
        | ((with_reducible refine wpList_load_mid rfl 72 (.tmp 6) rfl w4.heap.size 0 ?_ (mcells mB) _ HRG.out Try.underlying72 ?_ HSI.out ?_); rfl; rfl)
        | ((with_reducible refine wpList_store_mid rfl 72 (.tmp 2) (.tmp 31) rfl w.heap.size 0 (mcells mB).toArray ?_ ?_ HTH.out HSB.out HOB.out ?_); rfl; rfl)
        | fail)
      exact bodyPost_ret (v := .tuple #[.agg (mcells mB).toArray, .bool true]) (results_ct rfl Try.underlying72 rfl _ _ w.heap.size (mcells mB) _ HSI.out rfl rfl (by exact HEND.out.1)) rfl ⟨HRES.out, HEND.out.2⟩
    · rw [decide_eq_false hq]
      have HRES : Hid (Ending.returned (.tuple #[.agg (mcells mA).toArray, .bool true]) = .returned (.tuple #[.agg (mcells (pick (mA, true) (mB, true)).1).toArray, .bool (pick (mA, true) (mB, true)).2])) := Lib.hid (by unfold pick; rw [if_neg (by simp [hq])])
      have HRG := Lib.hid (range_whole HM6.out.a)
      have HSI : Hid ((Try.prog.info? 72).map (·.size) = some (mcells mA).length) := Lib.hid (by rw [mcells_len HNA.out]; exact size72)
      have HTH := Lib.hid (there_whole (n := (mcells mA).toArray.size) HM6.out.r (by rw [← HZA.out]; exact Nat.le_refl _))
      have HEND := Lib.hid (markin_end (mcells_len HNA.out) HM6.out.r HM6.out.below)
      clear hq
      go_wp2_with (first
        | ((with_reducible refine wpList_load_mid rfl 72 (.tmp 4) rfl w2.heap.size 0 ?_ (mcells mA) _ HRG.out Try.underlying72 ?_ HSI.out ?_); rfl; rfl)
        | ((with_reducible refine wpList_store_mid rfl 72 (.tmp 2) (.tmp 32) rfl w.heap.size 0 (mcells mA).toArray ?_ ?_ HTH.out HSA.out HOA.out ?_); rfl; rfl)
        | fail)
      exact bodyPost_ret (v := .tuple #[.agg (mcells mA).toArray, .bool true]) (results_ct rfl Try.underlying72 rfl _ _ w.heap.size (mcells mA) _ HSI.out rfl rfl (by exact HEND.out.1)) rfl ⟨HRES.out, HEND.out.2⟩
end Go.Proofs.Ytdbpnfceabklkaa
