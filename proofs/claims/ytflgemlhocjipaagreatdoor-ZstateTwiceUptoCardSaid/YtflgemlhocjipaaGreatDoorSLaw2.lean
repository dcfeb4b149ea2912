/-
  What ZstateTwice answers. Condition: memory holds the script and the transaction; no path is very long.
-/
import Derived.Test.YtflgemlhocjipaaGreatDoorSLaw1
import Derived.Test.YtflgemlhocjipaaGreatDoorSMath2
namespace Go.Proofs.YtflgemlhocjipaaGreatDoor
set_option maxRecDepth 100000
open Go.ChangeShapes Go.WideShapes Go.ChangeAt Go.RowKit Go.Proofs.Zn Go.Proofs.Zt
open Go.Proofs.Zs (St Lst Rep Tx)

set_option maxHeartbeats 8000000 in
theorem twice_law {w : World} {A : Option Addr} {n c : Nat} {l : List Opc} (h : Scr w A n l) (hn : n ≤ 9223372036854775807) (hP : ∀ o ∈ l, ∀ ch ∈ o.l, ch.path.length ≤ 2097152) {o : Opc} (ho : OpcOk w o) :
    Calls Tryz.prog 4 #[.slice A n c, .agg #[.int .i64 o.k, .int .i64 o.s, .int .i64 o.n, .int .i64 o.sp, .int .i64 o.now, .slice o.A o.m o.c]] w fun e w' => e = .returned (.bool true) ∧ Below w.heap.size w w' := by
  obtain ⟨w1, hw1⟩ : ∃ xx, xx = w.alloc (.cells #[.int .i64 o.k, .int .i64 o.s, .int .i64 o.n, .int .i64 o.sp, .int .i64 o.now, .slice o.A o.m o.c] 38) := ⟨_, rfl⟩
  obtain ⟨p, ep⟩ : ∃ xx, xx = w.heap.size := ⟨_, rfl⟩
  have hbw1 : Below w.heap.size w w1 := by rw [hw1]; exact box_below w _
  have hkp : w1.heap[p]? = some (.cells #[.int .i64 o.k, .int .i64 o.s, .int .i64 o.n, .int .i64 o.sp, .int .i64 o.now, .slice o.A o.m o.c] 38 (0, 0)) := by rw [hw1, ep]; exact new_block w _
  have HN := Lib.hid (snew_any w1)
  have HF1 : Hid (∀ (W : World), Below w.heap.size w W → Calls Tryz.prog 11 #[.slice A n c] W (FwPost l W)) := Lib.hid (fun W hW => few_any (h.below hW) hn)
  have HAL := Lib.hid (fun W => alive_any W)
  have HSC := Lib.hid h
  have HOK := Lib.hid ho
  have HZ1 : Hid (w.heap.size ≤ w1.heap.size) := Lib.hid hbw1.size
  have HPP := Lib.hid hP
  have HB1 := Lib.hid hbw1
  have HKP := Lib.hid hkp
  have HW1 := Lib.hid hw1
  have EPB := Lib.hid ep
  clear h ho hP hw1 ep hbw1 hkp hn
  go_enter Tryz.func4, Tryz.ntmps4
  go_upto_region 1 with fail
  rw [← HW1.out, ← EPB.out]
  go_wp2_with fail
  refine HN.out.mono ?_
  rintro e w2 ⟨sp, rfl, hst2, hb2⟩
  have HST2 := Lib.hid hst2
  have HB2 : Hid (Below w.heap.size w w2) := Lib.hid (HB1.out.trans (hb2.mono HB1.out.size))
  have HP2 := Lib.hid (blk_below HKP.out hb2)
  have HY2 : Hid (w1.heap.size ≤ w2.heap.size) := Lib.hid hb2.size
  clear hst2 hb2
  go_wp2_with fail
  refine (HF1.out w2 HB2.out).mono ?_
  rintro e w3 ⟨b1, rfl, hf1, hb3⟩
  have HB3 : Hid (Below w.heap.size w w3) := Lib.hid (HB2.out.trans (hb3.mono HB2.out.size))
  have HY3 : Hid (w1.heap.size ≤ w3.heap.size) := Lib.hid (Nat.le_trans HY2.out hb3.size)
  have HST3 := Lib.hid (HST2.out.below hb3)
  have HFW := Lib.hid hf1
  have HP3 := Lib.hid (blk_below HP2.out hb3)
  clear hf1 hb3
  cases b1 with
  | false =>
    go_wp2_with fail
    refine (HAL.out w3).mono ?_
    rintro e wz ⟨rfl, hbz⟩
    have HBZ := Lib.hid (HB3.out.trans (hbz.mono HB3.out.size))
    clear hbz
    go_wp2_with fail
    go_ret
    exact ⟨rfl, HBZ.out⟩
  | true =>
    have HFP := Lib.hid (HFW.out rfl)
    have hp3 := HP3.out
    have s0 := cell_of hp3 (j := 0) rfl
    have s1 := cell_of hp3 (j := 1) rfl
    have s2 := cell_of hp3 (j := 2) rfl
    have s3 := cell_of hp3 (j := 3) rfl
    have s4 := cell_of hp3 (j := 4) rfl
    have s5 := cell_of hp3 (j := 5) rfl
    obtain ⟨t2, ht2⟩ : ∃ t, decide ((20 : Int) < (o.m : Int)) = t := ⟨_, rfl⟩
    clear hp3 HFW
    cases t2 with
    | true =>
      go_wp2_with fail
      refine (HAL.out w3).mono ?_
      rintro e wz ⟨rfl, hbz⟩
      have HBZ := Lib.hid (HB3.out.trans (hbz.mono HB3.out.size))
      clear hbz
      go_wp2_with fail
      go_ret
      exact ⟨rfl, HBZ.out⟩
    | false =>
      have HV := Lib.hid (vnew_any w3 w1.heap.size)
      go_wp2_with fail
      refine HV.out.mono ?_
      rintro e w4 ⟨vT, rfl, hr4, hb4⟩
      have hB4 : Below w.heap.size w w4 := HB3.out.trans (hb4.mono HB3.out.size)
      have hY4 : w1.heap.size ≤ w4.heap.size := Nat.le_trans HY3.out hb4.size
      have HY4 := Lib.hid hY4
      have HP4 := Lib.hid (blk_below HP3.out hb4)
      have hln : l.length = n := HSC.out.rd.len
      have HPLY : Hid (Calls Tryz.prog 13 #[.pointer (some ⟨sp, 0, none⟩), .agg #[.int .i64 0, vT, .slice none 0 0, .slice none 0 0], .slice A n c] w4 (SyPost w1.heap.size sp (Zs.run Zs.new (l.map clO)) w4)) := Lib.hid
        (plays_any (S := Zs.new) (HST3.out.below hb4) Zs.new_gd hY4 hr4 hln (fun W hW => by
          have hWW : Below w.heap.size w W := hB4.trans ((hW.below hY4).mono HZ1.out)
          exact ⟨HSC.out.below hWW, fun o ho => (Tg.old (HSC.out.ok o ho).rd (fun c => ⟨_, rfl⟩) HZ1.out).below hWW⟩) HPP.out (by
          have h9 := HFP.out.2
          show 0 + n ≤ 10000
          omega))
      have HGD : Hid (Zs.Gd (Zs.run Zs.new (l.map clO))) := Lib.hid (Zs.run_gd Zs.new_gd _)
      obtain ⟨S, hS⟩ : ∃ s, Zs.run Zs.new (l.map clO) = s := ⟨_, rfl⟩
      rw [hS] at HPLY HGD
      have HB4 := Lib.hid hB4
      clear hr4 hb4 hB4 hY4 hln hS s0 s1 s2 s3 s4 s5 ht2
      go_wp2_with fail
      refine HPLY.out.mono ?_
      rintro e w5 ⟨v1, v2, v3, rfl, hst5, hr5, hk5⟩
      obtain ⟨⟨A1, c1, rfl, -, -⟩, ⟨A2, c2, rfl, -⟩, ⟨A3, c3, l3, rfl, -, -⟩⟩ := id hr5
      obtain ⟨nT, hnT⟩ : ∃ n, S.T.length = n := ⟨_, rfl⟩
      obtain ⟨nL, hnL⟩ : ∃ n, S.L.length = n := ⟨_, rfl⟩
      obtain ⟨nD, hnD⟩ : ∃ n, l3.length = n := ⟨_, rfl⟩
      rw [hnT, hnL, hnD] at hr5 ⊢
      obtain ⟨w6, hw6⟩ : ∃ xx, xx = w5.alloc (.cells #[.int .i64 S.z, .slice A1 nT c1, .slice A2 nL c2, .slice A3 nD c3] 31) := ⟨_, rfl⟩
      obtain ⟨q, eq⟩ : ∃ xx, xx = w5.heap.size := ⟨_, rfl⟩
      have hbw6 : Below w5.heap.size w5 w6 := by rw [hw6]; exact box_below w5 _
      have hkq : w6.heap[q]? = some (.cells #[.int .i64 S.z, .slice A1 nT c1, .slice A2 nL c2, .slice A3 nD c3] 31 (0, 0)) := by rw [hw6, eq]; exact new_block w5 _
      have HB6 : Hid (Below w.heap.size w w6) := Lib.hid ((HB4.out.trans ((hk5.below HY4.out).mono HZ1.out)).trans (hbw6.mono (Nat.le_trans HB4.out.size hk5.size)))
      have HY6 : Hid (w1.heap.size ≤ w6.heap.size) := Lib.hid (Nat.le_trans HY4.out (Nat.le_trans hk5.size hbw6.size))
      have HST6 := Lib.hid (hst5.below hbw6)
      have HQ6 := Lib.hid hkq
      have HP6 := Lib.hid (blk_below (hk5.blk HP4.out (by decide)) hbw6)
      have HNE : Hid (p ≠ q) := Lib.hid (fun e => by have h1 := HP6.out; rw [e, hkq] at h1; injection h1 with h1; injection h1 with _ h1 _; exact absurd h1 (by decide))
      have HW6 := Lib.hid hw6
      have EQ := Lib.hid eq
      have hp6 := HP6.out
      have f0 := frozen_of_row w6 p 0 _ _ hp6
      have s0 := cell_of hp6 (j := 0) rfl
      have s1 := cell_of hp6 (j := 1) rfl
      have s2 := cell_of hp6 (j := 2) rfl
      have s3 := cell_of hp6 (j := 3) rfl
      have s4 := cell_of hp6 (j := 4) rfl
      have s5 := cell_of hp6 (j := 5) rfl
      have t0 := cell_of hkq (j := 0) rfl
      have t1 := cell_of hkq (j := 1) rfl
      have t2 := cell_of hkq (j := 2) rfl
      have t3 := cell_of hkq (j := 3) rfl
      obtain ⟨zb, hzb⟩ : ∃ b, decide ((2305843009213693952 : Int) < S.z) = b := ⟨_, rfl⟩
      have HZB := Lib.hid hzb
      clear hst5 hr5 hk5 hw6 eq hbw6 hkq hnT hnL hnD hp6
      go_upto_region 5 with fail
      rw [← HW6.out, ← EQ.out]
      cases zb with
      | true =>
        go_wp2_with fail
        refine (HAL.out w6).mono ?_
        rintro e wz ⟨rfl, hbz⟩
        have HBZ := Lib.hid (HB6.out.trans (hbz.mono HB6.out.size))
        clear hbz
        go_wp2_with fail
        go_ret
        exact ⟨rfl, HBZ.out⟩
      | false =>
        obtain ⟨a, ha⟩ : ∃ a, Zs.app S (S.z + 1) ⟨4, o.s, o.n, o.sp, o.now, o.l⟩ = a := ⟨_, rfl⟩
        have hz0 : 0 ≤ S.z := HGD.out.z0
        have hz1 : S.z ≤ 2305843009213693952 := by have := of_decide_eq_false HZB.out; omega
        have hw1 : IntKind.i64.wrap (S.z + 1) = S.z + 1 := by rw [IntKind.wrap_i64]; omega
        have hw2 : IntKind.i64.wrap (S.z + 2) = S.z + 2 := by rw [IntKind.wrap_i64]; omega
        have HTW := Lib.hid (Zs.app_twice hz0 hz1 (t := ⟨4, o.s, o.n, o.sp, o.now, o.l⟩) rfl)
        have HGA : Hid (Zs.Gd a.1) := Lib.hid (by rw [← ha]; exact Zs.app_gd HGD.out _ _)
        have HAL6 : Hid (a.2.1.ps.length ≤ 6) := Lib.hid (by rw [← ha]; exact (app_lens HGD.out _ _).1)
        rw [ha] at HTW
        have HAA : Hid (Zs.app S (S.z + 1) (txO ⟨o.zx, 4, o.s, o.n, o.sp, o.now, o.A, o.m, o.c, o.l⟩) = a) := Lib.hid ha
        have HAB : Hid (Zs.app a.1 (S.z + 2) (txO ⟨o.zx, 4, o.s, o.n, o.sp, o.now, o.A, o.m, o.c, o.l⟩) = (⟨S.z + 2, a.1.T, a.1.L, a.1.D⟩, a.2.1, [])) := Lib.hid HTW.out.2
        obtain ⟨w7, hw7⟩ : ∃ xx, xx = w6.setCell ⟨p, 0, none⟩ (.int .i64 4) := ⟨_, rfl⟩
        obtain ⟨hwr7, hp7⟩ := seti HP6.out 0 (.int .i64 4)
        rw [← hw7] at hwr7 hp7
        have hp7' : w7.heap[p]? = some (.cells #[.int .i64 4, .int .i64 o.s, .int .i64 o.n, .int .i64 o.sp, .int .i64 o.now, .slice o.A o.m o.c] 38 (0, 0)) := hp7
        have HP7 := Lib.hid hp7'
        have HQ7 := Lib.hid (hwr7.blk (Ne.symm HNE.out) HQ6.out)
        have HST7 := Lib.hid (HST6.out.wr hwr7 HP6.out (by decide) (by decide))
        have HPG : Hid (w.heap.size ≤ p) := Lib.hid (Nat.le_of_eq EPB.out.symm)
        have HW7 := Lib.hid hw7
        have HOWN : Hid (∀ (W : World), Calls Tryz.prog 17 #[.agg #[.int .i64 4, .int .i64 o.s, .int .i64 o.n, .int .i64 o.sp, .int .i64 o.now, .slice o.A o.m o.c]] W fun e w' => e = .returned (.agg #[.int .i64 4, .int .i64 o.s, .int .i64 o.n, .int .i64 o.sp, .int .i64 o.now, .slice o.A o.m o.c]) ∧ Below W.heap.size W w') := Lib.hid (fun W => own_any W _ _ _ _ _ _ _ _)
        have HB7 : Hid (Below w.heap.size w w7) := Lib.hid (HB6.out.trans (hwr7.below.mono HPG.out))
        have HY7 : Hid (w1.heap.size ≤ w7.heap.size) := Lib.hid (Nat.le_trans HY6.out hwr7.below.size)
        clear hw7 hwr7 hp7 hp7' ha hzb
        have HAP1 : Hid (∀ (W : World), Below w7.heap.size w7 W → Calls Tryz.prog 16 #[.pointer (some ⟨sp, 0, none⟩), .int .i64 (S.z + 1), .agg #[.int .i64 4, .int .i64 o.s, .int .i64 o.n, .int .i64 o.sp, .int .i64 o.now, .slice o.A o.m o.c]] W (fun e w' => ∃ A8 c8 A9 c9, e = .returned (.tuple #[.agg #[.int .i64 a.2.1.c, .int .i64 a.2.1.s, .slice A8 a.2.1.ps.length c8], .slice A9 a.2.2.length c9]) ∧ StW w' w1.heap.size sp a.1 ∧ SK w1.heap.size W w' ∧ w'.ownsRow W.heap.size 9 1 (.slice A8 a.2.1.ps.length c8) a.2.1.ps.length (scells a.2.1.ps))) := Lib.hid (fun W hW => by
          have h9 := apply_own (o := ⟨o.zx, 4, o.s, o.n, o.sp, o.now, o.A, o.m, o.c, o.l⟩) (HST7.out.below hW) HGD.out (S.z + 1) ⟨((HOK.out.below HB7.out).below hW).rd, HOK.out.ok⟩ (((Tg.old HOK.out.rd (fun c => ⟨_, rfl⟩) HZ1.out).below HB7.out).below hW)
          rw [HAA.out] at h9
          refine h9.mono ?_
          rintro e w' ⟨vp, ve, rfl, h1, h2, h3, h4⟩
          obtain ⟨A8, c8, rfl, -, -, -⟩ := own_form h3
          obtain ⟨A9, c9, rfl, -, -, -⟩ := own_form h4
          exact ⟨A8, c8, A9, c9, rfl, h1, h2, h3⟩)
        go_upto_region 7 with fail
        go_upto_region 8 with fail
        rw [← HW7.out]
        clear s0 s1 s2 s3 s4 s5 t0 t1 t2 t3 f0
        have HSS : Hid (∀ (W : World), Below w7.heap.size w7 W → W.cell? ⟨p, 0, none⟩ = some (.int .i64 4) ∧ W.cell? ⟨p, 1, none⟩ = some (.int .i64 o.s) ∧ W.cell? ⟨p, 2, none⟩ = some (.int .i64 o.n) ∧ W.cell? ⟨p, 3, none⟩ = some (.int .i64 o.sp) ∧ W.cell? ⟨p, 4, none⟩ = some (.int .i64 o.now) ∧ W.cell? ⟨p, 5, none⟩ = some (.slice o.A o.m o.c) ∧ W.cell? ⟨q, 0, none⟩ = some (.int .i64 S.z)) := Lib.hid (fun W hW => ⟨cell_of (blk_below HP7.out hW) (j := 0) rfl, cell_of (blk_below HP7.out hW) (j := 1) rfl, cell_of (blk_below HP7.out hW) (j := 2) rfl, cell_of (blk_below HP7.out hW) (j := 3) rfl, cell_of (blk_below HP7.out hW) (j := 4) rfl, cell_of (blk_below HP7.out hW) (j := 5) rfl, cell_of (blk_below HQ7.out hW) (j := 0) rfl⟩)
        have HSK : Hid (∀ (U W : World), Below w7.heap.size w7 U → SK w1.heap.size U W → W.cell? ⟨p, 0, none⟩ = some (.int .i64 4) ∧ W.cell? ⟨p, 1, none⟩ = some (.int .i64 o.s) ∧ W.cell? ⟨p, 2, none⟩ = some (.int .i64 o.n) ∧ W.cell? ⟨p, 3, none⟩ = some (.int .i64 o.sp) ∧ W.cell? ⟨p, 4, none⟩ = some (.int .i64 o.now) ∧ W.cell? ⟨p, 5, none⟩ = some (.slice o.A o.m o.c) ∧ W.cell? ⟨q, 0, none⟩ = some (.int .i64 S.z)) := Lib.hid (fun U W hU hW => ⟨cell_of (hW.blk (blk_below HP7.out hU) (by decide)) (j := 0) rfl, cell_of (hW.blk (blk_below HP7.out hU) (by decide)) (j := 1) rfl, cell_of (hW.blk (blk_below HP7.out hU) (by decide)) (j := 2) rfl, cell_of (hW.blk (blk_below HP7.out hU) (by decide)) (j := 3) rfl, cell_of (hW.blk (blk_below HP7.out hU) (by decide)) (j := 4) rfl, cell_of (hW.blk (blk_below HP7.out hU) (by decide)) (j := 5) rfl, cell_of (hW.blk (blk_below HQ7.out hU) (by decide)) (j := 0) rfl⟩)
        have HSA : Hid (∀ (W : World) (x' : Obj), (W.cell? ⟨p, 0, none⟩ = some (.int .i64 4) ∧ W.cell? ⟨p, 1, none⟩ = some (.int .i64 o.s) ∧ W.cell? ⟨p, 2, none⟩ = some (.int .i64 o.n) ∧ W.cell? ⟨p, 3, none⟩ = some (.int .i64 o.sp) ∧ W.cell? ⟨p, 4, none⟩ = some (.int .i64 o.now) ∧ W.cell? ⟨p, 5, none⟩ = some (.slice o.A o.m o.c) ∧ W.cell? ⟨q, 0, none⟩ = some (.int .i64 S.z)) → (fun W => W.cell? ⟨p, 0, none⟩ = some (.int .i64 4) ∧ W.cell? ⟨p, 1, none⟩ = some (.int .i64 o.s) ∧ W.cell? ⟨p, 2, none⟩ = some (.int .i64 o.n) ∧ W.cell? ⟨p, 3, none⟩ = some (.int .i64 o.sp) ∧ W.cell? ⟨p, 4, none⟩ = some (.int .i64 o.now) ∧ W.cell? ⟨p, 5, none⟩ = some (.slice o.A o.m o.c) ∧ W.cell? ⟨q, 0, none⟩ = some (.int .i64 S.z)) (W.alloc x')) := Lib.hid (fun W x' h => ⟨cell_alloc h.1 x', cell_alloc h.2.1 x', cell_alloc h.2.2.1 x', cell_alloc h.2.2.2.1 x', cell_alloc h.2.2.2.2.1 x', cell_alloc h.2.2.2.2.2.1 x', cell_alloc h.2.2.2.2.2.2 x'⟩)
        have HSD : Hid (∀ (W : World) (u j : Nat) (v : Value), (u ≠ p ∧ u ≠ q) → (W.cell? ⟨p, 0, none⟩ = some (.int .i64 4) ∧ W.cell? ⟨p, 1, none⟩ = some (.int .i64 o.s) ∧ W.cell? ⟨p, 2, none⟩ = some (.int .i64 o.n) ∧ W.cell? ⟨p, 3, none⟩ = some (.int .i64 o.sp) ∧ W.cell? ⟨p, 4, none⟩ = some (.int .i64 o.now) ∧ W.cell? ⟨p, 5, none⟩ = some (.slice o.A o.m o.c) ∧ W.cell? ⟨q, 0, none⟩ = some (.int .i64 S.z)) → (fun W => W.cell? ⟨p, 0, none⟩ = some (.int .i64 4) ∧ W.cell? ⟨p, 1, none⟩ = some (.int .i64 o.s) ∧ W.cell? ⟨p, 2, none⟩ = some (.int .i64 o.n) ∧ W.cell? ⟨p, 3, none⟩ = some (.int .i64 o.sp) ∧ W.cell? ⟨p, 4, none⟩ = some (.int .i64 o.now) ∧ W.cell? ⟨p, 5, none⟩ = some (.slice o.A o.m o.c) ∧ W.cell? ⟨q, 0, none⟩ = some (.int .i64 S.z)) (W.setCell ⟨u, j, none⟩ v)) := Lib.hid (fun W u j v hu h => by
          have kk : ∀ o' u', W.cell? ⟨p, o', none⟩ = some u' → (W.setCell ⟨u, j, none⟩ v).cell? ⟨p, o', none⟩ = some u' := fun o' u' hx => by rw [World.cell?_setCell_far _ _ _ _ hu.1]; exact hx
          have kq : ∀ o' u', W.cell? ⟨q, o', none⟩ = some u' → (W.setCell ⟨u, j, none⟩ v).cell? ⟨q, o', none⟩ = some u' := fun o' u' hx => by rw [World.cell?_setCell_far _ _ _ _ hu.2]; exact hx
          exact ⟨kk _ _ h.1, kk _ _ h.2.1, kk _ _ h.2.2.1, kk _ _ h.2.2.2.1, kk _ _ h.2.2.2.2.1, kk _ _ h.2.2.2.2.2.1, kq _ _ h.2.2.2.2.2.2⟩)
        have hne7 : w7.heap.size ≠ p ∧ w7.heap.size ≠ q := by have h1 := blk_lt HP7.out; have h2 := blk_lt HQ7.out; omega
        obtain ⟨e0, e1, e2, e3, e4, e5, e6⟩ := HSS.out w7 (Below.refl _ _)
        go_cut [8, 9] from 16 (fun p' v wx => ∃ u A8 c8 A9 c9 w8, p' = .pointer (some ⟨u, 0, none⟩) ∧ v = .slice A9 a.2.2.length c9 ∧ wx = w8 ∧ Hid (StW w8 w1.heap.size sp a.1) ∧ Hid (SK w1.heap.size w7 w8) ∧ Hid (w8.heap[u]? = some (.cells #[.int .i64 a.2.1.c, .int .i64 a.2.1.s, .slice A8 a.2.1.ps.length c8] 42 (0, 0))) ∧ Hid (PsW w8 w1.heap.size (.slice A8 a.2.1.ps.length c8) a.2.1.ps))
        case first =>
          go_region_held3 (fun W => W.cell? ⟨p, 0, none⟩ = some (.int .i64 4) ∧ W.cell? ⟨p, 1, none⟩ = some (.int .i64 o.s) ∧ W.cell? ⟨p, 2, none⟩ = some (.int .i64 o.n) ∧ W.cell? ⟨p, 3, none⟩ = some (.int .i64 o.sp) ∧ W.cell? ⟨p, 4, none⟩ = some (.int .i64 o.now) ∧ W.cell? ⟨p, 5, none⟩ = some (.slice o.A o.m o.c) ∧ W.cell? ⟨q, 0, none⟩ = some (.int .i64 S.z))
            (first
              | (with_reducible assumption)
              | (with_reducible exact HSS.out _ (Below.refl _ _).drew)
              | (with_reducible exact HSS.out _ (box_below _ _).drew)
              | (with_reducible exact HSS.out _ (by assumption))
              | (with_reducible exact HSA.out _ _ (by assumption))
              | (with_reducible exact HSD.out _ _ _ _ (by assumption) (HSD.out _ _ _ _ (by assumption) (HSD.out _ _ _ _ (by assumption) (by assumption)))))
            (first
              | (go_at_call 17; (with_reducible refine (HOWN.out _).mono ?_); rintro e u2 ⟨rfl, hu2⟩; have hU2 : Below w7.heap.size w7 u2 := (by first | exact (Below.refl w7.heap.size w7).drew.trans (hu2.mono (Nat.le_refl _)) | exact (box_below w7 _).drew.trans (hu2.mono ((box_below w7 _).drew.size))); have hS2 := HSS.out u2 hU2; have hne2 : u2.heap.size ≠ p ∧ u2.heap.size ≠ q := (by have h1 := blk_lt HP7.out; have h2 := blk_lt HQ7.out; have h9 := hU2.size; omega); try have hz2 := blk_below (w := (w7.alloc (.cells #[.int .i64 0, .int .i64 0, .slice none 0 0] 42)).drew) (new_block w7 _) hu2)
              | (go_at_call 16; (with_reducible refine (HAP1.out _ (by first | exact hU2 | exact hU2.trans ((box_below u2 _).mono hU2.size))).mono ?_); rintro e u3 ⟨A8, c8, A9, c9, rfl, hst3, hsk3, hp3⟩; have hS3 := HSK.out _ u3 (by first | exact hU2 | exact hU2.trans ((box_below u2 _).mono hU2.size)) hsk3; first | (have hz3 := hsk3.blk hz2 (by decide); have y0 := cell_of hz3 (j := 0) rfl; have y1 := cell_of hz3 (j := 1) rfl; have y2 := cell_of hz3 (j := 2) rfl; have g0 := frozen_of_row u3 _ 0 _ _ hz3; have g1 := frozen_of_row u3 _ 1 _ _ hz3; have g2 := frozen_of_row u3 _ 2 _ _ hz3) | (have hz3 := hsk3.blk (new_block u2 (.cells #[.int .i64 0, .int .i64 0, .slice none 0 0] 42)) (by decide); have y0 := cell_of hz3 (j := 0) rfl; have y1 := cell_of hz3 (j := 1) rfl; have y2 := cell_of hz3 (j := 2) rfl; have g0 := frozen_of_row u3 _ 0 _ _ hz3; have g1 := frozen_of_row u3 _ 1 _ _ hz3; have g2 := frozen_of_row u3 _ 2 _ _ hz3) | (have hxx : Below w7.heap.size w7.drew u2 := hu2)))
          all_goals rename_i hHeld
          all_goals
            first
              | (obtain ⟨w8, hw8⟩ : ∃ xx, xx = u3.alloc (.cells #[.int .i64 a.2.1.c, .int .i64 a.2.1.s, .slice A8 a.2.1.ps.length c8] 42) := ⟨_, rfl⟩
                 obtain ⟨u, eu⟩ : ∃ xx, xx = u3.heap.size := ⟨_, rfl⟩
                 have hb8 : Below u3.heap.size u3 w8 := by rw [hw8]; exact box_below _ _
                 have hk8 : w8.heap[u]? = some (.cells #[.int .i64 a.2.1.c, .int .i64 a.2.1.s, .slice A8 a.2.1.ps.length c8] 42 (0, 0)) := by rw [hw8, eu]; exact new_block _ _
                 have HS8 := Lib.hid (hst3.below hb8)
                 have HSK8 : Hid (SK w1.heap.size w7 w8) := Lib.hid (((SK.of_below hU2).trans hsk3).trans (.of_below hb8))
                 have HK8 := Lib.hid hk8
                 have HP8 := Lib.hid (PsW.of_own (B := w1.heap.size) (own_below hp3 hb8))
                 rw [← hw8, ← eu]
                 clear hw8 eu hb8 hk8)
              | (obtain ⟨u, eu⟩ : ∃ xx, xx = w7.heap.size := ⟨_, rfl⟩
                 rw [← eu] at hz3
                 obtain ⟨w8, hw8⟩ : ∃ xx, xx = (((u3.setCell ⟨u, 0, none⟩ (.int .i64 a.2.1.c)).setCell ⟨u, 1, none⟩ (.int .i64 a.2.1.s)).setCell ⟨u, 2, none⟩ (.slice A8 a.2.1.ps.length c8)) := ⟨_, rfl⟩
                 obtain ⟨hwr8, hk8⟩ := set3 hz3 (.int .i64 a.2.1.c) (.int .i64 a.2.1.s) (.slice A8 a.2.1.ps.length c8)
                 rw [← hw8] at hwr8 hk8
                 have HSK8 : Hid (SK w1.heap.size w7 w8) := Lib.hid (Wr.fresh ((SK.of_below hU2).trans hsk3) (Nat.le_of_eq eu.symm) hwr8)
                 have HS8 := Lib.hid (hst3.wr hwr8 hz3 (by decide) (by decide))
                 have HK8 := Lib.hid hk8
                 have HP8 := Lib.hid (PsW.of_own (B := w1.heap.size) (Wr.own hwr8 hz3 hp3 (by decide)))
                 rw [← eu, ← hw8]
                 clear hw8 hwr8 hk8 y0 y1 y2 g0 g1 g2)
              | (obtain ⟨u, eu⟩ : ∃ xx, xx = u2.heap.size := ⟨_, rfl⟩
                 rw [← eu] at hz3
                 obtain ⟨w8, hw8⟩ : ∃ xx, xx = (((u3.setCell ⟨u, 0, none⟩ (.int .i64 a.2.1.c)).setCell ⟨u, 1, none⟩ (.int .i64 a.2.1.s)).setCell ⟨u, 2, none⟩ (.slice A8 a.2.1.ps.length c8)) := ⟨_, rfl⟩
                 obtain ⟨hwr8, hk8⟩ := set3 hz3 (.int .i64 a.2.1.c) (.int .i64 a.2.1.s) (.slice A8 a.2.1.ps.length c8)
                 rw [← hw8] at hwr8 hk8
                 have HSK8 : Hid (SK w1.heap.size w7 w8) := Lib.hid (Wr.fresh ((SK.of_below (hU2.trans ((box_below u2 _).mono hU2.size))).trans hsk3) (by rw [eu]; exact hU2.size) hwr8)
                 have HS8 := Lib.hid (hst3.wr hwr8 hz3 (by decide) (by decide))
                 have HK8 := Lib.hid hk8
                 have HP8 := Lib.hid (PsW.of_own (B := w1.heap.size) (Wr.own hwr8 hz3 hp3 (by decide)))
                 rw [← eu, ← hw8]
                 clear hw8 hwr8 hk8 y0 y1 y2 g0 g1 g2)
          all_goals
            clear hHeld
            go_wp2_with fail
            go_meet
            exact ⟨u, A8, c8, A9, c9, w8, rfl, rfl, rfl, HS8, HSK8, HK8, HP8⟩
        case rest =>
          obtain ⟨u, A8, c8, A9, c9, w8, rfl, rfl, hwc, HS8, HSK8, HK8, HPR8⟩ := hcut
          obtain rfl : w8 = wc := hwc.symm
          have HP8 := Lib.hid (HSK8.out.blk HP7.out (by decide))
          have HQ8 := Lib.hid (HSK8.out.blk HQ7.out (by decide))
          have HB8 : Hid (Below w.heap.size w w8) := Lib.hid (HB7.out.trans ((HSK8.out.below HY7.out).mono HZ1.out))
          have HY8 : Hid (w1.heap.size ≤ w8.heap.size) := Lib.hid (Nat.le_trans HY7.out HSK8.out.size)
          have HSE8 := Lib.hid (seen_any HS8.out HGA.out)
          clear hwc
          go_wp2_with fail
          refine HSE8.out.mono ?_
          rintro e w9 ⟨vT9, vL9, vD9, rfl, hr9, hb9⟩
          obtain ⟨⟨B1, d1, rfl, -, -⟩, ⟨B2, d2, rfl, -⟩, ⟨B3, d3, l9, rfl, -, -⟩⟩ := id hr9
          dsimp only at *
          obtain ⟨mT, hm1⟩ : ∃ n, a.1.T.length = n := ⟨_, rfl⟩
          obtain ⟨mL, hm2⟩ : ∃ n, a.1.L.length = n := ⟨_, rfl⟩
          obtain ⟨mD, hm3⟩ : ∃ n, l9.length = n := ⟨_, rfl⟩
          rw [hm1, hm2, hm3] at hr9 ⊢
          obtain ⟨w10, hw10⟩ : ∃ xx, xx = w9.alloc (.cells #[.int .i64 a.1.z, .slice B1 mT d1, .slice B2 mL d2, .slice B3 mD d3] 31) := ⟨_, rfl⟩
          obtain ⟨ra, era⟩ : ∃ xx, xx = w9.heap.size := ⟨_, rfl⟩
          have hbw10 : Below w9.heap.size w9 w10 := by rw [hw10]; exact box_below w9 _
          have hkra : w10.heap[ra]? = some (.cells #[.int .i64 a.1.z, .slice B1 mT d1, .slice B2 mL d2, .slice B3 mD d3] 31 (0, 0)) := by rw [hw10, era]; exact new_block w9 _
          have hb10 := hb9.trans (hbw10.mono hb9.size)
          have HP10 := Lib.hid (blk_below HP8.out hb10)
          have HQ10 := Lib.hid (blk_below HQ8.out hb10)
          have HK10 := Lib.hid (blk_below HK8.out hb10)
          have HR10 := Lib.hid hkra
          have HRW10 := Lib.hid (hr9.below hbw10)
          have HST10 := Lib.hid (HS8.out.below hb10)
          have HPR10 := Lib.hid (HPR8.out.sk (.of_below hb10))
          have HB10 : Hid (Below w.heap.size w w10) := Lib.hid (HB8.out.trans (hb10.mono HB8.out.size))
          have HY10 : Hid (w1.heap.size ≤ w10.heap.size) := Lib.hid (Nat.le_trans HY8.out hb10.size)
          have HW10 := Lib.hid hw10
          have ERA := Lib.hid era
          clear hr9 hb9 hbw10 hkra hb10 hw10 era hm1 hm2 hm3
          have HAP2 : Hid (∀ (W : World), Below w10.heap.size w10 W → Calls Tryz.prog 16 #[.pointer (some ⟨sp, 0, none⟩), .int .i64 (S.z + 2), .agg #[.int .i64 4, .int .i64 o.s, .int .i64 o.n, .int .i64 o.sp, .int .i64 o.now, .slice o.A o.m o.c]] W (fun e w' => ∃ A8 c8 A9 c9, e = .returned (.tuple #[.agg #[.int .i64 a.2.1.c, .int .i64 a.2.1.s, .slice A8 a.2.1.ps.length c8], .slice A9 0 c9]) ∧ StW w' w1.heap.size sp ⟨S.z + 2, a.1.T, a.1.L, a.1.D⟩ ∧ SK w1.heap.size W w' ∧ w'.ownsRow W.heap.size 9 1 (.slice A8 a.2.1.ps.length c8) a.2.1.ps.length (scells a.2.1.ps))) := Lib.hid (fun W hW => by
            have h9 := apply_own (o := ⟨o.zx, 4, o.s, o.n, o.sp, o.now, o.A, o.m, o.c, o.l⟩) (HST10.out.below hW) HGA.out (S.z + 2) ⟨((HOK.out.below HB10.out).below hW).rd, HOK.out.ok⟩ (((Tg.old HOK.out.rd (fun c => ⟨_, rfl⟩) HZ1.out).below HB10.out).below hW)
            rw [HAB.out] at h9
            refine h9.mono ?_
            rintro e w' ⟨vp, ve, rfl, h1, h2, h3, h4⟩
            obtain ⟨A8, c8, rfl, -, -, -⟩ := own_form h3
            obtain ⟨A9, c9, rfl, -, -, -⟩ := own_form h4
            exact ⟨A8, c8, A9, c9, rfl, h1, h2, h3⟩)
          go_upto_region 10 with fail
          rw [← HW10.out, ← ERA.out]
          have HSS : Hid (∀ (W : World), Below w10.heap.size w10 W → W.cell? ⟨p, 0, none⟩ = some (.int .i64 4) ∧ W.cell? ⟨p, 1, none⟩ = some (.int .i64 o.s) ∧ W.cell? ⟨p, 2, none⟩ = some (.int .i64 o.n) ∧ W.cell? ⟨p, 3, none⟩ = some (.int .i64 o.sp) ∧ W.cell? ⟨p, 4, none⟩ = some (.int .i64 o.now) ∧ W.cell? ⟨p, 5, none⟩ = some (.slice o.A o.m o.c) ∧ W.cell? ⟨q, 0, none⟩ = some (.int .i64 S.z)) := Lib.hid (fun W hW => ⟨cell_of (blk_below HP10.out hW) (j := 0) rfl, cell_of (blk_below HP10.out hW) (j := 1) rfl, cell_of (blk_below HP10.out hW) (j := 2) rfl, cell_of (blk_below HP10.out hW) (j := 3) rfl, cell_of (blk_below HP10.out hW) (j := 4) rfl, cell_of (blk_below HP10.out hW) (j := 5) rfl, cell_of (blk_below HQ10.out hW) (j := 0) rfl⟩)
          have HSK : Hid (∀ (U W : World), Below w10.heap.size w10 U → SK w1.heap.size U W → W.cell? ⟨p, 0, none⟩ = some (.int .i64 4) ∧ W.cell? ⟨p, 1, none⟩ = some (.int .i64 o.s) ∧ W.cell? ⟨p, 2, none⟩ = some (.int .i64 o.n) ∧ W.cell? ⟨p, 3, none⟩ = some (.int .i64 o.sp) ∧ W.cell? ⟨p, 4, none⟩ = some (.int .i64 o.now) ∧ W.cell? ⟨p, 5, none⟩ = some (.slice o.A o.m o.c) ∧ W.cell? ⟨q, 0, none⟩ = some (.int .i64 S.z)) := Lib.hid (fun U W hU hW => ⟨cell_of (hW.blk (blk_below HP10.out hU) (by decide)) (j := 0) rfl, cell_of (hW.blk (blk_below HP10.out hU) (by decide)) (j := 1) rfl, cell_of (hW.blk (blk_below HP10.out hU) (by decide)) (j := 2) rfl, cell_of (hW.blk (blk_below HP10.out hU) (by decide)) (j := 3) rfl, cell_of (hW.blk (blk_below HP10.out hU) (by decide)) (j := 4) rfl, cell_of (hW.blk (blk_below HP10.out hU) (by decide)) (j := 5) rfl, cell_of (hW.blk (blk_below HQ10.out hU) (by decide)) (j := 0) rfl⟩)
          have HSA : Hid (∀ (W : World) (x' : Obj), (W.cell? ⟨p, 0, none⟩ = some (.int .i64 4) ∧ W.cell? ⟨p, 1, none⟩ = some (.int .i64 o.s) ∧ W.cell? ⟨p, 2, none⟩ = some (.int .i64 o.n) ∧ W.cell? ⟨p, 3, none⟩ = some (.int .i64 o.sp) ∧ W.cell? ⟨p, 4, none⟩ = some (.int .i64 o.now) ∧ W.cell? ⟨p, 5, none⟩ = some (.slice o.A o.m o.c) ∧ W.cell? ⟨q, 0, none⟩ = some (.int .i64 S.z)) → (fun W => W.cell? ⟨p, 0, none⟩ = some (.int .i64 4) ∧ W.cell? ⟨p, 1, none⟩ = some (.int .i64 o.s) ∧ W.cell? ⟨p, 2, none⟩ = some (.int .i64 o.n) ∧ W.cell? ⟨p, 3, none⟩ = some (.int .i64 o.sp) ∧ W.cell? ⟨p, 4, none⟩ = some (.int .i64 o.now) ∧ W.cell? ⟨p, 5, none⟩ = some (.slice o.A o.m o.c) ∧ W.cell? ⟨q, 0, none⟩ = some (.int .i64 S.z)) (W.alloc x')) := Lib.hid (fun W x' h => ⟨cell_alloc h.1 x', cell_alloc h.2.1 x', cell_alloc h.2.2.1 x', cell_alloc h.2.2.2.1 x', cell_alloc h.2.2.2.2.1 x', cell_alloc h.2.2.2.2.2.1 x', cell_alloc h.2.2.2.2.2.2 x'⟩)
          have HSD : Hid (∀ (W : World) (u j : Nat) (v : Value), (u ≠ p ∧ u ≠ q) → (W.cell? ⟨p, 0, none⟩ = some (.int .i64 4) ∧ W.cell? ⟨p, 1, none⟩ = some (.int .i64 o.s) ∧ W.cell? ⟨p, 2, none⟩ = some (.int .i64 o.n) ∧ W.cell? ⟨p, 3, none⟩ = some (.int .i64 o.sp) ∧ W.cell? ⟨p, 4, none⟩ = some (.int .i64 o.now) ∧ W.cell? ⟨p, 5, none⟩ = some (.slice o.A o.m o.c) ∧ W.cell? ⟨q, 0, none⟩ = some (.int .i64 S.z)) → (fun W => W.cell? ⟨p, 0, none⟩ = some (.int .i64 4) ∧ W.cell? ⟨p, 1, none⟩ = some (.int .i64 o.s) ∧ W.cell? ⟨p, 2, none⟩ = some (.int .i64 o.n) ∧ W.cell? ⟨p, 3, none⟩ = some (.int .i64 o.sp) ∧ W.cell? ⟨p, 4, none⟩ = some (.int .i64 o.now) ∧ W.cell? ⟨p, 5, none⟩ = some (.slice o.A o.m o.c) ∧ W.cell? ⟨q, 0, none⟩ = some (.int .i64 S.z)) (W.setCell ⟨u, j, none⟩ v)) := Lib.hid (fun W u j v hu h => by
            have kk : ∀ o' u', W.cell? ⟨p, o', none⟩ = some u' → (W.setCell ⟨u, j, none⟩ v).cell? ⟨p, o', none⟩ = some u' := fun o' u' hx => by rw [World.cell?_setCell_far _ _ _ _ hu.1]; exact hx
            have kq : ∀ o' u', W.cell? ⟨q, o', none⟩ = some u' → (W.setCell ⟨u, j, none⟩ v).cell? ⟨q, o', none⟩ = some u' := fun o' u' hx => by rw [World.cell?_setCell_far _ _ _ _ hu.2]; exact hx
            exact ⟨kk _ _ h.1, kk _ _ h.2.1, kk _ _ h.2.2.1, kk _ _ h.2.2.2.1, kk _ _ h.2.2.2.2.1, kk _ _ h.2.2.2.2.2.1, kq _ _ h.2.2.2.2.2.2⟩)
          have hne7 : w10.heap.size ≠ p ∧ w10.heap.size ≠ q := by have h1 := blk_lt HP10.out; have h2 := blk_lt HQ10.out; omega
          obtain ⟨e0, e1, e2, e3, e4, e5, e6⟩ := HSS.out w10 (Below.refl _ _)
          go_cut [12, 13] from 16 (fun p' v wx => ∃ ux E8 k8 E9 k9 w12, p' = .pointer (some ⟨ux, 0, none⟩) ∧ v = .slice E9 0 k9 ∧ wx = w12 ∧ Hid (StW w12 w1.heap.size sp ⟨S.z + 2, a.1.T, a.1.L, a.1.D⟩) ∧ Hid (SK w1.heap.size w10 w12) ∧ Hid (w12.heap[ux]? = some (.cells #[.int .i64 a.2.1.c, .int .i64 a.2.1.s, .slice E8 a.2.1.ps.length k8] 42 (0, 0))) ∧ Hid (PsW w12 w1.heap.size (.slice E8 a.2.1.ps.length k8) a.2.1.ps))
          case first =>
            go_region_held3 (fun W => W.cell? ⟨p, 0, none⟩ = some (.int .i64 4) ∧ W.cell? ⟨p, 1, none⟩ = some (.int .i64 o.s) ∧ W.cell? ⟨p, 2, none⟩ = some (.int .i64 o.n) ∧ W.cell? ⟨p, 3, none⟩ = some (.int .i64 o.sp) ∧ W.cell? ⟨p, 4, none⟩ = some (.int .i64 o.now) ∧ W.cell? ⟨p, 5, none⟩ = some (.slice o.A o.m o.c) ∧ W.cell? ⟨q, 0, none⟩ = some (.int .i64 S.z))
              (first
                | (with_reducible assumption)
                | (with_reducible exact HSS.out _ (Below.refl _ _).drew)
                | (with_reducible exact HSS.out _ (box_below _ _).drew)
                | (with_reducible exact HSS.out _ (by assumption))
                | (with_reducible exact HSA.out _ _ (by assumption))
                | (with_reducible exact HSD.out _ _ _ _ (by assumption) (HSD.out _ _ _ _ (by assumption) (HSD.out _ _ _ _ (by assumption) (by assumption)))))
              (first
                | (go_at_call 17; (with_reducible refine (HOWN.out _).mono ?_); rintro e u2 ⟨rfl, hu2⟩; have hU2 : Below w10.heap.size w10 u2 := (by first | exact (Below.refl w10.heap.size w10).drew.trans (hu2.mono (Nat.le_refl _)) | exact (box_below w10 _).drew.trans (hu2.mono ((box_below w10 _).drew.size))); have hS2 := HSS.out u2 hU2; have hne2 : u2.heap.size ≠ p ∧ u2.heap.size ≠ q := (by have h1 := blk_lt HP10.out; have h2 := blk_lt HQ10.out; have h9 := hU2.size; omega); try have hz2 := blk_below (w := (w10.alloc (.cells #[.int .i64 0, .int .i64 0, .slice none 0 0] 42)).drew) (new_block w10 _) hu2)
                | (go_at_call 16; (with_reducible refine (HAP2.out _ (by first | exact hU2 | exact hU2.trans ((box_below u2 _).mono hU2.size))).mono ?_); rintro e u3 ⟨E8, k8, E9, k9, rfl, hst3, hsk3, hp3⟩; have hS3 := HSK.out _ u3 (by first | exact hU2 | exact hU2.trans ((box_below u2 _).mono hU2.size)) hsk3; first | (have hz3 := hsk3.blk hz2 (by decide); have y0 := cell_of hz3 (j := 0) rfl; have y1 := cell_of hz3 (j := 1) rfl; have y2 := cell_of hz3 (j := 2) rfl; have g0 := frozen_of_row u3 _ 0 _ _ hz3; have g1 := frozen_of_row u3 _ 1 _ _ hz3; have g2 := frozen_of_row u3 _ 2 _ _ hz3) | (have hz3 := hsk3.blk (new_block u2 (.cells #[.int .i64 0, .int .i64 0, .slice none 0 0] 42)) (by decide); have y0 := cell_of hz3 (j := 0) rfl; have y1 := cell_of hz3 (j := 1) rfl; have y2 := cell_of hz3 (j := 2) rfl; have g0 := frozen_of_row u3 _ 0 _ _ hz3; have g1 := frozen_of_row u3 _ 1 _ _ hz3; have g2 := frozen_of_row u3 _ 2 _ _ hz3) | (have hxx : Below w10.heap.size w10.drew u2 := hu2)))
            all_goals rename_i hHeld
            all_goals
              first
                | (obtain ⟨w12, hw8⟩ : ∃ xx, xx = u3.alloc (.cells #[.int .i64 a.2.1.c, .int .i64 a.2.1.s, .slice E8 a.2.1.ps.length k8] 42) := ⟨_, rfl⟩
                   obtain ⟨ux, eu⟩ : ∃ xx, xx = u3.heap.size := ⟨_, rfl⟩
                   have hb8 : Below u3.heap.size u3 w12 := by rw [hw8]; exact box_below _ _
                   have hk8 : w12.heap[ux]? = some (.cells #[.int .i64 a.2.1.c, .int .i64 a.2.1.s, .slice E8 a.2.1.ps.length k8] 42 (0, 0)) := by rw [hw8, eu]; exact new_block _ _
                   have HS8 := Lib.hid (hst3.below hb8)
                   have HSK8 : Hid (SK w1.heap.size w10 w12) := Lib.hid (((SK.of_below hU2).trans hsk3).trans (.of_below hb8))
                   have HK8 := Lib.hid hk8
                   have HP8 := Lib.hid (PsW.of_own (B := w1.heap.size) (own_below hp3 hb8))
                   rw [← hw8, ← eu]
                   clear hw8 eu hb8 hk8)
                | (obtain ⟨ux, eu⟩ : ∃ xx, xx = w10.heap.size := ⟨_, rfl⟩
                   rw [← eu] at hz3
                   obtain ⟨w12, hw8⟩ : ∃ xx, xx = (((u3.setCell ⟨ux, 0, none⟩ (.int .i64 a.2.1.c)).setCell ⟨ux, 1, none⟩ (.int .i64 a.2.1.s)).setCell ⟨ux, 2, none⟩ (.slice E8 a.2.1.ps.length k8)) := ⟨_, rfl⟩
                   obtain ⟨hwr8, hk8⟩ := set3 hz3 (.int .i64 a.2.1.c) (.int .i64 a.2.1.s) (.slice E8 a.2.1.ps.length k8)
                   rw [← hw8] at hwr8 hk8
                   have HSK8 : Hid (SK w1.heap.size w10 w12) := Lib.hid (Wr.fresh ((SK.of_below hU2).trans hsk3) (Nat.le_of_eq eu.symm) hwr8)
                   have HS8 := Lib.hid (hst3.wr hwr8 hz3 (by decide) (by decide))
                   have HK8 := Lib.hid hk8
                   have HP8 := Lib.hid (PsW.of_own (B := w1.heap.size) (Wr.own hwr8 hz3 hp3 (by decide)))
                   rw [← eu, ← hw8]
                   clear hw8 hwr8 hk8 y0 y1 y2 g0 g1 g2)
                | (obtain ⟨ux, eu⟩ : ∃ xx, xx = u2.heap.size := ⟨_, rfl⟩
                   rw [← eu] at hz3
                   obtain ⟨w12, hw8⟩ : ∃ xx, xx = (((u3.setCell ⟨ux, 0, none⟩ (.int .i64 a.2.1.c)).setCell ⟨ux, 1, none⟩ (.int .i64 a.2.1.s)).setCell ⟨ux, 2, none⟩ (.slice E8 a.2.1.ps.length k8)) := ⟨_, rfl⟩
                   obtain ⟨hwr8, hk8⟩ := set3 hz3 (.int .i64 a.2.1.c) (.int .i64 a.2.1.s) (.slice E8 a.2.1.ps.length k8)
                   rw [← hw8] at hwr8 hk8
                   have HSK8 : Hid (SK w1.heap.size w10 w12) := Lib.hid (Wr.fresh ((SK.of_below (hU2.trans ((box_below u2 _).mono hU2.size))).trans hsk3) (by rw [eu]; exact hU2.size) hwr8)
                   have HS8 := Lib.hid (hst3.wr hwr8 hz3 (by decide) (by decide))
                   have HK8 := Lib.hid hk8
                   have HP8 := Lib.hid (PsW.of_own (B := w1.heap.size) (Wr.own hwr8 hz3 hp3 (by decide)))
                   rw [← eu, ← hw8]
                   clear hw8 hwr8 hk8 y0 y1 y2 g0 g1 g2)
            all_goals
              clear hHeld
              go_wp2_with fail
              go_meet
              exact ⟨ux, E8, k8, E9, k9, w12, rfl, rfl, rfl, HS8, HSK8, HK8, HP8⟩
          case rest =>
            obtain ⟨ux, E8, k8, E9, k9, w12, rfl, rfl, hwc, HS12, HSK12, HK12, HPR12⟩ := hcut
            obtain rfl : w12 = wc := hwc.symm
            have HGB : Hid (Zs.Gd ⟨S.z + 2, a.1.T, a.1.L, a.1.D⟩) := Lib.hid (Zs.set_gd HGA.out (by omega) (by unfold mx; omega))
            have HSE12 := Lib.hid (seen_any HS12.out HGB.out)
            have HB12 : Hid (Below w.heap.size w w12) := Lib.hid (HB10.out.trans ((HSK12.out.below HY10.out).mono HZ1.out))
            have HU12 := Lib.hid (HSK12.out.blk HK10.out (by decide))
            have HR12 := Lib.hid (HSK12.out.blk HR10.out (by decide))
            have HRW12 := Lib.hid (HRW10.out.sk HSK12.out)
            have HPU12 := Lib.hid (HPR10.out.sk HSK12.out)
            clear hwc
            go_wp2_with fail
            refine HSE12.out.mono ?_
            rintro e w13 ⟨vT9, vL9, vD9, rfl, hr9, hb9⟩
            obtain ⟨⟨F1, f1, rfl, -, -⟩, ⟨F2, f2, rfl, -⟩, ⟨F3, f3, l13, rfl, -, -⟩⟩ := id hr9
            dsimp only at *
            obtain ⟨qT, hm1⟩ : ∃ n, a.1.T.length = n := ⟨_, rfl⟩
            obtain ⟨qL, hm2⟩ : ∃ n, a.1.L.length = n := ⟨_, rfl⟩
            obtain ⟨qD, hm3⟩ : ∃ n, l13.length = n := ⟨_, rfl⟩
            rw [hm1, hm2, hm3] at hr9 ⊢
            obtain ⟨w14, hw14⟩ : ∃ xx, xx = w13.alloc (.cells #[.int .i64 (S.z + 2), .slice F1 qT f1, .slice F2 qL f2, .slice F3 qD f3] 31) := ⟨_, rfl⟩
            obtain ⟨rb, erb⟩ : ∃ xx, xx = w13.heap.size := ⟨_, rfl⟩
            have hbw14 : Below w13.heap.size w13 w14 := by rw [hw14]; exact box_below w13 _
            have hkrb : w14.heap[rb]? = some (.cells #[.int .i64 (S.z + 2), .slice F1 qT f1, .slice F2 qL f2, .slice F3 qD f3] 31 (0, 0)) := by rw [hw14, erb]; exact new_block w13 _
            have hb14 := hb9.trans (hbw14.mono hb9.size)
            have HB14 : Hid (Below w.heap.size w w14) := Lib.hid (HB12.out.trans (hb14.mono HB12.out.size))
            have hra14 := blk_below HR12.out hb14
            have hrab : rb ≠ ra := by have h1 := blk_lt (blk_below HR12.out hb9); omega
            obtain ⟨w15, hw15⟩ : ∃ xx, xx = w14.setCell ⟨rb, 0, none⟩ (.int .i64 a.1.z) := ⟨_, rfl⟩
            obtain ⟨hwr15, hk15⟩ := seti hkrb 0 (.int .i64 a.1.z)
            rw [← hw15] at hwr15 hk15
            have hk15' : w15.heap[rb]? = some (.cells #[.int .i64 a.1.z, .slice F1 qT f1, .slice F2 qL f2, .slice F3 qD f3] 31 (0, 0)) := hk15
            have HU15 := Lib.hid (hwr15.blk (fun e => by have h1 := blk_lt (blk_below HU12.out hb9); omega) (blk_below HU12.out hb14))
            have HUX15 := Lib.hid (hwr15.blk (fun e => by have h1 := blk_lt (blk_below HK12.out hb9); omega) (blk_below HK12.out hb14))
            have HRA15 := Lib.hid (hwr15.blk (Ne.symm hrab) hra14)
            have HRB15 := Lib.hid hk15'
            have hB1' : w1.heap.size ≤ rb := by have h1 := HY10.out; have h2 := HSK12.out.size; have h3 := hb9.size; omega
            have HRWA := Lib.hid ((HRW12.out.below hb14).wr hwr15 hB1' hkrb (by decide))
            have HRWB0 := (hr9.below hbw14).wr hwr15 hB1' hkrb (by decide)
            have HRWB : Hid (RW w15 w1.heap.size (.slice F1 qT f1) (.slice F2 qL f2) (.slice F3 qD f3) ⟨a.1.z, a.1.T, a.1.L, seenD a.1.D a.1.L⟩) := Lib.hid ⟨HRWB0.tree, HRWB0.tab, HRWB0.last⟩
            have HPU15 := Lib.hid ((HPU12.out.sk (.of_below hb14)).wr hwr15 hB1' hkrb (by decide))
            have HPX15 := Lib.hid ((HPR12.out.sk (.of_below hb14)).wr hwr15 hB1' hkrb (by decide))
            have HB15 : Hid (Below w.heap.size w w15) := Lib.hid (HB14.out.trans (hwr15.below.mono (by have h1 := HB12.out.size; have h2 := hb9.size; omega)))
            have HW14 := Lib.hid hw14
            have HW15 := Lib.hid hw15
            have ERB := Lib.hid erb
            have s0 := cell_of hra14 (j := 0) rfl
            have s1 := cell_of hra14 (j := 1) rfl
            have s2 := cell_of hra14 (j := 2) rfl
            have s3 := cell_of hra14 (j := 3) rfl
            have f0 := frozen_of_row w14 rb 0 _ _ hkrb
            have t0 := cell_of hkrb (j := 0) rfl
            have t1 := cell_of hkrb (j := 1) rfl
            have t2 := cell_of hkrb (j := 2) rfl
            have t3 := cell_of hkrb (j := 3) rfl
            clear hr9 hb9 hbw14 hb14 hra14 hw14 hw15 erb hwr15 hk15 hk15' hrab hB1' HRWB0 hm1 hm2 hm3 hkrb
            go_upto_region 12 with fail
            rw [← HW14.out, ← ERB.out]
            go_upto_region 13 with fail
            rw [← HW15.out]
            clear s0 s1 s2 s3 t0 t1 t2 t3 f0
            have HSS7 : Hid (∀ (W : World), Below w15.heap.size w15 W → W.cell? ⟨u, 0, none⟩ = some (.int .i64 a.2.1.c) ∧ W.cell? ⟨u, 1, none⟩ = some (.int .i64 a.2.1.s) ∧ W.cell? ⟨u, 2, none⟩ = some (.slice A8 a.2.1.ps.length c8) ∧ W.cell? ⟨ux, 0, none⟩ = some (.int .i64 a.2.1.c) ∧ W.cell? ⟨ux, 1, none⟩ = some (.int .i64 a.2.1.s) ∧ W.cell? ⟨ux, 2, none⟩ = some (.slice E8 a.2.1.ps.length k8) ∧ W.cell? ⟨ra, 0, none⟩ = some (.int .i64 a.1.z) ∧ W.cell? ⟨ra, 1, none⟩ = some (.slice B1 mT d1) ∧ W.cell? ⟨ra, 2, none⟩ = some (.slice B2 mL d2) ∧ W.cell? ⟨ra, 3, none⟩ = some (.slice B3 mD d3) ∧ W.cell? ⟨rb, 0, none⟩ = some (.int .i64 a.1.z) ∧ W.cell? ⟨rb, 1, none⟩ = some (.slice F1 qT f1) ∧ W.cell? ⟨rb, 2, none⟩ = some (.slice F2 qL f2) ∧ W.cell? ⟨rb, 3, none⟩ = some (.slice F3 qD f3)) := Lib.hid (fun W hW => ⟨cell_of (blk_below HU15.out hW) (j := 0) rfl, cell_of (blk_below HU15.out hW) (j := 1) rfl, cell_of (blk_below HU15.out hW) (j := 2) rfl, cell_of (blk_below HUX15.out hW) (j := 0) rfl, cell_of (blk_below HUX15.out hW) (j := 1) rfl, cell_of (blk_below HUX15.out hW) (j := 2) rfl, cell_of (blk_below HRA15.out hW) (j := 0) rfl, cell_of (blk_below HRA15.out hW) (j := 1) rfl, cell_of (blk_below HRA15.out hW) (j := 2) rfl, cell_of (blk_below HRA15.out hW) (j := 3) rfl, cell_of (blk_below HRB15.out hW) (j := 0) rfl, cell_of (blk_below HRB15.out hW) (j := 1) rfl, cell_of (blk_below HRB15.out hW) (j := 2) rfl, cell_of (blk_below HRB15.out hW) (j := 3) rfl⟩)
            have HPLA : Hid (∀ (W : World) (A1 : Option Addr) (k1 : Nat), Calls Tryz.prog 20 #[.agg #[.int .i64 a.2.1.c, .int .i64 a.2.1.s, .slice A1 a.2.1.ps.length k1]] W fun e w' => e = .returned (.agg #[.int .i64 a.2.1.c, .int .i64 a.2.1.s, .slice A1 a.2.1.ps.length k1]) ∧ Below W.heap.size W w') := Lib.hid (fun W A1 k1 => plain_any W _ _ _ _ _)
            have HSR : Hid (∀ (W : World), Below w15.heap.size w15 W → Calls Tryz.prog 19 #[.agg #[.int .i64 a.2.1.c, .int .i64 a.2.1.s, .slice A8 a.2.1.ps.length c8], .agg #[.int .i64 a.2.1.c, .int .i64 a.2.1.s, .slice E8 a.2.1.ps.length k8]] W fun e w' => e = .returned (.bool true) ∧ Below W.heap.size W w') := Lib.hid (fun W hW => by
              obtain ⟨P1, q1, e1, hr1, -⟩ := HPU15.out
              obtain ⟨P2, q2, e2, hr2, -⟩ := HPX15.out
              injection e1 with e1; injection e2 with e2
              subst e1 e2
              exact samereply_any (hr1.below hW) (hr2.below hW) (Nat.le_trans HAL6.out (by decide)) _ _)
            have HSM : Hid (∀ (W : World), Below w15.heap.size w15 W → Calls Tryz.prog 21 #[.agg #[.int .i64 a.1.z, .slice B1 mT d1, .slice B2 mL d2, .slice B3 mD d3], .agg #[.int .i64 a.1.z, .slice F1 qT f1, .slice F2 qL f2, .slice F3 qD f3]] W fun e w' => e = .returned (.bool true) ∧ Below W.heap.size W w') := Lib.hid (fun W hW => seen_same HGA.out (HRWA.out.below hW) (HRWB.out.below hW))
            obtain ⟨e0, e1, e2, e3, e4, e5, e6, e7, e8, e9, e10, e11, e12, e13⟩ := HSS7.out w15 (Below.refl _ _)
            go_region_held3 (fun W => W.cell? ⟨u, 0, none⟩ = some (.int .i64 a.2.1.c) ∧ W.cell? ⟨u, 1, none⟩ = some (.int .i64 a.2.1.s) ∧ W.cell? ⟨u, 2, none⟩ = some (.slice A8 a.2.1.ps.length c8) ∧ W.cell? ⟨ux, 0, none⟩ = some (.int .i64 a.2.1.c) ∧ W.cell? ⟨ux, 1, none⟩ = some (.int .i64 a.2.1.s) ∧ W.cell? ⟨ux, 2, none⟩ = some (.slice E8 a.2.1.ps.length k8) ∧ W.cell? ⟨ra, 0, none⟩ = some (.int .i64 a.1.z) ∧ W.cell? ⟨ra, 1, none⟩ = some (.slice B1 mT d1) ∧ W.cell? ⟨ra, 2, none⟩ = some (.slice B2 mL d2) ∧ W.cell? ⟨ra, 3, none⟩ = some (.slice B3 mD d3) ∧ W.cell? ⟨rb, 0, none⟩ = some (.int .i64 a.1.z) ∧ W.cell? ⟨rb, 1, none⟩ = some (.slice F1 qT f1) ∧ W.cell? ⟨rb, 2, none⟩ = some (.slice F2 qL f2) ∧ W.cell? ⟨rb, 3, none⟩ = some (.slice F3 qD f3))
              (first
                | (with_reducible assumption)
                | (with_reducible exact HSS7.out _ (Below.refl _ _).drew)
                | (with_reducible exact HSS7.out _ (by assumption)))
              (first
                | (go_at_call 12; (with_reducible refine (HAL.out _).mono ?_); rintro e u2 ⟨rfl, hu2⟩; have hU2 : Below w15.heap.size w15 u2 := (Below.refl w15.heap.size w15).drew.trans (hu2.mono (Nat.le_refl _)); have hS2 := HSS7.out u2 hU2)
                | (go_at_call 20; (with_reducible refine (HPLA.out _ _ _).mono ?_); rintro e un ⟨rfl, hun⟩; first | (have hU4 := hU3.trans (hun.mono hU3.size); have hS4 := HSS7.out un hU4) | (have hU3 := hU2.trans (hun.mono hU2.size); have hS3 := HSS7.out un hU3))
                | (go_at_call 19; (with_reducible refine (HSR.out _ (by assumption)).mono ?_); rintro e u5 ⟨rfl, hu5⟩; have hU5 := hU4.trans (hu5.mono hU4.size); have hS5 := HSS7.out u5 hU5)
                | (go_at_call 21; (with_reducible refine (HSM.out _ (by assumption)).mono ?_); rintro e u6 ⟨rfl, hu6⟩; have hU6 := hU5.trans (hu6.mono hU5.size); have hS6 := HSS7.out u6 hU6))
            all_goals
              have HE : Hid (Below w.heap.size w u6) := Lib.hid (HB15.out.trans (hU6.mono HB15.out.size))
              go_wp2_with fail
              go_ret
              exact ⟨rfl, HE.out⟩
end Go.Proofs.YtflgemlhocjipaaGreatDoor
