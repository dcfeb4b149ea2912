/-
  What the document's Runs and Do return. No condition.
-/
import Derived.Test.YtoallenigfbkpaaTDoc5
namespace Go.Proofs.Ytoallenigfbkpaa
set_option maxRecDepth 100000
open Go.ChangeShapes Go.WideShapes Go.ChangeAt Go.RowKit Go.Proofs.Sg

/-- A word on the rows of runs: the last one's end. -/
theorem pcells_last (R : List (Nat × Nat)) (a b y : Nat) : splice (pcells (R ++ [(a, b)])) (R.length * 2 + 1) [.int .i64 (y : Int)] = pcells (R ++ [(a, y)]) := by
  have hl := pcells_length R
  rw [pcells_append, pcells_append]
  have e1 : ∀ z : Nat, pcells [(a, z)] = [.int .i64 (a : Int), .int .i64 (z : Int)] := fun z => by simp [pcells, pcell]
  rw [e1, e1]
  unfold splice
  rw [List.take_append, List.take_of_length_le (by omega), List.drop_append, List.drop_eq_nil_of_le (by simp; omega), hl]
  have e8 : R.length * 2 + 1 - R.length * 2 = 1 := by omega
  have e7 : [Value.int .i64 (a : Int), .int .i64 (b : Int)].drop (R.length * 2 + 1 + [Value.int .i64 (y : Int)].length - R.length * 2) = [] := List.drop_eq_nil_of_le (by simp; omega)
  rw [e8, e7]
  simp
set_option maxHeartbeats 8000000 in
theorem rruns_any {w : World} {A A2 : Option Addr} {c c2 : Nat} {S : Sh} (hD : DF w A c A2 c2 S) (hg : GoodS S) : Calls Try.prog 28 #[dv A S.n c A2 S.K.length c2] w (RuPost w S.K) := by
  obtain ⟨w1, hw1⟩ : ∃ w1, w1 = w.alloc (.cells #[.slice A S.n c, .slice A2 S.K.length c2] 30) := ⟨_, rfl⟩
  obtain ⟨q, eq⟩ : ∃ q, q = w.heap.size := ⟨_, rfl⟩
  have hb1 : Below w.heap.size w w1 := by rw [hw1]; exact box_below w _
  have hq : w1.heap[q]? = some (.cells #[.slice A S.n c, .slice A2 S.K.length c2] 30 (0, 0)) := by rw [hw1, eq]; exact new_block w _
  have HR := Lib.hid ((hD.below hb1).rdK)
  have HQ := Lib.hid hq
  have HW1 := Lib.hid hw1
  have EQ := Lib.hid eq
  have HB1 := Lib.hid hb1
  have HKM : Hid (∀ k ∈ S.K, k < 65536) := Lib.hid (fun k hk => by have := hg.key k hk; have := hg.lim; omega)
  have HKL : Hid (S.K.length ≤ 65536) := Lib.hid (srt_len hg.srt (fun k hk => by have := hg.key k hk; have := hg.lim; omega))
  obtain ⟨K, hK⟩ : ∃ K, K = S.K := ⟨_, rfl⟩
  obtain ⟨m, hm⟩ : ∃ m, m = K.length := ⟨_, rfl⟩
  obtain ⟨i0, hi, hz0, hz1, hz2⟩ := info_parts infoT
  have hbt := run_two
  unfold dv
  rw [← hK] at hw1 hq HR HKL HKM HQ HW1 ⊢
  rw [← hm] at hw1 hq HR HKL HQ HW1 ⊢
  have HM := Lib.hid hm
  clear hD hw1 eq hb1 hq hg hK hm
  go_enter Try.func28, Try.ntmps28
  go_upto_region 1 with fail
  rw [← HW1.out, ← EQ.out]
  go_wp2_with fail
  go_loopw [3, 4] (fun u i wr => ∃ j : Nat, j ≤ m ∧ i = .int .i64 (j : Int) ∧ Hid (wr.ownsRow w1.heap.size 46 2 u (rn K j).length (pcells (rn K j))) ∧ Hid (Below w1.heap.size w1 wr)) (fun _ i _ => m - (intOf i).toNat)
  case atStart => exact ⟨0, Nat.zero_le _, rfl, Lib.hid (World.ownsRow_nil _ _ _ _), Lib.hid (Below.refl _ _)⟩
  case round =>
    obtain ⟨j, hj, rfl, HO, HX⟩ := hrel
    obtain ⟨Ax, cx, eAx, -, -, hAx⟩ := own_form HO.out
    subst eAx
    have q1 := cell_of (blk_below HQ.out HX.out) (j := 1) rfl
    by_cases hlt : j < m
    · obtain ⟨b, off, x, rfl, hx, c0⟩ := ncell_get (HR.out.below HX.out) hlt
      have hx6 := HKM.out x (List.mem_of_getElem? hx)
      have hgx : K.getD j 0 = x := by rw [List.getD_eq_getElem?_getD, hx]; rfl
      have hkl := HKL.out
      have hrl : (rn K j).length ≤ j := rn_len j
      obtain ⟨L, hL⟩ : ∃ L, (rn K j).length = L := ⟨_, rfl⟩
      obtain ⟨kI, hkI⟩ : ∃ z : Int, (L : Int) - 1 = z := ⟨_, rfl⟩
      have hwk : IntKind.i64.wrap ((L : Int) - 1) = kI := by rw [IntKind.wrap_i64]; omega
      obtain ⟨j1, hj1⟩ : ∃ j1, j + 1 = j1 := ⟨_, rfl⟩
      have hwj : IntKind.i64.wrap ((j : Int) + 1) = (j1 : Int) := by rw [IntKind.wrap_i64]; omega
      obtain ⟨xI, hxI⟩ : ∃ z : Int, (x : Int) = z := ⟨_, rfl⟩
      rw [hxI] at c0
      have HXI := Lib.hid hxI
      have HJ1 : Hid (j < m ∧ j + 1 = j1) := Lib.hid ⟨hlt, hj1⟩
      have hk0 : (0 : Int) ≤ (j : Int) := by omega
      have hki : (j : Int) < (m : Int) := by omega
      have HRD : Hid (∀ W, Below w1.heap.size w1 W → (W.cell? ⟨b, off + j, none⟩ = some (.int .i64 xI) ∧ W.cell? ⟨q, 1, none⟩ = some (.slice (some ⟨b, off, none⟩) m c2))) := Lib.hid (fun W hW => by
        obtain ⟨b', o', y, e1, e2, e3⟩ := ncell_get (HR.out.below hW) hlt
        injection e1 with e1
        injection e1 with e1 e4
        subst e1; subst e4
        rw [hx] at e2
        injection e2 with e2
        subst e2
        exact ⟨by rw [e3, hxI], cell_of (blk_below HQ.out hW) (j := 1) rfl⟩)
      rw [hL]
      by_cases h0 : j = 0
      · have hb0 : decide ((0 : Int) < (j : Int)) = false := by simp only [decide_eq_false_iff_not]; omega
        have hb0' : decide (0 < j) = false := by simp only [decide_eq_false_iff_not]; omega
        have hnew : ¬ (0 < j ∧ K.getD j 0 = K.getD (j - 1) 0 + 1) := by omega
        go_upto_region 6 with fail
        go_quiet (fail)
        obtain ⟨wq, hwq⟩ : ∃ wq, wq = wr.drewN nq := ⟨_, rfl⟩
        rw [← hwq]
        have hxq : Below w1.heap.size w1 wq := by rw [hwq]; exact below_drewN HX.out nq
        have hoq := own_below HO.out (by rw [hwq]; exact below_drewN (Below.refl _ _) nq : Below wr.heap.size wr wq)
        obtain ⟨cq0, cq1⟩ := HRD.out wq hxq
        have HXQ := Lib.hid hxq
        clear hwq c0 q1
        have HNW : Hid (rn K j1 = rn K j ++ [(x, x)]) := Lib.hid (by rw [← hj1, rn_new hnew, hgx])
        obtain ⟨W8, hW8⟩ : ∃ W8, W8 = (wq.alloc (.cells #[.int .i64 xI, .int .i64 xI] 46)).drew := ⟨_, rfl⟩
        have hD : Below wq.heap.size wq W8 := by rw [hW8]; exact (box_below _ _).drew
        have hNB : W8.heap[wq.heap.size]? = some (.cells #[.int .i64 xI, .int .i64 xI] 46 (0, 0)) := by rw [hW8]; exact new_block wq _
        have ho := hoq
        rw [hL] at ho
        have hOW := own_below ho hD
        have hz8 : w1.heap.size ≤ W8.heap.size := Nat.le_trans HXQ.out.size hD.size
        have HD8 := Lib.hid hD
        have HLE : Hid (L + 1 ≤ 65537) := Lib.hid (by omega)
        have HLL := Lib.hid hL
        rw [hW8] at hNB hOW hz8
        have HW8 := Lib.hid hW8
        clear hW8 hD ho hoq hxq hx hx6 hgx hkl hrl hL hkI hj1 hxI hlt hAx hj hnew h0
        go_wp2_with fail
        go_region_law (first
          | (refine step_append_lies _ rfl (.tmp 42) (.tmp 54) 55 rfl w1.heap.size 46 i0 _ 2 16 Try.underlying55 hi hz0 hz1 hz2 rfl (by decide) (.slice Ax L cx) L (pcells (rn K j)) (by simp [Act.eval]) hOW ⟨wq.heap.size, 0, none⟩ 1 1 [.int .i64 xI, .int .i64 xI] (by simp [Act.eval]) rfl (World.news_of_block hNB) (by intro u hu; simp at hu; rcases hu with rfl | rfl <;> rfl) (by decide) (by have := HLE.out; unfold maxLen; omega) (by have := HLE.out; omega) hz8 _ rfl ?_; intro g6 cap w8 hown' hgrow hat hlt6)
          | fail)
        all_goals
          have HO9 : Hid (w8.ownsRow w1.heap.size 46 2 (.slice (some ⟨g6, 0, none⟩) (L + 1) cap) (rn K j1).length (pcells (rn K j1))) := Lib.hid (by
            rw [HNW.out, pcells_append, List.length_append, HLL.out]
            have e : pcells [(x, x)] = [.int .i64 xI, .int .i64 xI] := by simp [pcells, pcell, HXI.out]
            rw [e]; exact hown')
          have HX9 : Hid (Below w1.heap.size w1 w8) := Lib.hid ((HXQ.out.trans ((by rw [← HW8.out]; exact HD8.out : Below wq.heap.size wq (wq.alloc (.cells #[.int .i64 xI, .int .i64 xI] 46)).drew).mono HXQ.out.size)).grown hgrow hz8 (fun j hj => (hOW.lt j hj).1))
          clear hown' hgrow hat hlt6 hNB hOW hz8
          go_wp2_with fail
          go_roundw
          case rel => exact ⟨j1, by have := HJ1.out; omega, rfl, HO9, HX9⟩
          case measure => simp [intOf]; have := HJ1.out; omega
      · have hb0 : decide ((0 : Int) < (j : Int)) = true := by simp only [decide_eq_true_eq]; omega
        have hb0' : decide (0 < j) = true := by simp only [decide_eq_true_eq]; omega
        obtain ⟨jm, hjm⟩ : ∃ jm, jm + 1 = j := ⟨j - 1, by omega⟩
        obtain ⟨b', o', z, e1, e2, e3⟩ := ncell_get (HR.out.below HX.out) (i := jm) (by omega)
        injection e1 with e1
        injection e1 with e1 e4
        subst e1; subst e4
        have hgz : K.getD (j - 1) 0 = z := by rw [show j - 1 = jm by omega, List.getD_eq_getElem?_getD, e2]; rfl
        have hz6 := HKM.out z (List.mem_of_getElem? e2)
        obtain ⟨zI, hzI⟩ : ∃ zI : Int, (z : Int) = zI := ⟨_, rfl⟩
        rw [hzI] at e3
        obtain ⟨tI, htI⟩ : ∃ tI : Int, zI + 1 = tI := ⟨_, rfl⟩
        have hwt : IntKind.i64.wrap (zI + 1) = tI := by rw [IntKind.wrap_i64]; omega
        have hwm : IntKind.i64.wrap ((j : Int) - 1) = (jm : Int) := by rw [IntKind.wrap_i64]; omega
        have hm0 : (0 : Int) ≤ (jm : Int) := by omega
        have hmi : (jm : Int) < (m : Int) := by omega
        by_cases hon : x = z + 1
        · have hxt : (xI == tI) = true := by simp only [beq_iff_eq]; omega
          obtain ⟨R, a, bq, hRn⟩ := rn_some (K := K) (i := j) (by omega)
          have hRL : L = R.length + 1 := by rw [← hL, hRn]; simp
          obtain ⟨kN, hkN⟩ : ∃ kN, R.length = kN := ⟨_, rfl⟩
          have hk9 : kI = (kN : Int) := by omega
          obtain ⟨g, hgx2⟩ := hAx (by omega)
          subst hgx2
          go_upto_region 6 with fail
          go_quiet (fail)
          obtain ⟨wq, hwq⟩ : ∃ wq, wq = wr.drewN nq := ⟨_, rfl⟩
          rw [← hwq]
          have hxq : Below w1.heap.size w1 wq := by rw [hwq]; exact below_drewN HX.out nq
          have hoq := own_below HO.out (by rw [hwq]; exact below_drewN (Below.refl _ _) nq : Below wr.heap.size wr wq)
          obtain ⟨cq0, cq1⟩ := HRD.out wq hxq
          have HXQ := Lib.hid hxq
          clear hwq c0 q1
          have ho := hoq
          rw [hL] at ho
          have hcN := own_cell ho (kN * 2 + 1) (.int .i64 (bq : Int)) (by
            rw [hRn, pcells_append, List.getElem?_append_right (by rw [pcells_length]; omega), pcells_length, hkN, show kN * 2 + 1 - kN * 2 = 1 by omega]
            simp [pcells, pcell])
          obtain ⟨cur, hcur, -, -, -, -, -, -⟩ := own_at ho
          have hfN := frozen_of_row wq g (kN * 2 + 1) _ _ hcur
          have ho5 := own_set_cells (own_below ho (Below.refl _ _).drew) (kN * 2 + 1) [.int .i64 (x : Int)] (by simp; omega)
          rw [hRn, ← hkN, pcells_last, hkN, ← hgx, ← rn_on (by omega) (by rw [hgx, hgz]; exact hon) hRn, hgx, hj1, hxI] at ho5
          have hlj : L = (rn K j1).length := by rw [← hj1, rn_on (by omega) (by rw [hgx, hgz]; exact hon) hRn, hRL]; simp
          have HO9 : Hid ((wq.drew.setCell ⟨g, kN * 2 + 1, none⟩ (.int .i64 xI)).ownsRow w1.heap.size 46 2 (.slice (some ⟨g, 0, none⟩) L cx) (rn K j1).length (pcells (rn K j1))) := Lib.hid (by rw [← hlj]; exact ho5)
          have HX9 : Hid (Below w1.heap.size w1 (wq.drew.setCell ⟨g, kN * 2 + 1, none⟩ (.int .i64 xI))) := Lib.hid (hxq.drew.setCell (ho.lt g rfl).1 _)
          have hkL0 : (0 : Int) ≤ (kN : Int) := by omega
          have hkL1 : (kN : Int) < (L : Int) := by omega
          subst hk9
          clear e3 hcur ho5 hlj ho hoq hxq hRn hRL hkN hx hx6 hgx hkl hrl hL hkI hj1 hxI hlt hAx hj h0 hjm e2 hgz hz6 hzI htI hon
          go_wp2_with fail
          go_region
          (try simp only [List.getElem_toArray, List.getElem_cons_succ, List.getElem_cons_zero, Act.put, List.setIfInBounds_toArray, List.set_cons_succ, List.set_cons_zero])
          all_goals
            go_wp2_with fail
            go_roundw
            case rel => exact ⟨j1, by have := HJ1.out; omega, rfl, HO9, HX9⟩
            case measure => simp [intOf]; have := HJ1.out; omega
        · have hxt : (xI == tI) = false := by simp only [beq_eq_false_iff_ne]; omega
          have hnew : ¬ (0 < j ∧ K.getD j 0 = K.getD (j - 1) 0 + 1) := by rw [hgx, hgz]; omega
          go_upto_region 6 with fail
          go_quiet (fail)
          obtain ⟨wq, hwq⟩ : ∃ wq, wq = wr.drewN nq := ⟨_, rfl⟩
          rw [← hwq]
          have hxq : Below w1.heap.size w1 wq := by rw [hwq]; exact below_drewN HX.out nq
          have hoq := own_below HO.out (by rw [hwq]; exact below_drewN (Below.refl _ _) nq : Below wr.heap.size wr wq)
          obtain ⟨cq0, cq1⟩ := HRD.out wq hxq
          have HXQ := Lib.hid hxq
          clear hwq c0 q1
          clear e3
          have HNW : Hid (rn K j1 = rn K j ++ [(x, x)]) := Lib.hid (by rw [← hj1, rn_new hnew, hgx])
          obtain ⟨W8, hW8⟩ : ∃ W8, W8 = (wq.alloc (.cells #[.int .i64 xI, .int .i64 xI] 46)).drew := ⟨_, rfl⟩
          have hD : Below wq.heap.size wq W8 := by rw [hW8]; exact (box_below _ _).drew
          have hNB : W8.heap[wq.heap.size]? = some (.cells #[.int .i64 xI, .int .i64 xI] 46 (0, 0)) := by rw [hW8]; exact new_block wq _
          have ho := hoq
          rw [hL] at ho
          have hOW := own_below ho hD
          have hz8 : w1.heap.size ≤ W8.heap.size := Nat.le_trans HXQ.out.size hD.size
          have HD8 := Lib.hid hD
          have HLE : Hid (L + 1 ≤ 65537) := Lib.hid (by omega)
          have HLL := Lib.hid hL
          rw [hW8] at hNB hOW hz8
          have HW8 := Lib.hid hW8
          clear hW8 hD ho hoq hxq hx hx6 hgx hkl hrl hL hkI hj1 hxI hlt hAx hj hnew h0 hjm e2 hgz hz6 hzI htI hon
          go_wp2_with fail
          go_region_law (first
            | (refine step_append_lies _ rfl (.tmp 42) (.tmp 54) 55 rfl w1.heap.size 46 i0 _ 2 16 Try.underlying55 hi hz0 hz1 hz2 rfl (by decide) (.slice Ax L cx) L (pcells (rn K j)) (by simp [Act.eval]) hOW ⟨wq.heap.size, 0, none⟩ 1 1 [.int .i64 xI, .int .i64 xI] (by simp [Act.eval]) rfl (World.news_of_block hNB) (by intro u hu; simp at hu; rcases hu with rfl | rfl <;> rfl) (by decide) (by have := HLE.out; unfold maxLen; omega) (by have := HLE.out; omega) hz8 _ rfl ?_; intro g6 cap w8 hown' hgrow hat hlt6)
            | fail)
          all_goals
            have HO9 : Hid (w8.ownsRow w1.heap.size 46 2 (.slice (some ⟨g6, 0, none⟩) (L + 1) cap) (rn K j1).length (pcells (rn K j1))) := Lib.hid (by
              rw [HNW.out, pcells_append, List.length_append, HLL.out]
              have e : pcells [(x, x)] = [.int .i64 xI, .int .i64 xI] := by simp [pcells, pcell, HXI.out]
              rw [e]; exact hown')
            have HX9 : Hid (Below w1.heap.size w1 w8) := Lib.hid ((HXQ.out.trans ((by rw [← HW8.out]; exact HD8.out : Below wq.heap.size wq (wq.alloc (.cells #[.int .i64 xI, .int .i64 xI] 46)).drew).mono HXQ.out.size)).grown hgrow hz8 (fun j hj => (hOW.lt j hj).1))
            clear hown' hgrow hat hlt6 hNB hOW hz8
            go_wp2_with fail
            go_roundw
            case rel => exact ⟨j1, by have := HJ1.out; omega, rfl, HO9, HX9⟩
            case measure => simp [intOf]; have := HJ1.out; omega
    · obtain rfl : j = m := by omega
      have hki : ¬ (j : Int) < (j : Int) := by omega
      have HE : Hid (RuPost w K (.returned (.slice Ax (rn K j).length cx)) wr) := Lib.hid (by
        have h := HO.out
        rw [HM.out] at h
        exact ⟨_, by rw [HM.out], own_base h HB1.out.size, HB1.out.trans (HX.out.mono HB1.out.size)⟩)
      clear hAx
      go_wp2_with fail
      go_ret
      exact HE.out
end Go.Proofs.Ytoallenigfbkpaa
