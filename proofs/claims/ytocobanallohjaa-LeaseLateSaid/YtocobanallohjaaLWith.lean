/-
  What the document's own with returns. Condition: the list is not long.
-/
import Derived.Test.YtocobanallohjaaLDoc1
namespace Go.Proofs.Ytocobanallohjaa
set_option maxRecDepth 100000
open Go.ChangeShapes Go.WideShapes Go.ChangeAt Go.RowKit Go.Proofs.Le

/-! ### with -/
set_option maxHeartbeats 16000000 in
theorem rwith_any {w : World} {A : Option Addr} {n c : Nat} {T : Tb} (hR : Rd lcell 3 w A n T) (hn : n ≤ 200) (x : Ls) : Calls Try.prog 41 #[.slice A n c, .agg #[.int .i64 x.i, .int .i64 x.s, .int .i64 x.l]] w (RlPost w (wend x (wrun T x))) := by
  obtain ⟨w1, hw1⟩ : ∃ w1, w1 = w.alloc (.cells #[.int .i64 x.i, .int .i64 x.s, .int .i64 x.l] 33) := ⟨_, rfl⟩
  obtain ⟨q, eq⟩ : ∃ q, q = w.heap.size := ⟨_, rfl⟩
  have hb1 : Below w.heap.size w w1 := by rw [hw1]; exact box_below w _
  have hq : w1.heap[q]? = some (.cells #[.int .i64 x.i, .int .i64 x.s, .int .i64 x.l] 33 (0, 0)) := by rw [hw1, eq]; exact new_block w _
  have HR := Lib.hid (hR.below hb1)
  have HL := Lib.hid hR.len
  have HB1 := Lib.hid hb1
  have HQ1 := Lib.hid hq
  have HW1 := Lib.hid hw1
  have EQ := Lib.hid eq
  obtain ⟨i0, hi, hz0, hz1, hz2⟩ := info_parts infoD
  clear hR hw1 eq hb1 hq
  go_enter Try.func41, Try.ntmps41
  go_upto_region 1 with fail
  rw [← HW1.out, ← EQ.out]
  go_wp2_with fail
  go_loopw [5, 6, 7] (fun u d i wr => ∃ (k : Nat) (st : Tb × Bool), k ≤ n ∧ i = .int .i64 k ∧ Hid (wrun (T.take k) x = st) ∧ d = .bool st.2 ∧ Hid (wr.ownsRow w1.heap.size 33 3 u st.1.length (lcells st.1)) ∧ Hid (Below w1.heap.size w1 wr)) (fun _ _ i _ => n - (intOf i).toNat)
  case atStart => exact ⟨0, ([], false), Nat.zero_le _, rfl, Lib.hid rfl, rfl, Lib.hid (World.ownsRow_nil _ _ _ _), Lib.hid (Below.refl _ _)⟩
  case round =>
    obtain ⟨k, ⟨O, d⟩, hk, rfl, HRU, rfl, HO, HX⟩ := hrel
    replace HO : Hid (wr.ownsRow w1.heap.size 33 3 u5 O.length (lcells O)) := HO
    have HUL : Hid (O.length ≤ 400) := Lib.hid (by
      have h1 := wrun_len x (T.take k) ([], false)
      rw [show (T.take k).foldl (wstep x) ([], false) = wrun (T.take k) x from rfl, HRU.out, List.length_take] at h1
      simp at h1
      omega)
    have HBW := Lib.hid (HB1.out.trans (HX.out.mono HB1.out.size))
    by_cases hlt : k < n
    · obtain ⟨b, off, y, hA, hy, -⟩ := HR.out.at hlt
      subst hA
      have HYC : Hid (∀ W, Below w1.heap.size w1 W → (W.cell? ⟨b, off + k * 3, none⟩ = some (.int .i64 y.i) ∧ W.cell? ⟨b, off + k * 3 + 1, none⟩ = some (.int .i64 y.s) ∧ W.cell? ⟨b, off + k * 3 + 2, none⟩ = some (.int .i64 y.l))) := Lib.hid (fun W hW => by
        obtain ⟨b', off', y', hA', hy', hcc⟩ := (HR.out.below hW).at hlt
        injection hA' with hA'
        injection hA' with e1 e2 e3
        subst e1; subst e2
        obtain rfl : y = y' := Option.some.inj (hy.symm.trans hy')
        exact ⟨hcc 0 _ rfl, hcc 1 _ rfl, hcc 2 _ rfl⟩)
      have hk0 : (0 : Int) ≤ (k : Int) := by omega
      have hki : (k : Int) < (n : Int) := by omega
      have hwk : IntKind.i64.wrap ((k : Int) + 1) = (k : Int) + 1 := by rw [IntKind.wrap_i64]; omega
      have HST : Hid (wrun (T.take (k + 1)) x = wstep x (O, d) y) := Lib.hid (by rw [wrun_step hy, HRU.out])
      clear hy
      obtain ⟨c0, c1, c2⟩ := HYC.out _ HX.out
      have hqw := blk_below HQ1.out HX.out
      have q0 := cell_of hqw (j := 0) rfl
      have q1 := cell_of hqw (j := 1) rfl
      have q2 := cell_of hqw (j := 2) rfl
      clear hqw
      cases d with
      | true =>
        go_upto_region 6 with fail
        go_quiet (fail)
        obtain ⟨w4, hq9⟩ : ∃ W, W = wr.drewN nq := ⟨_, rfl⟩
        have hb9 : Below wr.heap.size wr w4 := by rw [hq9]; exact below_drewN (Below.refl _ _) _
        have HQQw4 := Lib.hid hq9
        rw [← HQQw4.out]
        have HX2 := Lib.hid (HX.out.trans (hb9.mono HX.out.size))
        have HO2 := Lib.hid (own_below HO.out hb9)
        clear hq9 hb9
        clear c0 c1 c2 q0 q1 q2
        obtain ⟨c0, c1, c2⟩ := HYC.out _ HX2.out
        have hqw := blk_below HQ1.out HX2.out
        have q0 := cell_of hqw (j := 0) rfl
        have q1 := cell_of hqw (j := 1) rfl
        have q2 := cell_of hqw (j := 2) rfl
        clear hqw
        obtain ⟨t, ht⟩ : ∃ t, (y.i != x.i) = t := ⟨_, rfl⟩
        have HTT := Lib.hid ht
        go_upto_region 9 with fail
        go_quiet (fail)
        obtain ⟨w5a, hq9⟩ : ∃ W, W = w4.drewN nq := ⟨_, rfl⟩
        have hb9 : Below w4.heap.size w4 w5a := by rw [hq9]; exact below_drewN (Below.refl _ _) _
        have HQQw5a := Lib.hid hq9
        rw [← HQQw5a.out]
        have HX22 := Lib.hid (HX2.out.trans (hb9.mono HX2.out.size))
        have HO22 := Lib.hid (own_below HO2.out hb9)
        clear hq9 hb9
        clear c0 c1 c2 q0 q1 q2
        obtain ⟨c0, c1, c2⟩ := HYC.out _ HX22.out
        have hqw := blk_below HQ1.out HX22.out
        have q0 := cell_of hqw (j := 0) rfl
        have q1 := cell_of hqw (j := 1) rfl
        have q2 := cell_of hqw (j := 2) rfl
        clear hqw
        cases t with
        | false =>
          have HEQ : Hid (y.i = x.i) := Lib.hid (by simpa using HTT.out)
          clear ht
          have HNX : Hid (wrun (T.take (k + 1)) x = (O, true)) := Lib.hid (by rw [HST.out]; unfold wstep; rw [if_neg (by simp), if_pos HEQ.out])
          clear c0 c1 c2 q0 q1 q2
          go_wp2_with fail
          go_roundw
          case rel => exact ⟨k + 1, _, by omega, by go_num, HNX, rfl, HO22, HX22⟩
          case measure => simp [intOf]; omega
        | true =>
          have HNE : Hid (¬ y.i = x.i) := Lib.hid (by simpa using HTT.out)
          have ho := HO22.out
          have hsz := HX22.out.size
          have hul : (O).length ≤ 520 := by have := HUL.out; first | omega | (simp; omega)
          go_wp2_with (at_builtin; refine wpList_append_own _ rfl _ _ 26 rfl w1.heap.size 33 i0 _ 3 24 Try.underlying26 hi hz0 hz1 hz2 rfl (by decide) _ _ _ rfl (ho.alloc _) ⟨w5a.heap.size, 0, none⟩ 1 1 (lcell y) rfl rfl (World.news_of_block (new_block w5a _)) (lcell_one _) (by unfold maxLen at *; omega) (by omega) (by simp; omega) ?_; intro v_w7a w7a hown' hg6 hnil6)
          have HB7 := Lib.hid ((HX22.out.alloc hsz _).grown hg6 (by simp; omega) (fun j hj => (HO22.out.lt j hj).1))
          have HO7 : Hid (w7a.ownsRow w1.heap.size 33 3 v_w7a (O ++ [y]).length (lcells (O ++ [y]))) := Lib.hid (by
            rw [lcells_append, List.length_append]
            simpa [lcells] using hown')
          clear hown' hg6 hnil6 ho hul
          clear ht
          have HNX : Hid (wrun (T.take (k + 1)) x = (O ++ [y], true)) := Lib.hid (by rw [HST.out]; unfold wstep; rw [if_neg (by simp), if_neg HNE.out])
          clear c0 c1 c2 q0 q1 q2
          go_wp2_with fail
          go_roundw
          case rel => exact ⟨k + 1, _, by omega, by go_num, HNX, rfl, HO7, HB7⟩
          case measure => simp [intOf]; omega
      | false =>
        obtain ⟨s, hs⟩ : ∃ s, decide (x.i ≤ y.i) = s := ⟨_, rfl⟩
        have HSS := Lib.hid hs
        go_upto_region 6 with fail
        go_quiet (fail)
        obtain ⟨w4, hq9⟩ : ∃ W, W = wr.drewN nq := ⟨_, rfl⟩
        have hb9 : Below wr.heap.size wr w4 := by rw [hq9]; exact below_drewN (Below.refl _ _) _
        have HQQw4 := Lib.hid hq9
        rw [← HQQw4.out]
        have HX2 := Lib.hid (HX.out.trans (hb9.mono HX.out.size))
        have HO2 := Lib.hid (own_below HO.out hb9)
        clear hq9 hb9
        clear c0 c1 c2 q0 q1 q2
        obtain ⟨c0, c1, c2⟩ := HYC.out _ HX2.out
        have hqw := blk_below HQ1.out HX2.out
        have q0 := cell_of hqw (j := 0) rfl
        have q1 := cell_of hqw (j := 1) rfl
        have q2 := cell_of hqw (j := 2) rfl
        clear hqw
        cases s with
        | false =>
          have HLE : Hid (y.i < x.i) := Lib.hid (by have h := HSS.out; simp at h; omega)
          clear hs
          obtain ⟨t, ht⟩ : ∃ t, (y.i != x.i) = t := ⟨_, rfl⟩
          have HTT := Lib.hid ht
          go_upto_region 9 with fail
          go_quiet (fail)
          obtain ⟨w5b, hq9⟩ : ∃ W, W = w4.drewN nq := ⟨_, rfl⟩
          have hb9 : Below w4.heap.size w4 w5b := by rw [hq9]; exact below_drewN (Below.refl _ _) _
          have HQQw5b := Lib.hid hq9
          rw [← HQQw5b.out]
          have HX22 := Lib.hid (HX2.out.trans (hb9.mono HX2.out.size))
          have HO22 := Lib.hid (own_below HO2.out hb9)
          clear hq9 hb9
          clear c0 c1 c2 q0 q1 q2
          obtain ⟨c0, c1, c2⟩ := HYC.out _ HX22.out
          have hqw := blk_below HQ1.out HX22.out
          have q0 := cell_of hqw (j := 0) rfl
          have q1 := cell_of hqw (j := 1) rfl
          have q2 := cell_of hqw (j := 2) rfl
          clear hqw
          cases t with
          | false =>
            have HEQ : Hid (y.i = x.i) := Lib.hid (by simpa using HTT.out)
            exact absurd HEQ.out (by have := HLE.out; omega)
          | true =>
            have HNE : Hid (¬ y.i = x.i) := Lib.hid (by simpa using HTT.out)
            have ho := HO22.out
            have hsz := HX22.out.size
            have hul : (O).length ≤ 520 := by have := HUL.out; first | omega | (simp; omega)
            go_wp2_with (at_builtin; refine wpList_append_own _ rfl _ _ 26 rfl w1.heap.size 33 i0 _ 3 24 Try.underlying26 hi hz0 hz1 hz2 rfl (by decide) _ _ _ rfl (ho.alloc _) ⟨w5b.heap.size, 0, none⟩ 1 1 (lcell y) rfl rfl (World.news_of_block (new_block w5b _)) (lcell_one _) (by unfold maxLen at *; omega) (by omega) (by simp; omega) ?_; intro v_w7b w7b hown' hg6 hnil6)
            have HB7 := Lib.hid ((HX22.out.alloc hsz _).grown hg6 (by simp; omega) (fun j hj => (HO22.out.lt j hj).1))
            have HO7 : Hid (w7b.ownsRow w1.heap.size 33 3 v_w7b (O ++ [y]).length (lcells (O ++ [y]))) := Lib.hid (by
              rw [lcells_append, List.length_append]
              simpa [lcells] using hown')
            clear hown' hg6 hnil6 ho hul
            clear ht
            have HNX : Hid (wrun (T.take (k + 1)) x = (O ++ [y], false)) := Lib.hid (by rw [HST.out]; unfold wstep; rw [if_neg (by rintro ⟨_, h⟩; have h1 := HLE.out; omega), if_neg HNE.out])
            clear c0 c1 c2 q0 q1 q2
            go_wp2_with fail
            go_roundw
            case rel => exact ⟨k + 1, _, by omega, by go_num, HNX, rfl, HO7, HB7⟩
            case measure => simp [intOf]; omega
        | true =>
          have HLE : Hid (x.i ≤ y.i) := Lib.hid (by simpa using HSS.out)
          clear hs
          have ho := HO2.out
          have hsz := HX2.out.size
          have hul : (O).length ≤ 510 := by have := HUL.out; first | omega | (simp; omega)
          go_upto_region 9 with (at_builtin; refine wpList_append_own _ rfl _ _ 26 rfl w1.heap.size 33 i0 _ 3 24 Try.underlying26 hi hz0 hz1 hz2 rfl (by decide) _ _ _ rfl (ho.alloc _) ⟨w4.heap.size, 0, none⟩ 1 1 (lcell x) rfl rfl (World.news_of_block (new_block w4 _)) (lcell_one _) (by unfold maxLen at *; omega) (by omega) (by simp; omega) ?_; intro v_w6 w6 hown' hg6 hnil6)
          have HB6 := Lib.hid ((HX2.out.alloc hsz _).grown hg6 (by simp; omega) (fun j hj => (HO2.out.lt j hj).1))
          have HO6 : Hid (w6.ownsRow w1.heap.size 33 3 v_w6 (O ++ [x]).length (lcells (O ++ [x]))) := Lib.hid (by
            rw [lcells_append, List.length_append]
            simpa [lcells] using hown')
          clear hown' hg6 hnil6 ho hul
          clear c0 c1 c2 q0 q1 q2
          obtain ⟨c0, c1, c2⟩ := HYC.out _ HB6.out
          have hqw := blk_below HQ1.out HB6.out
          have q0 := cell_of hqw (j := 0) rfl
          have q1 := cell_of hqw (j := 1) rfl
          have q2 := cell_of hqw (j := 2) rfl
          clear hqw
          obtain ⟨t, ht⟩ : ∃ t, (y.i != x.i) = t := ⟨_, rfl⟩
          have HTT := Lib.hid ht
          go_upto_region 9 with fail
          go_quiet (fail)
          obtain ⟨w5c, hq9⟩ : ∃ W, W = w6.drewN nq := ⟨_, rfl⟩
          have hb9 : Below w6.heap.size w6 w5c := by rw [hq9]; exact below_drewN (Below.refl _ _) _
          have HQQw5c := Lib.hid hq9
          rw [← HQQw5c.out]
          have HB62 := Lib.hid (HB6.out.trans (hb9.mono HB6.out.size))
          have HO62 := Lib.hid (own_below HO6.out hb9)
          clear hq9 hb9
          clear c0 c1 c2 q0 q1 q2
          obtain ⟨c0, c1, c2⟩ := HYC.out _ HB62.out
          have hqw := blk_below HQ1.out HB62.out
          have q0 := cell_of hqw (j := 0) rfl
          have q1 := cell_of hqw (j := 1) rfl
          have q2 := cell_of hqw (j := 2) rfl
          clear hqw
          cases t with
          | false =>
            have HEQ : Hid (y.i = x.i) := Lib.hid (by simpa using HTT.out)
            clear ht
            have HNX : Hid (wrun (T.take (k + 1)) x = ((O ++ [x]), true)) := Lib.hid (by rw [HST.out]; unfold wstep; rw [if_pos ⟨rfl, HLE.out⟩, if_pos HEQ.out])
            clear c0 c1 c2 q0 q1 q2
            go_wp2_with fail
            go_roundw
            case rel => exact ⟨k + 1, _, by omega, by go_num, HNX, rfl, HO62, HB62⟩
            case measure => simp [intOf]; omega
          | true =>
            have HNE : Hid (¬ y.i = x.i) := Lib.hid (by simpa using HTT.out)
            have ho := HO62.out
            have hsz := HB62.out.size
            have hul : ((O ++ [x])).length ≤ 520 := by have := HUL.out; first | omega | (simp; omega)
            go_wp2_with (at_builtin; refine wpList_append_own _ rfl _ _ 26 rfl w1.heap.size 33 i0 _ 3 24 Try.underlying26 hi hz0 hz1 hz2 rfl (by decide) _ _ _ rfl (ho.alloc _) ⟨w5c.heap.size, 0, none⟩ 1 1 (lcell y) rfl rfl (World.news_of_block (new_block w5c _)) (lcell_one _) (by unfold maxLen at *; omega) (by omega) (by simp; omega) ?_; intro v_w7c w7c hown' hg6 hnil6)
            have HB7 := Lib.hid ((HB62.out.alloc hsz _).grown hg6 (by simp; omega) (fun j hj => (HO62.out.lt j hj).1))
            have HO7 : Hid (w7c.ownsRow w1.heap.size 33 3 v_w7c ((O ++ [x]) ++ [y]).length (lcells ((O ++ [x]) ++ [y]))) := Lib.hid (by
              rw [lcells_append, List.length_append]
              simpa [lcells] using hown')
            clear hown' hg6 hnil6 ho hul
            clear ht
            have HNX : Hid (wrun (T.take (k + 1)) x = ((O ++ [x]) ++ [y], true)) := Lib.hid (by rw [HST.out]; unfold wstep; rw [if_pos ⟨rfl, HLE.out⟩, if_neg HNE.out])
            clear c0 c1 c2 q0 q1 q2
            go_wp2_with fail
            go_roundw
            case rel => exact ⟨k + 1, _, by omega, by go_num, HNX, rfl, HO7, HB7⟩
            case measure => simp [intOf]; omega
    · obtain rfl : k = n := by omega
      have hki : ¬ (k : Int) < (k : Int) := by omega
      have HRN : Hid (wrun T x = (O, d)) := Lib.hid (by
        have h := HRU.out
        rw [List.take_of_length_le (by rw [HL.out]; exact Nat.le_refl _)] at h
        exact h)
      cases d with
      | true =>
        have ho := HO.out
        obtain ⟨A5, c5, he5, -, -, -⟩ := own_form ho
        have HE : Hid (RlPost w (wend x (wrun T x)) (.returned u5) wr) := Lib.hid (by
          rw [HRN.out]
          show RlPost w O (.returned u5) wr
          subst he5
          exact ⟨A5, c5, rfl, own_base ho HB1.out.size, HBW.out⟩)
        clear ho he5
        go_wp2_with fail
        go_ret
        exact HE.out
      | false =>
        have hqw := blk_below HQ1.out HX.out
        have q0 := cell_of hqw (j := 0) rfl
        have q1 := cell_of hqw (j := 1) rfl
        have q2 := cell_of hqw (j := 2) rfl
        clear hqw
        have ho := HO.out
        have hsz := HX.out.size
        have hul : (O).length ≤ 510 := by have := HUL.out; first | omega | (simp; omega)
        go_wp2_with (at_builtin; refine wpList_append_own _ rfl _ _ 26 rfl w1.heap.size 33 i0 _ 3 24 Try.underlying26 hi hz0 hz1 hz2 rfl (by decide) _ _ _ rfl (ho.alloc _) ⟨wr.heap.size, 0, none⟩ 1 1 (lcell x) rfl rfl (World.news_of_block (new_block wr _)) (lcell_one _) (by unfold maxLen at *; omega) (by omega) (by simp; omega) ?_; intro v_w6 w6 hown' hg6 hnil6)
        have HB6 := Lib.hid ((HX.out.alloc hsz _).grown hg6 (by simp; omega) (fun j hj => (HO.out.lt j hj).1))
        have HO6 : Hid (w6.ownsRow w1.heap.size 33 3 v_w6 (O ++ [x]).length (lcells (O ++ [x]))) := Lib.hid (by
          rw [lcells_append, List.length_append]
          simpa [lcells] using hown')
        clear hown' hg6 hnil6 ho hul
        have HE : Hid (RlPost w (wend x (wrun T x)) (.returned v_w6) w6) := Lib.hid (by
          rw [HRN.out]
          show RlPost w (O ++ [x]) (.returned v_w6) w6
          have ho := HO6.out
          obtain ⟨A5, c5, rfl, -, -, -⟩ := own_form ho
          exact ⟨A5, c5, rfl, own_base ho HB1.out.size, HB1.out.trans (HB6.out.mono HB1.out.size)⟩)
        clear q0 q1 q2
        go_wp2_with fail
        go_ret
        exact HE.out
end Go.Proofs.Ytocobanallohjaa
