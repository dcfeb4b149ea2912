/-
  WatcherOnce returns true. Condition: memory holds the script; a path that is added has at most 2^21 bytes.
-/
import Derived.Test.YtfejapaoflikhaaDoorWDoes
namespace Go.Proofs.YtfejapaoflikhaaDoor
set_option maxRecDepth 100000
open Go.ChangeShapes Go.WideShapes Go.ChangeAt Go.RowKit Go.Proofs.Zn Go.Proofs.Wa

theorem fireE_at {T : Tb} (hs : Srt T) (e : Ev) {k : Nat} {y : Ev} (h : (fireE T e)[k]? = some y) : y.k = e.k ∧ y.p = e.p := (fire_comp hs e).2.2 y (List.mem_of_getElem? h)
theorem fireE_up {T : Tb} (hs : Srt T) (e : Ev) {k : Nat} {y z : Ev} (hy : (fireE T e)[k]? = some y) (hz : (fireE T e)[k + 1]? = some z) : y.s < z.s := by
  obtain ⟨h1, rfl⟩ := List.getElem?_eq_some_iff.1 hy
  obtain ⟨h2, rfl⟩ := List.getElem?_eq_some_iff.1 hz
  exact List.pairwise_iff_getElem.1 (fire_comp hs e).2.1 k (k + 1) h1 h2 (by omega)
set_option maxHeartbeats 16000000 in
theorem once_law {w : World} {A : Option Addr} {n c : Nat} {l : List Cal} (h : Rd ocell 8 w A n l) (hp : ∀ o ∈ l, o.w.p.length ≤ 2097152) (ev : Ev) :
    Calls Tryd.prog 4 #[.slice A n c, .agg #[.int .i64 ev.s, .int .i64 ev.k, .string (B ev.p)]] w fun e w' => e = .returned (.bool true) ∧ Below w.heap.size w w' := by
  obtain ⟨w0, hw0⟩ : ∃ w1, w1 = w.alloc (.cells #[.int .i64 ev.s, .int .i64 ev.k, .string (B ev.p)] 30) := ⟨_, rfl⟩
  obtain ⟨q, eq⟩ : ∃ q, q = w.heap.size := ⟨_, rfl⟩
  have hb0 : Below w.heap.size w w0 := by rw [hw0]; exact box_below w _
  have hq : w0.heap[q]? = some (.cells #[.int .i64 ev.s, .int .i64 ev.k, .string (B ev.p)] 30 (0, 0)) := by rw [hw0, eq]; exact new_block w _
  have HN := Lib.hid (new_any w0)
  have HR := Lib.hid (h.below hb0)
  have HL := Lib.hid h.len
  have HPS := Lib.hid hp
  have HB0 := Lib.hid hb0
  have HQ0 := Lib.hid hq
  have HW0 := Lib.hid hw0
  have EQ := Lib.hid eq
  clear h hp hb0 hq hw0 eq
  go_enter Tryd.func4, Tryd.ntmps4
  go_upto_region 1 with fail
  rw [← HW0.out, ← EQ.out]
  go_wp2_with fail
  refine HN.out.mono ?_
  rintro e w1 ⟨tp, v, rfl, ht1, hb1, -, -⟩
  have HT1 := Lib.hid ht1
  have HB1 := Lib.hid hb1
  clear ht1 hb1
  by_cases hn : 400 < n
  · have hn' : (400 : Int) < (n : Int) := by omega
    have HAL := Lib.hid (alive_any w1)
    clear hn
    go_wp2_with fail
    refine HAL.out.mono ?_
    rintro e w2 ⟨rfl, hb2⟩
    have HB2 := Lib.hid (HB0.out.trans ((HB1.out.trans (hb2.mono HB1.out.size)).mono HB0.out.size))
    clear hb2
    go_wp2_with fail
    go_ret
    exact ⟨rfl, HB2.out⟩
  have hn' : ¬ (400 : Int) < (n : Int) := by omega
  go_wp2_with fail
  go_loopw [25] (fun i wr => ∃ (k : Nat) (v : Value), k ≤ n ∧ i = .int .i64 k ∧ Hid (TabW wr w0.heap.size tp v (Wa.runT [] (l.take k))) ∧ Hid (Below w0.heap.size w0 wr)) (fun i _ => n - (intOf i).toNat)
  case atStart => exact ⟨0, v, Nat.zero_le _, rfl, HT1, HB1⟩
  case round =>
    obtain ⟨k, v, hk, rfl, HT, HX⟩ := hrel
    by_cases hlt : k < n
    · have HGT : Hid (Wa.Good (Wa.runT [] (l.take k))) := Lib.hid (run_good good_nil _)
      obtain ⟨b, off, o, rfl, ho, hcc⟩ := (HR.out.below HX.out).at hlt
      have c0 : wr.cell? ⟨b, off + k * 8, none⟩ = some (.int .i64 o.k) := hcc 0 _ rfl
      have c1 : wr.cell? ⟨b, off + k * 8 + 1, none⟩ = some (.int .i64 o.n) := hcc 1 _ rfl
      have c2 : wr.cell? ⟨b, off + k * 8 + 2, none⟩ = some (.int .i64 o.w.s) := hcc 2 _ rfl
      have c3 : wr.cell? ⟨b, off + k * 8 + 3, none⟩ = some (.string (B o.w.p)) := hcc 3 _ rfl
      have c4 : wr.cell? ⟨b, off + k * 8 + 4, none⟩ = some (.bool o.w.k) := hcc 4 _ rfl
      have c5 : wr.cell? ⟨b, off + k * 8 + 5, none⟩ = some (.int .i64 o.e.s) := hcc 5 _ rfl
      have c6 : wr.cell? ⟨b, off + k * 8 + 6, none⟩ = some (.int .i64 o.e.k) := hcc 6 _ rfl
      have c7 : wr.cell? ⟨b, off + k * 8 + 7, none⟩ = some (.string (B o.e.p)) := hcc 7 _ rfl
      obtain ⟨bo, hbe⟩ : ∃ b, b = wr.heap.size := ⟨_, rfl⟩
      obtain ⟨wo, hwo⟩ : ∃ wo, wo = wr.alloc (.cells #[.int .i64 o.k, .int .i64 o.n, .int .i64 o.w.s, .string (B o.w.p), .bool o.w.k, .int .i64 o.e.s, .int .i64 o.e.k, .string (B o.e.p)] 32) := ⟨_, rfl⟩
      have hbo : Below wr.heap.size wr wo := by rw [hwo]; exact box_below wr _
      have hxo : wo.heap[bo]? = some (.cells #[.int .i64 o.k, .int .i64 o.n, .int .i64 o.w.s, .string (B o.w.p), .bool o.w.k, .int .i64 o.e.s, .int .i64 o.e.k, .string (B o.e.p)] 32 (0, 0)) := by rw [hwo, hbe]; exact new_block wr _
      have HXO := Lib.hid hxo
      have HWO := Lib.hid hwo
      have HBE := Lib.hid hbe
      have HOM : Hid (o.w.p.length ≤ 2097152) := Lib.hid (HPS.out o (List.mem_of_getElem? ho))
      have hk0 : (0 : Int) ≤ (k : Int) := by omega
      have hki : (k : Int) < (n : Int) := by omega
      have HTK : Hid (Wa.runT [] (l.take (k + 1)) = Wa.stepT (Wa.runT [] (l.take k)) o) := Lib.hid (run_step ho)
      have HT2 := Lib.hid (HT.out.below hbo)
      have HX2 := Lib.hid (HX.out.trans (hbo.mono HX.out.size))
      have HD := Lib.hid (does_any (u := .slice none 0 0) (M := []) HT2.out HX2.out.size HGT.out (World.ownsRow_nil _ _ _ _) good_nil o HOM.out)
      clear ho hcc hbe hwo hbo hxo
      go_upto_region 7 with fail
      rw [← HWO.out, ← HBE.out]
      clear c0 c1 c2 c3 c4 c5 c6 c7
      have o0 := cell_of HXO.out (j := 0) rfl
      have o1 := cell_of HXO.out (j := 1) rfl
      have o2 := cell_of HXO.out (j := 2) rfl
      have o3 := cell_of HXO.out (j := 3) rfl
      have o4 := cell_of HXO.out (j := 4) rfl
      have o5 := cell_of HXO.out (j := 5) rfl
      have o6 := cell_of HXO.out (j := 6) rfl
      have o7 := cell_of HXO.out (j := 7) rfl
      go_wp2_with fail
      refine HD.out.mono ?_
      rintro e w5 ⟨u5, b5, rfl, -, -, hk5⟩
      have HX5 := Lib.hid (HX2.out.trans ((kp_below hk5 HT2.out HX2.out.size)))
      obtain ⟨v5, ht5, -, -⟩ := hk5
      rw [← HTK.out] at ht5
      have HT5 := Lib.hid ht5
      clear ht5
      clear o0 o1 o2 o3 o4 o5 o6 o7
      go_wp2_with fail
      go_roundw
      case rel => exact ⟨k + 1, v5, by omega, by go_num, HT5, HX5⟩
      case measure => simp [intOf]; omega
    · obtain rfl : k = n := by omega
      have hki : ¬ (k : Int) < (k : Int) := by omega
      obtain ⟨T, hT⟩ : ∃ T, Wa.runT [] (l.take k) = T := ⟨_, rfl⟩
      have HG : Hid (Wa.Good T) := Lib.hid (by rw [← hT]; exact run_good good_nil _)
      rw [hT] at HT
      clear hT
      have HFI := Lib.hid (fire_any HT.out (by have := HG.out.len; omega) ev)
      have hqr := blk_below HQ0.out HX.out
      have q0 := cell_of hqr (j := 0) rfl
      have q1 := cell_of hqr (j := 1) rfl
      have q2 := cell_of hqr (j := 2) rfl
      clear hqr
      go_wp2_with fail
      refine HFI.out.mono ?_
      rintro e w2 ⟨A2, c2, rfl, ho2, hk2⟩
      rw [(fire_comp HG.out.srt ev).1] at ho2 ⊢
      have HX2 := Lib.hid (HX.out.trans (kp_below hk2 HT.out HX.out.size))
      obtain ⟨v2, ht2, -, -⟩ := hk2
      have HT2 := Lib.hid ht2
      have HRF := Lib.hid (Rd.of_own (cell := ecell) (l := fireE T ev) ho2 (fun _ _ => rfl) (by omega))
      obtain ⟨m, hm⟩ : ∃ m, (fireE T ev).length = m := ⟨_, rfl⟩
      rw [hm] at HRF ⊢
      have hm5 : m ≤ 500 := by rw [← hm]; have h1 := fireE_len T ev; have h2 := HG.out.len; omega
      have HML : Hid (m ≤ 500) := Lib.hid (by rw [← hm]; have h1 := fireE_len T ev; have h2 := HG.out.len; omega)
      clear ho2 ht2 q0 q1 q2 hm
      go_wp2_with fail
      go_loopw [38] (fun i wz => ∃ j : Nat, j ≤ m ∧ i = .int .i64 j ∧ Hid (Below w2.heap.size w2 wz)) (fun i _ => m - (intOf i).toNat)
      case atStart => exact ⟨0, Nat.zero_le _, rfl, Lib.hid (Below.refl _ _)⟩
      case round =>
        obtain ⟨j, hj, rfl, HZ⟩ := hrel
        have HZX := Lib.hid (HX2.out.trans (HZ.out.mono HX2.out.size))
        have hqr := blk_below HQ0.out HZX.out
        have q0 := cell_of hqr (j := 0) rfl
        have q1 := cell_of hqr (j := 1) rfl
        have q2 := cell_of hqr (j := 2) rfl
        clear hqr
        by_cases hlj : j < m
        · obtain ⟨b, off, y, rfl, hy, hcc⟩ := (HRF.out.below HZ.out).at hlj
          obtain ⟨e1, e2⟩ := fireE_at HG.out.srt ev hy
          have c0 : wr.cell? ⟨b, off + j * 3, none⟩ = some (.int .i64 y.s) := hcc 0 _ rfl
          have c1 : wr.cell? ⟨b, off + j * 3 + 1, none⟩ = some (.int .i64 ev.k) := by rw [← e1]; exact hcc 1 _ rfl
          have c2 : wr.cell? ⟨b, off + j * 3 + 2, none⟩ = some (.string (B ev.p)) := by rw [← e2]; exact hcc 2 _ rfl
          have hj0 : (0 : Int) ≤ (j : Int) := by omega
          have hji : (j : Int) < (m : Int) := by omega
          by_cases hz : 0 < j
          · obtain ⟨j1, rfl⟩ : ∃ j1, j = j1 + 1 := ⟨j - 1, by omega⟩
            obtain ⟨b', off', z, he, hz, hdd⟩ := (HRF.out.below HZ.out).at (show j1 < m by omega)
            injection he with he
            injection he with he1 he2 he3
            subst he1; subst he2
            have hup := fireE_up HG.out.srt ev hz hy
            have d0 : wr.cell? ⟨b, off + j1 * 3, none⟩ = some (.int .i64 z.s) := hdd 0 _ rfl
            obtain ⟨j, hjj⟩ : ∃ j, j1 + 1 = j := ⟨_, rfl⟩
            rw [hjj] at c0 c1 c2 hj0 hji ⊢
            have hws : IntKind.i64.wrap ((j : Int) - 1) = (j1 : Int) := by rw [IntKind.wrap_i64]; have := HML.out; omega
            have hz0 : decide ((0 : Int) < (j : Int)) = true := by rw [decide_eq_true_eq]; omega
            have hz0' : decide (0 < j) = true := by rw [decide_eq_true_eq]; omega
            have hz1 : (0 : Int) ≤ (j1 : Int) := by omega
            have hz2 : (j1 : Int) < (m : Int) := by omega
            have hge : decide (y.s ≤ z.s) = false := by rw [decide_eq_false_iff_not]; omega
            have HJ : Hid (j ≤ m ∧ j < m) := Lib.hid ⟨by omega, by omega⟩
            clear hy hz hcc hdd e1 e2 hup hjj
            go_upto_region 13 with fail
            go_quiet (fail)
            have HZ2 := Lib.hid (below_drewN HZ.out nq)
            clear c0 c1 c2 d0 q0 q1 q2
            go_wp2_with fail
            go_roundw
            case rel => exact ⟨j + 1, by have := HJ.out; omega, by go_num, HZ2⟩
            case measure => simp [intOf]; have := HJ.out; omega
          · have hz0 : decide ((0 : Int) < (j : Int)) = false := by rw [decide_eq_false_iff_not]; omega
            have hz0' : decide (0 < j) = false := by rw [decide_eq_false_iff_not]; omega
            clear hy hcc e1 e2 hz
            go_upto_region 13 with fail
            go_quiet (fail)
            have HZ2 := Lib.hid (below_drewN HZ.out nq)
            clear c0 c1 c2 q0 q1 q2
            go_wp2_with fail
            go_roundw
            case rel => exact ⟨j + 1, by omega, by go_num, HZ2⟩
            case measure => simp [intOf]; omega
        · obtain rfl : j = m := by omega
          have hji : ¬ (j : Int) < (j : Int) := by omega
          have HAL := Lib.hid (alive_any wr)
          clear q0 q1 q2
          go_wp2_with fail
          refine HAL.out.mono ?_
          rintro e w3 ⟨rfl, hb3⟩
          have hqr := blk_below (blk_below HQ0.out HZX.out) hb3
          have q0 := cell_of hqr (j := 0) rfl
          have q1 := cell_of hqr (j := 1) rfl
          have q2 := cell_of hqr (j := 2) rfl
          have HX3 := Lib.hid (HZX.out.trans (hb3.mono HZX.out.size))
          have HT3 := Lib.hid ((HT2.out.below HZ.out).below hb3)
          have HF3 := Lib.hid (fire_any HT3.out (by have h1 := fireT_len T ev; have := HG.out.len; omega) ev)
          clear hqr hb3
          go_wp2_with fail
          refine HF3.out.mono ?_
          rintro e w4 ⟨A4, c4, rfl, -, hk4⟩
          have HX4 := Lib.hid (HX3.out.trans (kp_below hk4 HT3.out HX3.out.size))
          have HZE : Hid ((comp (toldA (fireT T ev) ev)).length = 0) := Lib.hid (by
            have hg2 : Wa.Good (fireT T ev) := filter_good HG.out _
            rw [(fire_comp hg2.srt ev).1]
            show (fireE (fireT T ev) ev).length = 0
            rw [fire_again]; rfl)
          rw [HZE.out]
          clear hk4
          go_wp2_with fail
          go_ret
          exact ⟨rfl, HB0.out.trans (HX4.out.mono HB0.out.size)⟩
end Go.Proofs.YtfejapaoflikhaaDoor
