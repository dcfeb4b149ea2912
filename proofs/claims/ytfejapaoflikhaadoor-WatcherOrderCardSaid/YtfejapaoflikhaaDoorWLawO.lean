/-
  WatcherOrder returns true. Condition: memory holds the watches; no path is longer than memory bears.
-/
import Derived.Test.YtfejapaoflikhaaDoorWSame
namespace Go.Proofs.YtfejapaoflikhaaDoor
set_option maxRecDepth 100000
open Go.ChangeShapes Go.WideShapes Go.ChangeAt Go.RowKit Go.Proofs.Zn Go.Proofs.Wa

theorem adds_take {l : Tb} {k : Nat} {x : Wt} (h : l[k]? = some x) : adds [] (l.take (k + 1)) = (add (adds [] (l.take k)) x).1 := by rw [take_some h, adds_snoc]
theorem adds_small (l : Tb) : (adds [] l).length ≤ 500 := (adds_good good_nil l).len
set_option maxHeartbeats 16000000 in
theorem order_law {w : World} {A : Option Addr} {n c : Nat} {l : Tb} (h : Rd wcell 3 w A n l) (hp : ∀ x ∈ l, x.p.length ≤ 140737488355328) (ev : Ev) :
    Calls Tryd.prog 8 #[.slice A n c, .agg #[.int .i64 ev.s, .int .i64 ev.k, .string (B ev.p)]] w fun e w' => e = .returned (.bool true) ∧ Below w.heap.size w w' := by
  obtain ⟨w0, hw0⟩ : ∃ w1, w1 = w.alloc (.cells #[.int .i64 ev.s, .int .i64 ev.k, .string (B ev.p)] 30) := ⟨_, rfl⟩
  obtain ⟨q, eq⟩ : ∃ q, q = w.heap.size := ⟨_, rfl⟩
  have hb0 : Below w.heap.size w w0 := by rw [hw0]; exact box_below w _
  have hq : w0.heap[q]? = some (.cells #[.int .i64 ev.s, .int .i64 ev.k, .string (B ev.p)] 30 (0, 0)) := by rw [hw0, eq]; exact new_block w _
  have HN := Lib.hid (fun W => new_any W)
  have HR := Lib.hid (h.below hb0)
  have HL := Lib.hid h.len
  have HPS := Lib.hid hp
  have HB0 := Lib.hid hb0
  have HQ0 := Lib.hid hq
  have HW0 := Lib.hid hw0
  have EQ := Lib.hid eq
  clear h hp hb0 hq hw0 eq
  go_enter Tryd.func8, Tryd.ntmps8
  go_upto_region 1 with fail
  rw [← HW0.out, ← EQ.out]
  go_wp2_with fail
  refine (HN.out _).mono ?_
  rintro e w1 ⟨tp, v, rfl, ht1, hb1, -, -⟩
  go_wp2_with fail
  refine (HN.out _).mono ?_
  rintro e w2 ⟨tq, vq, rfl, ht2, hb2, -, -⟩
  have HT2 := Lib.hid (two_of ht1 hb1.size ht2 hb2)
  have HB2 := Lib.hid (hb1.trans (hb2.mono hb1.size))
  clear ht1 hb1 ht2 hb2
  by_cases hn : 400 < n
  · have hn' : (400 : Int) < (n : Int) := by omega
    have HAL := Lib.hid (alive_any w2)
    clear hn
    go_wp2_with fail
    refine HAL.out.mono ?_
    rintro e w3 ⟨rfl, hb3⟩
    have HB3 := Lib.hid (HB0.out.trans ((HB2.out.trans (hb3.mono HB2.out.size)).mono HB0.out.size))
    clear hb3
    go_wp2_with fail
    go_ret
    exact ⟨rfl, HB3.out⟩
  have hn' : ¬ (400 : Int) < (n : Int) := by omega
  go_wp2_with fail
  go_loopw [35] (fun i wr => ∃ (k : Nat) (v vq : Value), k ≤ n ∧ i = .int .i64 k ∧ Hid (Two wr w0.heap.size tp v (adds [] (l.take k)) tq vq (adds [] (l.reverse.take k))) ∧ Hid (Below w0.heap.size w0 wr)) (fun i _ => n - (intOf i).toNat)
  case atStart => exact ⟨0, v, vq, Nat.zero_le _, rfl, HT2, HB2⟩
  case round =>
    obtain ⟨k, v, vq, hk, rfl, HT, HX⟩ := hrel
    by_cases hlt : k < n
    · obtain ⟨n1, hn1⟩ : ∃ n1, n1 = n - 1 := ⟨_, rfl⟩
      obtain ⟨m, hm⟩ : ∃ m, m = n1 - k := ⟨_, rfl⟩
      obtain ⟨b, off, x, rfl, hx, hcc⟩ := (HR.out.below HX.out).at hlt
      have hmn : m < n := by omega
      have hy0 : l.reverse[k]? = l[m]? := by
        rw [List.getElem?_reverse (by rw [HL.out]; exact hlt)]
        congr 1
        rw [HL.out]; omega
      obtain ⟨y, hy⟩ : ∃ y, l[m]? = some y := ⟨l[m]'(by rw [HL.out]; exact hmn), List.getElem?_eq_getElem _⟩
      rw [hy] at hy0
      have HTX : Hid (adds [] (l.take (k + 1)) = (add (adds [] (l.take k)) x).1) := Lib.hid (adds_take hx)
      have HTY : Hid (adds [] (l.reverse.take (k + 1)) = (add (adds [] (l.reverse.take k)) y).1) := Lib.hid (adds_take hy0)
      have HPX : Hid (x.p.length ≤ 140737488355328 ∧ y.p.length ≤ 140737488355328) := Lib.hid ⟨HPS.out x (List.mem_of_getElem? hx), HPS.out y (List.mem_of_getElem? hy)⟩
      have HYC : Hid (∀ W, Below w0.heap.size w0 W → (W.cell? ⟨b, off + m * 3, none⟩ = some (.int .i64 y.s) ∧ W.cell? ⟨b, off + m * 3 + 1, none⟩ = some (.string (B y.p)) ∧ W.cell? ⟨b, off + m * 3 + 2, none⟩ = some (.bool y.k))) := Lib.hid (fun W hW => by
        obtain ⟨b', off', y', hA', hy', hdd⟩ := (HR.out.below hW).at hmn
        injection hA' with hA'
        injection hA' with e1 e2 e3
        subst e1; subst e2
        obtain rfl : y = y' := Option.some.inj (hy.symm.trans hy')
        exact ⟨hdd 0 _ rfl, hdd 1 _ rfl, hdd 2 _ rfl⟩)
      have c0 : wr.cell? ⟨b, off + k * 3, none⟩ = some (.int .i64 x.s) := hcc 0 _ rfl
      have c1 : wr.cell? ⟨b, off + k * 3 + 1, none⟩ = some (.string (B x.p)) := hcc 1 _ rfl
      have c2 : wr.cell? ⟨b, off + k * 3 + 2, none⟩ = some (.bool x.k) := hcc 2 _ rfl
      have hk0 : (0 : Int) ≤ (k : Int) := by omega
      have hki : (k : Int) < (n : Int) := by omega
      have hm0 : (0 : Int) ≤ (m : Int) := by omega
      have hmi : (m : Int) < (n : Int) := by omega
      have hw1 : IntKind.i64.wrap ((n : Int) - 1) = (n1 : Int) := by rw [IntKind.wrap_i64]; omega
      have hw2 : IntKind.i64.wrap ((n1 : Int) - (k : Int)) = (m : Int) := by rw [IntKind.wrap_i64]; omega
      have HAX := Lib.hid (add_any HT.out.a HX.out.size (adds_good good_nil _) x HPX.out.1)
      have HNM : Hid (n1 = n - 1 ∧ m = n1 - k) := Lib.hid ⟨hn1, hm⟩
      clear hx hcc hy hy0 hn1 hm hmn
      go_wp2_with fail
      refine HAX.out.mono ?_
      intro e w5 h5'
      obtain ⟨rfl, h5⟩ := kp_of_ad h5'
      rw [← HTX.out] at h5
      have HX5 := Lib.hid (HX.out.trans (kp_below h5 HT.out.a HX.out.size))
      obtain ⟨v5, ht5⟩ := HT.out.one h5
      have HT5 := Lib.hid ht5
      have HAY := Lib.hid (add_any ht5.b HX5.out.size (adds_good good_nil _) y HPX.out.2)
      obtain ⟨d0, d1, d2⟩ := HYC.out _ HX5.out
      clear h5 h5' ht5 c0 c1 c2
      go_wp2_with fail
      refine HAY.out.mono ?_
      intro e w6 h6'
      obtain ⟨rfl, h6⟩ := kp_of_ad h6'
      rw [← HTY.out] at h6
      have HX6 := Lib.hid (HX5.out.trans (kp_below h6 HT5.out.b HX5.out.size))
      obtain ⟨v6, ht6⟩ := HT5.out.swap.one h6
      have HT6 := Lib.hid ht6.swap
      clear h6 h6' ht6 d0 d1 d2
      go_wp2_with fail
      go_roundw
      case rel => exact ⟨k + 1, v5, v6, by omega, by go_num, HT6, HX6⟩
      case measure => simp [intOf]; omega
    · obtain rfl : k = n := by omega
      have hki : ¬ (k : Int) < (k : Int) := by omega
      obtain ⟨D, hD⟩ : ∃ D, adds [] (l.take k) = D := ⟨_, rfl⟩
      have HG : Hid (Wa.Good D) := Lib.hid (by rw [← hD]; exact adds_good good_nil _)
      have hD2 : adds [] (l.reverse.take k) = D := by
        rw [← hD, List.take_of_length_le (by rw [List.length_reverse, HL.out]; exact Nat.le_refl _), List.take_of_length_le (by rw [HL.out]; exact Nat.le_refl _)]
        exact (adds_rev l (by rw [HL.out]; omega)).symm
      rw [hD, hD2] at HT
      clear hD hD2
      have hd5 : D.length ≤ 500 := HG.out.len
      have HA5 := Lib.hid (all_any HT.out.a (by omega))
      go_wp2_with fail
      refine HA5.out.mono ?_
      rintro e w5 ⟨A5, c5, rfl, ho5, hb5⟩
      have HX5 := Lib.hid (HX.out.trans (hb5.mono HX.out.size))
      have HT5 := Lib.hid (HT.out.below hb5)
      have HR5 := Lib.hid (Rd.of_own (cell := wcell) (l := D) ho5 (fun _ _ => rfl) (by omega))
      have HA6 := Lib.hid (all_any HT5.out.b (by omega))
      clear ho5 hb5
      go_wp2_with fail
      refine HA6.out.mono ?_
      rintro e w6 ⟨A6, c6, rfl, ho6, hb6⟩
      have HX6 := Lib.hid (HX5.out.trans (hb6.mono HX5.out.size))
      have HT6 := Lib.hid (HT5.out.below hb6)
      have HR6 := Lib.hid (Rd.of_own (cell := wcell) (l := D) ho6 (fun _ _ => rfl) (by omega))
      have HR5 := Lib.hid (HR5.out.below hb6)
      have hgu := guard_neqW
      clear ho6 hb6
      go_wp2_with fail
      go_loopw [66] (fun i wz => ∃ j : Nat, j ≤ D.length ∧ i = .int .i64 j ∧ Hid (Below w6.heap.size w6 wz)) (fun i _ => D.length - (intOf i).toNat)
      case atStart => exact ⟨0, Nat.zero_le _, rfl, Lib.hid (Below.refl _ _)⟩
      case round =>
        obtain ⟨j, hj, rfl, HZ⟩ := hrel
        by_cases hlj : j < D.length
        · obtain ⟨b, off, x, rfl, hx, hcc⟩ := (HR5.out.below HZ.out).at hlj
          obtain ⟨b2, off2, z, rfl, hz, hdd⟩ := (HR6.out.below HZ.out).at hlj
          obtain rfl : x = z := Option.some.inj (hx.symm.trans hz)
          have c0 : wr.cell? ⟨b, off + j * 3, none⟩ = some (.int .i64 x.s) := hcc 0 _ rfl
          have c1 : wr.cell? ⟨b, off + j * 3 + 1, none⟩ = some (.string (B x.p)) := hcc 1 _ rfl
          have c2 : wr.cell? ⟨b, off + j * 3 + 2, none⟩ = some (.bool x.k) := hcc 2 _ rfl
          have d0 : wr.cell? ⟨b2, off2 + j * 3, none⟩ = some (.int .i64 x.s) := hdd 0 _ rfl
          have d1 : wr.cell? ⟨b2, off2 + j * 3 + 1, none⟩ = some (.string (B x.p)) := hdd 1 _ rfl
          have d2 : wr.cell? ⟨b2, off2 + j * 3 + 2, none⟩ = some (.bool x.k) := hdd 2 _ rfl
          have hqe := neqW x x
          rw [show (!decide (x = x)) = false by simp] at hqe
          have hj0 : (0 : Int) ≤ (j : Int) := by omega
          have hji : (j : Int) < (D.length : Int) := by omega
          clear hx hz hcc hdd
          go_upto_region 16 with fail
          go_quiet (fail)
          have HZ2 := Lib.hid (below_drewN HZ.out nq)
          clear c0 c1 c2 d0 d1 d2 hqe
          go_wp2_with fail
          go_roundw
          case rel => exact ⟨j + 1, by omega, by go_num, HZ2⟩
          case measure => simp [intOf]; omega
        · obtain rfl : j = D.length := by omega
          have hji : ¬ (D.length : Int) < (D.length : Int) := by omega
          have HX7 := Lib.hid (HX6.out.trans (HZ.out.mono HX6.out.size))
          have HT7 := Lib.hid (HT6.out.below HZ.out)
          have HAL := Lib.hid (fun W => alive_any W)
          have HS : Hid (∀ W, Below w0.heap.size w0 W → (W.cell? ⟨q, 0, none⟩ = some (.int .i64 ev.s) ∧ W.cell? ⟨q, 1, none⟩ = some (.int .i64 ev.k) ∧ W.cell? ⟨q, 2, none⟩ = some (.string (B ev.p)) ∧ Below w0.heap.size w0 W)) := Lib.hid (fun W hW => by
            have hqr := blk_below HQ0.out hW
            exact ⟨cell_of hqr (j := 0) rfl, cell_of hqr (j := 1) rfl, cell_of hqr (j := 2) rfl, hW⟩)
          obtain ⟨q0, q1, q2, hX7⟩ := HS.out wr HX7.out
          have HFC := Lib.hid (fire_comp HG.out.srt ev).1
          have hle : (comp (toldA D ev)).length ≤ 100000 := by rw [HFC.out]; have h1 := fireE_len D ev; omega
          go_wp2_with fail
          go_region_held3 (fun W => W.cell? ⟨q, 0, none⟩ = some (.int .i64 ev.s) ∧ W.cell? ⟨q, 1, none⟩ = some (.int .i64 ev.k) ∧ W.cell? ⟨q, 2, none⟩ = some (.string (B ev.p)) ∧ Below w0.heap.size w0 W)
            (first
              | assumption
              | (with_reducible exact HS.out _ HX7.out.drew)
              | (with_reducible exact HS.out _ (by first | assumption | (apply Below.drew; assumption))))
            (first
              | (go_at_call 10; (with_reducible refine (HAL.out _).mono ?_); rintro e wa ⟨rfl, hba⟩; have hXa : Below wr.heap.size wr wa := (by first | exact hba | exact below_step (Below.refl _ _).drew hba); have hXA := HX7.out.trans (hXa.mono HX7.out.size); have hSa := HS.out wa hXA; have hta := HT7.out.below hXa; have HF1 := Lib.hid (fun W (hW : Below wa.heap.size wa W) => fire_any (hta.a.below hW) (by omega) ev))
              | (go_at_call 15; (with_reducible refine (HF1.out _ (by first | exact Below.refl _ _ | exact (Below.refl _ _).drew)).mono ?_); rintro e w8 ⟨A8, c8, rfl, ho8, hk8⟩; have hX8 : Below w0.heap.size w0 w8 := (by first | exact hXA.trans (kp_below hk8 hta.a hXA.size) | exact hXA.drew.trans (kp_below hk8 ((hta.below (Below.refl _ _).drew).a) hXA.drew.size)); have hS8 := HS.out w8 hX8; have hv8 : ∃ v', Two w8 w0.heap.size tp v' (fireT D ev) tq vq D := (by first | exact hta.one hk8 | exact (hta.below (Below.refl _ _).drew).one hk8); obtain ⟨v8, ht8⟩ := hv8; have HF2 := Lib.hid (fun W (hW : Below w8.heap.size w8 W) => fire_any (ht8.b.below hW) (by omega) ev))
              | (go_at_call 15; (with_reducible refine (HF2.out _ (by first | exact Below.refl _ _ | exact (Below.refl _ _).drew)).mono ?_); rintro e w9 ⟨A9, c9, rfl, ho9, hk9⟩; have hX9 : Below w0.heap.size w0 w9 := (by first | exact hX8.trans (kp_below hk9 ht8.b hX8.size) | exact hX8.drew.trans (kp_below hk9 ((ht8.below (Below.refl _ _).drew).b) hX8.drew.size)); have hS9 := HS.out w9 hX9; have ho89 : w9.ownsRow 0 30 3 (.slice A8 (comp (toldA D ev)).length c8) (comp (toldA D ev)).length (ecells (comp (toldA D ev))) := (by first | exact own_base (kp_own hk9 ht8.b ho8 (by decide) (by decide)) (Nat.zero_le _) | exact own_base (kp_own hk9 (ht8.below (Below.refl _ _).drew).b (own_below ho8 (Below.refl _ _).drew) (by decide) (by decide)) (Nat.zero_le _)); have HSE := Lib.hid (fun W (hW : Below w9.heap.size w9 W) => sameev_yes (c := c8) (c2 := c9) (Rd.of_own (cell := ecell) (l := comp (toldA D ev)) (own_below ho89 hW) (fun _ _ => rfl) (by omega)) (Rd.of_own (cell := ecell) (l := comp (toldA D ev)) (own_below ho9 hW) (fun _ _ => rfl) (by omega)) hle))
              | (go_at_call 20; (with_reducible refine (HSE.out _ (by first | exact Below.refl _ _ | exact (Below.refl _ _).drew)).mono ?_); rintro e w10 ⟨rfl, hb10⟩; have hX10 : Below w0.heap.size w0 w10 := (by first | exact hX9.trans (hb10.mono hX9.size) | exact hX9.drew.trans (hb10.mono hX9.drew.size)); have hS10 := HS.out w10 hX10))
          all_goals
            have HX10 := Lib.hid hX10
            go_wp2_with fail
            go_ret
            exact ⟨rfl, HB0.out.trans (HX10.out.mono HB0.out.size)⟩
end Go.Proofs.YtfejapaoflikhaaDoor
