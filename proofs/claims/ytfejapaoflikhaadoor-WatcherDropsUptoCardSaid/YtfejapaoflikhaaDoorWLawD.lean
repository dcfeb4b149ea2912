/-
  WatcherDrops returns true. Condition: memory holds the script; a path that is added has at most 2^21 bytes.
-/
import Derived.Test.YtfejapaoflikhaaDoorWSame
namespace Go.Proofs.YtfejapaoflikhaaDoor
set_option maxRecDepth 100000
open Go.ChangeShapes Go.WideShapes Go.ChangeAt Go.RowKit Go.Proofs.Zn Go.Proofs.Wa

theorem skip_ne {s : Int} {o : Cal} (h : (o.k != 0) = true) : skips s o = false := by
  unfold skips
  simp only [bne_iff_ne, ne_eq] at h
  simp [h]
theorem skip_0 {s : Int} {o : Cal} (h : o.k = 0) : skips s o = (o.w.s == s) := by
  unfold skips
  simp [h]
set_option maxHeartbeats 16000000 in
theorem drops_law {w : World} {A : Option Addr} {n c : Nat} {l : List Cal} (h : Rd ocell 8 w A n l) (hp : ∀ o ∈ l, o.w.p.length ≤ 2097152) (se : Int) (ev : Ev) :
    Calls Tryd.prog 7 #[.slice A n c, .int .i64 se, .agg #[.int .i64 ev.s, .int .i64 ev.k, .string (B ev.p)]] w fun e w' => e = .returned (.bool true) ∧ Below w.heap.size w w' := by
  obtain ⟨w0, hw0⟩ : ∃ w1, w1 = w.alloc (.cells #[.int .i64 ev.s, .int .i64 ev.k, .string (B ev.p)] 30) := ⟨_, rfl⟩
  obtain ⟨q, eq⟩ : ∃ q, q = w.heap.size := ⟨_, rfl⟩
  have hb0 : Below w.heap.size w w0 := by rw [hw0]; exact box_below w _
  have hq : w0.heap[q]? = some (.cells #[.int .i64 ev.s, .int .i64 ev.k, .string (B ev.p)] 30 (0, 0)) := by rw [hw0, eq]; exact new_block w _
  have HN := Lib.hid (fun W => new_any W)
  have HR := Lib.hid (h.below hb0)
  have HL := Lib.hid h.len
  have HPS := Lib.hid hp
  have HB0 := Lib.hid hb0
  have HQ0 := Lib.hid hq
  have HW0 := Lib.hid hw0
  have EQ := Lib.hid eq
  clear h hp hb0 hq hw0 eq
  go_enter Tryd.func7, Tryd.ntmps7
  go_upto_region 1 with fail
  rw [← HW0.out, ← EQ.out]
  go_wp2_with fail
  refine (HN.out _).mono ?_
  rintro e w1 ⟨tp, v, rfl, ht1, hb1, -, -⟩
  go_wp2_with fail
  refine (HN.out _).mono ?_
  rintro e w2 ⟨tq, vq, rfl, ht2, hb2, -, -⟩
  have HT2 := Lib.hid (two_of ht1 hb1.size ht2 hb2)
  have HB2 := Lib.hid (hb1.trans (hb2.mono hb1.size))
  clear ht1 hb1 ht2 hb2
  by_cases hn : 300 < n
  · have hn' : (300 : Int) < (n : Int) := by omega
    have HAL := Lib.hid (alive_any w2)
    clear hn
    go_wp2_with fail
    refine HAL.out.mono ?_
    rintro e w3 ⟨rfl, hb3⟩
    have HB3 := Lib.hid (HB0.out.trans ((HB2.out.trans (hb3.mono HB2.out.size)).mono HB0.out.size))
    clear hb3
    go_wp2_with fail
    go_ret
    exact ⟨rfl, HB3.out⟩
  have hn' : ¬ (300 : Int) < (n : Int) := by omega
  go_wp2_with fail
  go_loopw [39] (fun i wr => ∃ (k : Nat) (v vq : Value) (U : Tb), k ≤ n ∧ i = .int .i64 k ∧ Hid (Two wr w0.heap.size tp v (Wa.runT [] (l.take k)) tq vq U) ∧ Hid (Wa.Good U ∧ U.length ≤ k ∧ drop (Wa.runT [] (l.take k)) se = drop U se) ∧ Hid (Below w0.heap.size w0 wr)) (fun i _ => n - (intOf i).toNat)
  case atStart => exact ⟨0, v, vq, [], Nat.zero_le _, rfl, HT2, Lib.hid ⟨good_nil, Nat.le_refl _, rfl⟩, HB2⟩
  case round =>
    obtain ⟨k, v, vq, U, hk, rfl, HT, HU, HX⟩ := hrel
    by_cases hlt : k < n
    · have HGT : Hid (Wa.Good (Wa.runT [] (l.take k))) := Lib.hid (run_good good_nil _)
      have HLT : Hid ((Wa.runT [] (l.take k)).length < 500) := Lib.hid (by have h1 := run_len (l.take k) []; rw [List.length_take] at h1; simp only [List.length_nil] at h1; omega)
      obtain ⟨b, off, o, rfl, ho, hcc⟩ := (HR.out.below HX.out).at hlt
      have c0 : wr.cell? ⟨b, off + k * 8, none⟩ = some (.int .i64 o.k) := hcc 0 _ rfl
      have c1 : wr.cell? ⟨b, off + k * 8 + 1, none⟩ = some (.int .i64 o.n) := hcc 1 _ rfl
      have c2 : wr.cell? ⟨b, off + k * 8 + 2, none⟩ = some (.int .i64 o.w.s) := hcc 2 _ rfl
      have c3 : wr.cell? ⟨b, off + k * 8 + 3, none⟩ = some (.string (B o.w.p)) := hcc 3 _ rfl
      have c4 : wr.cell? ⟨b, off + k * 8 + 4, none⟩ = some (.bool o.w.k) := hcc 4 _ rfl
      have c5 : wr.cell? ⟨b, off + k * 8 + 5, none⟩ = some (.int .i64 o.e.s) := hcc 5 _ rfl
      have c6 : wr.cell? ⟨b, off + k * 8 + 6, none⟩ = some (.int .i64 o.e.k) := hcc 6 _ rfl
      have c7 : wr.cell? ⟨b, off + k * 8 + 7, none⟩ = some (.string (B o.e.p)) := hcc 7 _ rfl
      obtain ⟨bo, hbe⟩ : ∃ b, b = wr.heap.size := ⟨_, rfl⟩
      obtain ⟨wo, hwo⟩ : ∃ wo, wo = wr.alloc (.cells #[.int .i64 o.k, .int .i64 o.n, .int .i64 o.w.s, .string (B o.w.p), .bool o.w.k, .int .i64 o.e.s, .int .i64 o.e.k, .string (B o.e.p)] 32) := ⟨_, rfl⟩
      have hbo : Below wr.heap.size wr wo := by rw [hwo]; exact box_below wr _
      have hxo : wo.heap[bo]? = some (.cells #[.int .i64 o.k, .int .i64 o.n, .int .i64 o.w.s, .string (B o.w.p), .bool o.w.k, .int .i64 o.e.s, .int .i64 o.e.k, .string (B o.e.p)] 32 (0, 0)) := by rw [hwo, hbe]; exact new_block wr _
      have HXO := Lib.hid hxo
      have HWO := Lib.hid hwo
      have HBE := Lib.hid hbe
      have HOM : Hid (o.w.p.length ≤ 2097152) := Lib.hid (HPS.out o (List.mem_of_getElem? ho))
      have hk0 : (0 : Int) ≤ (k : Int) := by omega
      have hki : (k : Int) < (n : Int) := by omega
      have HTK : Hid (Wa.runT [] (l.take (k + 1)) = Wa.stepT (Wa.runT [] (l.take k)) o) := Lib.hid (run_step ho)
      have HT2 := Lib.hid (HT.out.below hbo)
      have HX2 := Lib.hid (HX.out.trans (hbo.mono HX.out.size))
      have HD := Lib.hid (does_any (u := .slice none 0 0) (M := []) HT2.out.a HX2.out.size HGT.out (World.ownsRow_nil _ _ _ _) good_nil o HOM.out)
      have HUL : Hid (U.length < 500) := Lib.hid (by have := HU.out.2.1; omega)
      have HSK : Hid (skips se o = false → drop (Wa.runT [] (l.take (k + 1))) se = drop (Wa.stepT U o) se) := Lib.hid (fun h => by
        rw [HTK.out, drop_step HGT.out.srt HLT.out, drop_step HU.out.1.srt HUL.out, if_neg (by rw [h]; simp), if_neg (by rw [h]; simp), HU.out.2.2])
      have HSL : Hid ((Wa.stepT U o).length ≤ k + 1) := Lib.hid (by have h1 := step_len U o; have h2 := HU.out.2.1; omega)
      clear ho hcc hbe hwo hbo hxo
      go_upto_region 7 with fail
      rw [← HWO.out, ← HBE.out]
      clear c0 c1 c2 c3 c4 c5 c6 c7
      have o0 := cell_of HXO.out (j := 0) rfl
      have o1 := cell_of HXO.out (j := 1) rfl
      have o2 := cell_of HXO.out (j := 2) rfl
      have o3 := cell_of HXO.out (j := 3) rfl
      have o4 := cell_of HXO.out (j := 4) rfl
      have o5 := cell_of HXO.out (j := 5) rfl
      have o6 := cell_of HXO.out (j := 6) rfl
      have o7 := cell_of HXO.out (j := 7) rfl
      go_wp2_with fail
      refine HD.out.mono ?_
      rintro e w5 ⟨u5, b5, rfl, -, -, hk5⟩
      have HX5 := Lib.hid (HX2.out.trans ((kp_below hk5 HT2.out.a HX2.out.size)))
      have hx5 : w5.heap[bo]? = some (.cells #[.int .i64 o.k, .int .i64 o.n, .int .i64 o.w.s, .string (B o.w.p), .bool o.w.k, .int .i64 o.e.s, .int .i64 o.e.k, .string (B o.e.p)] 32 (0, 0)) := by
        obtain ⟨v', -, kk, -⟩ := hk5
        exact kk.blk HT2.out.a HXO.out (by decide) (by decide)
      obtain ⟨v5, ht5⟩ := HT2.out.one hk5
      rw [← HTK.out] at ht5
      have HT5 := Lib.hid ht5
      have HD2 := Lib.hid (does_any (u := .slice none 0 0) (M := []) HT5.out.b HX5.out.size HU.out.1 (World.ownsRow_nil _ _ _ _) good_nil o HOM.out)
      clear ht5 hk5
      clear o0 o1 o2 o3 o4 o5 o6 o7
      have o0 := cell_of hx5 (j := 0) rfl
      have o1 := cell_of hx5 (j := 1) rfl
      have o2 := cell_of hx5 (j := 2) rfl
      have o3 := cell_of hx5 (j := 3) rfl
      have o4 := cell_of hx5 (j := 4) rfl
      have o5 := cell_of hx5 (j := 5) rfl
      have o6 := cell_of hx5 (j := 6) rfl
      have o7 := cell_of hx5 (j := 7) rfl
      clear hx5
      by_cases h0 : o.k = 0
      · have h0' : (o.k != 0) = false := by simpa using h0
        by_cases h1 : o.w.s = se
        · have h1' : (o.w.s != se) = false := by simpa using h1
          have HU5 : Hid (Wa.Good U ∧ U.length ≤ k + 1 ∧ drop (Wa.runT [] (l.take (k + 1))) se = drop U se) := Lib.hid ⟨HU.out.1, by have := HU.out.2.1; omega, by
            rw [HTK.out, drop_step HGT.out.srt HLT.out, if_pos (by rw [skip_0 h0]; simp [h1])]
            exact HU.out.2.2⟩
          clear h0 h1
          go_wp2_with fail
          go_roundw
          case rel => exact ⟨k + 1, v5, vq, U, by omega, by go_num, HT5, HU5, HX5⟩
          case measure => simp [intOf]; omega
        · have h1' : (o.w.s != se) = true := by simpa using h1
          have HU5 : Hid (Wa.Good (Wa.stepT U o) ∧ (Wa.stepT U o).length ≤ k + 1 ∧ drop (Wa.runT [] (l.take (k + 1))) se = drop (Wa.stepT U o) se) := Lib.hid ⟨step_good HU.out.1 o, HSL.out, HSK.out (by rw [skip_0 h0]; simpa using h1)⟩
          clear h0 h1
          go_wp2_with fail
          refine HD2.out.mono ?_
          rintro e w6 ⟨u6, b6, rfl, -, -, hk6⟩
          have HX6 := Lib.hid (HX5.out.trans ((kp_below hk6 HT5.out.b HX5.out.size)))
          obtain ⟨v6, ht6⟩ := HT5.out.swap.one hk6
          have HT6 := Lib.hid ht6.swap
          clear ht6 hk6
          clear o0 o1 o2 o3 o4 o5 o6 o7
          go_wp2_with fail
          go_roundw
          case rel => exact ⟨k + 1, v5, v6, Wa.stepT U o, by omega, by go_num, HT6, HU5, HX6⟩
          case measure => simp [intOf]; omega
      · have h0' : (o.k != 0) = true := by simpa using h0
        have HU5 : Hid (Wa.Good (Wa.stepT U o) ∧ (Wa.stepT U o).length ≤ k + 1 ∧ drop (Wa.runT [] (l.take (k + 1))) se = drop (Wa.stepT U o) se) := Lib.hid ⟨step_good HU.out.1 o, HSL.out, HSK.out (skip_ne h0')⟩
        clear h0
        go_wp2_with fail
        refine HD2.out.mono ?_
        rintro e w6 ⟨u6, b6, rfl, -, -, hk6⟩
        have HX6 := Lib.hid (HX5.out.trans ((kp_below hk6 HT5.out.b HX5.out.size)))
        obtain ⟨v6, ht6⟩ := HT5.out.swap.one hk6
        have HT6 := Lib.hid ht6.swap
        clear ht6 hk6
        clear o0 o1 o2 o3 o4 o5 o6 o7
        go_wp2_with fail
        go_roundw
        case rel => exact ⟨k + 1, v5, v6, Wa.stepT U o, by omega, by go_num, HT6, HU5, HX6⟩
        case measure => simp [intOf]; omega
    · obtain rfl : k = n := by omega
      have hki : ¬ (k : Int) < (k : Int) := by omega
      obtain ⟨T, hT⟩ : ∃ T, Wa.runT [] (l.take k) = T := ⟨_, rfl⟩
      have HGT : Hid (Wa.Good T) := Lib.hid (by rw [← hT]; exact run_good good_nil _)
      rw [hT] at HT HU
      clear hT
      have HDA := Lib.hid (drop_any HT.out.a (by have := HGT.out.len; omega) se)
      go_wp2_with fail
      refine HDA.out.mono ?_
      rintro e w5 ⟨rfl, hk5⟩
      have HX5 := Lib.hid (HX.out.trans ((kp_below hk5 HT.out.a HX.out.size)))
      obtain ⟨v5, ht5⟩ := HT.out.one hk5
      have HT5 := Lib.hid ht5
      have HDB := Lib.hid (drop_any ht5.b (by have := HU.out.1.len; omega) se)
      clear ht5 hk5
      go_wp2_with fail
      refine HDB.out.mono ?_
      rintro e w6 ⟨rfl, hk6⟩
      have HX6 := Lib.hid (HX5.out.trans ((kp_below hk6 HT5.out.b HX5.out.size)))
      obtain ⟨v6, ht6⟩ := HT5.out.swap.one hk6
      rw [← HU.out.2.2] at ht6
      have HGD : Hid (Wa.Good (drop T se)) := Lib.hid (filter_good HGT.out _)
      have HND : Hid (∀ x ∈ fireE (drop T se) ev, x.s ≠ se) := Lib.hid (drop_none T se ev)
      obtain ⟨D, hD⟩ : ∃ D, drop T se = D := ⟨_, rfl⟩
      rw [hD] at ht6 HGD HND
      have HT6 := Lib.hid ht6.swap
      have HFC := Lib.hid (fire_comp HGD.out.srt ev).1
      obtain ⟨E, hE⟩ : ∃ E, fireE D ev = E := ⟨_, rfl⟩
      have HEL : Hid (E.length ≤ 500) := Lib.hid (by rw [← hE]; have h1 := fireE_len D ev; have h2 := HGD.out.len; omega)
      rw [hE] at HND HFC
      have HF1 := Lib.hid (fun W (hW : Below w6.heap.size w6 W) => fire_any (HT6.out.a.below hW) (by have := HGD.out.len; omega) ev)
      have HS : Hid (∀ W, Below w0.heap.size w0 W → (W.cell? ⟨q, 0, none⟩ = some (.int .i64 ev.s) ∧ W.cell? ⟨q, 1, none⟩ = some (.int .i64 ev.k) ∧ W.cell? ⟨q, 2, none⟩ = some (.string (B ev.p)) ∧ Below w0.heap.size w0 W)) := Lib.hid (fun W hW => by
        have hqr := blk_below HQ0.out hW
        exact ⟨cell_of hqr (j := 0) rfl, cell_of hqr (j := 1) rfl, cell_of hqr (j := 2) rfl, hW⟩)
      obtain ⟨q0, q1, q2, hX6⟩ := HS.out w6 HX6.out
      clear hk6 ht6 hD hE
      go_upto_region 13 with fail
      go_region_held3 (fun W => W.cell? ⟨q, 0, none⟩ = some (.int .i64 ev.s) ∧ W.cell? ⟨q, 1, none⟩ = some (.int .i64 ev.k) ∧ W.cell? ⟨q, 2, none⟩ = some (.string (B ev.p)) ∧ Below w0.heap.size w0 W)
        (first
          | assumption
          | (with_reducible exact HS.out _ HX6.out.drew)
          | (with_reducible exact HS.out _ (by first | assumption | (apply Below.drew; assumption))))
        (first
          | (go_at_call 15; (with_reducible refine (HF1.out _ (by first | exact Below.refl _ _ | exact (Below.refl _ _).drew)).mono ?_); rintro e w8 ⟨A8, c8, rfl, ho8, hk8⟩; have hX8 : Below w0.heap.size w0 w8 := (by first | exact HX6.out.trans (kp_below hk8 HT6.out.a HX6.out.size) | exact HX6.out.drew.trans (kp_below hk8 ((HT6.out.below (Below.refl _ _).drew).a) HX6.out.drew.size)); have hS8 := HS.out w8 hX8; have hv8 : ∃ v', Two w8 w0.heap.size tp v' (fireT D ev) tq v6 D := (by first | exact HT6.out.one hk8 | exact (HT6.out.below (Below.refl _ _).drew).one hk8); obtain ⟨v8, ht8⟩ := hv8; have HF2 := Lib.hid (fun W (hW : Below w8.heap.size w8 W) => fire_any (ht8.b.below hW) (by have := HGD.out.len; omega) ev))
          | (go_at_call 15; (with_reducible refine (HF2.out _ (by first | exact Below.refl _ _ | exact (Below.refl _ _).drew | exact (Below.refl _ _).drew.drew)).mono ?_); rintro e w9 ⟨A9, c9, rfl, ho9, hk9⟩; have hX9 : Below w0.heap.size w0 w9 := (by first | exact hX8.trans (kp_below hk9 ht8.b hX8.size) | exact hX8.drew.trans (kp_below hk9 ((ht8.below (Below.refl _ _).drew).b) hX8.drew.size)); have hS9 := HS.out w9 hX9))
      rw [HFC.out] at ho8 ho9 ⊢
      have HO8 := Lib.hid (kp_own hk9 ht8.b ho8 (by decide) (by decide))
      have HO9 := Lib.hid ho9
      have HX9 := Lib.hid hX9
      have HRE := Lib.hid (Rd.of_own (cell := ecell) (l := E) HO8.out (fun _ _ => rfl) (by omega))
      have hEL := HEL.out
      clear q0 q1 q2 hS8 hS9 ho8 ho9 hk8 hk9 hX8 hX9 ht8 hki
      go_wp2_with fail
      go_loopw [74] (fun i wz => ∃ j : Nat, j ≤ E.length ∧ i = .int .i64 j ∧ Hid (Below w9.heap.size w9 wz)) (fun i _ => E.length - (intOf i).toNat)
      case atStart => exact ⟨0, Nat.zero_le _, rfl, Lib.hid (Below.refl _ _)⟩
      case round =>
        obtain ⟨j, hj, rfl, HZ⟩ := hrel
        by_cases hlj : j < E.length
        · obtain ⟨b, off, y, rfl, hy, hcc⟩ := (HRE.out.below HZ.out).at hlj
          have hne : (y.s == se) = false := by simpa using HND.out y (List.mem_of_getElem? hy)
          have c0 : wr.cell? ⟨b, off + j * 3, none⟩ = some (.int .i64 y.s) := hcc 0 _ rfl
          have c1 : wr.cell? ⟨b, off + j * 3 + 1, none⟩ = some (.int .i64 y.k) := hcc 1 _ rfl
          have c2 : wr.cell? ⟨b, off + j * 3 + 2, none⟩ = some (.string (B y.p)) := hcc 2 _ rfl
          obtain ⟨bo, hbe⟩ : ∃ b, b = wr.heap.size := ⟨_, rfl⟩
          obtain ⟨wo, hwo⟩ : ∃ wo, wo = wr.alloc (.cells #[.int .i64 y.s, .int .i64 y.k, .string (B y.p)] 30) := ⟨_, rfl⟩
          have hbo : Below wr.heap.size wr wo := by rw [hwo]; exact box_below wr _
          have hxo : wo.heap[bo]? = some (.cells #[.int .i64 y.s, .int .i64 y.k, .string (B y.p)] 30 (0, 0)) := by rw [hwo, hbe]; exact new_block wr _
          have HZ2 := Lib.hid (HZ.out.trans (hbo.mono HZ.out.size))
          have HWO := Lib.hid hwo
          have HBE := Lib.hid hbe
          have o0 := cell_of hxo (j := 0) rfl
          have hj0 : (0 : Int) ≤ (j : Int) := by omega
          have hji : (j : Int) < (E.length : Int) := by omega
          clear hy hcc hbe hwo hbo hxo
          go_upto_region 17 with fail
          rw [← HWO.out, ← HBE.out]
          clear c0 c1 c2
          go_wp2_with fail
          go_roundw
          case rel => exact ⟨j + 1, by omega, by go_num, HZ2⟩
          case measure => simp [intOf]; omega
        · obtain rfl : j = E.length := by omega
          have hji : ¬ (E.length : Int) < (E.length : Int) := by omega
          have HAL := Lib.hid (alive_any wr)
          go_wp2_with fail
          refine HAL.out.mono ?_
          rintro e w10 ⟨rfl, hb10⟩
          have HZA := Lib.hid (HZ.out.trans (hb10.mono HZ.out.size))
          have HSE := Lib.hid (sameev_yes (c := c8) (c2 := c9) (Rd.of_own (cell := ecell) (l := E) (own_below HO8.out HZA.out) (fun _ _ => rfl) (by omega)) (Rd.of_own (cell := ecell) (l := E) (own_below HO9.out HZA.out) (fun _ _ => rfl) (by omega)) (by omega))
          clear hb10
          go_wp2_with fail
          refine HSE.out.mono ?_
          rintro e w11 ⟨rfl, hb11⟩
          have HX11 := Lib.hid (HX9.out.trans ((HZA.out.trans (hb11.mono HZA.out.size)).mono HX9.out.size))
          clear hb11
          go_wp2_with fail
          go_ret
          exact ⟨rfl, HB0.out.trans (HX11.out.mono HB0.out.size)⟩
end Go.Proofs.YtfejapaoflikhaaDoor
