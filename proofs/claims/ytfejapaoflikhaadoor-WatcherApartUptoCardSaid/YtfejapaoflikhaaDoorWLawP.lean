/-
  WatcherApart returns true. Condition: memory holds the scripts; a path that is added has at most 2^21 bytes.
-/
import Derived.Test.YtfejapaoflikhaaDoorWTwo
namespace Go.Proofs.YtfejapaoflikhaaDoor
set_option maxRecDepth 100000
open Go.ChangeShapes Go.WideShapes Go.ChangeAt Go.RowKit Go.Proofs.Zn Go.Proofs.Wa

set_option maxHeartbeats 16000000 in
theorem apart_law {w : World} {A A' : Option Addr} {n c n' c' : Nat} {l l' : List Cal} (h : Rd ocell 8 w A n l) (hp : ∀ o ∈ l, o.w.p.length ≤ 2097152) (h' : Rd ocell 8 w A' n' l') (hp' : ∀ o ∈ l', o.w.p.length ≤ 2097152) :
    Calls Tryd.prog 6 #[.slice A n c, .slice A' n' c'] w fun e w' => e = .returned (.bool true) ∧ Below w.heap.size w w' := by
  have HN := Lib.hid (new_any w)
  have HR := Lib.hid h
  have HL := Lib.hid h.len
  have HPS1 := Lib.hid hp
  have HR' := Lib.hid h'
  have HL' := Lib.hid h'.len
  have HPS2 := Lib.hid hp'
  clear h hp h' hp'
  go_enter Tryd.func6, Tryd.ntmps6
  go_wp2_with fail
  refine HN.out.mono ?_
  rintro e w1 ⟨tp, v, rfl, ht1, hb1, -, -⟩
  have HT1 := Lib.hid ht1
  have HB1 := Lib.hid hb1
  clear ht1 hb1
  have HAL := Lib.hid (fun W => alive_any W)
  by_cases hn : 300 < n
  · have hn' : (300 : Int) < (n : Int) := by omega
    clear hn
    go_wp2_with fail
    refine (HAL.out _).mono ?_
    rintro e w2 ⟨rfl, hb2⟩
    have HB2 := Lib.hid (HB1.out.trans (hb2.mono HB1.out.size))
    clear hb2
    go_wp2_with fail
    go_ret
    exact ⟨rfl, HB2.out⟩
  have hn1 : ¬ (300 : Int) < (n : Int) := by omega
  by_cases hm : 300 < n'
  · have hm' : (300 : Int) < (n' : Int) := by omega
    clear hm
    go_wp2_with fail
    refine (HAL.out _).mono ?_
    rintro e w2 ⟨rfl, hb2⟩
    have HB2 := Lib.hid (HB1.out.trans (hb2.mono HB1.out.size))
    clear hb2
    go_wp2_with fail
    go_ret
    exact ⟨rfl, HB2.out⟩
  have hm1 : ¬ (300 : Int) < (n' : Int) := by omega
  go_wp2_with fail
  go_loopw [6, 39] (fun u i wr => ∃ (k : Nat) (v : Value), k ≤ n ∧ i = .int .i64 k ∧ Hid (NR wr u (Wa.runT [] (l.take k))) ∧ Hid (TabW wr w.heap.size tp v (Wa.runT [] (l.take k))) ∧ Hid (Below w.heap.size w wr)) (fun _ i _ => n - (intOf i).toNat)
  case atStart => exact ⟨0, v, Nat.zero_le _, rfl, Lib.hid (World.ownsRow_nil _ _ _ _), HT1, HB1⟩
  case round =>
    obtain ⟨k, v, hk, rfl, HU, HT, HX⟩ := hrel
    by_cases hlt : k < n
    · have HGT : Hid (Wa.Good (Wa.runT [] (l.take k))) := Lib.hid (run_good good_nil _)
      have HPS := HPS1
      obtain ⟨b, off, o, rfl, ho, hcc⟩ := (HR.out.below HX.out).at hlt
      have c0 : wr.cell? ⟨b, off + k * 8, none⟩ = some (.int .i64 o.k) := hcc 0 _ rfl
      have c1 : wr.cell? ⟨b, off + k * 8 + 1, none⟩ = some (.int .i64 o.n) := hcc 1 _ rfl
      have c2 : wr.cell? ⟨b, off + k * 8 + 2, none⟩ = some (.int .i64 o.w.s) := hcc 2 _ rfl
      have c3 : wr.cell? ⟨b, off + k * 8 + 3, none⟩ = some (.string (B o.w.p)) := hcc 3 _ rfl
      have c4 : wr.cell? ⟨b, off + k * 8 + 4, none⟩ = some (.bool o.w.k) := hcc 4 _ rfl
      have c5 : wr.cell? ⟨b, off + k * 8 + 5, none⟩ = some (.int .i64 o.e.s) := hcc 5 _ rfl
      have c6 : wr.cell? ⟨b, off + k * 8 + 6, none⟩ = some (.int .i64 o.e.k) := hcc 6 _ rfl
      have c7 : wr.cell? ⟨b, off + k * 8 + 7, none⟩ = some (.string (B o.e.p)) := hcc 7 _ rfl
      obtain ⟨bo, hbe⟩ : ∃ b, b = wr.heap.size := ⟨_, rfl⟩
      obtain ⟨wo, hwo⟩ : ∃ wo, wo = wr.alloc (.cells #[.int .i64 o.k, .int .i64 o.n, .int .i64 o.w.s, .string (B o.w.p), .bool o.w.k, .int .i64 o.e.s, .int .i64 o.e.k, .string (B o.e.p)] 32) := ⟨_, rfl⟩
      have hbo : Below wr.heap.size wr wo := by rw [hwo]; exact box_below wr _
      have hxo : wo.heap[bo]? = some (.cells #[.int .i64 o.k, .int .i64 o.n, .int .i64 o.w.s, .string (B o.w.p), .bool o.w.k, .int .i64 o.e.s, .int .i64 o.e.k, .string (B o.e.p)] 32 (0, 0)) := by rw [hwo, hbe]; exact new_block wr _
      have HXO := Lib.hid hxo
      have HWO := Lib.hid hwo
      have HBE := Lib.hid hbe
      have HOM : Hid (o.w.p.length ≤ 2097152) := Lib.hid (HPS.out o (List.mem_of_getElem? ho))
      have hk0 : (0 : Int) ≤ (k : Int) := by omega
      have hki : (k : Int) < (n : Int) := by omega
      have HTK : Hid (Wa.runT [] (l.take (k + 1)) = Wa.stepT (Wa.runT [] (l.take k)) o) := Lib.hid (run_step ho)
      have HT2 := Lib.hid (HT.out.below hbo)
      have HX2 := Lib.hid (HX.out.trans (hbo.mono HX.out.size))
      have HD := Lib.hid (does_any HT2.out HX2.out.size HGT.out (own_below HU.out hbo) HGT.out o HOM.out)
      clear ho hcc hbe hwo hbo hxo
      go_upto_region 8 with fail
      rw [← HWO.out, ← HBE.out]
      clear c0 c1 c2 c3 c4 c5 c6 c7
      have o0 := cell_of HXO.out (j := 0) rfl
      have o1 := cell_of HXO.out (j := 1) rfl
      have o2 := cell_of HXO.out (j := 2) rfl
      have o3 := cell_of HXO.out (j := 3) rfl
      have o4 := cell_of HXO.out (j := 4) rfl
      have o5 := cell_of HXO.out (j := 5) rfl
      have o6 := cell_of HXO.out (j := 6) rfl
      have o7 := cell_of HXO.out (j := 7) rfl
      go_wp2_with fail
      refine HD.out.mono ?_
      rintro e w5 ⟨u5, b5, rfl, -, hn5, hk5⟩
      have HX5 := Lib.hid (HX2.out.trans ((kp_below hk5 HT2.out HX2.out.size)))
      obtain ⟨v5, ht5, -, -⟩ := hk5
      rw [← HTK.out] at hn5 ht5
      have HU5 := Lib.hid hn5
      have HT5 := Lib.hid ht5
      clear hn5 ht5
      clear o0 o1 o2 o3 o4 o5 o6 o7
      go_wp2_with fail
      go_roundw
      case rel => exact ⟨k + 1, v5, by omega, by go_num, HU5, HT5, HX5⟩
      case measure => simp [intOf]; omega
    · obtain rfl : k = n := by omega
      have hki : ¬ (k : Int) < (k : Int) := by omega
      obtain ⟨T, hT⟩ : ∃ T, Wa.runT [] (l.take k) = T := ⟨_, rfl⟩
      have HG : Hid (Wa.Good T) := Lib.hid (by rw [← hT]; exact run_good good_nil _)
      rw [hT] at HU HT
      clear hT
      have HCL := Lib.hid (wclone_any HT.out (by have := HG.out.len; omega))
      go_wp2_with fail
      refine HCL.out.mono ?_
      rintro e w2 ⟨tq, vq, rfl, ht2, hb2, -, -⟩
      have HT2 := Lib.hid (two_of HT.out HX.out.size ht2 hb2)
      have HU2 := Lib.hid (own_below HU.out hb2)
      have HX2 := Lib.hid (HX.out.trans (hb2.mono HX.out.size))
      clear ht2 hb2 hki
      go_wp2_with fail
      go_loopw [12, 59] (fun u i wz => ∃ (j : Nat) (vq : Value), j ≤ n' ∧ i = .int .i64 j ∧ Hid (NR wz u (Wa.runT T (l'.take j))) ∧ Hid (NR wz u6 T) ∧ Hid (Two wz w.heap.size tp v T tq vq (Wa.runT T (l'.take j))) ∧ Hid (Below w.heap.size w wz)) (fun _ i _ => n' - (intOf i).toNat)
      case atStart => exact ⟨0, vq, Nat.zero_le _, rfl, HU2, HU2, HT2, HX2⟩
      case round =>
        clear HU2 HT2 HX2
        obtain ⟨k, vq, hk2, rfl, HM, HU2, HT2, HX2⟩ := hrel
        by_cases hlt : k < n'
        · have HGT : Hid (Wa.Good (Wa.runT T (l'.take k))) := Lib.hid (run_good HG.out _)
          have HPS := HPS2
          obtain ⟨b, off, o, rfl, ho, hcc⟩ := (HR'.out.below HX2.out).at hlt
          have c0 : wr.cell? ⟨b, off + k * 8, none⟩ = some (.int .i64 o.k) := hcc 0 _ rfl
          have c1 : wr.cell? ⟨b, off + k * 8 + 1, none⟩ = some (.int .i64 o.n) := hcc 1 _ rfl
          have c2 : wr.cell? ⟨b, off + k * 8 + 2, none⟩ = some (.int .i64 o.w.s) := hcc 2 _ rfl
          have c3 : wr.cell? ⟨b, off + k * 8 + 3, none⟩ = some (.string (B o.w.p)) := hcc 3 _ rfl
          have c4 : wr.cell? ⟨b, off + k * 8 + 4, none⟩ = some (.bool o.w.k) := hcc 4 _ rfl
          have c5 : wr.cell? ⟨b, off + k * 8 + 5, none⟩ = some (.int .i64 o.e.s) := hcc 5 _ rfl
          have c6 : wr.cell? ⟨b, off + k * 8 + 6, none⟩ = some (.int .i64 o.e.k) := hcc 6 _ rfl
          have c7 : wr.cell? ⟨b, off + k * 8 + 7, none⟩ = some (.string (B o.e.p)) := hcc 7 _ rfl
          obtain ⟨bo, hbe⟩ : ∃ b, b = wr.heap.size := ⟨_, rfl⟩
          obtain ⟨wo, hwo⟩ : ∃ wo, wo = wr.alloc (.cells #[.int .i64 o.k, .int .i64 o.n, .int .i64 o.w.s, .string (B o.w.p), .bool o.w.k, .int .i64 o.e.s, .int .i64 o.e.k, .string (B o.e.p)] 32) := ⟨_, rfl⟩
          have hbo : Below wr.heap.size wr wo := by rw [hwo]; exact box_below wr _
          have hxo : wo.heap[bo]? = some (.cells #[.int .i64 o.k, .int .i64 o.n, .int .i64 o.w.s, .string (B o.w.p), .bool o.w.k, .int .i64 o.e.s, .int .i64 o.e.k, .string (B o.e.p)] 32 (0, 0)) := by rw [hwo, hbe]; exact new_block wr _
          have HXO := Lib.hid hxo
          have HWO := Lib.hid hwo
          have HBE := Lib.hid hbe
          have HOM : Hid (o.w.p.length ≤ 2097152) := Lib.hid (HPS.out o (List.mem_of_getElem? ho))
          have hk0 : (0 : Int) ≤ (k : Int) := by omega
          have hki : (k : Int) < (n' : Int) := by omega
          have HTK : Hid (Wa.runT T (l'.take (k + 1)) = Wa.stepT (Wa.runT T (l'.take k)) o) := Lib.hid (run_step ho)
          have HT3 := Lib.hid (HT2.out.below hbo)
          have HX3 := Lib.hid (HX2.out.trans (hbo.mono HX2.out.size))
          have HU3 := Lib.hid (own_below HU2.out hbo)
          have HD := Lib.hid (does_any HT3.out.b HX3.out.size HGT.out (own_below HM.out hbo) HGT.out o HOM.out)
          clear ho hcc hbe hwo hbo hxo
          go_upto_region 18 with fail
          rw [← HWO.out, ← HBE.out]
          clear c0 c1 c2 c3 c4 c5 c6 c7
          have o0 := cell_of HXO.out (j := 0) rfl
          have o1 := cell_of HXO.out (j := 1) rfl
          have o2 := cell_of HXO.out (j := 2) rfl
          have o3 := cell_of HXO.out (j := 3) rfl
          have o4 := cell_of HXO.out (j := 4) rfl
          have o5 := cell_of HXO.out (j := 5) rfl
          have o6 := cell_of HXO.out (j := 6) rfl
          have o7 := cell_of HXO.out (j := 7) rfl
          go_wp2_with fail
          refine HD.out.mono ?_
          rintro e w5 ⟨u5, b5, rfl, hbb, hn5, hk5⟩
          obtain rfl : b5 = true := hbb rfl
          have HX5 := Lib.hid (HX3.out.trans ((kp_below hk5 HT3.out.b HX3.out.size)))
          have HU5 := Lib.hid (kp_own hk5 HT3.out.b HU3.out (by decide) (by decide))
          obtain ⟨v5, ht5⟩ := HT3.out.swap.one hk5
          rw [← HTK.out] at hn5 ht5
          have HM5 := Lib.hid hn5
          have HT5 := Lib.hid ht5.swap
          clear hbb hn5 ht5 hk5
          clear o0 o1 o2 o3 o4 o5 o6 o7
          go_wp2_with fail
          go_roundw
          case rel => exact ⟨k + 1, v5, by omega, by go_num, HM5, HU5, HT5, HX5⟩
          case measure => simp [intOf]; omega
        · obtain rfl : k = n' := by omega
          have hki : ¬ (k : Int) < (k : Int) := by omega
          obtain ⟨M, hM⟩ : ∃ M, Wa.runT T (l'.take k) = M := ⟨_, rfl⟩
          have HGM : Hid (Wa.Good M) := Lib.hid (by rw [← hM]; exact run_good HG.out _)
          rw [hM] at HM HT2
          clear hM
          have HAA := Lib.hid (all_any HT2.out.a (by have := HG.out.len; omega))
          go_wp2_with fail
          refine HAA.out.mono ?_
          rintro e w4 ⟨A4, c4, rfl, ho4, hb4⟩
          have HX4 := Lib.hid (HX2.out.trans (hb4.mono HX2.out.size))
          have HSZ : Hid (w.heap.size ≤ wr.heap.size) := Lib.hid HX2.out.size
          have HT4 := Lib.hid (HT2.out.below hb4)
          have HU4 := Lib.hid (own_below HU2.out hb4)
          have HM4 := Lib.hid (own_below HM.out hb4)
          have HO4 := Lib.hid ho4
          obtain ⟨ws, hws⟩ : ∃ n, n = wr.heap.size := ⟨_, rfl⟩
          rw [← hws] at HO4 HSZ hb4
          have HB4 := Lib.hid hb4
          have HBX := Lib.hid HX2.out
          clear ho4 hb4 hki
          rw [hws] at HB4
          go_wp2_with fail
          go_loopw [78] (fun i wq => ∃ (j : Nat) (xs : List Value), j ≤ T.length ∧ i = .int .i64 j ∧ Hid (wq.ownsRow ws 45 3 (.slice A4 T.length c4) T.length xs) ∧ Hid (Below ws w4 wq)) (fun i _ => T.length - (intOf i).toNat)
          case atStart => exact ⟨0, _, Nat.zero_le _, rfl, HO4, Lib.hid (Below.refl _ _)⟩
          case round =>
            obtain ⟨j, xs, hj, rfl, HQ, HZ⟩ := hrel
            have hT5 : T.length ≤ 500 := HG.out.len
            by_cases hlj : j < T.length
            · obtain ⟨_, _, he, -, -, hA⟩ := own_form HQ.out
              injection he with he1 _ he3
              subst he1; subst he3
              obtain ⟨g, rfl⟩ := hA (by omega)
              have hgw : ws ≤ g := own_ge HQ.out g rfl
              obtain ⟨w6, hw6⟩ : ∃ w6, w6 = ((wr.setCell ⟨g, j * 3, none⟩ (.int .i64 0)).setCell ⟨g, j * 3 + 1, none⟩ (.string ⟨#[]⟩)).setCell ⟨g, j * 3 + 2, none⟩ (.bool false) := ⟨_, rfl⟩
              have hw6' : w6 = wr.setCells g (j * 3) [.int .i64 0, .string ⟨#[]⟩, .bool false] := hw6
              have HQ6 := Lib.hid (own_set_cells HQ.out (j * 3) [.int .i64 0, .string ⟨#[]⟩, .bool false] (by simp; omega))
              rw [← hw6'] at HQ6
              have HZ6 : Hid (Below ws w4 w6) := Lib.hid (by rw [hw6]; exact ((HZ.out.setCell hgw _).setCell hgw _).setCell hgw _)
              obtain ⟨⟨v0, y0⟩, f0⟩ : (∃ v, wr.cell? ⟨g, j * 3, none⟩ = some v) ∧ wr.frozen? ⟨g, j * 3, none⟩ = false := ⟨Option.isSome_iff_exists.1 (own_cells HQ.out (j * 3) (by omega)).1, (own_cells HQ.out (j * 3) (by omega)).2⟩
              obtain ⟨⟨v1, y1⟩, f1⟩ : (∃ v, wr.cell? ⟨g, j * 3 + 1, none⟩ = some v) ∧ wr.frozen? ⟨g, j * 3 + 1, none⟩ = false := ⟨Option.isSome_iff_exists.1 (own_cells HQ.out (j * 3 + 1) (by omega)).1, (own_cells HQ.out (j * 3 + 1) (by omega)).2⟩
              obtain ⟨⟨v2, y2⟩, f2⟩ : (∃ v, wr.cell? ⟨g, j * 3 + 2, none⟩ = some v) ∧ wr.frozen? ⟨g, j * 3 + 2, none⟩ = false := ⟨Option.isSome_iff_exists.1 (own_cells HQ.out (j * 3 + 2) (by omega)).1, (own_cells HQ.out (j * 3 + 2) (by omega)).2⟩
              have hj0 : (0 : Int) ≤ (j : Int) := by omega
              have hji : (j : Int) < (T.length : Int) := by omega
              have HW6 := Lib.hid hw6
              clear hw6 hw6' hgw hA
              go_upto_region 28 with fail
              rw [← HW6.out]
              clear y0 y1 y2 f0 f1 f2
              go_wp2_with fail
              go_roundw
              case rel => exact ⟨j + 1, _, by omega, by go_num, HQ6, HZ6⟩
              case measure => simp [intOf]; omega
            · obtain rfl : j = T.length := by omega
              have hji : ¬ (T.length : Int) < (T.length : Int) := by omega
              rw [hws] at HZ
              have HBQ := Lib.hid (HB4.out.trans HZ.out)
              have HT5 := Lib.hid (HT2.out.below HBQ.out)
              have HU5 := Lib.hid (own_below HU2.out HBQ.out)
              have HM5 := Lib.hid (own_below HM.out HBQ.out)
              have HX5 := Lib.hid (HBX.out.trans (HBQ.out.mono HBX.out.size))
              go_wp2_with fail
              refine (HAL.out _).mono ?_
              rintro e w5 ⟨rfl, hb5⟩
              have HT6 := Lib.hid (HT5.out.below hb5)
              have HU6 := Lib.hid (own_below HU5.out hb5)
              have HM6 := Lib.hid (own_below HM5.out hb5)
              have HX6 := Lib.hid (HX5.out.trans (hb5.mono HX5.out.size))
              have HA6 := Lib.hid (all_any HT6.out.a (by omega))
              clear hb5
              go_wp2_with fail
              refine HA6.out.mono ?_
              rintro e w7 ⟨A7, c7, rfl, ho7, hb7⟩
              have HT7 := Lib.hid (HT6.out.below hb7)
              have HM7 := Lib.hid (own_below HM6.out hb7)
              have HX7 := Lib.hid (HX6.out.trans (hb7.mono HX6.out.size))
              obtain ⟨Au, cu, rfl, -, -, -⟩ := own_form HU6.out
              have HS7 := Lib.hid (same_any (c := c7) (c2 := cu) (Rd.of_own (cell := wcell) (l := T) ho7 (fun _ _ => rfl) (by omega)) (Rd.of_own (cell := wcell) (l := T) (own_below HU6.out hb7) (fun _ _ => rfl) (by omega)) (by omega))
              clear ho7 hb7
              go_wp2_with fail
              refine HS7.out.mono ?_
              rintro e w8 ⟨rfl, hb8⟩
              have HT8 := Lib.hid (HT7.out.below hb8)
              have HM8 := Lib.hid (own_below HM7.out hb8)
              have HX8 := Lib.hid (HX7.out.trans (hb8.mono HX7.out.size))
              have HA8 := Lib.hid (all_any HT8.out.b (by have := HGM.out.len; omega))
              clear hb8
              go_wp2_with fail
              refine HA8.out.mono ?_
              rintro e w9 ⟨A9, c9, rfl, ho9, hb9⟩
              have HX9 := Lib.hid (HX8.out.trans (hb9.mono HX8.out.size))
              obtain ⟨Am, cm, rfl, -, -, -⟩ := own_form HM8.out
              have HS9 := Lib.hid (same_any (c := c9) (c2 := cm) (Rd.of_own (cell := wcell) (l := M) ho9 (fun _ _ => rfl) (by omega)) (Rd.of_own (cell := wcell) (l := M) (own_below HM8.out hb9) (fun _ _ => rfl) (by omega)) (by have := HGM.out.len; omega))
              clear ho9 hb9
              go_wp2_with fail
              refine HS9.out.mono ?_
              rintro e w10 ⟨rfl, hb10⟩
              have HX10 := Lib.hid (HX9.out.trans (hb10.mono HX9.out.size))
              clear hb10
              go_wp2_with fail
              go_ret
              exact ⟨rfl, HX10.out⟩
end Go.Proofs.YtfejapaoflikhaaDoor
