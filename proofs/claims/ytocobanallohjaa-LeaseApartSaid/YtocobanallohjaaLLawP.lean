/-
  LeaseApart returns true. Condition: memory holds both scripts.
-/
import Derived.Test.YtocobanallohjaaLTwo
namespace Go.Proofs.Ytocobanallohjaa
set_option maxRecDepth 100000
open Go.ChangeShapes Go.WideShapes Go.ChangeAt Go.RowKit Go.Proofs.Le

set_option maxHeartbeats 16000000 in
theorem apart_law {w : World} {A A' : Option Addr} {n n' c c' : Nat} {l l' : List Cal} (h : Rd ocell 4 w A n l) (h' : Rd ocell 4 w A' n' l') :
    Calls Try.prog 6 #[.slice A n c, .slice A' n' c'] w fun e w' => e = .returned (.bool true) ∧ Below w.heap.size w w' := by
  have HR' := Lib.hid h'
  clear h'
  have HN := Lib.hid (new_any w)
  have HR := Lib.hid h
  have HL := Lib.hid h.len
  have HAL := Lib.hid (fun W => alive_any W)
  clear h
  go_enter Try.func6, Try.ntmps6
  go_wp2_with fail
  refine HN.out.mono ?_
  rintro e w1 ⟨tp, v, rfl, ht1, hb1, -, -⟩
  have HT1 := Lib.hid ht1
  have HB1 := Lib.hid hb1
  clear ht1 hb1
  by_cases hn : 200 < n
  · have hn' : decide ((200 : Int) < (n : Int)) = true := by rw [decide_eq_true_eq]; omega
    clear hn
    go_wp2_with fail
    refine (HAL.out _).mono ?_
    rintro e w2 ⟨rfl, hb2⟩
    have HB2 := Lib.hid (HB1.out.trans (hb2.mono HB1.out.size))
    clear hb2
    go_wp2_with fail
    go_ret
    exact ⟨rfl, HB2.out⟩
  have hn' : decide ((200 : Int) < (n : Int)) = false := by rw [decide_eq_false_iff_not]; omega
  by_cases hm : 200 < n'
  · have hm' : decide ((200 : Int) < (n' : Int)) = true := by rw [decide_eq_true_eq]; omega
    clear hm
    go_wp2_with fail
    refine (HAL.out _).mono ?_
    rintro e w2 ⟨rfl, hb2⟩
    have HB2 := Lib.hid (HB1.out.trans (hb2.mono HB1.out.size))
    clear hb2
    go_wp2_with fail
    go_ret
    exact ⟨rfl, HB2.out⟩
  have hm' : decide ((200 : Int) < (n' : Int)) = false := by rw [decide_eq_false_iff_not]; omega
  have HPL := Lib.hid (plays_any (B := w.heap.size) (Bs := w.heap.size) (c := c) HT1.out HB1.out.size (Nat.le_refl _) good_nil (u := .slice none 0 0) ⟨none, 0, rfl, DR.nil _ _⟩ (fun W hW => HR.out.below (HB1.out.trans hW)) (by omega))
  go_wp2_with fail
  refine HPL.out.mono ?_
  rintro e w2 ⟨u2, rfl, hd2, hk2⟩
  have HX2 := Lib.hid (HB1.out.trans (kp_below hk2 HT1.out HB1.out.size))
  obtain ⟨v2, ht2, -, -⟩ := hk2
  obtain ⟨T, hT⟩ : ∃ T, Le.runT [] l = T := ⟨_, rfl⟩
  have HG : Hid (Le.Good T) := Lib.hid (by rw [← hT]; exact run_good good_nil _)
  have HTL : Hid (T.length ≤ 100) := Lib.hid HG.out.len
  rw [hT] at ht2 hd2
  have HT2 := Lib.hid ht2
  have HD2 := Lib.hid hd2
  obtain ⟨Au, cu, rfl, hdr⟩ := hd2
  have HC2 := Lib.hid (clone_any ht2 (by have := HTL.out; omega))
  clear ht2 hdr hT
  go_wp2_with fail
  refine HC2.out.mono ?_
  rintro e w3 ⟨tq, vq, rfl, ht3, hb3, -, -⟩
  have HW3 := Lib.hid (two_of HT2.out HX2.out.size ht3 hb3)
  have HD3 := Lib.hid (HD2.out.below hb3)
  have HX3 := Lib.hid (HX2.out.trans (hb3.mono HX2.out.size))
  have HP3 := Lib.hid (plays_any (B := w.heap.size) (Bs := w.heap.size) (c := c') HW3.out.b HX3.out.size (Nat.le_refl _) HG.out HD3.out (fun W hW => HR'.out.below (HX3.out.trans hW)) (by omega))
  clear ht3 hb3
  go_wp2_with fail
  refine HP3.out.mono ?_
  rintro e w4 ⟨u4, rfl, hd4, hk4⟩
  have HX4 := Lib.hid (HX3.out.trans (kp_below hk4 HW3.out.b HX3.out.size))
  have HD4 := Lib.hid (HD3.out.kp HW3.out.b (Nat.le_refl _) hk4)
  obtain ⟨v4, hw4⟩ := HW3.out.swap.one hk4
  obtain ⟨M, hM⟩ : ∃ M, Le.runT T l' = M := ⟨_, rfl⟩
  have HGM : Hid (Le.Good M) := Lib.hid (by rw [← hM]; exact run_good HG.out _)
  have HML : Hid (M.length ≤ 100) := Lib.hid HGM.out.len
  rw [hM] at hd4 hw4
  have HW4 := Lib.hid hw4.swap
  have HM4 := Lib.hid hd4
  obtain ⟨Am, cm, rfl, hdm⟩ := hd4
  have HC4 := Lib.hid (all_any HW4.out.a (by have := HTL.out; omega))
  clear hk4 hw4 hdm hM
  go_wp2_with fail
  refine HC4.out.mono ?_
  rintro e w5 ⟨A5, c5, rfl, ho5, hb5⟩
  have HX5 := Lib.hid (HX4.out.trans (hb5.mono HX4.out.size))
  obtain ⟨ws, hws⟩ : ∃ z, z = w4.heap.size := ⟨_, rfl⟩
  have HWS := Lib.hid hws
  rw [← hws] at ho5
  have HO5 := Lib.hid ho5
  have HB5 := Lib.hid hb5
  clear ho5 hb5 hws
  go_wp2_with fail
  go_loopw [52] (fun i wq => ∃ (j : Nat) (xs : List Value), j ≤ T.length ∧ i = .int .i64 j ∧ Hid (wq.ownsRow ws 30 3 (.slice A5 T.length c5) T.length xs) ∧ Hid (Below ws w5 wq)) (fun i _ => T.length - (intOf i).toNat)
  case atStart => exact ⟨0, _, Nat.zero_le _, rfl, HO5, Lib.hid (Below.refl _ _)⟩
  case round =>
    obtain ⟨j, xs, hj, rfl, HQ, HZ⟩ := hrel
    have hT5 : T.length ≤ 100 := HTL.out
    by_cases hlj : j < T.length
    · obtain ⟨_, _, he, -, -, hA⟩ := own_form HQ.out
      injection he with he1 _ he3
      subst he1; subst he3
      obtain ⟨g, rfl⟩ := hA (by omega)
      have hgw : ws ≤ g := own_ge HQ.out g rfl
      obtain ⟨w6, hw6⟩ : ∃ w6, w6 = ((wr.setCell ⟨g, j * 3, none⟩ (.int .i64 0)).setCell ⟨g, j * 3 + 1, none⟩ (.int .i64 0)).setCell ⟨g, j * 3 + 2, none⟩ (.int .i64 0) := ⟨_, rfl⟩
      have hw6' : w6 = wr.setCells g (j * 3) [.int .i64 0, .int .i64 0, .int .i64 0] := hw6
      have HQ6 := Lib.hid (own_set_cells HQ.out (j * 3) [.int .i64 0, .int .i64 0, .int .i64 0] (by simp; omega))
      rw [← hw6'] at HQ6
      have HZ6 : Hid (Below ws w5 w6) := Lib.hid (by rw [hw6]; exact ((HZ.out.setCell hgw _).setCell hgw _).setCell hgw _)
      obtain ⟨⟨v0, y0⟩, f0⟩ : (∃ v, wr.cell? ⟨g, j * 3, none⟩ = some v) ∧ wr.frozen? ⟨g, j * 3, none⟩ = false := ⟨Option.isSome_iff_exists.1 (own_cells HQ.out (j * 3) (by omega)).1, (own_cells HQ.out (j * 3) (by omega)).2⟩
      obtain ⟨⟨v1, y1⟩, f1⟩ : (∃ v, wr.cell? ⟨g, j * 3 + 1, none⟩ = some v) ∧ wr.frozen? ⟨g, j * 3 + 1, none⟩ = false := ⟨Option.isSome_iff_exists.1 (own_cells HQ.out (j * 3 + 1) (by omega)).1, (own_cells HQ.out (j * 3 + 1) (by omega)).2⟩
      obtain ⟨⟨v2', y2⟩, f2⟩ : (∃ v, wr.cell? ⟨g, j * 3 + 2, none⟩ = some v) ∧ wr.frozen? ⟨g, j * 3 + 2, none⟩ = false := ⟨Option.isSome_iff_exists.1 (own_cells HQ.out (j * 3 + 2) (by omega)).1, (own_cells HQ.out (j * 3 + 2) (by omega)).2⟩
      have hj0 : (0 : Int) ≤ (j : Int) := by omega
      have hji : (j : Int) < (T.length : Int) := by omega
      have hwj : IntKind.i64.wrap ((j : Int) + 1) = (j : Int) + 1 := by rw [IntKind.wrap_i64]; omega
      have HW6 := Lib.hid hw6
      clear hw6 hw6' hgw hA
      go_upto_region 14 with fail
      rw [← HW6.out]
      clear y0 y1 y2 f0 f1 f2
      go_wp2_with fail
      go_roundw
      case rel => exact ⟨j + 1, _, by omega, by go_num, HQ6, HZ6⟩
      case measure => simp [intOf]; omega
    · obtain rfl : j = T.length := by omega
      have hji : ¬ (T.length : Int) < (T.length : Int) := by omega
      have HBQ : Hid (Below w4.heap.size w4 wr) := Lib.hid (HB5.out.trans (by rw [← HWS.out]; exact HZ.out))
      have HX6 := Lib.hid (HX4.out.trans (HBQ.out.mono HX4.out.size))
      have HW6 := Lib.hid (HW4.out.below HBQ.out)
      have HD6 := Lib.hid (HD4.out.below HBQ.out)
      have HM6 := Lib.hid (HM4.out.below HBQ.out)
      go_wp2_with fail
      refine (HAL.out _).mono ?_
      rintro e w7 ⟨rfl, hb7⟩
      have HX7 := Lib.hid (HX6.out.trans (hb7.mono HX6.out.size))
      have HW7 := Lib.hid (HW6.out.below hb7)
      have HD7 := Lib.hid (HD6.out.below hb7)
      have HM7 := Lib.hid (HM6.out.below hb7)
      have HC7 := Lib.hid (all_any HW7.out.a (by have := HTL.out; omega))
      clear hb7
      go_wp2_with fail
      refine HC7.out.mono ?_
      rintro e w8 ⟨A8, c8, rfl, ho8, hb8⟩
      have HX8 := Lib.hid (HX7.out.trans (hb8.mono HX7.out.size))
      have HW8 := Lib.hid (HW7.out.below hb8)
      have HD8 := Lib.hid (HD7.out.below hb8)
      have HM8 := Lib.hid (HM7.out.below hb8)
      have HC8 := Lib.hid (plain_any (c := c8) (Rd.of_own (cell := lcell) (l := T) ho8 (fun _ _ => rfl) (by omega)) (by have := HTL.out; omega))
      clear ho8 hb8
      go_wp2_with fail
      refine HC8.out.mono ?_
      rintro e w9 ⟨A9, c9, rfl, ho9, hb9⟩
      have HX9 := Lib.hid (HX8.out.trans (hb9.mono HX8.out.size))
      have HW9 := Lib.hid (HW8.out.below hb9)
      have HM9 := Lib.hid (HM8.out.below hb9)
      obtain ⟨Ax, cx, hex, hdx⟩ := HD8.out.below hb9
      injection hex with hex1 hex2 hex3
      subst hex1; subst hex3
      have HC9 := Lib.hid (same_any (c := c9) (c2 := cu) (Rd.of_own (cell := lcell) (l := T) ho9 (fun _ _ => rfl) (by omega)) hdx.rd (by have := HTL.out; omega))
      clear ho9 hb9 hdx hex2
      go_wp2_with fail
      refine HC9.out.mono ?_
      rintro e w10 ⟨rfl, hb10⟩
      have HX10 := Lib.hid (HX9.out.trans (hb10.mono HX9.out.size))
      have HW10 := Lib.hid (HW9.out.below hb10)
      have HM10 := Lib.hid (HM9.out.below hb10)
      have HC10 := Lib.hid (all_any HW10.out.b (by have := HML.out; omega))
      clear hb10
      go_wp2_with fail
      refine HC10.out.mono ?_
      rintro e w11 ⟨A11, c11, rfl, ho11, hb11⟩
      have HX11 := Lib.hid (HX10.out.trans (hb11.mono HX10.out.size))
      have HM11 := Lib.hid (HM10.out.below hb11)
      have HC11 := Lib.hid (plain_any (c := c11) (Rd.of_own (cell := lcell) (l := M) ho11 (fun _ _ => rfl) (by omega)) (by have := HML.out; omega))
      clear ho11 hb11
      go_wp2_with fail
      refine HC11.out.mono ?_
      rintro e w12 ⟨A12, c12, rfl, ho12, hb12⟩
      have HX12 := Lib.hid (HX11.out.trans (hb12.mono HX11.out.size))
      obtain ⟨Ay, cy, hey, hdy⟩ := HM11.out.below hb12
      injection hey with hey1 hey2 hey3
      subst hey1; subst hey3
      have HC12 := Lib.hid (same_any (c := c12) (c2 := cm) (Rd.of_own (cell := lcell) (l := M) ho12 (fun _ _ => rfl) (by omega)) hdy.rd (by have := HML.out; omega))
      clear ho12 hb12 hdy hey2
      go_wp2_with fail
      refine HC12.out.mono ?_
      rintro e w13 ⟨rfl, hb13⟩
      have HX13 := Lib.hid (HX12.out.trans (hb13.mono HX12.out.size))
      clear hb13
      go_wp2_with fail
      go_ret
      exact ⟨rfl, HX13.out⟩
end Go.Proofs.Ytocobanallohjaa
