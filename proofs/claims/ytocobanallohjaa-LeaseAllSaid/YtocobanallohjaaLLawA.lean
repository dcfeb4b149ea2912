/-
  LeaseAll returns true. Condition: memory holds the script.
-/
import Derived.Test.YtocobanallohjaaLTwo
namespace Go.Proofs.Ytocobanallohjaa
set_option maxRecDepth 100000
open Go.ChangeShapes Go.WideShapes Go.ChangeAt Go.RowKit Go.Proofs.Le

set_option maxHeartbeats 16000000 in
theorem all_law {w : World} {A : Option Addr} {n c : Nat} {l : List Cal} (h : Rd ocell 4 w A n l) (now id : Int) :
    Calls Try.prog 3 #[.slice A n c, .int .i64 now, .int .i64 id] w fun e w' => e = .returned (.bool true) ∧ Below w.heap.size w w' := by
  have HN := Lib.hid (new_any w)
  have HR := Lib.hid h
  have HL := Lib.hid h.len
  have HAL := Lib.hid (fun W => alive_any W)
  clear h
  go_enter Try.func3, Try.ntmps3
  go_wp2_with fail
  refine HN.out.mono ?_
  rintro e w1 ⟨tp, v, rfl, ht1, hb1, -, -⟩
  have HT1 := Lib.hid ht1
  have HB1 := Lib.hid hb1
  clear ht1 hb1
  by_cases hn : 400 < n
  · have hn' : decide ((400 : Int) < (n : Int)) = true := by rw [decide_eq_true_eq]; omega
    clear hn
    go_wp2_with fail
    refine (HAL.out _).mono ?_
    rintro e w2 ⟨rfl, hb2⟩
    have HB2 := Lib.hid (HB1.out.trans (hb2.mono HB1.out.size))
    clear hb2
    go_wp2_with fail
    go_ret
    exact ⟨rfl, HB2.out⟩
  have hn' : decide ((400 : Int) < (n : Int)) = false := by rw [decide_eq_false_iff_not]; omega
  have HPL := Lib.hid (plays_any (B := w.heap.size) (Bs := w.heap.size) (c := c) HT1.out HB1.out.size (Nat.le_refl _) good_nil (u := .slice none 0 0) ⟨none, 0, rfl, DR.nil _ _⟩ (fun W hW => HR.out.below (HB1.out.trans hW)) (by omega))
  go_wp2_with fail
  refine HPL.out.mono ?_
  rintro e w2 ⟨u2, rfl, hd2, hk2⟩
  have HX2 := Lib.hid (HB1.out.trans (kp_below hk2 HT1.out HB1.out.size))
  obtain ⟨v2, ht2, -, -⟩ := hk2
  obtain ⟨T, hT⟩ : ∃ T, Le.runT [] l = T := ⟨_, rfl⟩
  have HG : Hid (Le.Good T) := Lib.hid (by rw [← hT]; exact run_good good_nil _)
  have HTL : Hid (T.length ≤ 100) := Lib.hid HG.out.len
  rw [hT] at ht2 hd2
  have HT2 := Lib.hid ht2
  obtain ⟨Au, cu, rfl, hdr⟩ := hd2
  have HD2 := Lib.hid hdr
  have HGE := Lib.hid (get_any ht2 HG.out id)
  unfold GePost at HGE
  obtain ⟨f, hf⟩ : ∃ f, fnd T id = f := ⟨_, rfl⟩
  obtain ⟨fb, hfb⟩ : ∃ b, (has T id).isSome = b := ⟨_, rfl⟩
  rw [hf, hfb] at HGE
  have HFF := Lib.hid (And.intro hf hfb)
  have hqe := eqlD f f
  rw [show decide (f = f) = true by simp] at hqe
  have hgu := guard_eqlD
  have hbb : (fb == fb) = true := by simp
  clear ht2 hdr hf hfb hT
  go_wp2_with fail
  refine HGE.out.mono ?_
  rintro e w3 ⟨rfl, hb3⟩
  obtain ⟨w4, hw4⟩ : ∃ w4, w4 = w3.alloc (.cells #[.int .i64 f.i, .int .i64 f.s, .int .i64 f.l] 30) := ⟨_, rfl⟩
  obtain ⟨r, er⟩ : ∃ r, r = w3.heap.size := ⟨_, rfl⟩
  have hb4 : Below w3.heap.size w3 w4 := by rw [hw4]; exact box_below w3 _
  have hr : w4.heap[r]? = some (.cells #[.int .i64 f.i, .int .i64 f.s, .int .i64 f.l] 30 (0, 0)) := by rw [hw4, er]; exact new_block w3 _
  have hbs := hb3.trans (hb4.mono hb3.size)
  have HX4 := Lib.hid (HX2.out.trans (hbs.mono HX2.out.size))
  have HT4 := Lib.hid (HT2.out.below hbs)
  have HD4 := Lib.hid (HD2.out.below hbs)
  have HR4 := Lib.hid hr
  have HW4 := Lib.hid hw4
  have ER := Lib.hid er
  have HRG := Lib.hid (rget_any (c := cu) (HD2.out.below hbs).rd (by have := HTL.out; omega) id)
  unfold RgPost at HRG
  rw [HFF.out.1, HFF.out.2] at HRG
  clear hb3 hw4 er hb4 hr hbs
  go_upto_region 6 with fail
  rw [← HW4.out, ← ER.out]
  go_wp2_with fail
  refine HRG.out.mono ?_
  rintro e w5 ⟨rfl, hb5⟩
  obtain ⟨w6, hw6⟩ : ∃ w6, w6 = w5.alloc (.cells #[.int .i64 f.i, .int .i64 f.s, .int .i64 f.l] 33) := ⟨_, rfl⟩
  obtain ⟨q, eq⟩ : ∃ q, q = w5.heap.size := ⟨_, rfl⟩
  have hb6 : Below w5.heap.size w5 w6 := by rw [hw6]; exact box_below w5 _
  have hq : w6.heap[q]? = some (.cells #[.int .i64 f.i, .int .i64 f.s, .int .i64 f.l] 33 (0, 0)) := by rw [hw6, eq]; exact new_block w5 _
  have hbs := hb5.trans (hb6.mono hb5.size)
  have HX6 := Lib.hid (HX4.out.trans (hbs.mono HX4.out.size))
  have HT6 := Lib.hid (HT4.out.below hbs)
  have HD6 := Lib.hid (HD4.out.below hbs)
  have HR6 := Lib.hid (blk_below HR4.out hbs)
  have HQ6 := Lib.hid hq
  have HW6 := Lib.hid hw6
  have EQ := Lib.hid eq
  clear hb5 hw6 eq hb6 hq hbs
  go_upto_region 7 with fail
  rw [← HW6.out, ← EQ.out]
  go_wp2_with fail
  refine (HAL.out _).mono ?_
  rintro e w7 ⟨rfl, hb7⟩
  have HX7 := Lib.hid (HX6.out.trans (hb7.mono HX6.out.size))
  have HT7 := Lib.hid (HT6.out.below hb7)
  have HD7 := Lib.hid (HD6.out.below hb7)
  have HR7 := Lib.hid (blk_below HR6.out hb7)
  have HQ7 := Lib.hid (blk_below HQ6.out hb7)
  have HC7 := Lib.hid (all_any HT7.out (by have := HTL.out; omega))
  clear hb7
  go_wp2_with fail
  refine HC7.out.mono ?_
  rintro e w8 ⟨A8, c8, rfl, ho8, hb8⟩
  have HX8 := Lib.hid (HX7.out.trans (hb8.mono HX7.out.size))
  have HT8 := Lib.hid (HT7.out.below hb8)
  have HD8 := Lib.hid (HD7.out.below hb8)
  have HR8 := Lib.hid (blk_below HR7.out hb8)
  have HQ8 := Lib.hid (blk_below HQ7.out hb8)
  have HC8 := Lib.hid (plain_any (c := c8) (Rd.of_own (cell := lcell) (l := T) ho8 (fun _ _ => rfl) (by omega)) (by have := HTL.out; omega))
  clear ho8 hb8
  go_wp2_with fail
  refine HC8.out.mono ?_
  rintro e w9 ⟨A9, c9, rfl, ho9, hb9⟩
  have HX9 := Lib.hid (HX8.out.trans (hb9.mono HX8.out.size))
  have HT9 := Lib.hid (HT8.out.below hb9)
  have HD9 := Lib.hid (HD8.out.below hb9)
  have HR9 := Lib.hid (blk_below HR8.out hb9)
  have HQ9 := Lib.hid (blk_below HQ8.out hb9)
  have HC9 := Lib.hid (same_any (c := c9) (c2 := cu) (Rd.of_own (cell := lcell) (l := T) ho9 (fun _ _ => rfl) (by omega)) HD9.out.rd (by have := HTL.out; omega))
  clear ho9 hb9
  go_wp2_with fail
  refine HC9.out.mono ?_
  rintro e w10 ⟨rfl, hb10⟩
  have HX10 := Lib.hid (HX9.out.trans (hb10.mono HX9.out.size))
  have HT10 := Lib.hid (HT9.out.below hb10)
  have HD10 := Lib.hid (HD9.out.below hb10)
  have HR10 := Lib.hid (blk_below HR9.out hb10)
  have HQ10 := Lib.hid (blk_below HQ9.out hb10)
  have HC10 := Lib.hid (ended_any HT10.out HG.out now)
  have HEL : Hid ((endd T now).length ≤ 100) := Lib.hid (Nat.le_trans (endd_len T now) HTL.out)
  clear hb10
  go_wp2_with fail
  refine HC10.out.mono ?_
  rintro e w11 ⟨A11, c11, rfl, ho11, hb11⟩
  have HX11 := Lib.hid (HX10.out.trans (hb11.mono HX10.out.size))
  have HD11 := Lib.hid (HD10.out.below hb11)
  have HR11 := Lib.hid (blk_below HR10.out hb11)
  have HQ11 := Lib.hid (blk_below HQ10.out hb11)
  have HO11 := Lib.hid (Rd.of_own (cell := icell) (l := endd T now) ho11 (fun _ _ => rfl) (by omega))
  have HC11 := Lib.hid (rended_any (c := cu) HD11.out.rd HG.out now)
  clear ho11 hb11
  go_wp2_with fail
  refine HC11.out.mono ?_
  rintro e w12 ⟨A12, c12, rfl, ho12, hb12⟩
  have HX12 := Lib.hid (HX11.out.trans (hb12.mono HX11.out.size))
  have HR12 := Lib.hid (blk_below HR11.out hb12)
  have HQ12 := Lib.hid (blk_below HQ11.out hb12)
  have HC12 := Lib.hid (sameids_any (c := c11) (c2 := c12) (HO11.out.below hb12) (Rd.of_own (cell := icell) (l := endd T now) ho12 (fun _ _ => rfl) (by omega)) (by have := HEL.out; omega))
  clear ho12 hb12
  go_wp2_with fail
  refine HC12.out.mono ?_
  rintro e w13 ⟨rfl, hb13⟩
  have HX13 := Lib.hid (HX12.out.trans (hb13.mono HX12.out.size))
  have hr13 := blk_below HR12.out hb13
  have hq13 := blk_below HQ12.out hb13
  have r0 := cell_of hr13 (j := 0) rfl
  have r1 := cell_of hr13 (j := 1) rfl
  have r2 := cell_of hr13 (j := 2) rfl
  have q0 := cell_of hq13 (j := 0) rfl
  have q1 := cell_of hq13 (j := 1) rfl
  have q2 := cell_of hq13 (j := 2) rfl
  clear hb13 hr13 hq13
  go_wp2_with fail
  go_ret
  exact ⟨rfl, HX13.out⟩
end Go.Proofs.Ytocobanallohjaa
