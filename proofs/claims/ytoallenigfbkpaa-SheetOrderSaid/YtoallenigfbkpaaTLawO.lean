/-
  The law Order: of two writes that do not meet it is not seen which one was first. No condition.
-/
import Derived.Test.YtoallenigfbkpaaTLawU
namespace Go.Proofs.Ytoallenigfbkpaa
set_option maxRecDepth 100000
open Go.ChangeShapes Go.WideShapes Go.ChangeAt Go.RowKit Go.Proofs.Sg

theorem wr_comm {T : Sh} (hT : GoodS T) {x y : Nat} {a b : List UInt8} (h : ¬ (x < y + b.length ∧ y < x + a.length)) : wr (wr T x a) y b = wr (wr T y b) x a := by
  by_cases ha : a.length = 0
  · have e : ∀ S, wr S x a = S := fun S => by unfold wr; rw [if_pos ha]
    rw [e, e]
  · by_cases hb : b.length = 0
    · have e : ∀ S, wr S y b = S := fun S => by unfold wr; rw [if_pos hb]
      rw [e, e]
    · have e1 : ∀ S, wr S x a = ⟨max S.n (x + a.length), wK S.K x a.length, wF S.f x a⟩ := fun S => by unfold wr; rw [if_neg ha]
      have e2 : ∀ S, wr S y b = ⟨max S.n (y + b.length), wK S.K y b.length, wF S.f y b⟩ := fun S => by unfold wr; rw [if_neg hb]
      rw [e1, e2, e2, e1]
      have k1 : max (max T.n (x + a.length)) (y + b.length) = max (max T.n (y + b.length)) (x + a.length) := by omega
      have k2 : wK (wK T.K x a.length) y b.length = wK (wK T.K y b.length) x a.length := srt_ext (srt_wK (srt_wK hT.srt _ _) _ _) (srt_wK (srt_wK hT.srt _ _) _ _) (fun z => by
        rw [mem_wK, mem_wK, mem_wK, mem_wK]
        constructor
        · rintro ((h1 | h1) | h1)
          · exact .inl (.inl h1)
          · exact .inr h1
          · exact .inl (.inr h1)
        · rintro ((h1 | h1) | h1)
          · exact .inl (.inl h1)
          · exact .inr h1
          · exact .inl (.inr h1))
      have k3 : wF (wF T.f x a) y b = wF (wF T.f y b) x a := by
        funext i
        unfold wF
        by_cases h1 : x ≤ i ∧ i < x + a.length
        · have h2 : ¬ (y ≤ i ∧ i < y + b.length) := by omega
          simp only [if_pos h1, if_neg h2]
        · simp only [if_neg h1]
      simp only [k1, k2, k3]
theorem wrI_nat {S : Sh} {x : Nat} {b : List UInt8} (h : x + b.length ≤ 1048576) : wrI S (x : Int) b = wr S x b ∧ ft (x : Int) b.length = true := by
  have hf : ft (x : Int) b.length = true := ft_iff.2 (by omega)
  unfold wrI
  rw [if_pos hf, Int.toNat_natCast]
  exact ⟨rfl, hf⟩
set_option maxHeartbeats 16000000 in
theorem order_law {w : World} {ad : Option Addr} {len cap : Nat} {os : List Opr} (hO : OReads w w.heap.size ad len os) (x y : Int) {A1 A2 : Option Addr} {n1 c1 n2 c2 : Nat} {b1 b2 : List UInt8} (hR1 : Rd bcell 1 w A1 n1 b1) (hC1 : n1 ≤ c1) (hR2 : Rd bcell 1 w A2 n2 b2) (hC2 : n2 ≤ c2) :
    Calls Try.prog 8 #[.slice ad len cap, .agg #[.int .i64 x, .int .i64 y], .agg #[.slice A1 n1 c1, .slice A2 n2 c2]] w (LwPost w) := by
  obtain ⟨w0, hw0, hb0, hq, hr, hs0⟩ := two_box w (.cells #[.int .i64 x, .int .i64 y] 46) (.cells #[.slice A1 n1 c1, .slice A2 n2 c2] 47)
  obtain ⟨q, eq⟩ : ∃ q, q = w.heap.size := ⟨_, rfl⟩
  obtain ⟨t, et⟩ : ∃ t, t = w.heap.size + 1 := ⟨_, rfl⟩
  rw [← eq] at hq
  rw [← et] at hr
  have HNEW := Lib.hid (new_any w0)
  have HO := Lib.hid hO
  have HB0 := Lib.hid hb0
  have HQ0 := Lib.hid hq
  have HT0 := Lib.hid hr
  have HW0 := Lib.hid hw0
  have EQ := Lib.hid eq
  have ET := Lib.hid et
  have HR1 := Lib.hid hR1
  have HR2 := Lib.hid hR2
  have HL1 := Lib.hid hR1.len
  have HL2 := Lib.hid hR2.len
  have HC1 := Lib.hid hC1
  have HC2 := Lib.hid hC2
  have HAL : Hid (∀ W, Below w.heap.size w W → Calls Try.prog 11 #[] W fun e w' => e = .returned (.bool true) ∧ Below w.heap.size w w') := Lib.hid (fun W hW => (alive_any W).mono (fun e w' h => ⟨h.1, hW.trans (h.2.mono hW.size)⟩))
  clear hO hw0 hb0 hq hr hs0 eq et hR1 hR2 hC1 hC2
  go_enter Try.func8, Try.ntmps8
  go_upto_region 1 with fail
  rw [← HW0.out, ← ET.out, ← EQ.out]
  go_wp2_with fail
  refine HNEW.out.mono ?_
  rintro e w1 ⟨sp, mb, rfl, hs, hb⟩
  have HS1 := Lib.hid hs
  have HB1 := Lib.hid (HB0.out.trans (hb.mono HB0.out.size))
  have HQ1 := Lib.hid (blk_below HQ0.out hb)
  have HT1 := Lib.hid (blk_below HT0.out hb)
  have HSP : Hid (w.heap.size ≤ sp ∧ w.heap.size ≤ mb ∧ w0.heap.size ≤ w1.heap.size) := Lib.hid (by have := hs.gsp; have := hs.gmb; have := HB0.out.size; have := hb.size; omega)
  have HFEW := Lib.hid (few_any (cap := cap) (HO.out.kept (HB0.out.trans (hb.mono HB0.out.size))) (Nat.le_trans HB0.out.size hb.size))
  have hnil : ∀ W, (binOp .eql 23 (.pointer (some ⟨sp, 0, none⟩)) (.pointer none)).run Try.prog W = .ok (.bool false) W := fun W => by kernel_rfl
  have hnil2 : ∀ W, (binOp .neq 23 (.pointer (some ⟨sp, 0, none⟩)) (.pointer none)).run Try.prog W = .ok (.bool true) W := fun W => by kernel_rfl
  clear hs hb
  go_wp2_with fail
  refine HFEW.out.mono ?_
  rintro e w2 ⟨r, rfl, hr, hb2⟩
  have HB2 := Lib.hid (HB1.out.trans (hb2.mono HB1.out.size))
  have HS2 := Lib.hid (HS1.out.below hb2)
  have hq2 := blk_below HQ1.out hb2
  have ht2 := blk_below HT1.out hb2
  have HR := Lib.hid hr
  have HQ2 := Lib.hid hq2
  have HT2 := Lib.hid ht2
  have q0 := cell_of hq2 (j := 0) rfl
  have q1 := cell_of hq2 (j := 1) rfl
  have t0 := cell_of ht2 (j := 0) rfl
  have t1 := cell_of ht2 (j := 1) rfl
  clear hr hb2 hq2 ht2
  cases r with
  | false =>
    go_wp2_with fail
    refine (HAL.out _ HB2.out).mono ?_
    rintro e w' ⟨rfl, hb9⟩
    have HE : Hid (LwPost w (.returned (.bool true)) w') := Lib.hid ⟨rfl, hb9⟩
    clear hb9
    go_wp2_with fail
    go_ret
    exact HE.out
  | true =>
    by_cases g6 : (2000 : Int) < (n1 : Int)
    · have k6 : decide ((2000 : Int) < (n1 : Int)) = true := by simp only [decide_eq_true_eq]; exact g6
      go_wp2_with fail
      refine (HAL.out _ HB2.out).mono ?_
      rintro e w' ⟨rfl, hb9⟩
      have HE : Hid (LwPost w (.returned (.bool true)) w') := Lib.hid ⟨rfl, hb9⟩
      clear hb9
      go_wp2_with fail
      go_ret
      exact HE.out
    · have k6 : decide ((2000 : Int) < (n1 : Int)) = false := by simp only [decide_eq_false_iff_not]; exact g6
      by_cases g5 : (2000 : Int) < (n2 : Int)
      · have k5 : decide ((2000 : Int) < (n2 : Int)) = true := by simp only [decide_eq_true_eq]; exact g5
        go_wp2_with fail
        refine (HAL.out _ HB2.out).mono ?_
        rintro e w' ⟨rfl, hb9⟩
        have HE : Hid (LwPost w (.returned (.bool true)) w') := Lib.hid ⟨rfl, hb9⟩
        clear hb9
        go_wp2_with fail
        go_ret
        exact HE.out
      · have k5 : decide ((2000 : Int) < (n2 : Int)) = false := by simp only [decide_eq_false_iff_not]; exact g5
        by_cases g4 : x < 0
        · have k4 : decide (x < 0) = true := by simp only [decide_eq_true_eq]; exact g4
          go_wp2_with fail
          refine (HAL.out _ HB2.out).mono ?_
          rintro e w' ⟨rfl, hb9⟩
          have HE : Hid (LwPost w (.returned (.bool true)) w') := Lib.hid ⟨rfl, hb9⟩
          clear hb9
          go_wp2_with fail
          go_ret
          exact HE.out
        · have k4 : decide (x < 0) = false := by simp only [decide_eq_false_iff_not]; exact g4
          by_cases g3 : 5000 < x
          · have k3 : decide (5000 < x) = true := by simp only [decide_eq_true_eq]; exact g3
            go_wp2_with fail
            refine (HAL.out _ HB2.out).mono ?_
            rintro e w' ⟨rfl, hb9⟩
            have HE : Hid (LwPost w (.returned (.bool true)) w') := Lib.hid ⟨rfl, hb9⟩
            clear hb9
            go_wp2_with fail
            go_ret
            exact HE.out
          · have k3 : decide (5000 < x) = false := by simp only [decide_eq_false_iff_not]; exact g3
            by_cases g2 : y < 0
            · have k2 : decide (y < 0) = true := by simp only [decide_eq_true_eq]; exact g2
              go_wp2_with fail
              refine (HAL.out _ HB2.out).mono ?_
              rintro e w' ⟨rfl, hb9⟩
              have HE : Hid (LwPost w (.returned (.bool true)) w') := Lib.hid ⟨rfl, hb9⟩
              clear hb9
              go_wp2_with fail
              go_ret
              exact HE.out
            · have k2 : decide (y < 0) = false := by simp only [decide_eq_false_iff_not]; exact g2
              by_cases g1 : 5000 < y
              · have k1 : decide (5000 < y) = true := by simp only [decide_eq_true_eq]; exact g1
                go_wp2_with fail
                refine (HAL.out _ HB2.out).mono ?_
                rintro e w' ⟨rfl, hb9⟩
                have HE : Hid (LwPost w (.returned (.bool true)) w') := Lib.hid ⟨rfl, hb9⟩
                clear hb9
                go_wp2_with fail
                go_ret
                exact HE.out
              · have k1 : decide (5000 < y) = false := by simp only [decide_eq_false_iff_not]; exact g1
                obtain ⟨X, hX⟩ : ∃ X : Nat, x = (X : Int) := ⟨x.toNat, by omega⟩
                obtain ⟨Y, hY⟩ : ∃ Y : Nat, y = (Y : Int) := ⟨y.toNat, by omega⟩
                subst hX; subst hY
                obtain ⟨a, ha⟩ : ∃ a : Int, (Y : Int) + (n2 : Int) = a := ⟨_, rfl⟩
                obtain ⟨b, hb⟩ : ∃ b : Int, (X : Int) + (n1 : Int) = b := ⟨_, rfl⟩
                have hwa : IntKind.i64.wrap ((Y : Int) + (n2 : Int)) = a := by rw [IntKind.wrap_i64]; omega
                have hwb : IntKind.i64.wrap ((X : Int) + (n1 : Int)) = b := by rw [IntKind.wrap_i64]; omega
                have m1 : (n1 : Int) ≤ 2000 := by omega
                have m2 : (n2 : Int) ≤ 2000 := by omega
                have x5 : X ≤ 5000 := by omega
                have y5 : Y ≤ 5000 := by omega
                have kx : decide ((5000 : Int) < (X : Int)) = false := by simp only [decide_eq_false_iff_not]; omega
                by_cases p1 : (X : Int) < a
                · have p1' : decide ((X : Int) < a) = true := by simp only [decide_eq_true_eq]; exact p1
                  by_cases p2 : (Y : Int) < b
                  · have p2' : decide ((Y : Int) < b) = true := by simp only [decide_eq_true_eq]; exact p2
                    go_wp2_with fail
                    refine (HAL.out _ HB2.out).mono ?_
                    rintro e w' ⟨rfl, hb9⟩
                    have HE : Hid (LwPost w (.returned (.bool true)) w') := Lib.hid ⟨rfl, hb9⟩
                    clear hb9
                    go_wp2_with fail
                    go_ret
                    exact HE.out
                  · have p2' : decide ((Y : Int) < b) = false := by simp only [decide_eq_false_iff_not]; exact p2
                    have HDJ : Hid (¬ (X < Y + b2.length ∧ Y < X + b1.length)) := Lib.hid (by rw [HL1.out, HL2.out]; omega)
                    have HPL := Lib.hid (plays_any HS2.out (df0 w2) (HO.out.kept HB2.out) (HB0.out.size) (HR.out rfl).1 (cap := cap) (HR.out rfl).2)
                    unfold dv at HPL
                    have HXY : Hid (X + b1.length ≤ 1048576 ∧ Y + b2.length ≤ 1048576) := Lib.hid (by rw [HL1.out, HL2.out]; omega)
                    go_wp2_with fail
                    refine HPL.out.mono ?_
                    rintro e w3 ⟨A3, d3, B3, f3, rfl, hs3, hd3, hk3⟩
                    unfold dv
                    obtain ⟨T, hT⟩ : ∃ T, runS S0 os = T := ⟨_, rfl⟩
                    rw [hT] at hs3 hd3 ⊢
                    have hB3 : Below w.heap.size w w3 := HB2.out.trans (hk3.below HB2.out.size HSP.out.1 HSP.out.2.1)
                    have hq3 := hk3.blk HS2.out HQ2.out (by decide)
                    have ht3 := hk3.blk HS2.out HT2.out (by decide)
                    obtain ⟨w4, hw4⟩ : ∃ w4, w4 = w3.alloc (.cells #[.slice A3 T.n d3, .slice B3 T.K.length f3] 30) := ⟨_, rfl⟩
                    obtain ⟨v, hvE⟩ : ∃ v, v = w3.heap.size := ⟨_, rfl⟩
                    have hb4 : Below w3.heap.size w3 w4 := by rw [hw4]; exact box_below w3 _
                    have hv4 : w4.heap[v]? = some (.cells #[.slice A3 T.n d3, .slice B3 T.K.length f3] 30 (0, 0)) := by rw [hw4, hvE]; exact new_block w3 _
                    have hs4 := hs3.below hb4
                    have hd4 := hd3.below hb4
                    have hq4 := blk_below hq3 hb4
                    have ht4 := blk_below ht3 hb4
                    have hB4 := hB3.trans (hb4.mono hB3.size)
                    have HVG : Hid (w.heap.size ≤ v) := Lib.hid (by have := hB3.size; omega)
                    have HW4 := Lib.hid hw4
                    have HVE := Lib.hid hvE
                    have HCL := Lib.hid (clone_any hs4)
                    clear hT hw4 hvE q0 q1 t0 t1
                    go_upto_region 7 with fail
                    rw [← HW4.out, ← HVE.out]
                    go_wp2_with fail
                    refine HCL.out.mono ?_
                    rintro e w5 ⟨up, ub, rfl, hu5, hb5⟩
                    have HNE : Hid (up ≠ sp ∧ ub ≠ mb) := Lib.hid (by have h1 := hu5.gsp; have h2 := hu5.gmb; have h3 := hs4.lts; have h4 := hs4.map.lt; omega)
                    have hs5 := hs4.below hb5
                    have hd5 := hd4.below hb5
                    have hq5 := blk_below hq4 hb5
                    have ht5 := blk_below ht4 hb5
                    have hv5 := blk_below hv4 hb5
                    have hB5 := hB4.trans (hb5.mono hB4.size)
                    have HGE : Hid (w.heap.size ≤ sp ∧ w.heap.size ≤ mb ∧ w.heap.size ≤ up ∧ w.heap.size ≤ ub) := Lib.hid (by have h1 := hu5.gsp; have h2 := hu5.gmb; have h3 := hB4.size; have := HSP.out; omega)
                    have hnil3 : ∀ W, (binOp .eql 23 (.pointer (some ⟨up, 0, none⟩)) (.pointer none)).run Try.prog W = .ok (.bool false) W := fun W => by kernel_rfl
                    have q0 := cell_of hq5 (j := 0) rfl
                    have q1 := cell_of hq5 (j := 1) rfl
                    have t0 := cell_of ht5 (j := 0) rfl
                    have t1 := cell_of ht5 (j := 1) rfl
                    go_wp2_with fail
                    refine (write_any hs5 (X : Nat) (by omega) (rd_at HR1.out (rd_und HR1.out) hB5) HC1.out (by omega)).mono ?_
                    rintro e w6 ⟨rfl, hs6, hk6⟩
                    have hu6 := hk6.other hs5 hu5 HNE.out.1 HNE.out.2
                    have hB6 : Below w.heap.size w w6 := hB5.trans (hk6.below hB5.size HGE.out.1 HGE.out.2.1)
                    have hq6 := hk6.blk hs5 hq5 (by decide)
                    have ht6 := hk6.blk hs5 ht5 (by decide)
                    have hv6 := hk6.blk hs5 hv5 (by decide)
                    have hd6 := hd5.sk hk6 hs5
                    have q0 := cell_of hq6 (j := 0) rfl
                    have q1 := cell_of hq6 (j := 1) rfl
                    have t0 := cell_of ht6 (j := 0) rfl
                    have t1 := cell_of ht6 (j := 1) rfl
                    go_wp2_with fail
                    refine (write_any hs6 (Y : Nat) (by omega) (rd_at HR2.out (rd_und HR2.out) hB6) HC2.out (by omega)).mono ?_
                    rintro e w7 ⟨rfl, hs7, hk7⟩
                    have hu7 := hk7.other hs6 hu6 HNE.out.1 HNE.out.2
                    have hB7 : Below w.heap.size w w7 := hB6.trans (hk7.below hB6.size HGE.out.1 HGE.out.2.1)
                    have hq7 := hk7.blk hs6 hq6 (by decide)
                    have ht7 := hk7.blk hs6 ht6 (by decide)
                    have hv7 := hk7.blk hs6 hv6 (by decide)
                    have hd7 := hd6.sk hk7 hs6
                    have q0 := cell_of hq7 (j := 0) rfl
                    have q1 := cell_of hq7 (j := 1) rfl
                    have t0 := cell_of ht7 (j := 0) rfl
                    have t1 := cell_of ht7 (j := 1) rfl
                    go_wp2_with fail
                    refine (write_any hu7 (Y : Nat) (by omega) (rd_at HR2.out (rd_und HR2.out) hB7) HC2.out (by omega)).mono ?_
                    rintro e w8 ⟨rfl, hu8, hk8⟩
                    have hs8 := hk8.other hu7 hs7 (Ne.symm HNE.out.1) (Ne.symm HNE.out.2)
                    have hB8 : Below w.heap.size w w8 := hB7.trans (hk8.below hB7.size HGE.out.2.2.1 HGE.out.2.2.2)
                    have hq8 := hk8.blk hu7 hq7 (by decide)
                    have ht8 := hk8.blk hu7 ht7 (by decide)
                    have hv8 := hk8.blk hu7 hv7 (by decide)
                    have hd8 := hd7.sk hk8 hu7
                    have q0 := cell_of hq8 (j := 0) rfl
                    have q1 := cell_of hq8 (j := 1) rfl
                    have t0 := cell_of ht8 (j := 0) rfl
                    have t1 := cell_of ht8 (j := 1) rfl
                    go_wp2_with fail
                    refine (write_any hu8 (X : Nat) (by omega) (rd_at HR1.out (rd_und HR1.out) hB8) HC1.out (by omega)).mono ?_
                    rintro e w9 ⟨rfl, hu9, hk9⟩
                    have hs9 := hk9.other hu8 hs8 (Ne.symm HNE.out.1) (Ne.symm HNE.out.2)
                    have hB9 : Below w.heap.size w w9 := hB8.trans (hk9.below hB8.size HGE.out.2.2.1 HGE.out.2.2.2)
                    have hq9 := hk9.blk hu8 hq8 (by decide)
                    have ht9 := hk9.blk hu8 ht8 (by decide)
                    have hv9 := hk9.blk hu8 hv8 (by decide)
                    have hd9 := hd8.sk hk9 hu8
                    have q0 := cell_of hq9 (j := 0) rfl
                    have q1 := cell_of hq9 (j := 1) rfl
                    have t0 := cell_of ht9 (j := 0) rfl
                    have t1 := cell_of ht9 (j := 1) rfl
                    have v0 := cell_of hv9 (j := 0) rfl
                    have v1 := cell_of hv9 (j := 1) rfl
                    go_wp2_with fail
                    refine (rwrite_any (cb := c1) hd9 hs5.good (X : Nat) (by omega) (rd_at HR1.out (rd_und HR1.out) hB9) (by omega)).mono ?_
                    rintro e w10 ⟨A10, d10, B10, f10, rfl, hd10, hb10⟩
                    unfold dv
                    have hv10 := blk_below hv9 hb10
                    obtain ⟨w11, hw11⟩ : ∃ z, z = ((w10.setCell ⟨v, 0, none⟩ (.slice A10 ((wrI T (X : Int) b1)).n d10)).setCell ⟨v, 1, none⟩ (.slice B10 ((wrI T (X : Int) b1)).K.length f10)) := ⟨_, rfl⟩
                    obtain ⟨hwr11, hv11⟩ := set_two hv10 (.slice A10 ((wrI T (X : Int) b1)).n d10) (.slice B10 ((wrI T (X : Int) b1)).K.length f10)
                    rw [← hw11] at hwr11 hv11
                    have hd11 := hd10.wr hwr11 hv10
                    have hs11 := (hs9.below hb10).wr hwr11 hv10
                    have hu11 := (hu9.below hb10).wr hwr11 hv10
                    have hq11 := gb_cells hwr11.gb (fun e1 => by have h1 := blk_below hq9 hb10; rw [e1, hv10] at h1; injection h1 with h1; injection h1 with _ h1 _; exact absurd h1 (by decide)) (blk_below hq9 hb10)
                    have ht11 := gb_cells hwr11.gb (fun e1 => by have h1 := blk_below ht9 hb10; rw [e1, hv10] at h1; injection h1 with h1; injection h1 with _ h1 _; exact absurd h1 (by decide)) (blk_below ht9 hb10)
                    have hB11 : Below w.heap.size w w11 := (hB9.trans (hb10.mono hB9.size)).trans (hwr11.below.mono HVG.out)
                    have y0 := cell_of hv10 (j := 0) rfl
                    have y1 := cell_of hv10 (j := 1) rfl
                    have z0 := frozen_of_row w10 v 0 _ _ hv10
                    have z1 := frozen_of_row w10 v 1 _ _ hv10
                    have HW11 := Lib.hid hw11
                    clear v0 v1 q0 q1 t0 t1 hw11
                    go_upto_region 15 with fail
                    rw [← HW11.out]
                    clear y0 y1 z0 z1
                    have q0 := cell_of hq11 (j := 0) rfl
                    have q1 := cell_of hq11 (j := 1) rfl
                    have t0 := cell_of ht11 (j := 0) rfl
                    have t1 := cell_of ht11 (j := 1) rfl
                    have v0 := cell_of hv11 (j := 0) rfl
                    have v1 := cell_of hv11 (j := 1) rfl
                    go_wp2_with fail
                    refine (rwrite_any (cb := c2) hd11 (good_wrI hs5.good _ _) (Y : Nat) (by omega) (rd_at HR2.out (rd_und HR2.out) hB11) (by omega)).mono ?_
                    rintro e w12 ⟨A12, d12, B12, f12, rfl, hd12, hb12⟩
                    unfold dv
                    have hv12 := blk_below hv11 hb12
                    obtain ⟨w13, hw13⟩ : ∃ z, z = ((w12.setCell ⟨v, 0, none⟩ (.slice A12 ((wrI (wrI T (X : Int) b1) (Y : Int) b2)).n d12)).setCell ⟨v, 1, none⟩ (.slice B12 ((wrI (wrI T (X : Int) b1) (Y : Int) b2)).K.length f12)) := ⟨_, rfl⟩
                    obtain ⟨hwr13, hv13⟩ := set_two hv12 (.slice A12 ((wrI (wrI T (X : Int) b1) (Y : Int) b2)).n d12) (.slice B12 ((wrI (wrI T (X : Int) b1) (Y : Int) b2)).K.length f12)
                    rw [← hw13] at hwr13 hv13
                    have hd13 := hd12.wr hwr13 hv12
                    have hs13 := (hs11.below hb12).wr hwr13 hv12
                    have hu13 := (hu11.below hb12).wr hwr13 hv12
                    have hq13 := gb_cells hwr13.gb (fun e1 => by have h1 := blk_below hq11 hb12; rw [e1, hv12] at h1; injection h1 with h1; injection h1 with _ h1 _; exact absurd h1 (by decide)) (blk_below hq11 hb12)
                    have ht13 := gb_cells hwr13.gb (fun e1 => by have h1 := blk_below ht11 hb12; rw [e1, hv12] at h1; injection h1 with h1; injection h1 with _ h1 _; exact absurd h1 (by decide)) (blk_below ht11 hb12)
                    have hB13 : Below w.heap.size w w13 := (hB11.trans (hb12.mono hB11.size)).trans (hwr13.below.mono HVG.out)
                    have y0 := cell_of hv12 (j := 0) rfl
                    have y1 := cell_of hv12 (j := 1) rfl
                    have z0 := frozen_of_row w12 v 0 _ _ hv12
                    have z1 := frozen_of_row w12 v 1 _ _ hv12
                    have HW13 := Lib.hid hw13
                    clear v0 v1 q0 q1 t0 t1 hw13
                    go_upto_region 16 with fail
                    rw [← HW13.out]
                    clear y0 y1 z0 z1
                    have q0 := cell_of hq13 (j := 0) rfl
                    have q1 := cell_of hq13 (j := 1) rfl
                    have t0 := cell_of ht13 (j := 0) rfl
                    have t1 := cell_of ht13 (j := 1) rfl
                    have hE : wrI (wrI T (Y : Int) b2) (X : Int) b1 = wrI (wrI T (X : Int) b1) (Y : Int) b2 := by
                      rw [(wrI_nat HXY.out.2).1, (wrI_nat HXY.out.1).1, (wrI_nat HXY.out.1).1, (wrI_nat HXY.out.2).1]
                      exact (wr_comm hs5.good HDJ.out).symm
                    rw [hE] at hu13
                    go_wp2_with fail
                    refine (alive_any w13).mono ?_
                    rintro e w14 ⟨rfl, hb14⟩
                    have hs14 := hs13.below hb14
                    have hu14 := hu13.below hb14
                    have hd14 := hd13.below hb14
                    have hv14 := blk_below hv13 hb14
                    have hB14 := hB13.trans (hb14.mono hB13.size)
                    have v0 := cell_of hv14 (j := 0) rfl
                    have v1 := cell_of hv14 (j := 1) rfl
                    have HST := Lib.hid (stands_any hs14 hd14)
                    unfold dv at HST
                    go_wp2_with fail
                    refine HST.out.mono ?_
                    rintro e w15 ⟨rfl, hb15⟩
                    have hu15 := hu14.below hb15
                    have hd15 := hd14.below hb15
                    have hv15 := blk_below hv14 hb15
                    have hB15 := hB14.trans (hb15.mono hB14.size)
                    have v0 := cell_of hv15 (j := 0) rfl
                    have v1 := cell_of hv15 (j := 1) rfl
                    have HSU := Lib.hid (stands_any hu15 hd15)
                    unfold dv at HSU
                    go_wp2_with fail
                    refine HSU.out.mono ?_
                    rintro e w16 ⟨rfl, hb16⟩
                    have HE : Hid (LwPost w (.returned (.bool true)) w16) := Lib.hid ⟨rfl, hB15.trans (hb16.mono hB15.size)⟩
                    clear hb16
                    go_wp2_with fail
                    go_ret
                    exact HE.out
                · have p1' : decide ((X : Int) < a) = false := by simp only [decide_eq_false_iff_not]; exact p1
                  have HDJ : Hid (¬ (X < Y + b2.length ∧ Y < X + b1.length)) := Lib.hid (by rw [HL1.out, HL2.out]; omega)
                  have HPL := Lib.hid (plays_any HS2.out (df0 w2) (HO.out.kept HB2.out) (HB0.out.size) (HR.out rfl).1 (cap := cap) (HR.out rfl).2)
                  unfold dv at HPL
                  have HXY : Hid (X + b1.length ≤ 1048576 ∧ Y + b2.length ≤ 1048576) := Lib.hid (by rw [HL1.out, HL2.out]; omega)
                  go_wp2_with fail
                  refine HPL.out.mono ?_
                  rintro e w3 ⟨A3, d3, B3, f3, rfl, hs3, hd3, hk3⟩
                  unfold dv
                  obtain ⟨T, hT⟩ : ∃ T, runS S0 os = T := ⟨_, rfl⟩
                  rw [hT] at hs3 hd3 ⊢
                  have hB3 : Below w.heap.size w w3 := HB2.out.trans (hk3.below HB2.out.size HSP.out.1 HSP.out.2.1)
                  have hq3 := hk3.blk HS2.out HQ2.out (by decide)
                  have ht3 := hk3.blk HS2.out HT2.out (by decide)
                  obtain ⟨w4, hw4⟩ : ∃ w4, w4 = w3.alloc (.cells #[.slice A3 T.n d3, .slice B3 T.K.length f3] 30) := ⟨_, rfl⟩
                  obtain ⟨v, hvE⟩ : ∃ v, v = w3.heap.size := ⟨_, rfl⟩
                  have hb4 : Below w3.heap.size w3 w4 := by rw [hw4]; exact box_below w3 _
                  have hv4 : w4.heap[v]? = some (.cells #[.slice A3 T.n d3, .slice B3 T.K.length f3] 30 (0, 0)) := by rw [hw4, hvE]; exact new_block w3 _
                  have hs4 := hs3.below hb4
                  have hd4 := hd3.below hb4
                  have hq4 := blk_below hq3 hb4
                  have ht4 := blk_below ht3 hb4
                  have hB4 := hB3.trans (hb4.mono hB3.size)
                  have HVG : Hid (w.heap.size ≤ v) := Lib.hid (by have := hB3.size; omega)
                  have HW4 := Lib.hid hw4
                  have HVE := Lib.hid hvE
                  have HCL := Lib.hid (clone_any hs4)
                  clear hT hw4 hvE q0 q1 t0 t1
                  go_upto_region 7 with fail
                  rw [← HW4.out, ← HVE.out]
                  go_wp2_with fail
                  refine HCL.out.mono ?_
                  rintro e w5 ⟨up, ub, rfl, hu5, hb5⟩
                  have HNE : Hid (up ≠ sp ∧ ub ≠ mb) := Lib.hid (by have h1 := hu5.gsp; have h2 := hu5.gmb; have h3 := hs4.lts; have h4 := hs4.map.lt; omega)
                  have hs5 := hs4.below hb5
                  have hd5 := hd4.below hb5
                  have hq5 := blk_below hq4 hb5
                  have ht5 := blk_below ht4 hb5
                  have hv5 := blk_below hv4 hb5
                  have hB5 := hB4.trans (hb5.mono hB4.size)
                  have HGE : Hid (w.heap.size ≤ sp ∧ w.heap.size ≤ mb ∧ w.heap.size ≤ up ∧ w.heap.size ≤ ub) := Lib.hid (by have h1 := hu5.gsp; have h2 := hu5.gmb; have h3 := hB4.size; have := HSP.out; omega)
                  have hnil3 : ∀ W, (binOp .eql 23 (.pointer (some ⟨up, 0, none⟩)) (.pointer none)).run Try.prog W = .ok (.bool false) W := fun W => by kernel_rfl
                  have q0 := cell_of hq5 (j := 0) rfl
                  have q1 := cell_of hq5 (j := 1) rfl
                  have t0 := cell_of ht5 (j := 0) rfl
                  have t1 := cell_of ht5 (j := 1) rfl
                  go_wp2_with fail
                  refine (write_any hs5 (X : Nat) (by omega) (rd_at HR1.out (rd_und HR1.out) hB5) HC1.out (by omega)).mono ?_
                  rintro e w6 ⟨rfl, hs6, hk6⟩
                  have hu6 := hk6.other hs5 hu5 HNE.out.1 HNE.out.2
                  have hB6 : Below w.heap.size w w6 := hB5.trans (hk6.below hB5.size HGE.out.1 HGE.out.2.1)
                  have hq6 := hk6.blk hs5 hq5 (by decide)
                  have ht6 := hk6.blk hs5 ht5 (by decide)
                  have hv6 := hk6.blk hs5 hv5 (by decide)
                  have hd6 := hd5.sk hk6 hs5
                  have q0 := cell_of hq6 (j := 0) rfl
                  have q1 := cell_of hq6 (j := 1) rfl
                  have t0 := cell_of ht6 (j := 0) rfl
                  have t1 := cell_of ht6 (j := 1) rfl
                  go_wp2_with fail
                  refine (write_any hs6 (Y : Nat) (by omega) (rd_at HR2.out (rd_und HR2.out) hB6) HC2.out (by omega)).mono ?_
                  rintro e w7 ⟨rfl, hs7, hk7⟩
                  have hu7 := hk7.other hs6 hu6 HNE.out.1 HNE.out.2
                  have hB7 : Below w.heap.size w w7 := hB6.trans (hk7.below hB6.size HGE.out.1 HGE.out.2.1)
                  have hq7 := hk7.blk hs6 hq6 (by decide)
                  have ht7 := hk7.blk hs6 ht6 (by decide)
                  have hv7 := hk7.blk hs6 hv6 (by decide)
                  have hd7 := hd6.sk hk7 hs6
                  have q0 := cell_of hq7 (j := 0) rfl
                  have q1 := cell_of hq7 (j := 1) rfl
                  have t0 := cell_of ht7 (j := 0) rfl
                  have t1 := cell_of ht7 (j := 1) rfl
                  go_wp2_with fail
                  refine (write_any hu7 (Y : Nat) (by omega) (rd_at HR2.out (rd_und HR2.out) hB7) HC2.out (by omega)).mono ?_
                  rintro e w8 ⟨rfl, hu8, hk8⟩
                  have hs8 := hk8.other hu7 hs7 (Ne.symm HNE.out.1) (Ne.symm HNE.out.2)
                  have hB8 : Below w.heap.size w w8 := hB7.trans (hk8.below hB7.size HGE.out.2.2.1 HGE.out.2.2.2)
                  have hq8 := hk8.blk hu7 hq7 (by decide)
                  have ht8 := hk8.blk hu7 ht7 (by decide)
                  have hv8 := hk8.blk hu7 hv7 (by decide)
                  have hd8 := hd7.sk hk8 hu7
                  have q0 := cell_of hq8 (j := 0) rfl
                  have q1 := cell_of hq8 (j := 1) rfl
                  have t0 := cell_of ht8 (j := 0) rfl
                  have t1 := cell_of ht8 (j := 1) rfl
                  go_wp2_with fail
                  refine (write_any hu8 (X : Nat) (by omega) (rd_at HR1.out (rd_und HR1.out) hB8) HC1.out (by omega)).mono ?_
                  rintro e w9 ⟨rfl, hu9, hk9⟩
                  have hs9 := hk9.other hu8 hs8 (Ne.symm HNE.out.1) (Ne.symm HNE.out.2)
                  have hB9 : Below w.heap.size w w9 := hB8.trans (hk9.below hB8.size HGE.out.2.2.1 HGE.out.2.2.2)
                  have hq9 := hk9.blk hu8 hq8 (by decide)
                  have ht9 := hk9.blk hu8 ht8 (by decide)
                  have hv9 := hk9.blk hu8 hv8 (by decide)
                  have hd9 := hd8.sk hk9 hu8
                  have q0 := cell_of hq9 (j := 0) rfl
                  have q1 := cell_of hq9 (j := 1) rfl
                  have t0 := cell_of ht9 (j := 0) rfl
                  have t1 := cell_of ht9 (j := 1) rfl
                  have v0 := cell_of hv9 (j := 0) rfl
                  have v1 := cell_of hv9 (j := 1) rfl
                  go_wp2_with fail
                  refine (rwrite_any (cb := c1) hd9 hs5.good (X : Nat) (by omega) (rd_at HR1.out (rd_und HR1.out) hB9) (by omega)).mono ?_
                  rintro e w10 ⟨A10, d10, B10, f10, rfl, hd10, hb10⟩
                  unfold dv
                  have hv10 := blk_below hv9 hb10
                  obtain ⟨w11, hw11⟩ : ∃ z, z = ((w10.setCell ⟨v, 0, none⟩ (.slice A10 ((wrI T (X : Int) b1)).n d10)).setCell ⟨v, 1, none⟩ (.slice B10 ((wrI T (X : Int) b1)).K.length f10)) := ⟨_, rfl⟩
                  obtain ⟨hwr11, hv11⟩ := set_two hv10 (.slice A10 ((wrI T (X : Int) b1)).n d10) (.slice B10 ((wrI T (X : Int) b1)).K.length f10)
                  rw [← hw11] at hwr11 hv11
                  have hd11 := hd10.wr hwr11 hv10
                  have hs11 := (hs9.below hb10).wr hwr11 hv10
                  have hu11 := (hu9.below hb10).wr hwr11 hv10
                  have hq11 := gb_cells hwr11.gb (fun e1 => by have h1 := blk_below hq9 hb10; rw [e1, hv10] at h1; injection h1 with h1; injection h1 with _ h1 _; exact absurd h1 (by decide)) (blk_below hq9 hb10)
                  have ht11 := gb_cells hwr11.gb (fun e1 => by have h1 := blk_below ht9 hb10; rw [e1, hv10] at h1; injection h1 with h1; injection h1 with _ h1 _; exact absurd h1 (by decide)) (blk_below ht9 hb10)
                  have hB11 : Below w.heap.size w w11 := (hB9.trans (hb10.mono hB9.size)).trans (hwr11.below.mono HVG.out)
                  have y0 := cell_of hv10 (j := 0) rfl
                  have y1 := cell_of hv10 (j := 1) rfl
                  have z0 := frozen_of_row w10 v 0 _ _ hv10
                  have z1 := frozen_of_row w10 v 1 _ _ hv10
                  have HW11 := Lib.hid hw11
                  clear v0 v1 q0 q1 t0 t1 hw11
                  go_upto_region 15 with fail
                  rw [← HW11.out]
                  clear y0 y1 z0 z1
                  have q0 := cell_of hq11 (j := 0) rfl
                  have q1 := cell_of hq11 (j := 1) rfl
                  have t0 := cell_of ht11 (j := 0) rfl
                  have t1 := cell_of ht11 (j := 1) rfl
                  have v0 := cell_of hv11 (j := 0) rfl
                  have v1 := cell_of hv11 (j := 1) rfl
                  go_wp2_with fail
                  refine (rwrite_any (cb := c2) hd11 (good_wrI hs5.good _ _) (Y : Nat) (by omega) (rd_at HR2.out (rd_und HR2.out) hB11) (by omega)).mono ?_
                  rintro e w12 ⟨A12, d12, B12, f12, rfl, hd12, hb12⟩
                  unfold dv
                  have hv12 := blk_below hv11 hb12
                  obtain ⟨w13, hw13⟩ : ∃ z, z = ((w12.setCell ⟨v, 0, none⟩ (.slice A12 ((wrI (wrI T (X : Int) b1) (Y : Int) b2)).n d12)).setCell ⟨v, 1, none⟩ (.slice B12 ((wrI (wrI T (X : Int) b1) (Y : Int) b2)).K.length f12)) := ⟨_, rfl⟩
                  obtain ⟨hwr13, hv13⟩ := set_two hv12 (.slice A12 ((wrI (wrI T (X : Int) b1) (Y : Int) b2)).n d12) (.slice B12 ((wrI (wrI T (X : Int) b1) (Y : Int) b2)).K.length f12)
                  rw [← hw13] at hwr13 hv13
                  have hd13 := hd12.wr hwr13 hv12
                  have hs13 := (hs11.below hb12).wr hwr13 hv12
                  have hu13 := (hu11.below hb12).wr hwr13 hv12
                  have hq13 := gb_cells hwr13.gb (fun e1 => by have h1 := blk_below hq11 hb12; rw [e1, hv12] at h1; injection h1 with h1; injection h1 with _ h1 _; exact absurd h1 (by decide)) (blk_below hq11 hb12)
                  have ht13 := gb_cells hwr13.gb (fun e1 => by have h1 := blk_below ht11 hb12; rw [e1, hv12] at h1; injection h1 with h1; injection h1 with _ h1 _; exact absurd h1 (by decide)) (blk_below ht11 hb12)
                  have hB13 : Below w.heap.size w w13 := (hB11.trans (hb12.mono hB11.size)).trans (hwr13.below.mono HVG.out)
                  have y0 := cell_of hv12 (j := 0) rfl
                  have y1 := cell_of hv12 (j := 1) rfl
                  have z0 := frozen_of_row w12 v 0 _ _ hv12
                  have z1 := frozen_of_row w12 v 1 _ _ hv12
                  have HW13 := Lib.hid hw13
                  clear v0 v1 q0 q1 t0 t1 hw13
                  go_upto_region 16 with fail
                  rw [← HW13.out]
                  clear y0 y1 z0 z1
                  have q0 := cell_of hq13 (j := 0) rfl
                  have q1 := cell_of hq13 (j := 1) rfl
                  have t0 := cell_of ht13 (j := 0) rfl
                  have t1 := cell_of ht13 (j := 1) rfl
                  have hE : wrI (wrI T (Y : Int) b2) (X : Int) b1 = wrI (wrI T (X : Int) b1) (Y : Int) b2 := by
                    rw [(wrI_nat HXY.out.2).1, (wrI_nat HXY.out.1).1, (wrI_nat HXY.out.1).1, (wrI_nat HXY.out.2).1]
                    exact (wr_comm hs5.good HDJ.out).symm
                  rw [hE] at hu13
                  go_wp2_with fail
                  refine (alive_any w13).mono ?_
                  rintro e w14 ⟨rfl, hb14⟩
                  have hs14 := hs13.below hb14
                  have hu14 := hu13.below hb14
                  have hd14 := hd13.below hb14
                  have hv14 := blk_below hv13 hb14
                  have hB14 := hB13.trans (hb14.mono hB13.size)
                  have v0 := cell_of hv14 (j := 0) rfl
                  have v1 := cell_of hv14 (j := 1) rfl
                  have HST := Lib.hid (stands_any hs14 hd14)
                  unfold dv at HST
                  go_wp2_with fail
                  refine HST.out.mono ?_
                  rintro e w15 ⟨rfl, hb15⟩
                  have hu15 := hu14.below hb15
                  have hd15 := hd14.below hb15
                  have hv15 := blk_below hv14 hb15
                  have hB15 := hB14.trans (hb15.mono hB14.size)
                  have v0 := cell_of hv15 (j := 0) rfl
                  have v1 := cell_of hv15 (j := 1) rfl
                  have HSU := Lib.hid (stands_any hu15 hd15)
                  unfold dv at HSU
                  go_wp2_with fail
                  refine HSU.out.mono ?_
                  rintro e w16 ⟨rfl, hb16⟩
                  have HE : Hid (LwPost w (.returned (.bool true)) w16) := Lib.hid ⟨rfl, hB15.trans (hb16.mono hB15.size)⟩
                  clear hb16
                  go_wp2_with fail
                  go_ret
                  exact HE.out
end Go.Proofs.Ytoallenigfbkpaa
