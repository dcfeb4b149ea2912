/-
  ElectApart returns true. No condition.
-/
import Derived.Test.YtbgobchmkohhnaaEAlive
namespace Go.Proofs.Ytbgobchmkohhnaa
set_option maxRecDepth 100000
open Go.ChangeShapes Go.WideShapes Go.ChangeAt Go.RowKit Go.Proofs.Rk Go.Proofs.El

theorem lone {p g k L : Int} (h : k + 1 < L) : tickT ⟨p, g, k, L⟩ false = ⟨p, g, k + 1, L⟩ ∧ leadT ⟨p, g, k, L⟩ false = false ∧ nudgeT ⟨p, g, k, L⟩ false = false := by
  unfold tickT leadT nudgeT
  refine ⟨?_, ?_, rfl⟩
  · rw [if_neg (by simp), if_pos h]
  · simp; omega
theorem lone2 {p g k L : Int} (h : k + 1 = L) : tickT ⟨p, g, k, L⟩ false = ⟨p, g, 0, more ⟨p, g, k, L⟩⟩ ∧ leadT ⟨p, g, k, L⟩ false = true ∧ nudgeT ⟨p, g, k, L⟩ false = false := by
  unfold tickT leadT nudgeT
  refine ⟨?_, ?_, rfl⟩
  · rw [if_neg (by simp), if_neg (by simp only; omega)]
  · simp; omega
set_option maxHeartbeats 8000000 in
theorem apart_law {w : World} (s m p o : Int) : Calls Try.prog 7 #[.agg #[.int .i64 s, .int .i64 m, .int .i64 p], .int .i64 o] w fun e w' => e = .returned (.bool true) ∧ Below w.heap.size w w' := by
  have HA := Lib.hid (fun W => alive_any W)
  obtain ⟨w1, hw1⟩ : ∃ w1, w1 = w.alloc (.cells #[.int .i64 s, .int .i64 m, .int .i64 p] 23) := ⟨_, rfl⟩
  obtain ⟨q, eq⟩ : ∃ q, q = w.heap.size := ⟨_, rfl⟩
  have hb1 : Below w.heap.size w w1 := by rw [hw1]; exact box_below w _
  have hq1 : w1.heap[q]? = some (.cells #[.int .i64 s, .int .i64 m, .int .i64 p] 23 (0, 0)) := by rw [hw1, eq]; exact new_block w _
  have HB1 := Lib.hid hb1
  have HQ1 := Lib.hid hq1
  have HW1 := Lib.hid hw1
  have EQ := Lib.hid eq
  clear hw1 eq hb1
  have c0 := cell_of hq1 (j := 0) rfl
  have c1 := cell_of hq1 (j := 1) rfl
  have c2 := cell_of hq1 (j := 2) rfl
  clear hq1
  obtain ⟨ok, hok⟩ : ∃ b, okN s m p = b := ⟨_, rfl⟩
  obtain ⟨ok2, hok2⟩ : ∃ b, okN o m p = b := ⟨_, rfl⟩
  cases ok with
  | false =>
    cases ok2 with
    | false =>
      have HN := Lib.hid (fun W => new_no hok W)
      have HM := Lib.hid (fun W => new_no hok2 W)
      clear hok hok2
      go_enter Try.func7, Try.ntmps7
      go_upto_region 1 with fail
      rw [← HW1.out, ← EQ.out]
      go_wp2_with fail
      refine (HN.out _).mono ?_
      rintro e w2 ⟨rfl, rfl⟩
      go_wp2_with fail
      refine (HM.out _).mono ?_
      rintro e w2 ⟨rfl, rfl⟩
      go_wp2_with fail
      refine (HA.out _).mono ?_
      rintro e wa0 ⟨rfl, hba0⟩
      have HBA0 := Lib.hid (HB1.out.trans (hba0.mono HB1.out.size))
      clear hba0
      go_wp2_with fail
      go_ret
      exact ⟨rfl, HBA0.out⟩

    | true =>
      have HN := Lib.hid (fun W => new_no hok W)
      have HM := Lib.hid (new_yes hok2 w1)
      clear hok hok2
      go_enter Try.func7, Try.ntmps7
      go_upto_region 1 with fail
      rw [← HW1.out, ← EQ.out]
      go_wp2_with fail
      refine (HN.out _).mono ?_
      rintro e w2 ⟨rfl, rfl⟩
      go_wp2_with fail
      refine HM.out.mono ?_
      rintro e w3 ⟨up, rfl, -, -, hb⟩
      have HB3 := Lib.hid (HB1.out.trans (hb.mono HB1.out.size))
      clear hb
      go_wp2_with fail
      refine (HA.out _).mono ?_
      rintro e wa0 ⟨rfl, hba0⟩
      have HBA0 := Lib.hid (HB3.out.trans (hba0.mono HB3.out.size))
      clear hba0
      go_wp2_with fail
      go_ret
      exact ⟨rfl, HBA0.out⟩

  | true =>
    cases ok2 with
    | false =>
      have HM := Lib.hid (fun W => new_no hok2 W)
      clear hok2
      have HN := Lib.hid (new_yes hok w1)
      have HGD := Lib.hid (new_good hok)
      have HOK := Lib.hid hok
      clear hok
      go_enter Try.func7, Try.ntmps7
      go_upto_region 1 with fail
      rw [← HW1.out, ← EQ.out]
      go_wp2_with fail
      refine HN.out.mono ?_
      rintro e w2 ⟨tp, rfl, ht, hge, hb⟩
      have HT2 := Lib.hid ht
      have HB2 := Lib.hid (HB1.out.trans (hb.mono HB1.out.size))
      have HGE : Hid (w1.heap.size ≤ tp) := Lib.hid hge
      have HGW : Hid (w.heap.size ≤ tp) := Lib.hid (Nat.le_trans HB1.out.size hge)
      have HQ2 := Lib.hid (blk_below HQ1.out hb)
      have HQT : Hid (q ≠ tp) := Lib.hid (by have := blk_lt HQ1.out; omega)
      clear ht hge hb c0 c1 c2
      have c0 := cell_of HQ2.out (j := 0) rfl
      have c1 := cell_of HQ2.out (j := 1) rfl
      have c2 := cell_of HQ2.out (j := 2) rfl
      go_wp2_with fail
      refine (HM.out _).mono ?_
      rintro e w3 ⟨rfl, rfl⟩
      go_wp2_with fail
      refine (HA.out _).mono ?_
      rintro e wa0 ⟨rfl, hba0⟩
      have HBA0 := Lib.hid (HB2.out.trans (hba0.mono HB2.out.size))
      clear hba0
      go_wp2_with fail
      go_ret
      exact ⟨rfl, HBA0.out⟩

    | true =>
      by_cases he : o = s
      · subst he
        have HM := Lib.hid (fun W => new_yes hok2 W)
        clear hok2
        have HN := Lib.hid (new_yes hok w1)
        have HGD := Lib.hid (new_good hok)
        have HOK := Lib.hid hok
        clear hok
        go_enter Try.func7, Try.ntmps7
        go_upto_region 1 with fail
        rw [← HW1.out, ← EQ.out]
        go_wp2_with fail
        refine HN.out.mono ?_
        rintro e w2 ⟨tp, rfl, ht, hge, hb⟩
        have HT2 := Lib.hid ht
        have HB2 := Lib.hid (HB1.out.trans (hb.mono HB1.out.size))
        have HGE : Hid (w1.heap.size ≤ tp) := Lib.hid hge
        have HGW : Hid (w.heap.size ≤ tp) := Lib.hid (Nat.le_trans HB1.out.size hge)
        have HQ2 := Lib.hid (blk_below HQ1.out hb)
        have HQT : Hid (q ≠ tp) := Lib.hid (by have := blk_lt HQ1.out; omega)
        clear ht hge hb c0 c1 c2
        have c0 := cell_of HQ2.out (j := 0) rfl
        have c1 := cell_of HQ2.out (j := 1) rfl
        have c2 := cell_of HQ2.out (j := 2) rfl
        go_wp2_with fail
        refine (HM.out _).mono ?_
        rintro e w3 ⟨up, rfl, -, -, hb⟩
        have HB3 := Lib.hid (HB2.out.trans (hb.mono HB2.out.size))
        have hq3 := blk_below HQ2.out hb
        clear hb c0 c1 c2
        have c0 := cell_of hq3 (j := 0) rfl
        have c1 := cell_of hq3 (j := 1) rfl
        have c2 := cell_of hq3 (j := 2) rfl
        clear hq3
        go_wp2_with fail
        refine (HA.out _).mono ?_
        rintro e wa0 ⟨rfl, hba0⟩
        have HBA0 := Lib.hid (HB3.out.trans (hba0.mono HB3.out.size))
        clear hba0
        go_wp2_with fail
        go_ret
        exact ⟨rfl, HBA0.out⟩

      · have HM := Lib.hid (fun W => new_yes hok2 W)
        have HG2 := Lib.hid (new_good hok2)
        have HLa := Lib.hid (new_limit hok)
        have HLb := Lib.hid (new_limit hok2)
        have hp := (okN_cases hok).2
        have HLN : Hid ((newT s m p).lm ≠ (newT o m p).lm) := Lib.hid (El.apart hp.1 (fun e => he e.symm))
        have hos : (o == s) = false := by simp [he]
        clear hok2 hp he
        have HN := Lib.hid (new_yes hok w1)
        have HGD := Lib.hid (new_good hok)
        have HOK := Lib.hid hok
        clear hok
        go_enter Try.func7, Try.ntmps7
        go_upto_region 1 with fail
        rw [← HW1.out, ← EQ.out]
        go_wp2_with fail
        refine HN.out.mono ?_
        rintro e w2 ⟨tp, rfl, ht, hge, hb⟩
        have HT2 := Lib.hid ht
        have HB2 := Lib.hid (HB1.out.trans (hb.mono HB1.out.size))
        have HGE : Hid (w1.heap.size ≤ tp) := Lib.hid hge
        have HGW : Hid (w.heap.size ≤ tp) := Lib.hid (Nat.le_trans HB1.out.size hge)
        have HQ2 := Lib.hid (blk_below HQ1.out hb)
        have HQT : Hid (q ≠ tp) := Lib.hid (by have := blk_lt HQ1.out; omega)
        clear ht hge hb c0 c1 c2
        have c0 := cell_of HQ2.out (j := 0) rfl
        have c1 := cell_of HQ2.out (j := 1) rfl
        have c2 := cell_of HQ2.out (j := 2) rfl
        go_wp2_with fail
        refine (HM.out _).mono ?_
        rintro e w3 ⟨up, rfl, hu3, hge, hb⟩
        have HB3 := Lib.hid (HB2.out.trans (hb.mono HB2.out.size))
        have HT3 := Lib.hid (HT2.out.below hb)
        have HU3 := Lib.hid hu3
        have hq3 := blk_below HQ2.out hb
        have HUP : Hid (w.heap.size ≤ up) := Lib.hid (Nat.le_trans HB2.out.size hge)
        have HTU : Hid (tp ≠ up) := Lib.hid (by have : tp < w2.heap.size := blk_lt HT2.out; omega)
        obtain ⟨X, hX⟩ : ∃ X, (newT s m p).lm = X := ⟨_, rfl⟩
        obtain ⟨Y, hY⟩ : ∃ Y, (newT o m p).lm = Y := ⟨_, rfl⟩
        obtain ⟨G, hG⟩ : ∃ G, p * (m + 2) = G := ⟨_, rfl⟩
        have e1 : newT s m p = ⟨p, G, 0, X⟩ := by rw [← hX, ← hG]; rfl
        have e2 : newT o m p = ⟨p, G, 0, Y⟩ := by rw [← hY, ← hG]; rfl
        rw [e1] at HT3 HGD HLa HLN
        rw [e2] at HU3 HG2 HLb HLN
        clear hb hu3 hge c0 c1 c2 hX hY hG e1 e2
        have c0 := cell_of hq3 (j := 0) rfl
        have c1 := cell_of hq3 (j := 1) rfl
        have c2 := cell_of hq3 (j := 2) rfl
        clear hq3
        go_upto_region 5 with fail
        clear hos
        go_wp2_with fail
        have HLX : Hid (X ≤ 8000) := HLa
        have HLY : Hid (Y ≤ 8000) := HLb
        have HXY : Hid (X ≠ Y) := HLN
        go_loopw [53] (fun i wr => ∃ (k : Nat), (k : Int) < X ∧ (k : Int) < Y ∧ i = .int .i64 k ∧ Hid (TimW wr tp ⟨p, G, (k : Int), X⟩) ∧ Hid (TimW wr up ⟨p, G, (k : Int), Y⟩) ∧ Hid (Below w.heap.size w wr)) (fun i _ => 10000 - (intOf i).toNat)
        case atStart => exact ⟨0, HGD.out.wt2, HG2.out.wt2, rfl, HT3, HU3, HB3⟩
        case round =>
          obtain ⟨k, hkX, hkY, rfl, HR, HU, HX⟩ := hrel
          have hki : (k : Int) < 10000 := by have := HLX.out; omega
          have hwk : IntKind.i64.wrap ((k : Int) + 1) = (k : Int) + 1 := by rw [IntKind.wrap_i64]; omega
          have hga : El.Good ⟨p, G, (k : Int), X⟩ := ⟨HGD.out.sp1, HGD.out.sp2, HGD.out.gr1, HGD.out.gr2, by simp, hkX, HGD.out.lm1, HGD.out.lm2⟩
          have hgb : El.Good ⟨p, G, (k : Int), Y⟩ := ⟨HG2.out.sp1, HG2.out.sp2, HG2.out.gr1, HG2.out.gr2, by simp, hkY, HG2.out.lm1, HG2.out.lm2⟩
          by_cases hx : (k : Int) + 1 < X
          · obtain ⟨a1, a2, a3⟩ := lone (p := p) (g := G) hx
            have HTK := Lib.hid (tick_is HR.out hga false a2 a3 a1)
            by_cases hy : (k : Int) + 1 < Y
            · obtain ⟨b1, b2, b3⟩ := lone (p := p) (g := G) hy
              have HUK := Lib.hid (fun W (h : TimW W up ⟨p, G, (k : Int), Y⟩) => tick_is h hgb false b2 b3 b1)
              have HKX := Lib.hid hx
              have HKY := Lib.hid hy
              clear a1 a2 a3 b1 b2 b3 hga hgb hx hy hkX hkY
              go_wp2_with fail
              refine HTK.out.mono ?_
              rintro e w4 ⟨rfl, h3, h4⟩
              have HB4 := Lib.hid (h4.on HX.out HGW.out)
              have HT4 := Lib.hid h3
              have HU4 := Lib.hid (HUK.out _ (HU.out.other h4 (fun e => HTU.out e.symm)))
              clear h3 h4
              go_wp2_with fail
              refine HU4.out.mono ?_
              rintro e w5 ⟨rfl, h3, h4⟩
              have HB5 := Lib.hid (h4.on HB4.out HUP.out)
              have HT5 := Lib.hid (HT4.out.other h4 HTU.out)
              have HU5 := Lib.hid h3
              clear h3 h4
              go_wp2_with fail
              go_roundw
              case rel => exact ⟨k + 1, HKX.out, HKY.out, by go_num, HT5, HU5, HB5⟩
              case measure => simp [intOf]; omega
            · obtain ⟨b1, b2, b3⟩ := lone2 (p := p) (g := G) (show (k : Int) + 1 = Y by omega)
              have HUK := Lib.hid (fun W (h : TimW W up ⟨p, G, (k : Int), Y⟩) => tick_is h hgb false b2 b3 b1)
              clear a1 a2 a3 b1 b2 b3 hga hgb hx hy hkX hkY
              go_wp2_with fail
              refine HTK.out.mono ?_
              rintro e w4 ⟨rfl, h3, h4⟩
              have HB4 := Lib.hid (h4.on HX.out HGW.out)
              have HU4 := Lib.hid (HUK.out _ (HU.out.other h4 (fun e => HTU.out e.symm)))
              clear h3 h4
              go_wp2_with fail
              refine HU4.out.mono ?_
              rintro e w5 ⟨rfl, h3, h4⟩
              have HB5 := Lib.hid (h4.on HB4.out HUP.out)
              clear h3 h4
              go_wp2_with fail
              refine (HA.out _).mono ?_
              rintro e wa5 ⟨rfl, hba5⟩
              have HBA5 := Lib.hid (HB5.out.trans (hba5.mono HB5.out.size))
              clear hba5
              go_wp2_with fail
              go_ret
              exact ⟨rfl, HBA5.out⟩

          · obtain ⟨a1, a2, a3⟩ := lone2 (p := p) (g := G) (show (k : Int) + 1 = X by omega)
            have HTK := Lib.hid (tick_is HR.out hga false a2 a3 a1)
            obtain ⟨b1, b2, b3⟩ := lone (p := p) (g := G) (show (k : Int) + 1 < Y by have := HXY.out; omega)
            have HUK := Lib.hid (fun W (h : TimW W up ⟨p, G, (k : Int), Y⟩) => tick_is h hgb false b2 b3 b1)
            clear a1 a2 a3 b1 b2 b3 hga hgb hx hkX hkY
            go_wp2_with fail
            refine HTK.out.mono ?_
            rintro e w4 ⟨rfl, h3, h4⟩
            have HB4 := Lib.hid (h4.on HX.out HGW.out)
            have HU4 := Lib.hid (HUK.out _ (HU.out.other h4 (fun e => HTU.out e.symm)))
            clear h3 h4
            go_wp2_with fail
            refine HU4.out.mono ?_
            rintro e w5 ⟨rfl, h3, h4⟩
            have HB5 := Lib.hid (h4.on HB4.out HUP.out)
            clear h3 h4
            go_wp2_with fail
            refine (HA.out _).mono ?_
            rintro e wa6 ⟨rfl, hba6⟩
            have HBA6 := Lib.hid (HB5.out.trans (hba6.mono HB5.out.size))
            clear hba6
            go_wp2_with fail
            go_ret
            exact ⟨rfl, HBA6.out⟩
end Go.Proofs.Ytbgobchmkohhnaa
