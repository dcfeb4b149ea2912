/-
  ZtreeEnds returns true. Conditions: memory holds the script, which is not long; no path is very long.
-/
import Derived.Test.YtfkhnnmibecbeaaGreatDoorLawA
namespace Go.Proofs.YtfkhnnmibecbeaaGreatDoor
set_option maxRecDepth 100000
open Go.ChangeShapes Go.WideShapes Go.ChangeAt Go.RowKit Go.Proofs.Zn Go.Proofs.Zt

set_option maxHeartbeats 8000000 in
theorem ends_law {w : World} {A : Option Addr} {n c : Nat} {l : List Opv} (h : Scr w A n l) (ht : tot l ≤ 10000000) (hsh : ∀ o ∈ l, ∀ c ∈ o.l, c.path.length ≤ 2097152) (zx se : Int) :
    Calls Tryz.prog 8 #[.slice A n c, .int .i64 zx, .int .i64 se] w fun e w' => e = .returned (.bool true) ∧ Below w.heap.size w w' := by
  have HN := Lib.hid (new_any w)
  have HSC := Lib.hid h
  have HSHO := Lib.hid hsh
  have HFW : Hid (∀ W, Below w.heap.size w W → Calls Tryz.prog 10 #[.slice A n c] W fun e w' => e = .returned (.bool (decide (tot l ≤ 300))) ∧ Below W.heap.size W w') := Lib.hid (fun W hW => few_any (h.below hW) (by omega))
  obtain ⟨f, hf⟩ : ∃ f, decide (tot l ≤ 300) = f := ⟨_, rfl⟩
  rw [hf] at HFW
  have HF := Lib.hid hf
  have HNT : Hid (n ≤ tot l) := Lib.hid (by rw [← h.rd.len]; exact tot_len l)
  clear h hsh hf ht
  go_enter Tryz.func8, Tryz.ntmps8
  go_wp2_with fail
  refine HN.out.mono ?_
  rintro e w1 ⟨tp, mb1, rfl, ht1, hb1, hu1, -⟩
  have HT1 := Lib.hid ht1
  have HB1 := Lib.hid hb1
  have HU1 := Lib.hid hu1
  have HFE := Lib.hid (HFW.out w1 hb1)
  clear ht1 hb1 hu1
  go_wp2_with fail
  refine HFE.out.mono ?_
  rintro e w2 ⟨rfl, hb2⟩
  have HB2 := Lib.hid (HB1.out.trans (hb2.mono HB1.out.size))
  have HT2 := Lib.hid (HT1.out.below hb2)
  clear hb2
  cases f with
  | false =>
    have HAL := Lib.hid (alive_any w2)
    go_wp2_with fail
    refine HAL.out.mono ?_
    rintro e wza ⟨rfl, hbz⟩
    have HBZ := Lib.hid (HB2.out.trans (hbz.mono HB2.out.size))
    clear hbz
    go_wp2_with fail
    go_ret
    exact ⟨rfl, HBZ.out⟩
  | true =>
    have HSH : Hid (Short l ∧ n ≤ 1000000) := Lib.hid (by
      have h300 : tot l ≤ 300 := by simpa using HF.out
      have := HNT.out
      exact ⟨fun o ho => ⟨by have := short_of ho; omega, HSHO.out o ho⟩, by omega⟩)
    have HRN := Lib.hid (rnew_any w2)
    go_wp2_with fail
    refine HRN.out.mono ?_
    rintro e w3 ⟨v3, rfl, hr3, hb3⟩
    obtain ⟨A3, c3, rfl, -, -, -⟩ := own_form hr3
    have hb03 := HB2.out.trans (hb3.mono HB2.out.size)
    have HB3 := Lib.hid hb03
    have HPY := Lib.hid (plays_any (c := c3) (cs := c) (T := Zt.new) (HT2.out.below hb3) new_good (Rd.of_own (cell := ncell) (l := Zt.new) hr3 (fun _ _ => rfl) (by omega)) (HSC.out.below hb03) HSH.out.1 HSH.out.2)
    clear hr3 hb3 hb03
    go_wp2_with fail
    refine HPY.out.mono ?_
    rintro e w4 ⟨v4, rfl, hpl⟩
    obtain ⟨T, hT⟩ : ∃ T, playT Zt.new l = T := ⟨_, rfl⟩
    have HG : Hid (Zt.Good T) := Lib.hid (by rw [← hT]; exact play_good new_good l)
    rw [hT] at hpl
    obtain ⟨⟨A4, c4, rfl, hr4⟩, ⟨mb4, ht4⟩, hs4, hg4⟩ := hpl
    have HB4 : Hid (Below w.heap.size w w4) := Lib.hid (HB3.out.trans (gb_to hg4 HU1.out HB3.out.size))
    have HR4 := Lib.hid hr4
    have HT4 := Lib.hid ht4
    have HTL : Hid (T.length ≤ 200) := Lib.hid HG.out.len
    clear hT hr4 ht4 hs4 hg4
    have HAL0 := Lib.hid (all_any HT4.out HG.out)
    go_wp2_with fail
    refine HAL0.out.mono ?_
    rintro e w5 ⟨v5, rfl, hr5, hb5⟩
    obtain ⟨A5, c5, rfl, -, -, -⟩ := own_form hr5
    have HB5 := Lib.hid (HB4.out.trans (hb5.mono HB4.out.size))
    have HT5 := Lib.hid (HT4.out.below hb5)
    have HR5 := Lib.hid hr5
    have HEN := Lib.hid (end_any HT5.out HG.out zx se)
    obtain ⟨R, hR⟩ : ∃ R, endL T zx se = R := ⟨_, rfl⟩
    have HGR : Hid (Zt.Good R.1) := Lib.hid (by rw [← hR]; exact endL_good HG.out zx se)
    have HRR := Lib.hid hR
    rw [hR] at HEN
    clear hr5 hb5 hR
    go_wp2_with fail
    refine HEN.out.mono ?_
    rintro e w6 ⟨v6, mb6, rfl, ht6, hg6, hr6⟩
    obtain ⟨A6, c6, rfl, -, -, -⟩ := own_form hr6
    have HB6 := Lib.hid (HB5.out.trans (gb_to hg6 HU1.out HB5.out.size))
    have HT6 := Lib.hid ht6
    have HW6 := Lib.hid (Rd.of_own (cell := ncell) (l := T) (own_tree HR5.out HT5.out (by decide) hg6) (fun _ _ => rfl) (by omega))
    clear ht6 hg6 hr6
    by_cases z1 : zx < 0
    · have HZ1 := Lib.hid z1
      have HRO : Hid (R = (T, [])) := Lib.hid (by rw [← HRR.out]; exact endL_out (.inl (by unfold inr; simp; intro h; have := HZ1.out; omega)))
      have hrl : R.2.length = 0 := by rw [HRO.out]; rfl
      have HAL := Lib.hid (alive_any w6)
      go_wp2_with fail
      refine HAL.out.mono ?_
      rintro e w7 ⟨rfl, hb7⟩
      have HB7 := Lib.hid (HB6.out.trans (hb7.mono HB6.out.size))
      have HT7 := Lib.hid (HT6.out.below hb7)
      have HW7 := Lib.hid (HW6.out.below hb7)
      have HA7 := Lib.hid (all_any HT7.out HGR.out)
      have hr1 : R.1 = T := by rw [HRO.out]
      rw [hr1] at HA7
      clear hb7 hr1
      go_wp2_with fail
      refine HA7.out.mono ?_
      rintro e w8 ⟨v8, rfl, hr8, hb8⟩
      obtain ⟨A8, c8, rfl, -, -, -⟩ := own_form hr8
      have HB8 := Lib.hid (HB7.out.trans (hb8.mono HB7.out.size))
      have HSA := Lib.hid (rsame_any (c := c8) (c2 := c5) (Rd.of_own (cell := ncell) (l := T) hr8 (fun _ _ => rfl) (by omega)) (HW7.out.below hb8) (by have := HTL.out; omega))
      clear hr8 hb8
      go_wp2_with fail
      refine HSA.out.mono ?_
      rintro e w9 ⟨rfl, hb9⟩
      have HB9 := Lib.hid (HB8.out.trans (hb9.mono HB8.out.size))
      clear hb9
      go_wp2_with fail
      go_ret
      exact ⟨rfl, HB9.out⟩
    by_cases z2 : 4611686018427387904 < zx
    · have HZ2 := Lib.hid z2
      have HRO : Hid (R = (T, [])) := Lib.hid (by rw [← HRR.out]; exact endL_out (.inl (by unfold inr mx; simp; intro h; have := HZ2.out; omega)))
      have hrl : R.2.length = 0 := by rw [HRO.out]; rfl
      have HAL := Lib.hid (alive_any w6)
      go_wp2_with fail
      refine HAL.out.mono ?_
      rintro e w7 ⟨rfl, hb7⟩
      have HB7 := Lib.hid (HB6.out.trans (hb7.mono HB6.out.size))
      have HT7 := Lib.hid (HT6.out.below hb7)
      have HW7 := Lib.hid (HW6.out.below hb7)
      have HA7 := Lib.hid (all_any HT7.out HGR.out)
      have hr1 : R.1 = T := by rw [HRO.out]
      rw [hr1] at HA7
      clear hb7 hr1
      go_wp2_with fail
      refine HA7.out.mono ?_
      rintro e w8 ⟨v8, rfl, hr8, hb8⟩
      obtain ⟨A8, c8, rfl, -, -, -⟩ := own_form hr8
      have HB8 := Lib.hid (HB7.out.trans (hb8.mono HB7.out.size))
      have HSA := Lib.hid (rsame_any (c := c8) (c2 := c5) (Rd.of_own (cell := ncell) (l := T) hr8 (fun _ _ => rfl) (by omega)) (HW7.out.below hb8) (by have := HTL.out; omega))
      clear hr8 hb8
      go_wp2_with fail
      refine HSA.out.mono ?_
      rintro e w9 ⟨rfl, hb9⟩
      have HB9 := Lib.hid (HB8.out.trans (hb9.mono HB8.out.size))
      clear hb9
      go_wp2_with fail
      go_ret
      exact ⟨rfl, HB9.out⟩
    by_cases s1 : se < 1
    · have HS1 := Lib.hid s1
      have HRO : Hid (R = (T, [])) := Lib.hid (by rw [← HRR.out]; exact endL_out (.inr (by by_cases e : se = 0; exact .inr e; exact .inl (by unfold inr; simp; intro h; have := HS1.out; omega))))
      have hrl : R.2.length = 0 := by rw [HRO.out]; rfl
      have HAL := Lib.hid (alive_any w6)
      go_wp2_with fail
      refine HAL.out.mono ?_
      rintro e w7 ⟨rfl, hb7⟩
      have HB7 := Lib.hid (HB6.out.trans (hb7.mono HB6.out.size))
      have HT7 := Lib.hid (HT6.out.below hb7)
      have HW7 := Lib.hid (HW6.out.below hb7)
      have HA7 := Lib.hid (all_any HT7.out HGR.out)
      have hr1 : R.1 = T := by rw [HRO.out]
      rw [hr1] at HA7
      clear hb7 hr1
      go_wp2_with fail
      refine HA7.out.mono ?_
      rintro e w8 ⟨v8, rfl, hr8, hb8⟩
      obtain ⟨A8, c8, rfl, -, -, -⟩ := own_form hr8
      have HB8 := Lib.hid (HB7.out.trans (hb8.mono HB7.out.size))
      have HSA := Lib.hid (rsame_any (c := c8) (c2 := c5) (Rd.of_own (cell := ncell) (l := T) hr8 (fun _ _ => rfl) (by omega)) (HW7.out.below hb8) (by have := HTL.out; omega))
      clear hr8 hb8
      go_wp2_with fail
      refine HSA.out.mono ?_
      rintro e w9 ⟨rfl, hb9⟩
      have HB9 := Lib.hid (HB8.out.trans (hb9.mono HB8.out.size))
      clear hb9
      go_wp2_with fail
      go_ret
      exact ⟨rfl, HB9.out⟩
    by_cases s2 : 4611686018427387904 < se
    · have HS2 := Lib.hid s2
      have HRO : Hid (R = (T, [])) := Lib.hid (by rw [← HRR.out]; exact endL_out (.inr (.inl (by unfold inr mx; simp; intro h; have := HS2.out; omega))))
      have hrl : R.2.length = 0 := by rw [HRO.out]; rfl
      have HAL := Lib.hid (alive_any w6)
      go_wp2_with fail
      refine HAL.out.mono ?_
      rintro e w7 ⟨rfl, hb7⟩
      have HB7 := Lib.hid (HB6.out.trans (hb7.mono HB6.out.size))
      have HT7 := Lib.hid (HT6.out.below hb7)
      have HW7 := Lib.hid (HW6.out.below hb7)
      have HA7 := Lib.hid (all_any HT7.out HGR.out)
      have hr1 : R.1 = T := by rw [HRO.out]
      rw [hr1] at HA7
      clear hb7 hr1
      go_wp2_with fail
      refine HA7.out.mono ?_
      rintro e w8 ⟨v8, rfl, hr8, hb8⟩
      obtain ⟨A8, c8, rfl, -, -, -⟩ := own_form hr8
      have HB8 := Lib.hid (HB7.out.trans (hb8.mono HB7.out.size))
      have HSA := Lib.hid (rsame_any (c := c8) (c2 := c5) (Rd.of_own (cell := ncell) (l := T) hr8 (fun _ _ => rfl) (by omega)) (HW7.out.below hb8) (by have := HTL.out; omega))
      clear hr8 hb8
      go_wp2_with fail
      refine HSA.out.mono ?_
      rintro e w9 ⟨rfl, hb9⟩
      have HB9 := Lib.hid (HB8.out.trans (hb9.mono HB8.out.size))
      clear hb9
      go_wp2_with fail
      go_ret
      exact ⟨rfl, HB9.out⟩
    have HZ1 : Hid (0 ≤ zx) := Lib.hid (by omega)
    have HZ2 : Hid (zx ≤ mx) := Lib.hid (by unfold mx; omega)
    have HS1 : Hid (1 ≤ se) := Lib.hid (by omega)
    have HS2 : Hid (se ≤ mx) := Lib.hid (by unfold mx; omega)
    have HED : Hid (Ended T se R) := Lib.hid (by rw [← HRR.out]; exact endL_ended HG.out (inr_iff.2 ⟨HZ1.out, HZ2.out⟩) (inr_iff.2 ⟨by have := HS1.out; omega, HS2.out⟩) (by have := HS1.out; omega))
    have hT := HTL.out
    go_wp2_with fail
    go_loopw [10, 66] (fun g i wr => ∃ (k : Nat) (m : Nat), k ≤ T.length ∧ i = .int .i64 k ∧ g = .int .i64 m ∧ m ≤ k ∧ Hid (m = cnt se (T.take k)) ∧ Hid (Below w6.heap.size w6 wr)) (fun _ i _ => T.length - (intOf i).toNat)
    case atStart => exact ⟨0, 0, Nat.zero_le _, rfl, rfl, Nat.le_refl _, Lib.hid rfl, Lib.hid (Below.refl _ _)⟩
    case round =>
      obtain ⟨k, m, hk, rfl, rfl, hmk, HM, HX⟩ := hrel
      have hT := HTL.out
      by_cases hlt : k < T.length
      · obtain ⟨b, off, z, rfl, hz, hc⟩ := (HW6.out.below HX.out).at hlt
        have hzm : z ∈ T := List.mem_of_getElem? hz
        have HCN := Lib.hid (cnt_step hz se)
        have HPL : Hid (z.path.length ≤ 488) := Lib.hid (len_le (HG.out.each z hzm).path)
        have HGO := Lib.hid (HED.out.gone z hzm)
        have HLF := Lib.hid (HED.out.left z hzm)
        have a0 : wr.cell? ⟨b, off + k * 9, none⟩ = some (.string (B z.path)) := hc 0 _ rfl
        have a1 : wr.cell? ⟨b, off + k * 9 + 1, none⟩ = some (.string (B z.data)) := hc 1 _ rfl
        have a2 : wr.cell? ⟨b, off + k * 9 + 2, none⟩ = some (.int .i64 z.cr) := hc 2 _ rfl
        have a3 : wr.cell? ⟨b, off + k * 9 + 3, none⟩ = some (.int .i64 z.ch) := hc 3 _ rfl
        have a4 : wr.cell? ⟨b, off + k * 9 + 4, none⟩ = some (.int .i64 z.kd) := hc 4 _ rfl
        have a5 : wr.cell? ⟨b, off + k * 9 + 5, none⟩ = some (.int .i64 z.ver) := hc 5 _ rfl
        have a6 : wr.cell? ⟨b, off + k * 9 + 6, none⟩ = some (.int .i64 z.ks) := hc 6 _ rfl
        have a7 : wr.cell? ⟨b, off + k * 9 + 7, none⟩ = some (.int .i64 z.own) := hc 7 _ rfl
        have a8 : wr.cell? ⟨b, off + k * 9 + 8, none⟩ = some (.int .i64 z.nx) := hc 8 _ rfl
        obtain ⟨w7, hw7⟩ : ∃ w7, w7 = wr.alloc (.cells #[.string (B z.path), .string (B z.data), .int .i64 z.cr, .int .i64 z.ch, .int .i64 z.kd, .int .i64 z.ver, .int .i64 z.ks, .int .i64 z.own, .int .i64 z.nx] 41) := ⟨_, rfl⟩
        obtain ⟨q, eq⟩ : ∃ q, q = wr.heap.size := ⟨_, rfl⟩
        have hb7 : Below wr.heap.size wr w7 := by rw [hw7]; exact box_below wr _
        have hq7 : w7.heap[q]? = some (.cells #[.string (B z.path), .string (B z.data), .int .i64 z.cr, .int .i64 z.ch, .int .i64 z.kd, .int .i64 z.ver, .int .i64 z.ks, .int .i64 z.own, .int .i64 z.nx] 41 (0, 0)) := by rw [hw7, eq]; exact new_block wr _
        have HX7 := Lib.hid (HX.out.trans (hb7.mono HX.out.size))
        have HGE := Lib.hid (get_any (HT6.out.below HX7.out) z.path (by have := HPL.out; unfold maxLen; omega))
        have HQ7 := Lib.hid hq7
        have q0 := cell_of hq7 (j := 0) rfl
        have HW7 := Lib.hid hw7
        have EQ := Lib.hid eq
        clear hz hc hzm hw7 eq hb7 hq7
        go_upto_region 13 with fail
        rw [← HW7.out, ← EQ.out]
        clear a0 a1 a2 a3 a4 a5 a6 a7 a8
        by_cases ho : z.own = se
        · have tso : (z.own == se) = true := by simpa using ho
          have HCS : Hid (m + 1 = cnt se (T.take (k + 1))) := Lib.hid (by rw [HCN.out, if_pos ho, HM.out])
          rw [HGO.out ho] at HGE
          simp only [Option.getD_none, Option.isSome_none] at HGE
          unfold ndv nd0 at HGE
          go_wp2_with fail
          refine HGE.out.mono ?_
          rintro e w8 ⟨rfl, hb8⟩
          have hq8 := blk_below HQ7.out hb8
          have HX8 := Lib.hid (HX7.out.trans (hb8.mono HX7.out.size))
          obtain ⟨w9, hw9⟩ : ∃ w9, w9 = w8.alloc (.cells #[.string (B []), .string (B []), .int .i64 0, .int .i64 0, .int .i64 0, .int .i64 0, .int .i64 0, .int .i64 0, .int .i64 0] 41) := ⟨_, rfl⟩
          obtain ⟨u, eu⟩ : ∃ q, q = w8.heap.size := ⟨_, rfl⟩
          have hb9 : Below w8.heap.size w8 w9 := by rw [hw9]; exact box_below w8 _
          have hq9 := blk_below hq8 hb9
          have HX9 := Lib.hid (HX8.out.trans (hb9.mono HX8.out.size))
          have HW9 := Lib.hid hw9
          have EU := Lib.hid eu
          clear q0 hb8 hq8 hb9 hw9 eu ho
          have q7 := cell_of hq9 (j := 7) rfl
          clear hq9
          go_upto_region 14 with fail
          rw [← HW9.out, ← EU.out]
          go_wp2_with fail
          go_roundw
          case rel => exact ⟨k + 1, m + 1, hlt, by go_num, by go_num, by omega, HCS, HX9⟩
          case measure => simp [intOf]; omega
        · have tso : (z.own == se) = false := by simpa using ho
          have HCS : Hid (m = cnt se (T.take (k + 1))) := Lib.hid (by rw [HCN.out, if_neg ho, HM.out]; rfl)
          obtain ⟨x, hx, e1, e2, e3, e4, e5, e6, e7⟩ := HLF.out ho
          rw [hx] at HGE
          simp only [Option.getD_some, Option.isSome_some] at HGE
          unfold ndv at HGE
          rw [e1, e2, e3, e4, e5, e6, e7] at HGE
          obtain ⟨xk, exk⟩ : ∃ y, x.kd = y := ⟨_, rfl⟩
          obtain ⟨xs, exs⟩ : ∃ y, x.ks = y := ⟨_, rfl⟩
          rw [exk, exs] at HGE
          clear hx e1 e2 e3 e4 e5 e6 e7 exk exs
          go_wp2_with fail
          refine HGE.out.mono ?_
          rintro e w8 ⟨rfl, hb8⟩
          have hq8 := blk_below HQ7.out hb8
          have HX8 := Lib.hid (HX7.out.trans (hb8.mono HX7.out.size))
          obtain ⟨w9, hw9⟩ : ∃ w9, w9 = w8.alloc (.cells #[.string (B z.path), .string (B z.data), .int .i64 z.cr, .int .i64 z.ch, .int .i64 xk, .int .i64 z.ver, .int .i64 xs, .int .i64 z.own, .int .i64 z.nx] 41) := ⟨_, rfl⟩
          obtain ⟨u, eu⟩ : ∃ q, q = w8.heap.size := ⟨_, rfl⟩
          have hb9 : Below w8.heap.size w8 w9 := by rw [hw9]; exact box_below w8 _
          have hq9 := blk_below hq8 hb9
          have hu9 : w9.heap[u]? = some (.cells #[.string (B z.path), .string (B z.data), .int .i64 z.cr, .int .i64 z.ch, .int .i64 xk, .int .i64 z.ver, .int .i64 xs, .int .i64 z.own, .int .i64 z.nx] 41 (0, 0)) := by rw [hw9, eu]; exact new_block w8 _
          have hqu : q ≠ u := by have := blk_lt hq8; omega
          have HX9 := Lib.hid (HX8.out.trans (hb9.mono HX8.out.size))
          have HUW : Hid (w6.heap.size ≤ u) := Lib.hid (by rw [eu]; exact HX8.out.size)
          have HQ9 := Lib.hid hq9
          have HU9 := Lib.hid hu9
          have HNE := Lib.hid hqu
          have HW9 := Lib.hid hw9
          have EU := Lib.hid eu
          clear q0 hb8 hq8 hb9 hw9 eu ho
          have q0 := cell_of hq9 (j := 0) rfl
          have q1 := cell_of hq9 (j := 1) rfl
          have q2 := cell_of hq9 (j := 2) rfl
          have q3 := cell_of hq9 (j := 3) rfl
          have q4 := cell_of hq9 (j := 4) rfl
          have q5 := cell_of hq9 (j := 5) rfl
          have q6 := cell_of hq9 (j := 6) rfl
          have q7 := cell_of hq9 (j := 7) rfl
          have q8 := cell_of hq9 (j := 8) rfl
          have u0 := cell_of hu9 (j := 0) rfl
          have u1 := cell_of hu9 (j := 1) rfl
          have u2 := cell_of hu9 (j := 2) rfl
          have u3 := cell_of hu9 (j := 3) rfl
          have u4 := cell_of hu9 (j := 4) rfl
          have u5 := cell_of hu9 (j := 5) rfl
          have u6 := cell_of hu9 (j := 6) rfl
          have u7 := cell_of hu9 (j := 7) rfl
          have u8 := cell_of hu9 (j := 8) rfl
          have uf0 := frozen_of_row w9 _ 0 _ _ hu9
          have uf1 := frozen_of_row w9 _ 1 _ _ hu9
          have uf2 := frozen_of_row w9 _ 2 _ _ hu9
          have uf3 := frozen_of_row w9 _ 3 _ _ hu9
          have uf4 := frozen_of_row w9 _ 4 _ _ hu9
          have uf5 := frozen_of_row w9 _ 5 _ _ hu9
          have uf6 := frozen_of_row w9 _ 6 _ _ hu9
          have uf7 := frozen_of_row w9 _ 7 _ _ hu9
          have uf8 := frozen_of_row w9 _ 8 _ _ hu9
          clear hq9 hu9
          have hqu' := hqu.symm
          go_upto_region 14 with fail
          rw [← HW9.out, ← EU.out]
          go_upto_region 18 with fail
          go_region
          obtain ⟨wS, hwS⟩ : ∃ w', w' = ((w9.setCell ⟨u, 6, none⟩ (.int .i64 z.ks)).setCell ⟨u, 4, none⟩ (.int .i64 z.kd)).drew := ⟨_, rfl⟩
          have huS : wS.heap[u]? = some (.cells #[.string (B z.path), .string (B z.data), .int .i64 z.cr, .int .i64 z.ch, .int .i64 z.kd, .int .i64 z.ver, .int .i64 z.ks, .int .i64 z.own, .int .i64 z.nx] 41 (0, 0)) := by
            rw [hwS]
            exact heap_setCell_same _ u 4 _ 41 (.int .i64 z.kd) (heap_setCell_same w9 u 6 _ 41 (.int .i64 z.ks) HU9.out)
          have hqS : wS.heap[q]? = some (.cells #[.string (B z.path), .string (B z.data), .int .i64 z.cr, .int .i64 z.ch, .int .i64 z.kd, .int .i64 z.ver, .int .i64 z.ks, .int .i64 z.own, .int .i64 z.nx] 41 (0, 0)) := by
            rw [hwS]
            exact ((((Wr.refl u w9).set 6 (.int .i64 z.ks)).set 4 (.int .i64 z.kd)).rest q HNE.out).trans HQ9.out
          have HXS : Hid (Below w6.heap.size w6 wS) := Lib.hid (by rw [hwS]; exact (((HX9.out.setCell HUW.out _).setCell HUW.out _)).drew)
          have HWS := Lib.hid hwS
          clear hwS q0 q1 q2 q3 q4 q5 q6 q7 q8 u0 u1 u2 u3 u4 u5 u6 u7 u8 uf0 uf1 uf2 uf3 uf4 uf5 uf6 uf7 uf8 hqu hqu'
          rw [← HWS.out]
          have q0 := cell_of hqS (j := 0) rfl
          have q1 := cell_of hqS (j := 1) rfl
          have q2 := cell_of hqS (j := 2) rfl
          have q3 := cell_of hqS (j := 3) rfl
          have q4 := cell_of hqS (j := 4) rfl
          have q5 := cell_of hqS (j := 5) rfl
          have q6 := cell_of hqS (j := 6) rfl
          have q7 := cell_of hqS (j := 7) rfl
          have q8 := cell_of hqS (j := 8) rfl
          have u0 := cell_of huS (j := 0) rfl
          have u1 := cell_of huS (j := 1) rfl
          have u2 := cell_of huS (j := 2) rfl
          have u3 := cell_of huS (j := 3) rfl
          have u4 := cell_of huS (j := 4) rfl
          have u5 := cell_of huS (j := 5) rfl
          have u6 := cell_of huS (j := 6) rfl
          have u7 := cell_of huS (j := 7) rfl
          have u8 := cell_of huS (j := 8) rfl
          clear hqS huS
          go_wp2_with fail
          go_roundw
          case rel => exact ⟨k + 1, m, hlt, by go_num, rfl, by omega, HCS, HXS⟩
          case measure => simp [intOf]; omega
      · have hkn : k = T.length := by omega
        have HAL := Lib.hid (alive_any wr)
        have HEV : Hid (R.2.length = 2 * m) := Lib.hid (by rw [HED.out.evs, cnt_owned (by have := HS1.out; omega), HM.out, hkn, List.take_length])
        have hm : (m : Int) ≤ 200 := by omega
        have HTX := Lib.hid (HT6.out.below HX.out)
        go_wp2_with fail
        refine HAL.out.mono ?_
        rintro e w10 ⟨rfl, hb10⟩
        have HX10 := Lib.hid (HX.out.trans (hb10.mono HX.out.size))
        have HOW := Lib.hid (owned_any (HT6.out.below HX10.out) HGR.out se)
        rw [HED.out.none'] at HOW
        clear hb10
        go_wp2_with fail
        refine HOW.out.mono ?_
        rintro e w11 ⟨v11, rfl, hr11, hb11⟩
        obtain ⟨A11, c11, rfl, -, -, -⟩ := own_form hr11
        have HX11 := Lib.hid (HX10.out.trans (hb11.mono HX10.out.size))
        have hev := HEV.out
        obtain ⟨ne, hne⟩ : ∃ x, R.2.length = x := ⟨_, rfl⟩
        rw [hne] at hev
        have hw : IntKind.i64.wrap (2 * (m : Int)) = 2 * (m : Int) := by rw [IntKind.wrap_i64]; omega
        have hee : (ne : Int) = 2 * (m : Int) := by omega
        clear hr11 hb11
        have HBF := Lib.hid (HB6.out.trans (HX11.out.mono HB6.out.size))
        go_wp2_with fail
        go_ret
        exact ⟨rfl, HBF.out⟩
end Go.Proofs.YtfkhnnmibecbeaaGreatDoor
