/-
  The law Back: what was written is read, and all other bytes stay. No condition.
-/
import Derived.Test.YtoallenigfbkpaaTLawX
namespace Go.Proofs.Ytoallenigfbkpaa
set_option maxRecDepth 100000
open Go.ChangeShapes Go.WideShapes Go.ChangeAt Go.RowKit Go.Proofs.Sg

set_option maxHeartbeats 16000000 in
theorem back_law {w : World} {ad : Option Addr} {len cap : Nat} {os : List Opr} (hO : OReads w w.heap.size ad len os) (p : Int) (hp : p ≤ 9223372036854775807) {A1 : Option Addr} {n1 c1 : Nat} {b1 : List UInt8} (hR1 : Rd bcell 1 w A1 n1 b1) (hC1 : n1 ≤ c1) : Calls Try.prog 5 #[.slice ad len cap, .int .i64 p, .slice A1 n1 c1] w (LwPost w) := by
  have HR1 := Lib.hid hR1
  have HC1 := Lib.hid hC1
  have HL1 := Lib.hid hR1.len
  have HPP := Lib.hid hp
  clear hR1 hC1 hp
  have HNEW := Lib.hid (new_any w)
  have HO := Lib.hid hO
  clear hO
  go_enter Try.func5, Try.ntmps5
  go_wp2_with fail
  refine HNEW.out.mono ?_
  rintro e w1 ⟨sp, mb, rfl, hs, hb⟩
  have HS1 := Lib.hid hs
  have HB1 := Lib.hid hb
  have HFEW := Lib.hid (few_any (cap := cap) (HO.out.kept hb) hb.size)
  have hnil : ∀ W, (binOp .eql 23 (.pointer (some ⟨sp, 0, none⟩)) (.pointer none)).run Try.prog W = .ok (.bool false) W := fun W => by kernel_rfl
  have hnil2 : ∀ W, (binOp .neq 23 (.pointer (some ⟨sp, 0, none⟩)) (.pointer none)).run Try.prog W = .ok (.bool true) W := fun W => by kernel_rfl
  clear hs hb
  go_wp2_with fail
  refine HFEW.out.mono ?_
  rintro e w2 ⟨r, rfl, hr, hb2⟩
  have HB2 := Lib.hid (HB1.out.trans (hb2.mono HB1.out.size))
  have HS2 := Lib.hid (HS1.out.below hb2)
  have HAL : Hid (∀ W, Below w.heap.size w W → Calls Try.prog 11 #[] W fun e w' => e = .returned (.bool true) ∧ Below w.heap.size w w') := Lib.hid (fun W hW => (alive_any W).mono (fun e w' h => ⟨h.1, hW.trans (h.2.mono hW.size)⟩))
  have HR := Lib.hid hr
  clear hr hb2
  cases r with
  | false =>
    go_wp2_with fail
    refine (HAL.out _ HB2.out).mono ?_
    rintro e w' ⟨rfl, hb9⟩
    have HE : Hid (LwPost w (.returned (.bool true)) w') := Lib.hid ⟨rfl, hb9⟩
    clear hb9
    go_wp2_with fail
    go_ret
    exact HE.out
  | true =>
    by_cases g1 : (3000 : Int) < (n1 : Int)
    · have k1 : decide ((3000 : Int) < (n1 : Int)) = true := by simp only [decide_eq_true_eq]; exact g1
      go_wp2_with fail
      refine (HAL.out _ HB2.out).mono ?_
      rintro e w' ⟨rfl, hb9⟩
      have HE : Hid (LwPost w (.returned (.bool true)) w') := Lib.hid ⟨rfl, hb9⟩
      clear hb9
      go_wp2_with fail
      go_ret
      exact HE.out
    · have k1 : decide ((3000 : Int) < (n1 : Int)) = false := by simp only [decide_eq_false_iff_not]; exact g1
      by_cases g2 : (20000 : Int) < p
      · have k2 : decide ((20000 : Int) < p) = true := by simp only [decide_eq_true_eq]; exact g2
        go_wp2_with fail
        refine (HAL.out _ HB2.out).mono ?_
        rintro e w' ⟨rfl, hb9⟩
        have HE : Hid (LwPost w (.returned (.bool true)) w') := Lib.hid ⟨rfl, hb9⟩
        clear hb9
        go_wp2_with fail
        go_ret
        exact HE.out
      · have k2 : decide ((20000 : Int) < p) = false := by simp only [decide_eq_false_iff_not]; exact g2
        have HPL := Lib.hid (plays_any HS2.out (df0 w2) (HO.out.kept HB2.out) (Nat.le_refl _) (HR.out rfl).1 (cap := cap) (HR.out rfl).2)
        unfold dv at HPL
        have HG1 := Lib.hid g1
        have HG2 := Lib.hid g2
        clear g1 g2
        go_wp2_with fail
        refine HPL.out.mono ?_
        rintro e w3 ⟨A, c, A2, c2, rfl, hs3, -, hk3⟩
        obtain ⟨T, hT⟩ : ∃ T, runS S0 os = T := ⟨_, rfl⟩
        rw [hT] at hs3
        have HS3 := Lib.hid hs3
        have HB3 := Lib.hid (HB2.out.trans (hk3.below HB2.out.size hs3.gsp hs3.gmb))
        have HGT := Lib.hid hs3.good
        have HW := Lib.hid (read_any hs3 0 1048576 (by omega))
        rw [bk_all hs3.good.lim] at HW
        clear hT hs3 hk3
        go_wp2_with fail
        refine HW.out.mono ?_
        rintro e w4 ⟨v8, rfl, ho8, hb4⟩
        obtain ⟨W8, c8, rfl, -⟩ := own_form ho8
        obtain ⟨L1, hL1⟩ : ∃ l, bs T.f T.n = l := ⟨_, rfl⟩
        have HLN : Hid (L1.length = T.n) := Lib.hid (by rw [← hL1, bs_len])
        rw [bs_len, hL1, ← HLN.out] at ho8
        rw [bs_len, ← HLN.out]
        have HS4 := Lib.hid (HS3.out.below hb4)
        have HB4 := Lib.hid (HB3.out.trans (hb4.mono HB3.out.size))
        have HO8 := Lib.hid ho8
        have HE1 := Lib.hid hL1
        clear ho8 hb4 hL1
        obtain ⟨i0, hi, hz0, hz1, hz2⟩ := info_parts infoB
        have HRD : Hid (Rd bcell 1 (w4.alloc (.cells #[] 5)) A1 n1 b1) := Lib.hid (rd_at HR1.out (rd_und HR1.out) (HB4.out.trans ((box_below w4 _).mono HB4.out.size)))
        go_upto_region 7 with (at_builtin; refine wpList_append_rx rfl _ _ 27 rfl w4.heap.size 5 i0 _ 1 1 Try.underlying27 hi hz0 hz1 hz2 rfl (by decide) _ 0 [] rfl (u8_empty w4) A1 n1 c1 b1 rfl HRD.out (fun _ _ => rfl) bcell_one (by have := HG1.out; unfold maxLen; omega) (by have := HG1.out; omega) (by simp) ?_; intro v5 w5 hown5 hg5)
        rw [Nat.zero_add, List.nil_append] at hown5
        have hb5 : Below w4.heap.size w4 w5 := (box_below w4 (.cells #[] 5)).trans (gb_own (u8_empty w4) hg5 (Nat.le_refl _) (by simp))
        obtain ⟨G, gc, rfl, hngc, -, -⟩ := own_form hown5
        have HS5 := Lib.hid (HS4.out.below hb5)
        have HB5 := Lib.hid (HB4.out.trans (hb5.mono HB4.out.size))
        have HO5 : Hid (w5.ownsRow w4.heap.size 5 1 (.slice G n1 gc) n1 (bcells b1)) := Lib.hid hown5
        have HO8b := Lib.hid (own_below HO8.out hb5)
        have HLT : Hid (sp < w4.heap.size ∧ mb < w4.heap.size ∧ w.heap.size ≤ w4.heap.size ∧ ∀ k, (Value.slice W8 L1.length c8).ownBlock = some k → k < w4.heap.size) := Lib.hid ⟨HS4.out.lts, HS4.out.map.lt, HB4.out.size, fun k e => (HO8.out.lt k e).2⟩
        have HWR := Lib.hid (write_any HS5.out p HPP.out (Rd.of_own hown5 (fun _ _ => rfl) (by omega)) hngc (by have := HG1.out; omega))
        rw [HL1.out] at HWR
        clear hown5 hg5 hb5 hngc
        obtain ⟨ok, hok⟩ : ∃ k, ft p n1 = k := ⟨_, rfl⟩
        rw [hok] at HWR
        have HOK := Lib.hid hok
        clear hok
        cases ok with
        | false =>
          have hpn : p < 0 := by
            have h1 := HOK.out
            have h2 := HG1.out
            have h3 := HG2.out
            rcases Int.lt_or_le p 0 with h | h
            · exact h
            · rw [ft_iff.2 (by omega)] at h1; cases h1
          have k3 : decide (p < 0) = true := by simp only [decide_eq_true_eq]; exact hpn
          have HSS : Hid (wrI T p b1 = T) := Lib.hid (by unfold wrI; rw [HL1.out, HOK.out]; rfl)
          rw [HSS.out] at HWR
          obtain ⟨str, hstr⟩ : ∃ s, sB L1 = s := ⟨_, rfl⟩
          have hne := str_ne str
          have heq := str_eq str
          clear hpn
          go_wp2_with fail
          refine HWR.out.mono ?_
          rintro e w6 ⟨rfl, hs6, hk6⟩
          have HIN : Hid (BkIn w w.heap.size w3.heap.size sp mb T W8 c8 L1 w6) := Lib.hid ⟨hs6, hk6.own HS5.out HO8b.out (by decide), HB5.out.trans (hk6.below HB5.out.size hs6.gsp hs6.gmb)⟩
          have HCV : Hid (∀ W, Below w6.heap.size w6 W → (convert 27 9 (.slice W8 L1.length c8)).run Try.prog W = .ok (.string str) W) := Lib.hid (fun W hW => by rw [← hstr]; exact conv_rd (c := c8) ((Rd.of_own HIN.out.was (fun _ _ => rfl) (by omega)).below hW))
          have HRE : Hid (∀ W, Below w6.heap.size w6 W → Calls Try.prog 14 #[.pointer (some ⟨sp, 0, none⟩), .int .i64 0, .int .i64 1048576] W fun e w' => ∃ A c, e = .returned (.slice A L1.length c) ∧ (convert 27 9 (.slice A L1.length c)).run Try.prog w' = .ok (.string str) w' ∧ Below W.heap.size W w') := Lib.hid (fun W hW => (read_any (HIN.out.sw.below hW) 0 1048576 (by omega)).mono (by
            rintro e w' ⟨v, rfl, hr, hb⟩
            rw [bk_all HGT.out.lim, HE1.out] at hr
            obtain ⟨A', c', rfl, -⟩ := own_form hr
            exact ⟨A', c', rfl, by rw [← hstr]; exact conv_rd (c := c') (Rd.of_own hr (fun _ _ => rfl) (by omega)), hb⟩))
          have HA4 : Hid (∀ W, Calls Try.prog 11 #[] W fun e w' => e = .returned (.bool true) ∧ Below W.heap.size W w') := Lib.hid (fun W => alive_any W)
          clear hs6 hk6 hstr
          go_upto_region 8 with fail
          have n2 := HCV.out w6.drew (Below.refl _ _).drew
          go_region_held (fun W => (convert 27 9 (.slice W8 L1.length c8)).run Try.prog W = .ok (.string str) W)
            (first
              | assumption
              | (with_reducible exact HCV.out _ (Below.refl _ _).drew))
            (first
              | (go_at_call 11; (with_reducible refine (HA4.out _).mono ?_); rintro e w10 ⟨rfl, hb10⟩; have hB10 : Below w6.heap.size w6 w10 := (Below.refl _ _).drew.trans (hb10.mono (Nat.le_refl _)); have m0 := HCV.out w10 hB10)
              | (go_at_call 14; (with_reducible refine (HRE.out _ (by assumption)).mono ?_); rintro e w11 ⟨A11, c11, rfl, hcv11, hb11⟩; have hB11 := hB10.trans (hb11.mono hB10.size); have m1 := HCV.out w11 hB11))
          all_goals
            have HE : Hid (LwPost w (.returned (.bool true)) w11) := Lib.hid ⟨rfl, HIN.out.bl.trans (hB11.mono HIN.out.bl.size)⟩
            (try simp only [List.getElem_toArray, List.getElem_cons_succ, List.getElem_cons_zero, Act.put, List.setIfInBounds_toArray, List.set_cons_succ, List.set_cons_zero])
            go_wp2_with fail
            go_ret
            exact HE.out
        | true =>
          obtain ⟨X, hX⟩ : ∃ X : Nat, p = (X : Int) := ⟨p.toNat, by have := ft_iff.1 HOK.out; omega⟩
          subst hX
          have HX : Hid (X + n1 ≤ 1048576) := Lib.hid (by have := ft_iff.1 HOK.out; omega)
          obtain ⟨T2, hT2⟩ : ∃ k, wrI T (X : Int) b1 = k := ⟨_, rfl⟩
          have HT2 : Hid (wr T X b1 = T2) := Lib.hid (by rw [← hT2]; exact (wrI_at (by rw [HL1.out]; exact HX.out)).symm)
          rw [hT2] at HWR
          clear hT2
          go_wp2_with fail
          refine HWR.out.mono ?_
          rintro e w6 ⟨rfl, hs6, hk6⟩
          have HIN : Hid (BkIn w w.heap.size w3.heap.size sp mb T2 W8 c8 L1 w6) := Lib.hid ⟨hs6, hk6.own HS5.out HO8b.out (by decide), HB5.out.trans (hk6.below HB5.out.size hs6.gsp hs6.gmb)⟩
          have HOZ : Hid (w6.ownsRow w4.heap.size 5 1 (.slice G n1 gc) n1 ((b1.map (fun x => (x.toNat : Int))).flatMap zcell)) := Lib.hid (by rw [← zcell_of]; exact hk6.own HS5.out HO5.out (by decide))
          have HZ0 : Hid ((b1.map (fun x => (x.toNat : Int))).length = n1) := Lib.hid (by rw [List.length_map]; exact HL1.out)
          clear hs6 hk6
          go_wp2_with fail
          go_loopw [64] (fun v wr => ∃ (j : Nat) (zs : List Int), j ≤ n1 ∧ zs.length = n1 ∧ v = .int .i64 (j : Int) ∧ Hid (wr.ownsRow w4.heap.size 5 1 (.slice G n1 gc) n1 (zs.flatMap zcell)) ∧ Hid (BkIn w w.heap.size w3.heap.size sp mb T2 W8 c8 L1 wr)) (fun v _ => n1 - (intOf v).toNat)
          case atStart => exact ⟨0, _, Nat.zero_le _, HZ0.out, rfl, HOZ, HIN⟩
          case round =>
            obtain ⟨j, zs, hj, hz, rfl, HO9, HX9⟩ := hrel
            by_cases hlt : j < n1
            · have hji : (j : Int) < ((n1 : Nat) : Int) := by omega
              have hj0 : (0 : Int) ≤ (j : Int) := by omega
              obtain ⟨j1, hj1⟩ : ∃ j1, j + 1 = j1 := ⟨_, rfl⟩
              have hwj : IntKind.i64.wrap ((j : Int) + 1) = (j1 : Int) := by rw [IntKind.wrap_i64]; have := HG1.out; omega
              have ho := HO9.out
              obtain ⟨Bx, cx, ex, -, -, hAx⟩ := own_form ho
              obtain ⟨g, rfl⟩ : ∃ g, G = some ⟨g, 0, none⟩ := by
                injection ex with ex; subst ex; exact hAx (by omega)
              obtain ⟨z, hzj⟩ : ∃ z, zs[j]? = some z := ⟨_, List.getElem?_eq_getElem (by omega)⟩
              have x0 := own_cell ho j (.int .u8 z) (by
                have := part_get zcell 1 zs j (by omega) (fun _ _ => rfl) 0 (by omega)
                rw [Nat.mul_one, Nat.add_zero] at this
                rw [this]
                have e : zs[j]'(by omega) = z := by rw [List.getElem?_eq_getElem (by omega)] at hzj; exact Option.some.inj hzj
                rw [e]; rfl)
              obtain ⟨cur, hcur, -, -, -, -, -, -⟩ := own_at ho
              have y0 := frozen_of_row wr g j _ _ hcur
              have hgl := (ho.lt g rfl).1
              have HO6 : Hid (∀ x : Int, (wr.setCell ⟨g, j, none⟩ (.int .u8 x)).ownsRow w4.heap.size 5 1 (.slice (some ⟨g, 0, none⟩) n1 gc) n1 ((zs.set j x).flatMap zcell)) := Lib.hid (fun x => by
                have h5 := own_set_cells ho (j * 1) (zcell x) (by simp [zcell]; omega)
                rw [part_set zcell 1 zs j (by omega) x (fun _ _ => rfl) rfl, Nat.mul_one] at h5
                exact h5)
              have HX5 : Hid (∀ x : Int, BkIn w w.heap.size w3.heap.size sp mb T2 W8 c8 L1 (wr.setCell ⟨g, j, none⟩ (.int .u8 x))) := Lib.hid (fun x => HX9.out.set (by have := HLT.out.2.2.1; omega) (by have := HLT.out.1; omega) (by have := HLT.out.2.1; omega) (fun k e => by have := HLT.out.2.2.2 k e; omega) _ _)
              have HJ1 : Hid (j < n1 ∧ j + 1 = j1) := Lib.hid ⟨hlt, hj1⟩
              have HZL := Lib.hid hz
              clear ho ex hAx hzj hcur hj1 hlt hz hj hgl
              go_wp2_with fail
              go_roundw
              case rel => exact ⟨j1, _, by have := HJ1.out; omega, by rw [List.length_set]; exact HZL.out, rfl, Lib.hid (HO6.out _), Lib.hid (HX5.out _)⟩
              case measure => simp [intOf]; have := HJ1.out; omega
            · obtain rfl : n1 = j := by omega
              have hji : ¬ ((n1 : Nat) : Int) < ((n1 : Nat) : Int) := by omega
              clear hlt hj
              have HW2 := Lib.hid (read_any HX9.out.sw 0 1048576 (by omega))
              rw [bk_all HX9.out.sw.good.lim] at HW2
              go_wp2_with fail
              refine HW2.out.mono ?_
              rintro e w7 ⟨v11, rfl, ho11, hb7⟩
              obtain ⟨G2, c11, rfl, -⟩ := own_form ho11
              obtain ⟨L2, hL2⟩ : ∃ l, bs T2.f T2.n = l := ⟨_, rfl⟩
              have hl2 : L2.length = T2.n := by rw [← hL2, bs_len]
              rw [bs_len, hL2, ← hl2] at ho11
              rw [bs_len, ← hl2]
              have HLL : Hid (L1.length ≤ L2.length ∧ L2.length ≤ 1048576 ∧ L2.length = T2.n) := Lib.hid ⟨by rw [HLN.out, hl2, ← HT2.out]; exact bk_n _ _ _, by rw [hl2]; exact HX9.out.sw.good.lim, hl2⟩
              have HE2 := Lib.hid hL2
              have HI7 := Lib.hid (HX9.out.below hb7)
              have HN7 := Lib.hid ho11
              have d3 : decide ((L2.length : Int) < (L1.length : Int)) = false := by simp only [decide_eq_false_iff_not]; have := HLL.out; omega
              have d7 : decide (L2.length < L1.length) = false := by simp only [decide_eq_false_iff_not]; have := HLL.out; omega
              have d8 : ¬ (L2.length : Int) < (L1.length : Int) := by have := HLL.out; omega
              have d9 : ¬ L2.length < L1.length := by have := HLL.out; omega
              clear ho11 hb7 hL2 hl2
              by_cases h0 : n1 = 0
              · have d0 : decide ((0 : Int) < (n1 : Int)) = false := by simp only [decide_eq_false_iff_not]; omega
                have d4 : decide (0 < n1) = false := by simp only [decide_eq_false_iff_not]; omega
                have d5 : ¬ (0 : Int) < (n1 : Int) := by omega
                have d6 : ¬ 0 < n1 := by omega
                clear h0
                go_upto_region 15 with fail
                go_quiet (fail)
                obtain ⟨w8, hw8⟩ : ∃ x, x = w7.drewN nq := ⟨_, rfl⟩
                rw [← hw8]
                have hb8 : Below w7.heap.size w7 w8 := by rw [hw8]; exact below_drewN (Below.refl _ _) nq
                have HBR := Lib.hid (HI7.out.below hb8).bl
                have HWAS := Lib.hid (HI7.out.below hb8).was
                have HNOW := Lib.hid (own_below HN7.out hb8)
                clear hw8 hb8
                go_wp2_with fail
                go_loopw [101] (fun v wq => ∃ j : Nat, j ≤ L1.length ∧ v = .int .i64 (j : Int) ∧ Hid (Below w8.heap.size w8 wq)) (fun v _ => L1.length - (intOf v).toNat)
                case atStart => exact ⟨0, Nat.zero_le _, rfl, Lib.hid (Below.refl _ _)⟩
                case round =>
                  obtain ⟨j, hj, rfl, HQ⟩ := hrel
                  by_cases hlt : j < L1.length
                  · have hji : (j : Int) < ((L1.length : Nat) : Int) := by omega
                    have hjn : (j : Int) < ((L2.length : Nat) : Int) := by have := HLL.out; omega
                    have hj0 : (0 : Int) ≤ (j : Int) := by omega
                    obtain ⟨j1, hj1⟩ : ∃ j1, j + 1 = j1 := ⟨_, rfl⟩
                    have hwj : IntKind.i64.wrap ((j : Int) + 1) = (j1 : Int) := by rw [IntKind.wrap_i64]; have := HLL.out; omega
                    obtain ⟨e2, he2⟩ : ∃ e : Int, (X : Int) + (n1 : Int) = e := ⟨_, rfl⟩
                    have hwe : IntKind.i64.wrap ((X : Int) + (n1 : Int)) = e2 := by rw [IntKind.wrap_i64]; have := HX.out; omega
                    have HJ1 : Hid (j < L1.length ∧ j + 1 = j1) := Lib.hid ⟨hlt, hj1⟩
                    have hoW := own_below HWAS.out HQ.out
                    have hoN := own_below HNOW.out HQ.out
                    obtain ⟨Bx, cx, ex, -, -, hAx⟩ := own_form hoW
                    obtain ⟨ga, hga⟩ : ∃ g, W8 = some ⟨g, 0, none⟩ := by
                      injection ex with ex; subst ex; exact hAx (by omega)
                    obtain ⟨By, cy, ey, -, -, hAy⟩ := own_form hoN
                    obtain ⟨gb, hgb⟩ : ∃ g, G2 = some ⟨g, 0, none⟩ := by
                      injection ey with ey; subst ey; exact hAy (by have := HLL.out; omega)
                    rw [hga] at hoW
                    rw [hgb] at hoN
                    rw [hga, hgb]
                    obtain ⟨vb, hvb⟩ : ∃ z : Int, ((T.f j).toNat : Int) = z := ⟨_, rfl⟩
                    have x0 := own_cell hoW j (.int .u8 vb) (by
                      rw [bcells_get, ← HE1.out, bs_get _ (by have := HLN.out; omega), ← hvb]; rfl)
                    have hv : (vb != vb) = false := by simp
                    by_cases a1 : (j : Int) < (X : Int)
                    · have d1 : decide ((j : Int) < (X : Int)) = true := by simp only [decide_eq_true_eq]; exact a1
                      have d1n : decide (j < X) = true := by simp only [decide_eq_true_eq]; omega
                      have d1m : j < X := by omega
                      have x1 := own_cell hoN j (.int .u8 vb) (by
                        rw [bcells_get, ← HE2.out, bs_get _ (by have := HLL.out; omega), ← HT2.out, bk_same T X b1 (.inl (by omega)), ← hvb]; rfl)
                      clear hoW hoN ex ey hAx hAy hga hgb he2 hvb a1 hlt hj hj1
                      go_upto_region 20 with fail
                      go_quiet (fail)
                      obtain ⟨wz, hwz⟩ : ∃ x, x = wr.drewN nq := ⟨_, rfl⟩
                      rw [← hwz]
                      have HZ : Hid (Below w8.heap.size w8 wz) := Lib.hid (by rw [hwz]; exact below_drewN HQ.out nq)
                      clear hwz
                      go_wp2_with fail
                      go_roundw
                      case rel => exact ⟨j1, by have := HJ1.out; omega, rfl, HZ⟩
                      case measure => simp [intOf]; have := HJ1.out; omega
                    · have d1 : decide ((j : Int) < (X : Int)) = false := by simp only [decide_eq_false_iff_not]; exact a1
                      have d1n : decide (j < X) = false := by simp only [decide_eq_false_iff_not]; omega
                      have d1m : ¬ j < X := by omega
                      by_cases a2 : e2 ≤ (j : Int)
                      · have d2 : decide (e2 ≤ (j : Int)) = true := by simp only [decide_eq_true_eq]; exact a2
                        have x1 := own_cell hoN j (.int .u8 vb) (by
                          rw [bcells_get, ← HE2.out, bs_get _ (by have := HLL.out; omega), ← HT2.out, bk_same T X b1 (.inr (by rw [HL1.out]; omega)), ← hvb]; rfl)
                        clear hoW hoN ex ey hAx hAy hga hgb he2 hvb a1 a2 hlt hj hj1
                        go_upto_region 20 with fail
                        go_quiet (fail)
                        obtain ⟨wz, hwz⟩ : ∃ x, x = wr.drewN nq := ⟨_, rfl⟩
                        rw [← hwz]
                        have HZ : Hid (Below w8.heap.size w8 wz) := Lib.hid (by rw [hwz]; exact below_drewN HQ.out nq)
                        clear hwz
                        go_wp2_with fail
                        go_roundw
                        case rel => exact ⟨j1, by have := HJ1.out; omega, rfl, HZ⟩
                        case measure => simp [intOf]; have := HJ1.out; omega
                      · have d2 : decide (e2 ≤ (j : Int)) = false := by simp only [decide_eq_false_iff_not]; exact a2
                        clear hoW hoN ex ey hAx hAy hga hgb he2 hvb a1 a2 hlt hj hj1
                        go_upto_region 20 with fail
                        go_quiet (fail)
                        obtain ⟨wz, hwz⟩ : ∃ x, x = wr.drewN nq := ⟨_, rfl⟩
                        rw [← hwz]
                        have HZ : Hid (Below w8.heap.size w8 wz) := Lib.hid (by rw [hwz]; exact below_drewN HQ.out nq)
                        clear hwz
                        go_wp2_with fail
                        go_roundw
                        case rel => exact ⟨j1, by have := HJ1.out; omega, rfl, HZ⟩
                        case measure => simp [intOf]; have := HJ1.out; omega
                  · obtain rfl : j = L1.length := by omega
                    have hji : ¬ ((L1.length : Nat) : Int) < ((L1.length : Nat) : Int) := by omega
                    have HB9 := Lib.hid (HBR.out.trans (HQ.out.mono HBR.out.size))
                    clear HBR
                    have HBR := HB9
                    clear hlt hj
                    go_wp2_with fail
                    refine (alive_any _).mono ?_
                    rintro e w' ⟨rfl, hb9⟩
                    have HE : Hid (LwPost w (.returned (.bool true)) w') := Lib.hid ⟨rfl, HBR.out.trans (hb9.mono HBR.out.size)⟩
                    clear hb9
                    go_wp2_with fail
                    go_ret
                    exact HE.out
              · have d0 : decide ((0 : Int) < (n1 : Int)) = true := by simp only [decide_eq_true_eq]; omega
                have d4 : decide (0 < n1) = true := by simp only [decide_eq_true_eq]; omega
                have d5 : (0 : Int) < (n1 : Int) := by omega
                have d6 : 0 < n1 := by omega
                obtain ⟨str, hstr⟩ : ∃ s, sB b1 = s := ⟨_, rfl⟩
                have hne := str_ne str
                have heq := str_eq str
                have HRE : Hid (∀ W, Below w7.heap.size w7 W → Calls Try.prog 14 #[.pointer (some ⟨sp, 0, none⟩), .int .i64 (X : Int), .int .i64 (n1 : Int)] W fun e w' => ∃ A c, e = .returned (.slice A n1 c) ∧ (convert 27 9 (.slice A n1 c)).run Try.prog w' = .ok (.string str) w' ∧ Below W.heap.size W w') := Lib.hid (fun W hW => (read_any (HI7.out.sw.below hW) (X : Int) (n1 : Int) (by have := HX.out; omega)).mono (by
                  rintro e w' ⟨v, rfl, hr, hb⟩
                  have e9 := bk_read T X (b := b1) (by rw [HL1.out]; omega)
                  rw [HT2.out, HL1.out] at e9
                  rw [e9] at hr
                  obtain ⟨A', c', rfl, -⟩ := own_form hr
                  rw [HL1.out] at hr ⊢
                  exact ⟨A', c', rfl, by rw [← hstr]; exact conv_rd (c := c') (Rd.of_own hr (fun _ _ => rfl) (by omega)), hb⟩))
                have HCB : Hid (∀ W, Below w7.heap.size w7 W → (convert 27 9 (.slice A1 n1 c1)).run Try.prog W = .ok (.string str) W) := Lib.hid (fun W hW => by rw [← hstr]; exact conv_rd (c := c1) (rd_at HR1.out (rd_und HR1.out) (HI7.out.below hW).bl))
                clear h0 hstr
                go_upto_region 15 with fail
                have n0 := HCB.out w7.drew (Below.refl _ _).drew
                go_region_held (fun W => (convert 27 9 (.slice A1 n1 c1)).run Try.prog W = .ok (.string str) W)
                  (first
                    | assumption
                    | (with_reducible exact HCB.out _ (Below.refl _ _).drew))
                  (first
                    | (go_at_call 14; (with_reducible refine (HRE.out _ (Below.refl _ _).drew).mono ?_); rintro e w8 ⟨A8, c8', rfl, hcv8, hb8⟩; have hB8 : Below w7.heap.size w7 w8 := (Below.refl _ _).drew.trans (hb8.mono (Nat.le_refl _)); have m0 := HCB.out w8 hB8))
                all_goals
                  have HBR := Lib.hid (HI7.out.below hB8).bl
                  have HWAS := Lib.hid (HI7.out.below hB8).was
                  have HNOW := Lib.hid (own_below HN7.out hB8)
                  clear hcv8 hb8 hB8 m0 n0
                  (try simp only [List.getElem_toArray, List.getElem_cons_succ, List.getElem_cons_zero, Act.put, List.setIfInBounds_toArray, List.set_cons_succ, List.set_cons_zero])
                  go_wp2_with fail
                  go_loopw [101] (fun v wq => ∃ j : Nat, j ≤ L1.length ∧ v = .int .i64 (j : Int) ∧ Hid (Below w8.heap.size w8 wq)) (fun v _ => L1.length - (intOf v).toNat)
                  case atStart => exact ⟨0, Nat.zero_le _, rfl, Lib.hid (Below.refl _ _)⟩
                  case round =>
                    obtain ⟨j, hj, rfl, HQ⟩ := hrel
                    by_cases hlt : j < L1.length
                    · have hji : (j : Int) < ((L1.length : Nat) : Int) := by omega
                      have hjn : (j : Int) < ((L2.length : Nat) : Int) := by have := HLL.out; omega
                      have hj0 : (0 : Int) ≤ (j : Int) := by omega
                      obtain ⟨j1, hj1⟩ : ∃ j1, j + 1 = j1 := ⟨_, rfl⟩
                      have hwj : IntKind.i64.wrap ((j : Int) + 1) = (j1 : Int) := by rw [IntKind.wrap_i64]; have := HLL.out; omega
                      obtain ⟨e2, he2⟩ : ∃ e : Int, (X : Int) + (n1 : Int) = e := ⟨_, rfl⟩
                      have hwe : IntKind.i64.wrap ((X : Int) + (n1 : Int)) = e2 := by rw [IntKind.wrap_i64]; have := HX.out; omega
                      have HJ1 : Hid (j < L1.length ∧ j + 1 = j1) := Lib.hid ⟨hlt, hj1⟩
                      have hoW := own_below HWAS.out HQ.out
                      have hoN := own_below HNOW.out HQ.out
                      obtain ⟨Bx, cx, ex, -, -, hAx⟩ := own_form hoW
                      obtain ⟨ga, hga⟩ : ∃ g, W8 = some ⟨g, 0, none⟩ := by
                        injection ex with ex; subst ex; exact hAx (by omega)
                      obtain ⟨By, cy, ey, -, -, hAy⟩ := own_form hoN
                      obtain ⟨gb, hgb⟩ : ∃ g, G2 = some ⟨g, 0, none⟩ := by
                        injection ey with ey; subst ey; exact hAy (by have := HLL.out; omega)
                      rw [hga] at hoW
                      rw [hgb] at hoN
                      rw [hga, hgb]
                      obtain ⟨vb, hvb⟩ : ∃ z : Int, ((T.f j).toNat : Int) = z := ⟨_, rfl⟩
                      have x0 := own_cell hoW j (.int .u8 vb) (by
                        rw [bcells_get, ← HE1.out, bs_get _ (by have := HLN.out; omega), ← hvb]; rfl)
                      have hv : (vb != vb) = false := by simp
                      by_cases a1 : (j : Int) < (X : Int)
                      · have d1 : decide ((j : Int) < (X : Int)) = true := by simp only [decide_eq_true_eq]; exact a1
                        have d1n : decide (j < X) = true := by simp only [decide_eq_true_eq]; omega
                        have d1m : j < X := by omega
                        have x1 := own_cell hoN j (.int .u8 vb) (by
                          rw [bcells_get, ← HE2.out, bs_get _ (by have := HLL.out; omega), ← HT2.out, bk_same T X b1 (.inl (by omega)), ← hvb]; rfl)
                        clear hoW hoN ex ey hAx hAy hga hgb he2 hvb a1 hlt hj hj1
                        go_upto_region 20 with fail
                        go_quiet (fail)
                        obtain ⟨wz, hwz⟩ : ∃ x, x = wr.drewN nq := ⟨_, rfl⟩
                        rw [← hwz]
                        have HZ : Hid (Below w8.heap.size w8 wz) := Lib.hid (by rw [hwz]; exact below_drewN HQ.out nq)
                        clear hwz
                        go_wp2_with fail
                        go_roundw
                        case rel => exact ⟨j1, by have := HJ1.out; omega, rfl, HZ⟩
                        case measure => simp [intOf]; have := HJ1.out; omega
                      · have d1 : decide ((j : Int) < (X : Int)) = false := by simp only [decide_eq_false_iff_not]; exact a1
                        have d1n : decide (j < X) = false := by simp only [decide_eq_false_iff_not]; omega
                        have d1m : ¬ j < X := by omega
                        by_cases a2 : e2 ≤ (j : Int)
                        · have d2 : decide (e2 ≤ (j : Int)) = true := by simp only [decide_eq_true_eq]; exact a2
                          have x1 := own_cell hoN j (.int .u8 vb) (by
                            rw [bcells_get, ← HE2.out, bs_get _ (by have := HLL.out; omega), ← HT2.out, bk_same T X b1 (.inr (by rw [HL1.out]; omega)), ← hvb]; rfl)
                          clear hoW hoN ex ey hAx hAy hga hgb he2 hvb a1 a2 hlt hj hj1
                          go_upto_region 20 with fail
                          go_quiet (fail)
                          obtain ⟨wz, hwz⟩ : ∃ x, x = wr.drewN nq := ⟨_, rfl⟩
                          rw [← hwz]
                          have HZ : Hid (Below w8.heap.size w8 wz) := Lib.hid (by rw [hwz]; exact below_drewN HQ.out nq)
                          clear hwz
                          go_wp2_with fail
                          go_roundw
                          case rel => exact ⟨j1, by have := HJ1.out; omega, rfl, HZ⟩
                          case measure => simp [intOf]; have := HJ1.out; omega
                        · have d2 : decide (e2 ≤ (j : Int)) = false := by simp only [decide_eq_false_iff_not]; exact a2
                          clear hoW hoN ex ey hAx hAy hga hgb he2 hvb a1 a2 hlt hj hj1
                          go_upto_region 20 with fail
                          go_quiet (fail)
                          obtain ⟨wz, hwz⟩ : ∃ x, x = wr.drewN nq := ⟨_, rfl⟩
                          rw [← hwz]
                          have HZ : Hid (Below w8.heap.size w8 wz) := Lib.hid (by rw [hwz]; exact below_drewN HQ.out nq)
                          clear hwz
                          go_wp2_with fail
                          go_roundw
                          case rel => exact ⟨j1, by have := HJ1.out; omega, rfl, HZ⟩
                          case measure => simp [intOf]; have := HJ1.out; omega
                    · obtain rfl : j = L1.length := by omega
                      have hji : ¬ ((L1.length : Nat) : Int) < ((L1.length : Nat) : Int) := by omega
                      have HB9 := Lib.hid (HBR.out.trans (HQ.out.mono HBR.out.size))
                      clear HBR
                      have HBR := HB9
                      clear hlt hj
                      go_wp2_with fail
                      refine (alive_any _).mono ?_
                      rintro e w' ⟨rfl, hb9⟩
                      have HE : Hid (LwPost w (.returned (.bool true)) w') := Lib.hid ⟨rfl, HBR.out.trans (hb9.mono HBR.out.size)⟩
                      clear hb9
                      go_wp2_with fail
                      go_ret
                      exact HE.out
end Go.Proofs.Ytoallenigfbkpaa
