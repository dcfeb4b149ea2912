/-
  The law Gone: what was cut off, or punched, is 0 when it is there again. No condition.
-/
import Derived.Test.YtoallenigfbkpaaTGoneM
namespace Go.Proofs.Ytoallenigfbkpaa
set_option maxRecDepth 100000
open Go.ChangeShapes Go.WideShapes Go.ChangeAt Go.RowKit Go.Proofs.Sg

/-- Two files, and what the law has of its own. -/
structure GoW (w : World) (B1 s1 m1 : Nat) (S1 : Sh) (B2 s2 m2 : Nat) (S2 : Sh) (W : World) : Prop where
  a : SW W B1 s1 m1 S1
  b : SW W B2 s2 m2 S2
  sn : s1 ≠ s2
  mn : m1 ≠ m2
  g1 : w.heap.size ≤ B1
  g2 : w.heap.size ≤ B2
  bl : Below w.heap.size w W
section
variable {w W W' : World} {B1 s1 m1 B2 s2 m2 : Nat} {S1 S2 S3 : Sh}
theorem GoW.below (h : GoW w B1 s1 m1 S1 B2 s2 m2 S2 W) (hb : Below W.heap.size W W') : GoW w B1 s1 m1 S1 B2 s2 m2 S2 W' := ⟨h.a.below hb, h.b.below hb, h.sn, h.mn, h.g1, h.g2, h.bl.trans (hb.mono h.bl.size)⟩
theorem GoW.cha (h : GoW w B1 s1 m1 S1 B2 s2 m2 S2 W) (hs : SW W' B1 s1 m1 S3) (hk : SK W W' s1 m1) : GoW w B1 s1 m1 S3 B2 s2 m2 S2 W' := ⟨hs, hk.other h.a h.b (Ne.symm h.sn) (Ne.symm h.mn), h.sn, h.mn, h.g1, h.g2, h.bl.trans (hk.below h.bl.size (Nat.le_trans h.g1 h.a.gsp) (Nat.le_trans h.g1 h.a.gmb))⟩
theorem GoW.chb (h : GoW w B1 s1 m1 S1 B2 s2 m2 S2 W) (hs : SW W' B2 s2 m2 S3) (hk : SK W W' s2 m2) : GoW w B1 s1 m1 S1 B2 s2 m2 S3 W' := ⟨hk.other h.b h.a h.sn h.mn, hs, h.sn, h.mn, h.g1, h.g2, h.bl.trans (hk.below h.bl.size (Nat.le_trans h.g2 h.b.gsp) (Nat.le_trans h.g2 h.b.gmb))⟩
end
set_option maxHeartbeats 16000000 in
theorem gone_law {w : World} {ad : Option Addr} {len cap : Nat} {os : List Opr} (hO : OReads w w.heap.size ad len os) (x y : Int) (_hx : x ≤ 9223372036854775807) (_hy : y ≤ 9223372036854775807) : Calls Try.prog 7 #[.slice ad len cap, .int .i64 x, .int .i64 y] w (LwPost w) := by

  have HNEW := Lib.hid (new_any w)
  have HO := Lib.hid hO
  have HAL : Hid (∀ W, Below w.heap.size w W → Calls Try.prog 11 #[] W fun e w' => e = .returned (.bool true) ∧ Below w.heap.size w w') := Lib.hid (fun W hW => (alive_any W).mono (fun e w' h => ⟨h.1, hW.trans (h.2.mono hW.size)⟩))
  clear hO
  go_enter Try.func7, Try.ntmps7
  go_wp2_with fail
  refine HNEW.out.mono ?_
  rintro e w1 ⟨sp, mb, rfl, hs, hb⟩
  have HS1 := Lib.hid hs
  have HB1 := Lib.hid hb
  have HFEW := Lib.hid (few_any (cap := cap) (HO.out.kept hb) hb.size)
  have hnil : ∀ W, (binOp .eql 23 (.pointer (some ⟨sp, 0, none⟩)) (.pointer none)).run Try.prog W = .ok (.bool false) W := fun W => by kernel_rfl
  have hnil2 : ∀ W, (binOp .neq 23 (.pointer (some ⟨sp, 0, none⟩)) (.pointer none)).run Try.prog W = .ok (.bool true) W := fun W => by kernel_rfl
  clear hs hb
  go_wp2_with fail
  refine HFEW.out.mono ?_
  rintro e w2 ⟨r, rfl, hr, hb2⟩
  have HB2 := Lib.hid (HB1.out.trans (hb2.mono HB1.out.size))
  have HS2 := Lib.hid (HS1.out.below hb2)
  have HR := Lib.hid hr
  clear hr hb2
  cases r with
  | false =>
    go_wp2_with fail
    refine (HAL.out _ HB2.out).mono ?_
    rintro e w' ⟨rfl, hb9⟩
    have HE : Hid (LwPost w (.returned (.bool true)) w') := Lib.hid ⟨rfl, hb9⟩
    clear hb9
    go_wp2_with fail
    go_ret
    exact HE.out
  | true =>
    by_cases g1 : x < 0
    · have k1 : decide (x < 0) = true := by simp only [decide_eq_true_eq]; exact g1
      go_wp2_with fail
      refine (HAL.out _ HB2.out).mono ?_
      rintro e w' ⟨rfl, hb9⟩
      have HE : Hid (LwPost w (.returned (.bool true)) w') := Lib.hid ⟨rfl, hb9⟩
      clear hb9
      go_wp2_with fail
      go_ret
      exact HE.out
    have k1 : decide (x < 0) = false := by simp only [decide_eq_false_iff_not]; exact g1
    by_cases g2 : y < 0
    · have k2 : decide (y < 0) = true := by simp only [decide_eq_true_eq]; exact g2
      go_wp2_with fail
      refine (HAL.out _ HB2.out).mono ?_
      rintro e w' ⟨rfl, hb9⟩
      have HE : Hid (LwPost w (.returned (.bool true)) w') := Lib.hid ⟨rfl, hb9⟩
      clear hb9
      go_wp2_with fail
      go_ret
      exact HE.out
    have k2 : decide (y < 0) = false := by simp only [decide_eq_false_iff_not]; exact g2
    by_cases g3 : (20000 : Int) < x
    · have k3 : decide ((20000 : Int) < x) = true := by simp only [decide_eq_true_eq]; exact g3
      go_wp2_with fail
      refine (HAL.out _ HB2.out).mono ?_
      rintro e w' ⟨rfl, hb9⟩
      have HE : Hid (LwPost w (.returned (.bool true)) w') := Lib.hid ⟨rfl, hb9⟩
      clear hb9
      go_wp2_with fail
      go_ret
      exact HE.out
    have k3 : decide ((20000 : Int) < x) = false := by simp only [decide_eq_false_iff_not]; exact g3
    by_cases g4 : (20000 : Int) < y
    · have k4 : decide ((20000 : Int) < y) = true := by simp only [decide_eq_true_eq]; exact g4
      go_wp2_with fail
      refine (HAL.out _ HB2.out).mono ?_
      rintro e w' ⟨rfl, hb9⟩
      have HE : Hid (LwPost w (.returned (.bool true)) w') := Lib.hid ⟨rfl, hb9⟩
      clear hb9
      go_wp2_with fail
      go_ret
      exact HE.out
    have k4 : decide ((20000 : Int) < y) = false := by simp only [decide_eq_false_iff_not]; exact g4
    obtain ⟨N, hN⟩ : ∃ N : Nat, x = (N : Int) := ⟨x.toNat, by omega⟩
    obtain ⟨M, hM⟩ : ∃ M : Nat, y = (M : Int) := ⟨y.toNat, by omega⟩
    subst hN
    subst hM
    have HNM : Hid (N ≤ 20000 ∧ M ≤ 20000) := Lib.hid (by omega)
    have HPL := Lib.hid (plays_any HS2.out (df0 w2) (HO.out.kept HB2.out) (Nat.le_refl _) (HR.out rfl).1 (cap := cap) (HR.out rfl).2)
    unfold dv at HPL
    obtain ⟨k, hkk⟩ : ∃ k, N + M = k := ⟨_, rfl⟩
    have hwk : IntKind.i64.wrap ((N : Int) + (M : Int)) = (k : Int) := by rw [IntKind.wrap_i64]; omega
    have HK := Lib.hid hkk
    clear g1 g2 g3 g4 hkk
    go_wp2_with fail
    refine HPL.out.mono ?_
    rintro e w3 ⟨A, c, A2, c2, rfl, hs3, -, hk3⟩
    obtain ⟨T, hT⟩ : ∃ T, runS S0 os = T := ⟨_, rfl⟩
    rw [hT] at hs3
    have HS3 := Lib.hid hs3
    have HB3 := Lib.hid (HB2.out.trans (hk3.below HB2.out.size hs3.gsp hs3.gmb))
    have HGT := Lib.hid hs3.good
    have HCLO := Lib.hid (clone_any hs3)
    clear hT hs3 hk3
    go_wp2_with fail
    refine HCLO.out.mono ?_
    rintro e w4 ⟨sp2, mb2, rfl, hs4, hb4⟩
    have HG4 : Hid (GoW w w.heap.size sp mb T w3.heap.size sp2 mb2 T w4) := Lib.hid ⟨HS3.out.below hb4, hs4, by have := HS3.out.lts; have := hs4.gsp; omega, by have := HS3.out.map.lt; have := hs4.gmb; omega, Nat.le_refl _, HB3.out.size, HB3.out.trans (hb4.mono HB3.out.size)⟩
    have hnil3 : ∀ W, (binOp .eql 23 (.pointer (some ⟨sp2, 0, none⟩)) (.pointer none)).run Try.prog W = .ok (.bool false) W := fun W => by kernel_rfl
    have HRW := Lib.hid (read_any HG4.out.a 0 (N : Int) (by omega))
    rw [gone_was] at HRW
    clear hs4 hb4
    go_wp2_with fail
    refine HRW.out.mono ?_
    rintro e w5 ⟨v5, rfl, ho5, hb5⟩
    obtain ⟨W5, c5, rfl, -⟩ := own_form ho5
    obtain ⟨l1, hl1⟩ : ∃ l, bs T.f (min N T.n) = l := ⟨_, rfl⟩
    have hl1n : l1.length = min N T.n := by rw [← hl1, bs_len]
    rw [hl1] at ho5 ⊢
    have HL1 : Hid (bs T.f (min N T.n) = l1 ∧ l1.length = min N T.n) := Lib.hid ⟨hl1, hl1n⟩
    have HO5 := Lib.hid ho5
    have HG5 := Lib.hid (HG4.out.below hb5)
    have HC1 := Lib.hid (cut_any HG5.out.a (N : Int))
    rw [ft_zero (by have := HNM.out; omega)] at HC1
    clear hl1 hl1n ho5 hb5
    go_wp2_with fail
    refine HC1.out.mono ?_
    rintro e w6 ⟨rfl, hs6, hk6⟩
    have HO6 := Lib.hid (hk6.own HG5.out.a HO5.out (by decide))
    have HG6 := Lib.hid (HG5.out.cha hs6 hk6)
    have HC2 := Lib.hid (cut_any HG6.out.a (k : Int))
    rw [ft_zero (by have := HNM.out; have := HK.out; omega)] at HC2
    clear hs6 hk6
    go_wp2_with fail
    refine HC2.out.mono ?_
    rintro e w7 ⟨rfl, hs7, hk7⟩
    have HO7 := Lib.hid (hk7.own HG6.out.a HO6.out (by decide))
    have HG7 := Lib.hid (HG6.out.cha hs7 hk7)
    obtain ⟨f2, hf2, hf3, hf4⟩ := gone_cut HGT.out (by have := HNM.out; omega : N + M ≤ 1048576)
    have hrb := read_any HG7.out.a 0 (k : Int) (by have := HNM.out; have := HK.out; omega)
    rw [HK.out] at hf2
    rw [hf2] at hrb
    have HRB := Lib.hid hrb
    have HF2 : Hid ((∀ i, i < min N T.n → f2 i = T.f i) ∧ ∀ i, min N T.n ≤ i → f2 i = 0) := Lib.hid ⟨hf3, hf4⟩
    clear hs7 hk7 hf2 hf3 hf4 hrb
    go_wp2_with fail
    refine HRB.out.mono ?_
    rintro e w8 ⟨v8, rfl, ho8, hb8⟩
    obtain ⟨W8, c8, rfl, -⟩ := own_form ho8
    rw [bs_len] at ho8 ⊢
    have HO8 := Lib.hid ho8
    have HW8 := Lib.hid (own_below HO7.out hb8)
    have HG8 := Lib.hid (HG7.out.below hb8)
    have HPU := Lib.hid (punch_any HG8.out.b (N : Int) (M : Int) (by have := HNM.out; omega))
    rw [ft_iff.2 (by have := HNM.out; omega : (0 : Int) ≤ (N : Int) ∧ (0 : Int) ≤ (M : Int) ∧ (N : Int) + (M : Int) ≤ 1048576)] at HPU
    have HBS : Hid (w7.heap.size ≤ w8.heap.size ∧ w.heap.size ≤ w7.heap.size) := Lib.hid ⟨hb8.size, HG7.out.bl.size⟩
    clear ho8 hb8
    go_wp2_with fail
    refine HPU.out.mono ?_
    rintro e w9 ⟨rfl, hs9, hk9⟩
    have HO9 := Lib.hid (hk9.own HG8.out.b HO8.out (by decide))
    have HW9 := Lib.hid (hk9.own HG8.out.b HW8.out (by decide))
    have HG9 := Lib.hid (HG8.out.chb hs9 hk9)
    have HB9 : Hid (w7.heap.size ≤ w9.heap.size) := Lib.hid (Nat.le_trans HBS.out.1 hk9.size)
    have hrc := read_any HG9.out.b (N : Int) (M : Int) (by have := HNM.out; omega)
    have hz3 := gone_punch (T := T) (by have := HNM.out; omega : N + M ≤ 1048576)
    obtain ⟨l3, hl3⟩ : ∃ l, rd (punchI T (N : Int) (M : Int)) (N : Int) (M : Int) = l := ⟨_, rfl⟩
    rw [hl3] at hrc hz3
    have hm3 : l3.length ≤ M := by
      rw [← hl3]
      unfold rd
      split
      · exact Nat.zero_le _
      · rw [List.length_take, Int.toNat_natCast]; omega
    have HRC := Lib.hid hrc
    have HZ3 : Hid ((∀ u ∈ l3, u = 0) ∧ l3.length ≤ M) := Lib.hid ⟨hz3, hm3⟩
    clear hs9 hk9 hrc hz3 hl3 hm3
    go_wp2_with fail
    refine HRC.out.mono ?_
    rintro e w10 ⟨v10, rfl, ho10, hb10⟩
    obtain ⟨W10, c10, rfl, -⟩ := own_form ho10
    have HO10 := Lib.hid ho10
    have HQ10 := Lib.hid (own_below HO9.out hb10)
    have HV10 := Lib.hid (own_below HW9.out hb10)
    have HG10 := Lib.hid (HG9.out.below hb10)
    have HB10 : Hid (w7.heap.size ≤ w10.heap.size) := Lib.hid (Nat.le_trans HB9.out hb10.size)
    clear ho10 hb10
    obtain ⟨K, hK⟩ : ∃ K, l1.length = K := ⟨_, rfl⟩
    rw [hK] at HV10 ⊢
    have HKK : Hid (K = min N T.n ∧ K ≤ k ∧ l1.length = K ∧ k ≤ 40000) := Lib.hid (by have := HL1.out.2; have := HK.out; have := HNM.out; omega)
    obtain ⟨hh1, hh2⟩ := head_any HQ10.out HKK.out.2.1
    have hl1k : (bs f2 k).take K = l1 := by
      rw [bs_take, ← HL1.out.1, show min K k = min N T.n by have := HKK.out; omega]
      exact bs_congr (fun i hi => HF2.out.1 i hi)
    obtain ⟨str, hstr⟩ : ∃ s, sB l1 = s := ⟨_, rfl⟩
    have hne := str_ne str
    have HCV : Hid (∀ W, Below w10.heap.size w10 W → (convert 27 9 (.slice W8 K c8)).run Try.prog W = .ok (.string str) W ∧ (convert 27 9 (.slice W5 K c5)).run Try.prog W = .ok (.string str) W) := Lib.hid (fun W hW => by
      rw [← hstr]
      refine ⟨?_, conv_rd (c := c5) ((Rd.of_own HV10.out (fun _ _ => rfl) (by omega)).below hW)⟩
      have h9 : w10.ownsRow w7.heap.size 5 1 (.slice W8 K c8) K (l1.flatMap bcell) := by
        have h8 := hh1
        rw [show (bcells (bs f2 k)).take K = bcells ((bs f2 k).take K) by rw [bcells_map, bcells_map, List.map_take], hl1k] at h8
        exact h8
      exact conv_rd (c := c8) ((Rd.of_own h9 (fun _ _ => rfl) (by omega)).below hW))
    have HOB := Lib.hid HB10.out
    clear hK hh1 hl1k hstr
    go_upto_region 13 with fail
    have HD := Lib.hid (fun j => HCV.out (w10.drewN j) (below_drewN (Below.refl _ _) j))
    have hcv1 := fun j => (HD.out j).1
    have hcv2 := fun j => (HD.out j).2
    have hcv3 := (HCV.out w10.drew (Below.refl _ _).drew).1
    have hcv4 := (HCV.out w10.drew (Below.refl _ _).drew).2
    have hcv5 := (HCV.out w10 (Below.refl _ _)).1
    have hcv6 := (HCV.out w10 (Below.refl _ _)).2
    go_quiet (fail)
    obtain ⟨w11, hw11⟩ : ∃ V, V = w10.drewN nq := ⟨_, rfl⟩
    rw [← hw11]
    have hb11 : Below w10.heap.size w10 w11 := by rw [hw11]; exact below_drewN (Below.refl _ _) nq
    have HG11 := Lib.hid (HG10.out.below hb11)
    have HB11 : Hid (w7.heap.size ≤ w11.heap.size ∧ w.heap.size ≤ w7.heap.size) := Lib.hid ⟨Nat.le_trans HB10.out hb11.size, HBS.out.2⟩
    obtain ⟨A1, hsl, A3, c3, w12, hap, hrd, hb12⟩ := append_part (k := K) (own_below HQ10.out hb11) HB11.out.1 HKK.out.2.1 ((Rd.of_own (c := c10) HO10.out (fun _ _ => rfl) (by omega)).below hb11) (c2 := c10) (by have := HZ3.out.2; have := HKK.out; have := HNM.out; omega)
    obtain ⟨L, hL⟩ : ∃ L, k - K + l3.length = L := ⟨_, rfl⟩
    rw [hL] at hap hrd
    have HZ : Hid (∀ u ∈ (bs f2 k).drop K ++ l3, u = 0) := Lib.hid (fun u hu => by
      rcases List.mem_append.1 hu with hu | hu
      · obtain ⟨i, hi, rfl⟩ := List.getElem_of_mem hu
        rw [List.length_drop, bs_len] at hi
        rw [List.getElem_drop]
        have e : (bs f2 k)[K + i]'(by rw [bs_len]; omega) = f2 (K + i) := by unfold bs; rw [List.getElem_map, List.getElem_range]
        rw [e]
        exact HF2.out.2 (K + i) (by have := HKK.out; omega)
      · exact HZ3.out.1 u hu)
    have HRD := Lib.hid hrd
    have HLL : Hid (L ≤ 100000) := Lib.hid (by have := HZ3.out.2; have := HKK.out; have := HNM.out; omega)
    have HB12 : Hid (Below w.heap.size w w12) := Lib.hid (HG11.out.bl.trans (hb12.mono HB11.out.2))
    have hk0 : (0 : Int) ≤ (K : Int) := by omega
    have hkk : (K : Int) ≤ (k : Int) := by have := HKK.out; omega
    have HAP := Lib.hid hap
    clear hw11 hb11 hrd hb12 hL hcv1 hcv2 hcv3 hcv4 hcv5 hcv6 hh2 hap
    go_wp2_with (at_builtin; refine wpList_append_run rfl _ _ 27 rfl _ _ rfl rfl _ _ HAP.out ?_)
    go_loopw [110] (fun v wr => ∃ j : Nat, j ≤ L ∧ v = .int .i64 (j : Int) ∧ wr = w12) (fun v _ => L - (intOf v).toNat)
    case atStart => exact ⟨0, Nat.zero_le _, rfl, rfl⟩
    case round =>
      obtain ⟨j, hj, rfl, rfl⟩ := hrel
      by_cases hlt : j < L
      · obtain ⟨b9, o9, u9, rfl, hu9, hc9⟩ := HRD.out.at hlt
        have hz9 : u9 = 0 := HZ.out u9 (List.mem_of_getElem? hu9)
        subst hz9
        have x0 := hc9 0 (.int .u8 0) rfl
        rw [Nat.mul_one, Nat.add_zero] at x0
        have hj0 : (0 : Int) ≤ (j : Int) := by omega
        have hji : (j : Int) < (L : Int) := by omega
        obtain ⟨j1, hj1⟩ : ∃ j1, j + 1 = j1 := ⟨_, rfl⟩
        have hwj : IntKind.i64.wrap ((j : Int) + 1) = (j1 : Int) := by rw [IntKind.wrap_i64]; have := HLL.out; omega
        have HJ : Hid (j < L ∧ j + 1 = j1) := Lib.hid ⟨hlt, hj1⟩
        clear hlt hj hj1 hu9 hc9
        go_wp2_with fail
        go_roundw
        case rel => exact ⟨j1, by have := HJ.out; omega, rfl, trivial⟩
        case measure => simp [intOf]; have := HJ.out; omega
      · obtain rfl : j = L := by omega
        have hji : ¬ (j : Int) < (j : Int) := by omega
        clear hlt hj
        go_wp2_with fail
        refine (HAL.out _ HB12.out).mono ?_
        rintro e w' ⟨rfl, hb9⟩
        have HE : Hid (LwPost w (.returned (.bool true)) w') := Lib.hid ⟨rfl, hb9⟩
        clear hb9
        go_wp2_with fail
        go_ret
        exact HE.out
end Go.Proofs.Ytoallenigfbkpaa
