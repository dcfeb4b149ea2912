/-
  What the law PlatterWhole returns of a script that reads: true, and older memory is as it was. No condition.
-/
import Derived.Test.YtogofgfdkkjnlaaLaw2
import Derived.Test.YtogofgfdkkjnlaaSecs
namespace Go.Proofs.Ytogofgfdkkjnlaa
open Go.ChangeShapes Go.WideShapes Go.ChangeAt Go.RowKit

theorem crash_torn {D : Dk} (h : Dok D) {K : Nat} (hK : K < D.wait.length) : crashL D.firm D.wait K 64 = crashL D.firm D.wait (K + 1) 0 := by
  have hw := h.2.1 _ (List.getElem_mem hK)
  have h1 : crashL D.firm D.wait K 64 = ups D.firm (D.wait.take (K + 1)) := by
    have ho : Sok ((ups D.firm (D.wait.take K)).getD D.wait[K].1 []) := lok_getD (lok_ups h.1 (wok_take K h.2.1)) (by rw [ups_length]; exact hw.1)
    have e1 : D.wait[K].2.take 64 = D.wait[K].2 := List.take_of_length_le (by rw [hw.2.1]; exact Nat.le_refl _)
    have e2 : ((ups D.firm (D.wait.take K)).getD D.wait[K].1 []).drop 64 = [] := List.drop_eq_nil_of_le (by rw [ho.1]; exact Nat.le_refl _)
    unfold crashL
    rw [if_pos hK, getD_eq _ hK, ups_succ _ _ _ hK]
    unfold tearL put1
    rw [e1, e2, List.append_nil]
  rw [h1]
  unfold crashL
  by_cases h2 : K + 1 < D.wait.length
  · rw [if_pos h2]
    unfold tearL
    rw [List.take_zero, List.drop_zero, List.nil_append, set_getD_self]
  · rw [if_neg h2, List.take_of_length_le (by omega)]
theorem cur_crash (D : Dk) (keep tear : Int) : cur (crash D keep tear) = crashL D.firm D.wait (kp keep) (tr tear) := rfl
theorem crash_whole {D : Dk} (h : Dok D) {keep : Int} (h0 : 0 ≤ keep) (hk : keep < (D.wait.length : Int)) : cur (crash D keep 64) = cur (crash D (keep + 1) 0) := by
  rw [cur_crash, cur_crash]
  have e1 : tr 64 = 64 := rfl
  have e2 : tr 0 = 0 := rfl
  have e3 : kp (keep + 1) = kp keep + 1 := by unfold kp; omega
  rw [e1, e2, e3]
  exact crash_torn h (by unfold kp; omega)
theorem crash_twice (D : Dk) (keep tear a b : Int) : cur (crash (crash D keep tear) a b) = cur (crash D keep tear) := by
  rw [cur_crash (crash D keep tear)]
  unfold crashL
  rw [if_neg (by simp [crash])]
  rfl
structure Four (w wr : World) (g0 g1 g2 g3 : Nat) (C E : List (List Int)) : Prop where
  a0 : WordsAt wr g0 C
  a1 : WordsAt wr g1 C
  a2 : WordsAt wr g2 E
  a3 : WordsAt wr g3 E
  below : Below w.heap.size w wr
theorem Four.drew {w wr : World} {g0 g1 g2 g3 : Nat} {C E : List (List Int)} (h : Four w wr g0 g1 g2 g3 C E) (n : Nat) : Four w (wr.drewN n) g0 g1 g2 g3 C E :=
  have hb : Below wr.heap.size wr (wr.drewN n) := below_drewN (Below.refl _ _) n
  ⟨h.a0.kept hb, h.a1.kept hb, h.a2.kept hb, h.a3.kept hb, below_drewN h.below n⟩
set_option maxHeartbeats 2000000 in
theorem law_whole (ad : Option Addr) (len cap : Nat) (os : List Opr) (keep tear : Int) (w : World) (hO : OReads w w.heap.size ad len os) :
    Calls Try.prog 7 #[.slice ad len cap, .int .i64 keep, .int .i64 tear] w fun e w' => e = .returned (.bool true) ∧ Below w.heap.size w w' := by
  by_cases h200 : 200 < len
  · have h200' := more_than len h200
    clear hO
    go_enter Try.func7, Try.ntmps7
    go_wp2_with fail
    refine (alive_any _).mono ?_
    rintro e w2 ⟨rfl, hb2⟩
    go_wp2
    go_ret
    exact ⟨rfl, hb2⟩
  have h200' : ¬ (200 : Int) < (len : Int) := by omega
  by_cases hneg : keep < 0
  · clear hO
    go_enter Try.func7, Try.ntmps7
    go_wp2_with fail
    refine (alive_any _).mono ?_
    rintro e w2 ⟨rfl, hb2⟩
    go_wp2
    go_ret
    exact ⟨rfl, hb2⟩
  by_cases hbig : 1000 < keep
  · clear hO
    go_enter Try.func7, Try.ntmps7
    go_wp2_with fail
    refine (alive_any _).mono ?_
    rintro e w2 ⟨rfl, hb2⟩
    go_wp2
    go_ret
    exact ⟨rfl, hb2⟩
  have hol : os.length ≤ 200 := by have := hO.1; omega
  have HP := Lib.hid (plays_any 8 8 ad len cap os w hO (by decide) (.inr rfl) (by omega))
  clear hO
  go_enter Try.func7, Try.ntmps7
  go_wp2_with fail
  refine HP.out.mono ?_
  rintro e w1 ⟨p, Af, cf, Aw, cw, D, rfl, -, hpd, -, hok, hfl, hwl, hb1⟩
  have hb2 := box_below w1 (.cells #[.slice Af D.firm.length cf, .slice Aw D.wait.length cw, .int .i64 D.armed, .bool D.dead] 28)
  obtain ⟨m, hm⟩ : ∃ m, m = D.wait.length := ⟨_, rfl⟩
  have HM := Lib.hid hm
  have hbx := new_block w1 (.cells #[.slice Af D.firm.length cf, .slice Aw D.wait.length cw, .int .i64 D.armed, .bool D.dead] 28)
  rw [← hm] at hbx hb2
  have v1 := cell_of hbx (j := 1) rfl
  have HPD := Lib.hid (hpd.kept hb2)
  have HB2 := Lib.hid (hb1.trans (hb2.mono hb1.size))
  have HOK := Lib.hid hok
  have HFL := Lib.hid hfl
  have HWL := Lib.hid (show m ≤ 200 by omega)
  rw [← hm]
  clear hb1 hb2 hpd hok hfl hwl hbx hm
  by_cases hkm : (m : Int) ≤ keep
  · go_wp2_with fail
    refine (alive_any _).mono ?_
    rintro e w3 ⟨rfl, hb3⟩
    have HB3 := Lib.hid (HB2.out.trans (hb3.mono HB2.out.size))
    clear hb3
    go_wp2
    go_ret
    exact ⟨rfl, HB3.out⟩
  have HF8 := Lib.hid (show D.firm.length ≤ 65536 by rw [HFL.out]; decide)
  have HW8 := Lib.hid (show D.wait.length ≤ 100000 by have := HWL.out; have := HM.out; omega)
  obtain ⟨w2, hw2⟩ : ∃ w2, w2 = w1.alloc (.cells #[.slice Af D.firm.length cf, .slice Aw m cw, .int .i64 D.armed, .bool D.dead] 28) := ⟨_, rfl⟩
  rw [← hw2] at HPD HB2 v1
  go_wp2_with fail
  try rw [← hw2]
  clear hw2
  refine (crash_any w.heap.size p D keep 64 w2 HPD.out HF8.out HW8.out).mono ?_
  rintro e w3 ⟨q1, rfl, hp1, hb3⟩
  have HB3 := Lib.hid (HB2.out.trans (hb3.mono HB2.out.size))
  have HPD3 := Lib.hid (HPD.out.kept hb3)
  have HP1 := Lib.hid hp1
  clear hp1 hb3 v1
  go_wp2_with fail
  refine (crash_any w.heap.size p D (keep + 1) 0 w3 HPD3.out HF8.out HW8.out).mono ?_
  rintro e w4 ⟨q2, rfl, hp2, hb4⟩
  have HB4 := Lib.hid (HB3.out.trans (hb4.mono HB3.out.size))
  have HPD4 := Lib.hid (HPD3.out.kept hb4)
  have HP14 := Lib.hid (HP1.out.kept hb4)
  have HP2 := Lib.hid hp2
  clear hp2 hb4
  go_wp2_with fail
  refine (crash_any w.heap.size p D keep tear w4 HPD4.out HF8.out HW8.out).mono ?_
  rintro e w5 ⟨q3, rfl, hp3, hb5⟩
  have HB5 := Lib.hid (HB4.out.trans (hb5.mono HB4.out.size))
  have HP15 := Lib.hid (HP14.out.kept hb5)
  have HP25 := Lib.hid (HP2.out.kept hb5)
  have HP3 := Lib.hid hp3
  clear hp3 hb5
  go_wp2_with fail
  refine (crash_any _ q3 (crash D keep tear) tear keep w5 HP3.out (by rw [show (crash D keep tear).firm.length = D.firm.length from crash_length _ _ _ _]; exact HF8.out) (by show (0 : Nat) ≤ 100000; decide)).mono ?_
  rintro e w6 ⟨q4, rfl, hp4, hb6⟩
  have HB6 := Lib.hid (HB5.out.trans (hb6.mono HB5.out.size))
  have HP16 := Lib.hid (HP15.out.kept hb6)
  have HP26 := Lib.hid (HP25.out.kept hb6)
  have HP36 := Lib.hid (HP3.out.kept hb6)
  have HP4 := Lib.hid hp4
  have L1 := Lib.hid (show (crash D keep 64).firm.length = 8 from (crash_length _ _ _ _).trans HFL.out)
  have L2 := Lib.hid (show (crash D (keep + 1) 0).firm.length = 8 from (crash_length _ _ _ _).trans HFL.out)
  have L3 := Lib.hid (show (crash D keep tear).firm.length = 8 from (crash_length _ _ _ _).trans HFL.out)
  have L4 := Lib.hid (show (crash (crash D keep tear) tear keep).firm.length = 8 from (crash_length (crash D keep tear).firm [] (kp tear) (tr keep)).trans L3.out)
  have E1 := Lib.hid (crash_whole HOK.out (keep := keep) (by omega) (by rw [← HM.out]; omega))
  have E2 := Lib.hid (crash_twice D keep tear tear keep)
  clear hp4 hb6
  have HS1 := Lib.hid (secs_any _ q1 (crash D keep 64) w6 HP16.out rfl (by rw [L1.out]; decide))
  go_wp2_with fail
  refine HS1.out.mono ?_
  rintro e w7 ⟨y1, rfl, ho1, hb7⟩
  obtain ⟨A1, c1, rfl, hl1, hm1, hg1⟩ := own_form ho1
  obtain ⟨g1, rfl⟩ := hg1 (by rw [L1.out]; decide)
  rw [L1.out] at ho1 ⊢
  have hw1 := words_of ho1 ((cur_len _).trans L1.out) (by decide)
  have HB7 := Lib.hid (HB6.out.trans (hb7.mono HB6.out.size))
  have HS2 := Lib.hid (secs_any _ q2 (crash D (keep + 1) 0) w7 (HP26.out.kept hb7) rfl (by rw [L2.out]; decide))
  have HP37 := Lib.hid (HP36.out.kept hb7)
  have HP47 := Lib.hid (HP4.out.kept hb7)
  have HW1 := Lib.hid hw1
  clear ho1 hb7 hw1 hl1 hm1 hg1
  go_wp2_with fail
  refine HS2.out.mono ?_
  rintro e w8 ⟨y2, rfl, ho1, hb8⟩
  obtain ⟨A2, c2, rfl, hl1, hm1, hg1⟩ := own_form ho1
  obtain ⟨g2, rfl⟩ := hg1 (by rw [L2.out]; decide)
  rw [L2.out] at ho1 ⊢
  have hw1 := words_of ho1 ((cur_len _).trans L2.out) (by decide)
  have HB8 := Lib.hid (HB7.out.trans (hb8.mono HB7.out.size))
  have HS3 := Lib.hid (secs_any _ q3 (crash D keep tear) w8 (HP37.out.kept hb8) rfl (by rw [L3.out]; decide))
  have HP48 := Lib.hid (HP47.out.kept hb8)
  have HW18 := Lib.hid (HW1.out.kept hb8)
  have HW2 := Lib.hid hw1
  clear ho1 hb8 hw1 hl1 hm1 hg1
  go_wp2_with fail
  refine HS3.out.mono ?_
  rintro e w9 ⟨y3, rfl, ho1, hb9⟩
  obtain ⟨A3, c3, rfl, hl1, hm1, hg1⟩ := own_form ho1
  obtain ⟨g3, rfl⟩ := hg1 (by rw [L3.out]; decide)
  rw [L3.out] at ho1 ⊢
  have hw1 := words_of ho1 ((cur_len _).trans L3.out) (by decide)
  have HB9 := Lib.hid (HB8.out.trans (hb9.mono HB8.out.size))
  have HS4 := Lib.hid (secs_any _ q4 (crash (crash D keep tear) tear keep) w9 (HP48.out.kept hb9) rfl (by rw [L4.out]; decide))
  have HW19 := Lib.hid (HW18.out.kept hb9)
  have HW29 := Lib.hid (HW2.out.kept hb9)
  have HW3 := Lib.hid hw1
  clear ho1 hb9 hw1 hl1 hm1 hg1
  go_wp2_with fail
  refine HS4.out.mono ?_
  rintro e wa ⟨y4, rfl, ho1, hba⟩
  obtain ⟨A4, c4, rfl, hl1, hm1, hg1⟩ := own_form ho1
  obtain ⟨g4, rfl⟩ := hg1 (by rw [L4.out]; decide)
  rw [L4.out] at ho1 ⊢
  have hw1 := words_of ho1 ((cur_len _).trans L4.out) (by decide)
  rw [E2.out] at hw1
  obtain ⟨C, hC⟩ : ∃ C, C = cur (crash D (keep + 1) 0) := ⟨_, rfl⟩
  obtain ⟨E, hE⟩ : ∃ E, E = cur (crash D keep tear) := ⟨_, rfl⟩
  have HFO : Hid (Four w wa g1 g2 g3 g4 C E) := Lib.hid ⟨by rw [hC, ← E1.out]; exact HW19.out.kept hba, by rw [hC]; exact HW29.out.kept hba, by rw [hE]; exact HW3.out.kept hba, by rw [hE]; exact hw1, HB9.out.trans (hba.mono HB9.out.size)⟩
  have HCL : Hid (C.length = 8) := Lib.hid (by rw [hC, cur_len]; exact L2.out)
  have HEL : Hid (E.length = 8) := Lib.hid (by rw [hE, cur_len]; exact L3.out)
  clear ho1 hba hw1 hl1 hm1 hg1 hC hE E1 E2 HS1 HS2 HS3 HS4
  go_wp2
  go_loopw [87] (fun vi wr => ∃ k : Nat, k ≤ 8 ∧ vi = .int .i64 (k : Int) ∧ Four w wr g1 g2 g3 g4 C E) (fun vi _ => 8 - (intOf vi).toNat)
  case atStart => exact ⟨0, by omega, rfl, HFO.out⟩
  case round =>
    obtain ⟨k, hk, rfl, hf⟩ := hrel
    have HF := Lib.hid hf
    by_cases hlt : k < 8
    · have hk0 : (0 : Int) ≤ (k : Int) := by omega
      have hk1 : (k : Int) < 8 := by omega
      have r1 := hf.a0.2 k (by rw [HCL.out]; exact hlt)
      have r2 := hf.a1.2 k (by rw [HCL.out]; exact hlt)
      have r3 := hf.a2.2 k (by rw [HEL.out]; exact hlt)
      have r4 := hf.a3.2 k (by rw [HEL.out]; exact hlt)
      obtain ⟨S1, hS1⟩ : ∃ S, S = strOfNums (C.getD k []) := ⟨_, rfl⟩
      obtain ⟨S2, hS2⟩ : ∃ S, S = strOfNums (E.getD k []) := ⟨_, rfl⟩
      rw [← hS1] at r1 r2
      rw [← hS2] at r3 r4
      have HNX : Hid (∀ n : Nat, Four w (wr.drewN n) g1 g2 g3 g4 C E) := Lib.hid (fun n => hf.drew n)
      clear hf hS1 hS2
      go_wp2
      go_quiet (fail)
      go_wp2
      go_roundw
      case rel => exact ⟨k + 1, by omega, rfl, HNX.out _⟩
      case measure => simp [intOf] <;> omega
    · obtain rfl : k = 8 := by omega
      clear hf
      go_wp2_with fail
      refine (alive_any _).mono ?_
      rintro e w7 ⟨rfl, hb7⟩
      have HB7 := Lib.hid (HF.out.below.trans (hb7.mono HF.out.below.size))
      clear hb7
      go_wp2
      go_ret
      exact ⟨rfl, HB7.out⟩
end Go.Proofs.Ytogofgfdkkjnlaa
