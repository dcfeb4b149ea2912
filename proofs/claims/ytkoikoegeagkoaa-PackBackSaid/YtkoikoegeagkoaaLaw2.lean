/-
  What the laws PackReads and PackAgain return of slices that read: true, and older memory is as it was. Condition: the bytes take no more than any input may.
-/
import Derived.Test.YtkoikoegeagkoaaLaw1
namespace Go.Proofs.Ytkoikoegeagkoaa
open Go.ChangeShapes Go.WideShapes Go.ChangeAt Go.RowKit

theorem sm_len {ks zs : List Int} (hB : Bys zs) : (sm ks zs).l.length ≤ ks.length := by
  cases h : sm ks zs with
  | bad e => simp [Sm.l]
  | good l n => have := (sm_good hB h).2.2.2; simp only [Sm.l]; omega
theorem dc_len {ks zs : List Int} (hB : Bys zs) : (dc ks zs).l.length ≤ ks.length := by
  cases h : dc ks zs with
  | bad e => simp [Sm.l]
  | good l n => have := (dc_good hB h).2.2; simp only [Sm.l]; omega
set_option maxHeartbeats 1000000 in
theorem law_reads (ka ba : Option Addr) (len kcap blen bcap : Nat) (ks zs : List Int) (w : World) (hK : Reads .i64 w ka len ks) (hR : Reads .u8 w ba blen zs) (hB : Bys zs) (hc : blen ≤ bcap) (hcm : bcap ≤ 140737488351232) :
    Calls Try.prog 4 #[.slice ka len kcap, .slice ba blen bcap] w fun e w' => e = .returned (.bool true) ∧ Below w.heap.size w w' := by
  have HK := Lib.hid hK
  have HR := Lib.hid hR
  have HB := Lib.hid hB
  have hk := hK.1
  clear hK hR hB
  by_cases h300 : 300 < len
  · have h300' := many len h300
    clear hk
    go_enter Try.func4, Try.ntmps4
    go_wp2_with fail
    refine (alive_any _).mono ?_
    rintro e w2 ⟨rfl, hb2⟩
    go_wp2
    go_ret
    exact ⟨rfl, hb2⟩
  have h300' : ¬ (300 : Int) < (len : Int) := by omega
  have hm : len ≤ 4294967296 := by omega
  have hcM : bcap ≤ maxLen := by unfold maxLen; omega
  have hc61 : bcap ≤ 2305843009213693952 := by omega
  have hdl : (dc ks zs).l.length ≤ 4294967296 := by have := dc_len (ks := ks) HB.out; omega
  have hsl : (sm ks zs).l.length ≤ 4294967296 := by have := sm_len (ks := ks) HB.out; omega
  have HCM := Lib.hid hcM
  have HC61 := Lib.hid hc61
  have HDL := Lib.hid hdl
  have HSL := Lib.hid hsl
  clear hk hcM hc61 hdl hsl h300 hcm
  go_enter Try.func4, Try.ntmps4
  go_wp2_with fail
  refine (decode_any _ _ _ _ _ _ ks zs _ HK.out HR.out HB.out hm hc HCM.out).mono ?_
  rintro e w1 ⟨A1, c1, rfl, hf1, hb1⟩
  have HB1 := Lib.hid hb1
  have HF1 := Lib.hid hf1
  clear hf1 hb1
  go_wp2_with fail
  refine (rdecode_any _ _ _ _ _ _ ks zs _ (HK.out.kept HB1.out) (HR.out.kept HB1.out) HB.out hm hc HC61.out).mono ?_
  rintro e w2 ⟨A2, c2, rfl, hf2, hb2⟩
  have HB2 := Lib.hid (HB1.out.trans (hb2.mono HB1.out.size))
  have HF1b := Lib.hid (HF1.out.kept hb2)
  have HF2 := Lib.hid hf2
  clear hf2 hb2
  go_wp2_with fail
  refine (some_any _ _ _ _ _ _ ks zs _ (HK.out.kept HB2.out) (HR.out.kept HB2.out) HB.out hm hc HCM.out).mono ?_
  rintro e w3 ⟨A3, c3, rfl, hf3, hb3⟩
  have HB3 := Lib.hid (HB2.out.trans (hb3.mono HB2.out.size))
  have HF1c := Lib.hid (HF1b.out.kept hb3)
  have HF2c := Lib.hid (HF2.out.kept hb3)
  have HF3 := Lib.hid hf3
  clear hf3 hb3
  go_wp2_with fail
  refine (rsome_any _ _ _ _ _ _ ks zs _ (HK.out.kept HB3.out) (HR.out.kept HB3.out) HB.out hm hc HC61.out).mono ?_
  rintro e w4 ⟨A4, c4, rfl, hf4, hb4⟩
  have HB4 := Lib.hid (HB3.out.trans (hb4.mono HB3.out.size))
  have HF1d := Lib.hid (HF1c.out.kept hb4)
  have HF2d := Lib.hid (HF2c.out.kept hb4)
  have HF3d := Lib.hid (HF3.out.kept hb4)
  have HF4 := Lib.hid hf4
  clear hf4 hb4
  obtain ⟨er, hE⟩ : ∃ er, er = (dc ks zs).e := ⟨_, rfl⟩
  obtain ⟨es, hS⟩ : ∃ er, er = (sm ks zs).e := ⟨_, rfl⟩
  obtain ⟨sn, hN⟩ : ∃ er, er = (sm ks zs).n := ⟨_, rfl⟩
  rw [← hE, ← hS, ← hN]
  clear hE hS hN
  go_wp2_with fail
  refine (alive_any _).mono ?_
  rintro e w5 ⟨rfl, hb5⟩
  have HB5 := Lib.hid (HB4.out.trans (hb5.mono HB4.out.size))
  have HF1e := Lib.hid (HF1d.out.kept hb5)
  have HF2e := Lib.hid (HF2d.out.kept hb5)
  have HF3e := Lib.hid (HF3d.out.kept hb5)
  have HF4e := Lib.hid (HF4.out.kept hb5)
  clear hb5
  go_wp2_with fail
  refine (same_any _ _ _ _ _ _ _ HF1e.out HF2e.out HDL.out).mono ?_
  rintro e w6 ⟨rfl, hb6⟩
  have HB6 := Lib.hid (HB5.out.trans (hb6.mono HB5.out.size))
  have HF3f := Lib.hid (HF3e.out.kept hb6)
  have HF4f := Lib.hid (HF4e.out.kept hb6)
  clear hb6
  go_wp2_with fail
  refine (same_any _ _ _ _ _ _ _ HF3f.out HF4f.out HSL.out).mono ?_
  rintro e w7 ⟨rfl, hb7⟩
  have HB7 := Lib.hid (HB6.out.trans (hb7.mono HB6.out.size))
  clear hb7
  go_wp2
  go_ret
  exact ⟨rfl, HB7.out⟩
set_option maxHeartbeats 1000000 in
theorem law_again (ka ba : Option Addr) (len kcap blen bcap : Nat) (ks zs : List Int) (w : World) (hK : Reads .i64 w ka len ks) (hR : Reads .u8 w ba blen zs) (hB : Bys zs) (hc : blen ≤ bcap) (hcm : bcap ≤ 140737488351232) :
    Calls Try.prog 6 #[.slice ka len kcap, .slice ba blen bcap] w fun e w' => e = .returned (.bool true) ∧ Below w.heap.size w w' := by
  have HK := Lib.hid hK
  have HR := Lib.hid hR
  have HB := Lib.hid hB
  have hk := hK.1
  clear hK hR hB
  by_cases h300 : 300 < len
  · have h300' := many len h300
    clear hk
    go_enter Try.func6, Try.ntmps6
    go_wp2_with fail
    refine (alive_any _).mono ?_
    rintro e w2 ⟨rfl, hb2⟩
    go_wp2
    go_ret
    exact ⟨rfl, hb2⟩
  have h300' : ¬ (300 : Int) < (len : Int) := by omega
  have hm : len ≤ 4294967296 := by omega
  have HCM : Hid (bcap ≤ maxLen) := Lib.hid (by unfold maxLen; omega)
  have hdl : (dc ks zs).l.length ≤ 4294967296 := by have := dc_len (ks := ks) HB.out; omega
  have HDL := Lib.hid hdl
  clear hk hdl h300 hcm
  cases hd : dc ks zs with
  | bad er =>
    have hne : (er != 0) = true := by
      simp only [dc] at hd
      split at hd
      · rename_i hs; injection hd with hd; subst hd; simpa using sm_bad_ne hs
      · split at hd
        · injection hd with hd; subst hd; decide
        · cases hd
    have HC := Lib.hid (decode_any ka ba len kcap blen bcap ks zs w HK.out HR.out HB.out hm hc HCM.out)
    rw [hd] at HC
    clear hd HDL
    go_enter Try.func6, Try.ntmps6
    go_wp2_with fail
    refine HC.out.mono ?_
    rintro e w1 ⟨A1, c1, rfl, hf1, hb1⟩
    simp only [Sm.e, Sm.l, List.length_nil]
    have HB1 := Lib.hid hb1
    clear hf1 hb1
    go_wp2_with fail
    refine (alive_any _).mono ?_
    rintro e w2 ⟨rfl, hb2⟩
    have HB2 := Lib.hid (HB1.out.trans (hb2.mono HB1.out.size))
    clear hb2
    go_wp2
    go_ret
    exact ⟨rfl, HB2.out⟩
  | good l n =>
    obtain ⟨he, hb, hl⟩ := dc_good HB.out hd
    have HC := Lib.hid (decode_any ka ba len kcap blen bcap ks zs w HK.out HR.out HB.out hm hc HCM.out)
    rw [hd] at HC HDL
    have HE := Lib.hid he
    have hen : encB l = zs := by unfold encB; rw [if_pos he, hb]
    have HEN := Lib.hid hen
    clear hd he hb hl hen
    go_enter Try.func6, Try.ntmps6
    go_wp2_with fail
    refine HC.out.mono ?_
    rintro e w1 ⟨A1, c1, rfl, hf1, hb1⟩
    have HB1 := Lib.hid hb1
    have HF1 := Lib.hid hf1
    simp only [Sm.e, Sm.l]
    clear hf1 hb1
    go_wp2_with fail
    refine (encode_any _ _ _ l _ HF1.out HDL.out).mono ?_
    rintro e w2 ⟨A2, n2, c2, rfl, hn2, hrd2, hnc2, hcm2, hb2⟩
    rw [HEN.out] at hrd2
    rw [HE.out]
    have HB2 := Lib.hid (HB1.out.trans (hb2.mono HB1.out.size))
    have HRD2 := Lib.hid hrd2
    clear hn2 hrd2 hb2
    go_wp2_with fail
    refine (alive_any _).mono ?_
    rintro e w3 ⟨rfl, hb3⟩
    have HB3 := Lib.hid (HB2.out.trans (hb3.mono HB2.out.size))
    have d1 := conv_reads (c := c2) (HRD2.out.kept hb3)
    have d2 := conv_reads (c := bcap) (HR.out.kept HB3.out)
    obtain ⟨S, hS⟩ : ∃ S, S = strOfNums zs := ⟨_, rfl⟩
    rw [← hS] at d1 d2
    clear hb3 hS
    go_wp2
    go_ret
    exact ⟨rfl, HB3.out⟩
end Go.Proofs.Ytkoikoegeagkoaa
