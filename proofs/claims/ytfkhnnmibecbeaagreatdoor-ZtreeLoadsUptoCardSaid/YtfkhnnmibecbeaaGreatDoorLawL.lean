/-
  ZtreeLoads returns true. Conditions: memory holds the list and the script, which is not long; no path is very long.
-/
import Derived.Test.YtfkhnnmibecbeaaGreatDoorLawA
import Derived.Test.YtfkhnnmibecbeaaGreatDoorLoadQ
import Derived.Test.YtfkhnnmibecbeaaGreatDoorCheckP
namespace Go.Proofs.YtfkhnnmibecbeaaGreatDoor
set_option maxRecDepth 100000
open Go.ChangeShapes Go.WideShapes Go.ChangeAt Go.RowKit Go.Proofs.Zn Go.Proofs.Zt

set_option maxHeartbeats 8000000 in
theorem loads_law {w : World} {Al : Option Addr} {nl cl : Nat} {L : Tr} (hL : Rd ncell 9 w Al nl L) (hlc : nl ≤ cl) (hcm : cl ≤ 9223372036854775807) (hLp : ∀ z ∈ L, z.path.length ≤ 2097152)
    {A : Option Addr} {n c : Nat} {l : List Opv} (h : Scr w A n l) (ht : tot l ≤ 10000000) (hsh : ∀ o ∈ l, ∀ c ∈ o.l, c.path.length ≤ 2097152) :
    Calls Tryz.prog 4 #[.slice Al nl cl, .slice A n c] w fun e w' => e = .returned (.bool true) ∧ Below w.heap.size w w' := by
  obtain rfl : nl = L.length := hL.len.symm
  have HLL := Lib.hid hL
  have HLC := Lib.hid hlc
  have HCM := Lib.hid hcm
  have HLP := Lib.hid hLp
  have HSC := Lib.hid h
  have HSHO := Lib.hid hsh
  have HFW := Lib.hid (few_any (c := c) h (by omega))
  obtain ⟨f, hf⟩ : ∃ f, decide (tot l ≤ 300) = f := ⟨_, rfl⟩
  rw [hf] at HFW
  have HF := Lib.hid hf
  have HNT : Hid (n ≤ tot l) := Lib.hid (by rw [← h.rd.len]; exact tot_len l)
  have HB0 : Hid (Below w.heap.size w w) := Lib.hid (Below.refl _ _)
  clear hL hlc hcm hLp h hsh hf ht
  by_cases h250 : 250 < L.length
  · have h250' : (250 : Int) < (L.length : Int) := by omega
    clear h250
    go_enter Tryz.func4, Tryz.ntmps4
    have HAL := Lib.hid (alive_any w)
    go_wp2_with fail
    refine HAL.out.mono ?_
    rintro e wza ⟨rfl, hbz⟩
    have HBZ := Lib.hid (HB0.out.trans (hbz.mono HB0.out.size))
    clear hbz
    go_wp2_with fail
    go_ret
    exact ⟨rfl, HBZ.out⟩
  have h250' : ¬ (250 : Int) < (L.length : Int) := by omega
  have H250 := Lib.hid h250
  clear h250
  go_enter Tryz.func4, Tryz.ntmps4
  go_wp2_with fail
  refine HFW.out.mono ?_
  rintro e w1 ⟨rfl, hb1⟩
  have HB1 := Lib.hid hb1
  have HL1 := Lib.hid (HLL.out.below hb1)
  clear hb1
  cases f with
  | false =>
    have HAL := Lib.hid (alive_any w1)
    go_wp2_with fail
    refine HAL.out.mono ?_
    rintro e wzb ⟨rfl, hbz⟩
    have HBZ := Lib.hid (HB1.out.trans (hbz.mono HB1.out.size))
    clear hbz
    go_wp2_with fail
    go_ret
    exact ⟨rfl, HBZ.out⟩
  | true =>
    have HSH : Hid (Short l ∧ n ≤ 1000000) := Lib.hid (by
      have h300 : tot l ≤ 300 := by simpa using HF.out
      have := HNT.out
      exact ⟨fun o ho => ⟨by have := short_of ho; omega, HSHO.out o ho⟩, by omega⟩)
    have HLO := Lib.hid (load_any (c := cl) HL1.out (by have := H250.out; omega) (fun z hz => by have := HLP.out z hz; omega))
    have HCK : Hid (∀ W, Below w1.heap.size w1 W → Calls Tryz.prog 16 #[.slice Al L.length cl] W fun e w' => e = .returned (.int .i64 (chk L)) ∧ Below W.heap.size W w') := Lib.hid (fun W hW => rcheck_any (HL1.out.below hW) HLC.out HCM.out (by have := H250.out; omega) HLP.out)
    unfold LoPost at HLO
    obtain ⟨x, hx⟩ : ∃ x, chk L = x := ⟨_, rfl⟩
    rw [hx] at HLO HCK
    have HX := Lib.hid hx
    clear hx
    go_wp2_with fail
    refine HLO.out.mono ?_
    rintro e w2 ⟨hb2, hcase⟩
    have HB2 := Lib.hid (HB1.out.trans (hb2.mono HB1.out.size))
    have HC2 := Lib.hid (HCK.out w2 hb2)
    have HL2 := Lib.hid (HL1.out.below hb2)
    clear hb2
    rcases hcase with ⟨hne, rfl⟩ | ⟨h0, tp, mb, rfl, ht2, htp⟩
    · have tx : (x == 0) = false := by simpa using hne
      clear hne
      go_wp2_with fail
      refine HC2.out.mono ?_
      rintro e w3 ⟨rfl, hb3⟩
      have HB3 := Lib.hid (HB2.out.trans (hb3.mono HB2.out.size))
      clear hb3
      have HAL := Lib.hid (alive_any w3)
      go_wp2_with fail
      refine HAL.out.mono ?_
      rintro e wzc ⟨rfl, hbz⟩
      have HBZ := Lib.hid (HB3.out.trans (hbz.mono HB3.out.size))
      clear hbz
      go_wp2_with fail
      go_ret
      exact ⟨rfl, HBZ.out⟩
    · have HTP : Hid (w.heap.size ≤ tp) := Lib.hid (Nat.le_trans HB1.out.size htp)
      have HG : Hid (Zt.Good L) := Lib.hid (good_chk (HX.out.trans h0))
      have HT2 := Lib.hid ht2
      rw [h0] at HC2
      clear h0 ht2 htp
      go_wp2_with fail
      refine HC2.out.mono ?_
      rintro e w3 ⟨rfl, hb3⟩
      have HB3 := Lib.hid (HB2.out.trans (hb3.mono HB2.out.size))
      have HPY := Lib.hid (plays_any (c := cl) (cs := c) (HT2.out.below hb3) HG.out (HL2.out.below hb3) (HSC.out.below HB3.out) HSH.out.1 HSH.out.2)
      clear hb3
      go_wp2_with fail
      refine HPY.out.mono ?_
      rintro e w4 ⟨v4, rfl, hpl⟩
      obtain ⟨T, hT⟩ : ∃ T, playT L l = T := ⟨_, rfl⟩
      have HGT : Hid (Zt.Good T) := Lib.hid (by rw [← hT]; exact play_good HG.out l)
      rw [hT] at hpl
      obtain ⟨⟨A4, c4, rfl, hr4⟩, ⟨mb4, ht4⟩, hs4, hg4⟩ := hpl
      have HB4 : Hid (Below w.heap.size w w4) := Lib.hid (HB3.out.trans (gb_to hg4 HTP.out HB3.out.size))
      have HR4 := Lib.hid hr4
      have HT4 := Lib.hid ht4
      have HAL := Lib.hid (alive_any w4)
      clear hT hr4 ht4 hs4 hg4
      go_wp2_with fail
      refine HAL.out.mono ?_
      rintro e w5 ⟨rfl, hb5⟩
      have HB5 := Lib.hid (HB4.out.trans (hb5.mono HB4.out.size))
      have HST := Lib.hid (stands_any (c := c4) (HT4.out.below hb5) HGT.out (HR4.out.below hb5))
      clear hb5
      go_wp2_with fail
      refine HST.out.mono ?_
      rintro e w6 ⟨rfl, hb6⟩
      have HB6 := Lib.hid (HB5.out.trans (hb6.mono HB5.out.size))
      clear hb6
      go_wp2_with fail
      go_ret
      exact ⟨rfl, HB6.out⟩
end Go.Proofs.YtfkhnnmibecbeaaGreatDoor
