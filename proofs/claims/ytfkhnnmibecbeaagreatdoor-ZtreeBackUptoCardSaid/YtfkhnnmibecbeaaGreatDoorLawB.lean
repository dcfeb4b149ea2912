/-
  ZtreeBack returns true. Conditions: memory holds both scripts, which are not long; no path is very long.
-/
import Derived.Test.YtfkhnnmibecbeaaGreatDoorLawA
import Derived.Test.YtfkhnnmibecbeaaGreatDoorLoadQ
namespace Go.Proofs.YtfkhnnmibecbeaaGreatDoor
set_option maxRecDepth 100000
open Go.ChangeShapes Go.WideShapes Go.ChangeAt Go.RowKit Go.Proofs.Zn Go.Proofs.Zt

set_option maxHeartbeats 8000000 in
theorem back_law {w : World} {A : Option Addr} {n c : Nat} {l : List Opv} (h : Scr w A n l) (ht : tot l ≤ 10000000) (hsh : ∀ o ∈ l, ∀ c ∈ o.l, c.path.length ≤ 2097152) {A2 : Option Addr} {n2 c2 : Nat} {l2 : List Opv} (h2 : Scr w A2 n2 l2) (ht2 : tot l2 ≤ 10000000) (hsh2 : ∀ o ∈ l2, ∀ c ∈ o.l, c.path.length ≤ 2097152) :
    Calls Tryz.prog 5 #[.slice A n c, .slice A2 n2 c2] w fun e w' => e = .returned (.bool true) ∧ Below w.heap.size w w' := by
  have HN := Lib.hid (new_any w)
  have HSC := Lib.hid h
  have HSHO := Lib.hid hsh
  have HFW : Hid (∀ W, Below w.heap.size w W → Calls Tryz.prog 10 #[.slice A n c] W fun e w' => e = .returned (.bool (decide (tot l ≤ 300))) ∧ Below W.heap.size W w') := Lib.hid (fun W hW => few_any (h.below hW) (by omega))
  obtain ⟨f, hf⟩ : ∃ f, decide (tot l ≤ 300) = f := ⟨_, rfl⟩
  rw [hf] at HFW
  have HF := Lib.hid hf
  have HNT : Hid (n ≤ tot l) := Lib.hid (by rw [← h.rd.len]; exact tot_len l)
  have HSC2 := Lib.hid h2
  have HSHO2 := Lib.hid hsh2
  have HFW2 : Hid (∀ W, Below w.heap.size w W → Calls Tryz.prog 10 #[.slice A2 n2 c2] W fun e w' => e = .returned (.bool (decide (tot l2 ≤ 300))) ∧ Below W.heap.size W w') := Lib.hid (fun W hW => few_any (h2.below hW) (by omega))
  obtain ⟨f2, hf2⟩ : ∃ f, decide (tot l2 ≤ 300) = f := ⟨_, rfl⟩
  rw [hf2] at HFW2
  have HF2 := Lib.hid hf2
  have HNT2 : Hid (n2 ≤ tot l2) := Lib.hid (by rw [← h2.rd.len]; exact tot_len l2)
  clear h2 hsh2 hf2 ht2
  clear h hsh hf ht
  go_enter Tryz.func5, Tryz.ntmps5
  go_wp2_with fail
  refine HN.out.mono ?_
  rintro e w1 ⟨tp, mb1, rfl, ht1, hb1, hu1, -⟩
  have HT1 := Lib.hid ht1
  have HB1 := Lib.hid hb1
  have HU1 := Lib.hid hu1
  have HFE := Lib.hid (HFW.out w1 hb1)
  clear ht1 hb1 hu1
  go_wp2_with fail
  refine HFE.out.mono ?_
  rintro e w2 ⟨rfl, hb2⟩
  have HB2 := Lib.hid (HB1.out.trans (hb2.mono HB1.out.size))
  have HT2 := Lib.hid (HT1.out.below hb2)
  clear hb2
  cases f with
  | false =>
    have HAL := Lib.hid (alive_any w2)
    go_wp2_with fail
    refine HAL.out.mono ?_
    rintro e wza ⟨rfl, hbz⟩
    have HBZ := Lib.hid (HB2.out.trans (hbz.mono HB2.out.size))
    clear hbz
    go_wp2_with fail
    go_ret
    exact ⟨rfl, HBZ.out⟩
  | true =>
    have HFE2 := Lib.hid (HFW2.out w2 HB2.out)
    go_wp2_with fail
    refine HFE2.out.mono ?_
    rintro e w2 ⟨rfl, hb2⟩
    have HB2 := Lib.hid (HB2.out.trans (hb2.mono HB2.out.size))
    have HT2 := Lib.hid (HT2.out.below hb2)
    clear hb2
    cases f2
    · have HAL := Lib.hid (alive_any w2)
      go_wp2_with fail
      refine HAL.out.mono ?_
      rintro e wzb ⟨rfl, hbz⟩
      have HBZ := Lib.hid (HB2.out.trans (hbz.mono HB2.out.size))
      clear hbz
      go_wp2_with fail
      go_ret
      exact ⟨rfl, HBZ.out⟩
    have HSH2 : Hid (Short l2 ∧ n2 ≤ 1000000) := Lib.hid (by
      have h300 : tot l2 ≤ 300 := by simpa using HF2.out
      have := HNT2.out
      exact ⟨fun o ho => ⟨by have := short_of ho; omega, HSHO2.out o ho⟩, by omega⟩)
    have HSH : Hid (Short l ∧ n ≤ 1000000) := Lib.hid (by
      have h300 : tot l ≤ 300 := by simpa using HF.out
      have := HNT.out
      exact ⟨fun o ho => ⟨by have := short_of ho; omega, HSHO.out o ho⟩, by omega⟩)
    have HRN := Lib.hid (rnew_any w2)
    go_wp2_with fail
    refine HRN.out.mono ?_
    rintro e w3 ⟨v3, rfl, hr3, hb3⟩
    obtain ⟨A3, c3, rfl, -, -, -⟩ := own_form hr3
    have hb03 := HB2.out.trans (hb3.mono HB2.out.size)
    have HB3 := Lib.hid hb03
    have HPY := Lib.hid (plays_any (c := c3) (cs := c) (T := Zt.new) (HT2.out.below hb3) new_good (Rd.of_own (cell := ncell) (l := Zt.new) hr3 (fun _ _ => rfl) (by omega)) (HSC.out.below hb03) HSH.out.1 HSH.out.2)
    clear hr3 hb3 hb03
    go_wp2_with fail
    refine HPY.out.mono ?_
    rintro e w4 ⟨v4, rfl, hpl⟩
    obtain ⟨T, hT⟩ : ∃ T, playT Zt.new l = T := ⟨_, rfl⟩
    have HG : Hid (Zt.Good T) := Lib.hid (by rw [← hT]; exact play_good new_good l)
    rw [hT] at hpl
    obtain ⟨⟨A4, c4, rfl, hr4⟩, ⟨mb4, ht4⟩, hs4, hg4⟩ := hpl
    have HB4 : Hid (Below w.heap.size w w4) := Lib.hid (HB3.out.trans (gb_to hg4 HU1.out HB3.out.size))
    have HR4 := Lib.hid hr4
    have HT4 := Lib.hid ht4
    have HTL : Hid (T.length ≤ 200) := Lib.hid HG.out.len
    clear hT hr4 ht4 hs4 hg4
    have HAL0 := Lib.hid (all_any HT4.out HG.out)
    go_wp2_with fail
    refine HAL0.out.mono ?_
    rintro e w5 ⟨v5, rfl, hr5, hb5⟩
    obtain ⟨A5, c5, rfl, -, -, -⟩ := own_form hr5
    have HB5 := Lib.hid (HB4.out.trans (hb5.mono HB4.out.size))
    have HT5 := Lib.hid (HT4.out.below hb5)
    have HR5 := Lib.hid (HR4.out.below hb5)
    have HLO := Lib.hid (load_any (c := c5) (Rd.of_own (cell := ncell) (l := T) hr5 (fun _ _ => rfl) (by omega)) (by have := HTL.out; omega) (fun z hz => by have := len_le (HG.out.each z hz).path; omega))
    unfold LoPost at HLO
    rw [chk_good HG.out] at HLO
    clear hr5 hb5
    go_wp2_with fail
    refine HLO.out.mono ?_
    rintro e w6 ⟨hb6, hcase⟩
    rcases hcase with ⟨hne, _⟩ | ⟨_, up, mb6, rfl, ht6, hup⟩
    · exact absurd rfl hne
    have HB6 := Lib.hid (HB5.out.trans (hb6.mono HB5.out.size))
    have HT6 := Lib.hid (HT5.out.below hb6)
    have HR6 := Lib.hid (HR5.out.below hb6)
    have HU6 := Lib.hid ht6
    have HUP := Lib.hid hup
    have HPY := Lib.hid (plays_any (c := c4) (cs := c2) ht6 HG.out HR6.out (HSC2.out.below HB6.out) HSH2.out.1 HSH2.out.2)
    clear hb6 ht6 hup
    go_wp2_with fail
    refine HPY.out.mono ?_
    rintro e w7 ⟨v7, rfl, hpl⟩
    obtain ⟨S, hS⟩ : ∃ S, playT T l2 = S := ⟨_, rfl⟩
    have HGS : Hid (Zt.Good S) := Lib.hid (by rw [← hS]; exact play_good HG.out l2)
    rw [hS] at hpl
    obtain ⟨⟨A7, c7, rfl, hr7⟩, ⟨mb7, ht7⟩, hs7, hg7⟩ := hpl
    have HB7 : Hid (Below w.heap.size w w7) := Lib.hid (HB6.out.trans (gb_to hg7 (Nat.le_trans HB5.out.size HUP.out) HB6.out.size))
    have h1 := HT5.out.lt
    have h2 := HT5.out.map.lt
    have h3 := HUP.out
    have HT7 := Lib.hid (HT6.out.gb hg7 (by omega) (by omega))
    have HR7 := Lib.hid (rd_gb n1 HR6.out HU6.out hg7)
    have HS7 := Lib.hid hr7
    have HU7 := Lib.hid ht7
    have HAL := Lib.hid (alive_any w7)
    clear hS hr7 ht7 hs7 hg7 h1 h2 h3
    go_wp2_with fail
    refine HAL.out.mono ?_
    rintro e w8 ⟨rfl, hb8⟩
    have HB8 := Lib.hid (HB7.out.trans (hb8.mono HB7.out.size))
    have HST := Lib.hid (stands_any (c := c7) (HU7.out.below hb8) HGS.out (HS7.out.below hb8))
    have HT8 := Lib.hid (HT7.out.below hb8)
    have HR8 := Lib.hid (HR7.out.below hb8)
    clear hb8
    go_wp2_with fail
    refine HST.out.mono ?_
    rintro e w9 ⟨rfl, hb9⟩
    have HB9 := Lib.hid (HB8.out.trans (hb9.mono HB8.out.size))
    have HSU := Lib.hid (stands_any (c := c4) (HT8.out.below hb9) HG.out (HR8.out.below hb9))
    clear hb9
    go_wp2_with fail
    refine HSU.out.mono ?_
    rintro e w10 ⟨rfl, hb10⟩
    have HB10 := Lib.hid (HB9.out.trans (hb10.mono HB9.out.size))
    clear hb10
    go_wp2_with fail
    go_ret
    exact ⟨rfl, HB10.out⟩
end Go.Proofs.YtfkhnnmibecbeaaGreatDoor
