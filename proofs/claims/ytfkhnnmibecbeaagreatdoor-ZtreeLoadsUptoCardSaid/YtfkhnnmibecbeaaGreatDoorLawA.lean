/-
  ZtreeAll and ZtreeAsks return true. Conditions: memory holds the script, which is not long; no path is very long.
-/
import Derived.Test.YtfkhnnmibecbeaaGreatDoorPStands
import Derived.Test.YtfkhnnmibecbeaaGreatDoorPPlays
import Derived.Test.YtfkhnnmibecbeaaGreatDoorAlive
import Derived.Test.YtfkhnnmibecbeaaGreatDoorRef2
namespace Go.Proofs.YtfkhnnmibecbeaaGreatDoor
set_option maxRecDepth 100000
open Go.ChangeShapes Go.WideShapes Go.ChangeAt Go.RowKit Go.Proofs.Zn Go.Proofs.Zt

theorem short_of {l : List Opv} {o : Opv} (h : o ∈ l) : o.m + 1 ≤ tot l := by
  obtain ⟨k, hk, rfl⟩ := List.getElem_of_mem h
  have h1 := tot_step (List.getElem?_eq_getElem hk)
  have h2 := tot_take l (k + 1)
  omega
set_option maxHeartbeats 4000000 in
theorem all_law {w : World} {A : Option Addr} {n c : Nat} {l : List Opv} (h : Scr w A n l) (ht : tot l ≤ 10000000) (hsh : ∀ o ∈ l, ∀ c ∈ o.l, c.path.length ≤ 2097152) :
    Calls Tryz.prog 3 #[.slice A n c] w fun e w' => e = .returned (.bool true) ∧ Below w.heap.size w w' := by
  have HN := Lib.hid (new_any w)
  have HSC := Lib.hid h
  have HSHO := Lib.hid hsh
  have HFW : Hid (∀ W, Below w.heap.size w W → Calls Tryz.prog 10 #[.slice A n c] W fun e w' => e = .returned (.bool (decide (tot l ≤ 300))) ∧ Below W.heap.size W w') := Lib.hid (fun W hW => few_any (h.below hW) (by omega))
  obtain ⟨f, hf⟩ : ∃ f, decide (tot l ≤ 300) = f := ⟨_, rfl⟩
  rw [hf] at HFW
  have HF := Lib.hid hf
  have HNT : Hid (n ≤ tot l) := Lib.hid (by rw [← h.rd.len]; exact tot_len l)
  clear h hsh hf ht
  go_enter Tryz.func3, Tryz.ntmps3
  go_wp2_with fail
  refine HN.out.mono ?_
  rintro e w1 ⟨tp, mb1, rfl, ht1, hb1, hu1, -⟩
  have HT1 := Lib.hid ht1
  have HB1 := Lib.hid hb1
  have HU1 := Lib.hid hu1
  have HFE := Lib.hid (HFW.out w1 hb1)
  clear ht1 hb1 hu1
  go_wp2_with fail
  refine HFE.out.mono ?_
  rintro e w2 ⟨rfl, hb2⟩
  have HB2 := Lib.hid (HB1.out.trans (hb2.mono HB1.out.size))
  have HT2 := Lib.hid (HT1.out.below hb2)
  clear hb2
  cases f with
  | false =>
    have HAL := Lib.hid (alive_any w2)
    go_wp2_with fail
    refine HAL.out.mono ?_
    rintro e wza ⟨rfl, hbz⟩
    have HBZ := Lib.hid (HB2.out.trans (hbz.mono HB2.out.size))
    clear hbz
    go_wp2_with fail
    go_ret
    exact ⟨rfl, HBZ.out⟩
  | true =>
    have HSH : Hid (Short l ∧ n ≤ 1000000) := Lib.hid (by
      have h300 : tot l ≤ 300 := by simpa using HF.out
      have := HNT.out
      exact ⟨fun o ho => ⟨by have := short_of ho; omega, HSHO.out o ho⟩, by omega⟩)
    have HRN := Lib.hid (rnew_any w2)
    go_wp2_with fail
    refine HRN.out.mono ?_
    rintro e w3 ⟨v3, rfl, hr3, hb3⟩
    obtain ⟨A3, c3, rfl, -, -, -⟩ := own_form hr3
    have hb03 := HB2.out.trans (hb3.mono HB2.out.size)
    have HB3 := Lib.hid hb03
    have HPY := Lib.hid (plays_any (c := c3) (cs := c) (T := Zt.new) (HT2.out.below hb3) new_good (Rd.of_own (cell := ncell) (l := Zt.new) hr3 (fun _ _ => rfl) (by omega)) (HSC.out.below hb03) HSH.out.1 HSH.out.2)
    clear hr3 hb3 hb03
    go_wp2_with fail
    refine HPY.out.mono ?_
    rintro e w4 ⟨v4, rfl, hpl⟩
    obtain ⟨T, hT⟩ : ∃ T, playT Zt.new l = T := ⟨_, rfl⟩
    have HG : Hid (Zt.Good T) := Lib.hid (by rw [← hT]; exact play_good new_good l)
    rw [hT] at hpl
    obtain ⟨⟨A4, c4, rfl, hr4⟩, ⟨mb4, ht4⟩, hs4, hg4⟩ := hpl
    have HB4 : Hid (Below w.heap.size w w4) := Lib.hid (HB3.out.trans (gb_to hg4 HU1.out HB3.out.size))
    have HR4 := Lib.hid hr4
    have HT4 := Lib.hid ht4
    have HTL : Hid (T.length ≤ 200) := Lib.hid HG.out.len
    clear hT hr4 ht4 hs4 hg4
    have HAL := Lib.hid (alive_any w4)
    go_wp2_with fail
    refine HAL.out.mono ?_
    rintro e w5 ⟨rfl, hb5⟩
    have HB5 := Lib.hid (HB4.out.trans (hb5.mono HB4.out.size))
    have HST := Lib.hid (stands_any (c := c4) (HT4.out.below hb5) HG.out (HR4.out.below hb5))
    clear hb5
    go_wp2_with fail
    refine HST.out.mono ?_
    rintro e w6 ⟨rfl, hb6⟩
    have HB6 := Lib.hid (HB5.out.trans (hb6.mono HB5.out.size))
    clear hb6
    go_wp2_with fail
    go_ret
    exact ⟨rfl, HB6.out⟩
set_option maxHeartbeats 8000000 in
theorem asks_law {w : World} {A : Option Addr} {n c : Nat} {l : List Opv} (h : Scr w A n l) (ht : tot l ≤ 10000000) (hsh : ∀ o ∈ l, ∀ c ∈ o.l, c.path.length ≤ 2097152) (p : Txt) (hp : p.length ≤ 2097152) (s : Int) :
    Calls Tryz.prog 6 #[.slice A n c, .string (B p), .int .i64 s] w fun e w' => e = .returned (.bool true) ∧ Below w.heap.size w w' := by
  have HN := Lib.hid (new_any w)
  have HSC := Lib.hid h
  have HSHO := Lib.hid hsh
  have HFW : Hid (∀ W, Below w.heap.size w W → Calls Tryz.prog 10 #[.slice A n c] W fun e w' => e = .returned (.bool (decide (tot l ≤ 300))) ∧ Below W.heap.size W w') := Lib.hid (fun W hW => few_any (h.below hW) (by omega))
  obtain ⟨f, hf⟩ : ∃ f, decide (tot l ≤ 300) = f := ⟨_, rfl⟩
  rw [hf] at HFW
  have HF := Lib.hid hf
  have HNT : Hid (n ≤ tot l) := Lib.hid (by rw [← h.rd.len]; exact tot_len l)
  clear h hsh hf ht
  go_enter Tryz.func6, Tryz.ntmps6
  go_wp2_with fail
  refine HN.out.mono ?_
  rintro e w1 ⟨tp, mb1, rfl, ht1, hb1, hu1, -⟩
  have HT1 := Lib.hid ht1
  have HB1 := Lib.hid hb1
  have HU1 := Lib.hid hu1
  have HFE := Lib.hid (HFW.out w1 hb1)
  clear ht1 hb1 hu1
  go_wp2_with fail
  refine HFE.out.mono ?_
  rintro e w2 ⟨rfl, hb2⟩
  have HB2 := Lib.hid (HB1.out.trans (hb2.mono HB1.out.size))
  have HT2 := Lib.hid (HT1.out.below hb2)
  clear hb2
  cases f with
  | false =>
    have HAL := Lib.hid (alive_any w2)
    go_wp2_with fail
    refine HAL.out.mono ?_
    rintro e wza ⟨rfl, hbz⟩
    have HBZ := Lib.hid (HB2.out.trans (hbz.mono HB2.out.size))
    clear hbz
    go_wp2_with fail
    go_ret
    exact ⟨rfl, HBZ.out⟩
  | true =>
    have HSH : Hid (Short l ∧ n ≤ 1000000) := Lib.hid (by
      have h300 : tot l ≤ 300 := by simpa using HF.out
      have := HNT.out
      exact ⟨fun o ho => ⟨by have := short_of ho; omega, HSHO.out o ho⟩, by omega⟩)
    have HRN := Lib.hid (rnew_any w2)
    go_wp2_with fail
    refine HRN.out.mono ?_
    rintro e w3 ⟨v3, rfl, hr3, hb3⟩
    obtain ⟨A3, c3, rfl, -, -, -⟩ := own_form hr3
    have hb03 := HB2.out.trans (hb3.mono HB2.out.size)
    have HB3 := Lib.hid hb03
    have HPY := Lib.hid (plays_any (c := c3) (cs := c) (T := Zt.new) (HT2.out.below hb3) new_good (Rd.of_own (cell := ncell) (l := Zt.new) hr3 (fun _ _ => rfl) (by omega)) (HSC.out.below hb03) HSH.out.1 HSH.out.2)
    clear hr3 hb3 hb03
    go_wp2_with fail
    refine HPY.out.mono ?_
    rintro e w4 ⟨v4, rfl, hpl⟩
    obtain ⟨T, hT⟩ : ∃ T, playT Zt.new l = T := ⟨_, rfl⟩
    have HG : Hid (Zt.Good T) := Lib.hid (by rw [← hT]; exact play_good new_good l)
    rw [hT] at hpl
    obtain ⟨⟨A4, c4, rfl, hr4⟩, ⟨mb4, ht4⟩, hs4, hg4⟩ := hpl
    have HB4 : Hid (Below w.heap.size w w4) := Lib.hid (HB3.out.trans (gb_to hg4 HU1.out HB3.out.size))
    have HR4 := Lib.hid hr4
    have HT4 := Lib.hid ht4
    have HTL : Hid (T.length ≤ 200) := Lib.hid HG.out.len
    clear hT hr4 ht4 hs4 hg4
    have HGE := Lib.hid (get_any HT4.out p (by unfold maxLen; omega))
    obtain ⟨z, hz⟩ : ∃ x, (get T p).getD nd0 = x := ⟨_, rfl⟩
    obtain ⟨is, his⟩ : ∃ b, (get T p).isSome = b := ⟨_, rfl⟩
    rw [hz, his] at HGE
    unfold ndv at HGE
    have HZ := Lib.hid hz
    have HIS := Lib.hid his
    have HPP := Lib.hid hp
    clear hz his hp
    go_wp2_with fail
    refine HGE.out.mono ?_
    rintro e w5 ⟨rfl, hb5⟩
    obtain ⟨w6, hw6⟩ : ∃ w6, w6 = w5.alloc (.cells #[.string (B z.path), .string (B z.data), .int .i64 z.cr, .int .i64 z.ch, .int .i64 z.kd, .int .i64 z.ver, .int .i64 z.ks, .int .i64 z.own, .int .i64 z.nx] 41) := ⟨_, rfl⟩
    obtain ⟨q, eq⟩ : ∃ q, q = w5.heap.size := ⟨_, rfl⟩
    have hb6 : Below w5.heap.size w5 w6 := by rw [hw6]; exact box_below w5 _
    have hq6 : w6.heap[q]? = some (.cells #[.string (B z.path), .string (B z.data), .int .i64 z.cr, .int .i64 z.ch, .int .i64 z.kd, .int .i64 z.ver, .int .i64 z.ks, .int .i64 z.own, .int .i64 z.nx] 41 (0, 0)) := by rw [hw6, eq]; exact new_block w5 _
    have hb46 := below_step hb5 hb6
    have HB6 := Lib.hid (HB4.out.trans (hb46.mono HB4.out.size))
    have HT6 := Lib.hid (HT4.out.below hb46)
    have HR6 := Lib.hid (HR4.out.below hb46)
    have HQ6 := Lib.hid hq6
    have HRG := Lib.hid (rget_any (c := c4) HR6.out (by have := HTL.out; omega) p)
    unfold RgPost ndv at HRG
    rw [HZ.out, HIS.out] at HRG
    have HW6 := Lib.hid hw6
    have EQ := Lib.hid eq
    clear hb5 hw6 eq hb6 hq6 hb46
    go_upto_region 6 with fail
    rw [← HW6.out, ← EQ.out]
    go_wp2_with fail
    refine HRG.out.mono ?_
    rintro e w7 ⟨rfl, hb7⟩
    obtain ⟨w8, hw8⟩ : ∃ w8, w8 = w7.alloc (.cells #[.string (B z.path), .string (B z.data), .int .i64 z.cr, .int .i64 z.ch, .int .i64 z.kd, .int .i64 z.ver, .int .i64 z.ks, .int .i64 z.own, .int .i64 z.nx] 41) := ⟨_, rfl⟩
    obtain ⟨u, eu⟩ : ∃ q, q = w7.heap.size := ⟨_, rfl⟩
    have hb8 : Below w7.heap.size w7 w8 := by rw [hw8]; exact box_below w7 _
    have hu8 : w8.heap[u]? = some (.cells #[.string (B z.path), .string (B z.data), .int .i64 z.cr, .int .i64 z.ch, .int .i64 z.kd, .int .i64 z.ver, .int .i64 z.ks, .int .i64 z.own, .int .i64 z.nx] 41 (0, 0)) := by rw [hw8, eu]; exact new_block w7 _
    have hb68 := below_step hb7 hb8
    have HB8 := Lib.hid (HB6.out.trans (hb68.mono HB6.out.size))
    have HT8 := Lib.hid (HT6.out.below hb68)
    have HR8 := Lib.hid (HR6.out.below hb68)
    have HQ8 := Lib.hid (blk_below HQ6.out hb68)
    have HU8 := Lib.hid hu8
    have HKI := Lib.hid (kids_any HT8.out HG.out p (by have := HPP.out; unfold maxLen; omega))
    unfold KiPost at HKI
    rw [HIS.out] at HKI
    obtain ⟨ks, hks⟩ : ∃ l, kidsA T p = l := ⟨_, rfl⟩
    have hkl : ks.length ≤ T.length := by rw [← hks]; unfold kidsA; split; exact kids_few T p; simp
    have HKL := Lib.hid hkl
    rw [hks] at HKI
    have HKS := Lib.hid hks
    have HW8 := Lib.hid hw8
    have EU := Lib.hid eu
    clear hb7 hw8 eu hb8 hu8 hb68 hks hkl
    go_upto_region 7 with fail
    rw [← HW8.out, ← EU.out]
    go_wp2_with fail
    refine HKI.out.mono ?_
    rintro e w9 ⟨v9, rfl, hr9, hb9⟩
    obtain ⟨A9, c9, rfl, -, -, -⟩ := own_form hr9
    have HB9 := Lib.hid (HB8.out.trans (hb9.mono HB8.out.size))
    have HT9 := Lib.hid (HT8.out.below hb9)
    have HR9 := Lib.hid (HR8.out.below hb9)
    have HQ9 := Lib.hid (blk_below HQ8.out hb9)
    have HU9 := Lib.hid (blk_below HU8.out hb9)
    have HK9 := Lib.hid hr9
    have HRK := Lib.hid (rkids_any (c := c4) HR9.out (by have := HTL.out; omega) (fun y hy => by have := len_le (HG.out.each y hy).path; omega) p)
    have hkr : kidsR T p = ks := HKS.out
    unfold RkPost at HRK
    rw [hkr, HIS.out] at HRK
    clear hr9 hb9 hkr
    go_wp2_with fail
    refine HRK.out.mono ?_
    rintro e w10 ⟨v10, rfl, hr10, hb10⟩
    obtain ⟨A10, c10, rfl, -, -, -⟩ := own_form hr10
    have HB10 := Lib.hid (HB9.out.trans (hb10.mono HB9.out.size))
    have HT10 := Lib.hid (HT9.out.below hb10)
    have HR10 := Lib.hid (HR9.out.below hb10)
    have HQ10 := Lib.hid (blk_below HQ9.out hb10)
    have HU10 := Lib.hid (blk_below HU9.out hb10)
    have HK10 := Lib.hid (own_below HK9.out hb10)
    have HL10 := Lib.hid hr10
    have HAL := Lib.hid (alive_any w10)
    clear hr10 hb10
    go_wp2_with fail
    refine HAL.out.mono ?_
    rintro e w11 ⟨rfl, hb11⟩
    have HB11 := Lib.hid (HB10.out.trans (hb11.mono HB10.out.size))
    have HT11 := Lib.hid (HT10.out.below hb11)
    have HR11 := Lib.hid (HR10.out.below hb11)
    have hq11 := blk_below HQ10.out hb11
    have hu11 := blk_below HU10.out hb11
    have hk11 := own_below HK10.out hb11
    have hl11 := own_below HL10.out hb11
    rw [scells] at hk11 hl11
    have HSE := Lib.hid (rsametexts_any (c := c9) (c2 := c10) (Rd.of_own (cell := scell) (l := ks) hk11 (fun _ _ => rfl) (by omega)) (Rd.of_own (cell := scell) (l := ks) hl11 (fun _ _ => rfl) (by omega)) (by have := HKL.out; have := HTL.out; omega))
    clear hb11 hk11 hl11
    have q0 := cell_of hq11 (j := 0) rfl
    have q1 := cell_of hq11 (j := 1) rfl
    have q2 := cell_of hq11 (j := 2) rfl
    have q3 := cell_of hq11 (j := 3) rfl
    have q4 := cell_of hq11 (j := 4) rfl
    have q5 := cell_of hq11 (j := 5) rfl
    have q6 := cell_of hq11 (j := 6) rfl
    have q7 := cell_of hq11 (j := 7) rfl
    have q8 := cell_of hq11 (j := 8) rfl
    have u0 := cell_of hu11 (j := 0) rfl
    have u1 := cell_of hu11 (j := 1) rfl
    have u2 := cell_of hu11 (j := 2) rfl
    have u3 := cell_of hu11 (j := 3) rfl
    have u4 := cell_of hu11 (j := 4) rfl
    have u5 := cell_of hu11 (j := 5) rfl
    have u6 := cell_of hu11 (j := 6) rfl
    have u7 := cell_of hu11 (j := 7) rfl
    have u8 := cell_of hu11 (j := 8) rfl
    clear hq11 hu11
    go_wp2_with fail
    refine HSE.out.mono ?_
    rintro e w12 ⟨rfl, hb12⟩
    have HB12 := Lib.hid (HB11.out.trans (hb12.mono HB11.out.size))
    have HT12 := Lib.hid (HT11.out.below hb12)
    have HR12 := Lib.hid (HR11.out.below hb12)
    have HOW := Lib.hid (owned_any HT12.out HG.out s)
    obtain ⟨ow, how⟩ : ∃ l, owned T s = l := ⟨_, rfl⟩
    have hol : ow.length ≤ T.length := by rw [← how]; unfold owned; rw [List.length_map]; exact List.length_filter_le _ _
    have HOL := Lib.hid hol
    have HOS := Lib.hid how
    rw [how] at HOW
    clear hb12 q0 q1 q2 q3 q4 q5 q6 q7 q8 u0 u1 u2 u3 u4 u5 u6 u7 u8 hol how
    go_wp2_with fail
    refine HOW.out.mono ?_
    rintro e w13 ⟨v13, rfl, hr13, hb13⟩
    obtain ⟨A13, c13, rfl, -, -, -⟩ := own_form hr13
    have HB13 := Lib.hid (HB12.out.trans (hb13.mono HB12.out.size))
    have HO13 := Lib.hid hr13
    have HRO := Lib.hid (rowned_any (c := c4) (HR12.out.below hb13) (by have := HTL.out; omega) s)
    rw [HOS.out] at HRO
    clear hr13 hb13
    go_wp2_with fail
    refine HRO.out.mono ?_
    rintro e w14 ⟨v14, rfl, hr14, hb14⟩
    obtain ⟨A14, c14, rfl, -, -, -⟩ := own_form hr14
    have HB14 := Lib.hid (HB13.out.trans (hb14.mono HB13.out.size))
    have h13 := own_below HO13.out hb14
    rw [scells] at h13 hr14
    have HSF := Lib.hid (rsametexts_any (c := c13) (c2 := c14) (Rd.of_own (cell := scell) (l := ow) h13 (fun _ _ => rfl) (by omega)) (Rd.of_own (cell := scell) (l := ow) hr14 (fun _ _ => rfl) (by omega)) (by have := HOL.out; have := HTL.out; omega))
    clear h13 hr14 hb14
    go_wp2_with fail
    refine HSF.out.mono ?_
    rintro e w15 ⟨rfl, hb15⟩
    have HB15 := Lib.hid (HB14.out.trans (hb15.mono HB14.out.size))
    clear hb15
    go_wp2_with fail
    go_ret
    exact ⟨rfl, HB15.out⟩
end Go.Proofs.YtfkhnnmibecbeaaGreatDoor
