/-
  ZtreeShape returns true. Conditions: none but that memory holds the script.
-/
import Derived.Test.YtfkhnnmibecbeaaDoorAlive
import Derived.Test.YtfkhnnmibecbeaaDoorFew
import Derived.Test.YtfkhnnmibecbeaaDoorCheckP
namespace Go.Proofs.YtfkhnnmibecbeaaDoor
set_option maxRecDepth 100000
open Go.ChangeShapes Go.WideShapes Go.ChangeAt Go.RowKit Go.Proofs.Zn Go.Proofs.Zt

theorem parent_short (l : Txt) : (parent l).length ≤ 488 := by
  cases h : parentOk l
  · unfold parentOk at h
    unfold parent
    cases hn : names l with
    | none => simp
    | some ps =>
      rw [hn] at h
      have : ps = [] := by cases ps with
        | nil => rfl
        | cons _ _ => cases h
      subst this
      simp
  · exact len_le (parent_valid h)
set_option maxHeartbeats 4000000 in
theorem shape_law {w : World} {A : Option Addr} {n c : Nat} {l : List Opv} (h : Scr w A n l) : Calls Tryd.prog 3 #[.slice A n c] w fun e w' => e = .returned (.bool true) ∧ Below w.heap.size w w' := by
  have HN := Lib.hid (new_any w)
  have HSC := Lib.hid h
  clear h
  go_enter Tryd.func3, Tryd.ntmps3
  go_wp2_with fail
  refine HN.out.mono ?_
  rintro e w1 ⟨tp, mb1, rfl, ht1, hb1, hu1, -⟩
  have HT1 := Lib.hid ht1
  have HB1 := Lib.hid hb1
  have HU1 := Lib.hid hu1
  clear ht1 hb1 hu1
  by_cases h1000 : 1000 < n
  · have h1 : (1000 : Int) < (n : Int) := by omega
    have HAL := Lib.hid (alive_any w1)
    clear h1000
    go_wp2_with fail
    refine HAL.out.mono ?_
    rintro e w2 ⟨rfl, hb2⟩
    have HB2 := Lib.hid (HB1.out.trans (hb2.mono HB1.out.size))
    clear hb2
    go_wp2_with fail
    go_ret
    exact ⟨rfl, HB2.out⟩
  have h1 : ¬ (1000 : Int) < (n : Int) := by omega
  have hn1000 : n ≤ 1000 := by omega
  clear h1000
  go_wp2_with fail
  go_loopw [28] (fun i wr => ∃ (k : Nat) (mb : Nat) (T : Tr), k ≤ n ∧ i = .int .i64 k ∧ Hid (TreeW wr tp mb T) ∧ Hid (Zt.Good T) ∧ Hid (Below w.heap.size w wr)) (fun i _ => n - (intOf i).toNat)
  case atStart => exact ⟨0, mb1, Zt.new, Nat.zero_le _, rfl, HT1, Lib.hid new_good, HB1⟩
  case round =>
    obtain ⟨k, mb, T, hk, rfl, HT, HG, HX⟩ := hrel
    by_cases hlt : k < n
    · obtain ⟨b, off, o, rfl, ho, hc⟩ := (HSC.out.below HX.out).rd.at hlt
      have HOK := Lib.hid ((HSC.out.below HX.out).ok o (List.mem_of_getElem? ho))
      have a0 : wr.cell? ⟨b, off + k * 4, none⟩ = some (.int .i64 o.k) := hc 0 _ rfl
      have a1 : wr.cell? ⟨b, off + k * 4 + 1, none⟩ = some (.int .i64 o.zx) := hc 1 _ rfl
      have a2 : wr.cell? ⟨b, off + k * 4 + 2, none⟩ = some (.int .i64 o.se) := hc 2 _ rfl
      have a3 : wr.cell? ⟨b, off + k * 4 + 3, none⟩ = some (.slice o.A o.m o.c) := hc 3 _ rfl
      obtain ⟨w3, hw3⟩ : ∃ w3, w3 = wr.alloc (.cells #[.int .i64 o.k, .int .i64 o.zx, .int .i64 o.se, .slice o.A o.m o.c] 28) := ⟨_, rfl⟩
      obtain ⟨q, eq⟩ : ∃ q, q = wr.heap.size := ⟨_, rfl⟩
      have hb3 : Below wr.heap.size wr w3 := by rw [hw3]; exact box_below wr _
      have hq3 : w3.heap[q]? = some (.cells #[.int .i64 o.k, .int .i64 o.zx, .int .i64 o.se, .slice o.A o.m o.c] 28 (0, 0)) := by rw [hw3, eq]; exact new_block wr _
      have HB3 := Lib.hid (HX.out.trans (hb3.mono HX.out.size))
      have HT3 := Lib.hid (HT.out.below hb3)
      have HOK3 := Lib.hid (HOK.out.below hb3)
      have HW3 := Lib.hid hw3
      have EQ := Lib.hid eq
      have q0 := cell_of hq3 (j := 0) rfl
      have q1 := cell_of hq3 (j := 1) rfl
      have q2 := cell_of hq3 (j := 2) rfl
      have q3 := cell_of hq3 (j := 3) rfl
      clear ho hc hw3 eq hb3 hq3
      go_upto_region 7 with fail
      rw [← HW3.out, ← EQ.out]
      clear a0 a1 a2 a3
      by_cases h300 : 300 < o.m
      · have h3 : (300 : Int) < (o.m : Int) := by omega
        have HAL := Lib.hid (alive_any w3)
        clear h300
        go_wp2_with fail
        refine HAL.out.mono ?_
        rintro e w4 ⟨rfl, hb4⟩
        have HB4 := Lib.hid (HB3.out.trans (hb4.mono HB3.out.size))
        clear hb4
        go_wp2_with fail
        go_ret
        exact ⟨rfl, HB4.out⟩
      have h3 : ¬ (300 : Int) < (o.m : Int) := by omega
      have hm300 : o.m ≤ 1000000 := by omega
      have HM3 := Lib.hid hm300
      clear h300 hm300
      by_cases hk1 : o.k = 1
      · have t1 : (o.k == 1) = true := by simpa using hk1
        have HEN := Lib.hid (end_any HT3.out HG.out o.zx o.se)
        clear hk1
        go_wp2_with fail
        refine HEN.out.mono ?_
        rintro e w4 ⟨v, mb4, rfl, ht4, hg4, -⟩
        have HT4 := Lib.hid ht4
        have HB4 := Lib.hid (HB3.out.trans (gb_to hg4 HU1.out HB3.out.size))
        have HG4 := Lib.hid (endL_good HG.out o.zx o.se)
        clear ht4 hg4 q0 q1 q2 q3
        go_wp2_with fail
        go_roundw
        case rel => exact ⟨k + 1, mb4, _, hlt, by go_num, HT4, HG4, HB4⟩
        case measure => simp [intOf]; omega
      · have t1 : (o.k == 1) = false := by simpa using hk1
        have HDO := Lib.hid (do_any (cp := o.c) HT3.out HG.out o.zx o.se HOK3.out.rd HM3.out HOK3.out.ok)
        clear hk1
        go_wp2_with fail
        refine HDO.out.mono ?_
        rintro e w4 ⟨v1, v2, mb4, rfl, ht4, hg4, -, -⟩
        have HT4 := Lib.hid ht4
        have HB4 := Lib.hid (HB3.out.trans (gb_to hg4 HU1.out HB3.out.size))
        have HG4 := Lib.hid (doL_good HG.out o.zx o.se o.l)
        clear ht4 hg4 q0 q1 q2 q3
        go_wp2_with fail
        go_roundw
        case rel => exact ⟨k + 1, mb4, _, hlt, by go_num, HT4, HG4, HB4⟩
        case measure => simp [intOf]; omega
    · have HAL := Lib.hid (all_any HT.out HG.out)
      go_wp2_with fail
      refine HAL.out.mono ?_
      rintro e w5 ⟨v, rfl, hrow, hb5⟩
      obtain ⟨A5, c5, rfl, hle5, hcm5, -⟩ := own_form hrow
      have HRD := Lib.hid (Rd.of_own (cell := ncell) (l := T) hrow (fun _ _ => rfl) (by omega))
      have HT5 := Lib.hid (HT.out.below hb5)
      have HX5 := Lib.hid (HX.out.trans (hb5.mono HX.out.size))
      have HLE := Lib.hid hle5
      have HCM := Lib.hid hcm5
      have hT := HG.out.len
      have HTL := Lib.hid hT
      clear hrow hb5 hle5 hcm5
      go_wp2_with fail
      go_loopw [59] (fun i wr => ∃ k : Nat, k ≤ T.length ∧ i = .int .i64 k ∧ Hid (Below w5.heap.size w5 wr)) (fun i _ => T.length - (intOf i).toNat)
      case atStart => exact ⟨0, Nat.zero_le _, rfl, Lib.hid (Below.refl _ _)⟩
      case round =>
        obtain ⟨k, hk, rfl, HY⟩ := hrel
        have hT := HTL.out
        by_cases hlt : k < T.length
        · obtain ⟨b, off, z, rfl, hz, hc⟩ := (HRD.out.below HY.out).at hlt
          have hzm : z ∈ T := List.mem_of_getElem? hz
          have HZO := Lib.hid (HG.out.each z hzm)
          have HPAR := Lib.hid (HG.out.par z hzm)
          have a0 : wr.cell? ⟨b, off + k * 9, none⟩ = some (.string (B z.path)) := hc 0 _ rfl
          have a1 : wr.cell? ⟨b, off + k * 9 + 1, none⟩ = some (.string (B z.data)) := hc 1 _ rfl
          have a2 : wr.cell? ⟨b, off + k * 9 + 2, none⟩ = some (.int .i64 z.cr) := hc 2 _ rfl
          have a3 : wr.cell? ⟨b, off + k * 9 + 3, none⟩ = some (.int .i64 z.ch) := hc 3 _ rfl
          have a4 : wr.cell? ⟨b, off + k * 9 + 4, none⟩ = some (.int .i64 z.kd) := hc 4 _ rfl
          have a5 : wr.cell? ⟨b, off + k * 9 + 5, none⟩ = some (.int .i64 z.ver) := hc 5 _ rfl
          have a6 : wr.cell? ⟨b, off + k * 9 + 6, none⟩ = some (.int .i64 z.ks) := hc 6 _ rfl
          have a7 : wr.cell? ⟨b, off + k * 9 + 7, none⟩ = some (.int .i64 z.own) := hc 7 _ rfl
          have a8 : wr.cell? ⟨b, off + k * 9 + 8, none⟩ = some (.int .i64 z.nx) := hc 8 _ rfl
          obtain ⟨w6, hw6⟩ : ∃ w6, w6 = wr.alloc (.cells #[.string (B z.path), .string (B z.data), .int .i64 z.cr, .int .i64 z.ch, .int .i64 z.kd, .int .i64 z.ver, .int .i64 z.ks, .int .i64 z.own, .int .i64 z.nx] 40) := ⟨_, rfl⟩
          obtain ⟨q, eq⟩ : ∃ q, q = wr.heap.size := ⟨_, rfl⟩
          have hb6 : Below wr.heap.size wr w6 := by rw [hw6]; exact box_below wr _
          have hq6 : w6.heap[q]? = some (.cells #[.string (B z.path), .string (B z.data), .int .i64 z.cr, .int .i64 z.ch, .int .i64 z.kd, .int .i64 z.ver, .int .i64 z.ks, .int .i64 z.own, .int .i64 z.nx] 40 (0, 0)) := by rw [hw6, eq]; exact new_block wr _
          have HY6 := Lib.hid (HY.out.trans (hb6.mono HY.out.size))
          have HPA := Lib.hid (rparent_any (B z.path) w6 (by rw [B_size]; have := len_le HZO.out.path; omega))
          simp only [LB] at HPA
          obtain ⟨po, hpo⟩ : ∃ b, parentOk z.path = b := ⟨_, rfl⟩
          obtain ⟨up, hup⟩ : ∃ u, parent z.path = u := ⟨_, rfl⟩
          rw [hpo, hup] at HPA HPAR
          have HUL : Hid (up.length ≤ 488) := Lib.hid (by rw [← hup]; exact parent_short _)
          have HW6 := Lib.hid hw6
          have EQ := Lib.hid eq
          have q0 := cell_of hq6 (j := 0) rfl
          clear hz hc hzm hpo hup hw6 eq hb6 hq6
          go_upto_region 17 with fail
          rw [← HW6.out, ← EQ.out]
          clear a0 a1 a2 a3 a4 a5 a6 a7 a8
          go_wp2_with fail
          refine HPA.out.mono ?_
          rintro e w7 ⟨rfl, hb7⟩
          have HY7 := Lib.hid (HY6.out.trans (hb7.mono HY6.out.size))
          have HGE := Lib.hid (get_any (HT5.out.below HY7.out) up (by have := HUL.out; unfold maxLen; omega))
          obtain ⟨pz, hpz⟩ : ∃ p, (get T up).getD nd0 = p := ⟨_, rfl⟩
          obtain ⟨is, his⟩ : ∃ b, (get T up).isSome = b := ⟨_, rfl⟩
          have HPP : Hid (po = true → is = true ∧ (pz.own != 0) = false) := Lib.hid (fun e => by
            obtain ⟨p, h1, h2⟩ := HPAR.out e
            rw [h1] at hpz his
            refine ⟨his.symm, ?_⟩
            have hpz : p = pz := hpz
            rw [← hpz, h2]; rfl)
          rw [hpz, his] at HGE
          unfold ndv at HGE
          clear hb7 q0 hpz his
          go_wp2_with fail
          refine HGE.out.mono ?_
          rintro e w8 ⟨rfl, hb8⟩
          obtain ⟨w9, hw9⟩ : ∃ w9, w9 = w8.alloc (.cells #[.string (B pz.path), .string (B pz.data), .int .i64 pz.cr, .int .i64 pz.ch, .int .i64 pz.kd, .int .i64 pz.ver, .int .i64 pz.ks, .int .i64 pz.own, .int .i64 pz.nx] 40) := ⟨_, rfl⟩
          obtain ⟨u, eu⟩ : ∃ s, s = w8.heap.size := ⟨_, rfl⟩
          have hb9 : Below w8.heap.size w8 w9 := by rw [hw9]; exact box_below w8 _
          have hu9 : w9.heap[u]? = some (.cells #[.string (B pz.path), .string (B pz.data), .int .i64 pz.cr, .int .i64 pz.ch, .int .i64 pz.kd, .int .i64 pz.ver, .int .i64 pz.ks, .int .i64 pz.own, .int .i64 pz.nx] 40 (0, 0)) := by rw [hw9, eu]; exact new_block w8 _
          have HY8 := HY7.out.trans (hb8.mono HY7.out.size)
          have HY9 := Lib.hid (HY8.trans (hb9.mono HY8.size))
          have HW9 := Lib.hid hw9
          have EU := Lib.hid eu
          have u7 := cell_of hu9 (j := 7) rfl
          clear hb8 hb9 hw9 eu hu9 HY8
          go_upto_region 19 with fail
          rw [← HW9.out, ← EU.out]
          cases po with
          | false =>
            go_wp2_with fail
            go_roundw
            case rel => exact ⟨k + 1, hlt, by go_num, HY9⟩
            case measure => simp [intOf]; omega
          | true =>
            obtain ⟨rfl, hown⟩ := HPP.out rfl
            go_wp2_with fail
            go_roundw
            case rel => exact ⟨k + 1, hlt, by go_num, HY9⟩
            case measure => simp [intOf]; omega
        · have HAL2 := Lib.hid (alive_any wr)
          have hl1 : ¬ (200 : Int) < (T.length : Int) := by omega
          have hl2 : (T.length : Int) ≤ 200 := by omega
          go_wp2_with fail
          refine HAL2.out.mono ?_
          rintro e w6 ⟨rfl, hb6⟩
          have HY6 := Lib.hid (HY.out.trans (hb6.mono HY.out.size))
          have HCK := Lib.hid (rcheck_any (c := c5) (HRD.out.below HY6.out) HLE.out (by have := HCM.out; unfold maxLen at this; omega) (by omega) (fun z hz => by have := len_le (HG.out.each z hz).path; omega))
          rw [chk_good HG.out] at HCK
          clear hb6
          go_wp2_with fail
          refine HCK.out.mono ?_
          rintro e w7 ⟨rfl, hb7⟩
          have HE := Lib.hid (HX5.out.trans ((HY6.out.trans (hb7.mono HY6.out.size)).mono HX5.out.size))
          clear hb7
          go_wp2_with fail
          go_ret
          exact ⟨rfl, HE.out⟩
end Go.Proofs.YtfkhnnmibecbeaaDoor
