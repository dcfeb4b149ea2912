/-
  What the law's stands returns of a tree and a list that are the same: true. Condition: the tree is good.
-/
import Derived.Test.YtfkhnnmibecbeaaGreatDoorRef6
import Derived.Test.YtfkhnnmibecbeaaGreatDoorKidsP
import Derived.Test.YtfkhnnmibecbeaaGreatDoorAllP
namespace Go.Proofs.YtfkhnnmibecbeaaGreatDoor
set_option maxRecDepth 100000
open Go.ChangeShapes Go.WideShapes Go.ChangeAt Go.RowKit Go.Proofs.Zn Go.Proofs.Zt

theorem kids_few (T : Tr) (p : Txt) : (kids T p).length ≤ T.length := by unfold kids; rw [List.length_map]; exact List.length_filter_le _ _
set_option maxHeartbeats 4000000 in
theorem stands_any {w : World} {tp mb : Nat} {T : Tr} (ht : TreeW w tp mb T) (hg : Zt.Good T) {A : Option Addr} {c : Nat} (hr : Rd ncell 9 w A T.length T) :
    Calls Tryz.prog 14 #[.pointer (some ⟨tp, 0, none⟩), .slice A T.length c] w fun e w' => e = .returned (.bool true) ∧ Below w.heap.size w w' := by
  have HAL := Lib.hid (all_any ht hg)
  have HT := Lib.hid ht
  have HG := Lib.hid hg
  have HR := Lib.hid hr
  have HLN := Lib.hid hg.len
  clear ht hg hr
  go_enter Tryz.func14, Tryz.ntmps14
  go_wp2_with fail
  refine HAL.out.mono ?_
  rintro e w1 ⟨v, rfl, hrow, hb1⟩
  obtain ⟨A1, c1, rfl, -, -, -⟩ := own_form hrow
  have HSA := Lib.hid (rsame_any (c := c1) (c2 := c) (Rd.of_own (cell := ncell) (l := T) hrow (fun _ _ => rfl) (by omega)) (HR.out.below hb1) (by have := HLN.out; omega))
  have HB1 := Lib.hid hb1
  clear hrow hb1
  go_wp2_with fail
  refine HSA.out.mono ?_
  rintro e w2 ⟨rfl, hb2⟩
  have HB2 := Lib.hid (HB1.out.trans (hb2.mono HB1.out.size))
  have hT := HLN.out
  clear hb2
  go_wp2_with fail
  go_loopw [20] (fun i wr => ∃ k : Nat, k ≤ T.length ∧ i = .int .i64 k ∧ Hid (Below w.heap.size w wr)) (fun i _ => T.length - (intOf i).toNat)
  case atStart => exact ⟨0, Nat.zero_le _, rfl, HB2⟩
  case round =>
    obtain ⟨k, hk, rfl, HX⟩ := hrel
    have hT := HLN.out
    by_cases hlt : k < T.length
    · obtain ⟨b, off, z, rfl, hz, hc⟩ := (HR.out.below HX.out).at hlt
      have hzm : z ∈ T := List.mem_of_getElem? hz
      have HGZ : Hid (get T z.path = some z) := Lib.hid (get_mem HG.out.srt hzm)
      have HPL : Hid (z.path.length ≤ 488) := Lib.hid (len_le (HG.out.each z hzm).path)
      have a0 : wr.cell? ⟨b, off + k * 9, none⟩ = some (.string (B z.path)) := hc 0 _ rfl
      have a1 : wr.cell? ⟨b, off + k * 9 + 1, none⟩ = some (.string (B z.data)) := hc 1 _ rfl
      have a2 : wr.cell? ⟨b, off + k * 9 + 2, none⟩ = some (.int .i64 z.cr) := hc 2 _ rfl
      have a3 : wr.cell? ⟨b, off + k * 9 + 3, none⟩ = some (.int .i64 z.ch) := hc 3 _ rfl
      have a4 : wr.cell? ⟨b, off + k * 9 + 4, none⟩ = some (.int .i64 z.kd) := hc 4 _ rfl
      have a5 : wr.cell? ⟨b, off + k * 9 + 5, none⟩ = some (.int .i64 z.ver) := hc 5 _ rfl
      have a6 : wr.cell? ⟨b, off + k * 9 + 6, none⟩ = some (.int .i64 z.ks) := hc 6 _ rfl
      have a7 : wr.cell? ⟨b, off + k * 9 + 7, none⟩ = some (.int .i64 z.own) := hc 7 _ rfl
      have a8 : wr.cell? ⟨b, off + k * 9 + 8, none⟩ = some (.int .i64 z.nx) := hc 8 _ rfl
      obtain ⟨w3, hw3⟩ : ∃ w3, w3 = wr.alloc (.cells #[.string (B z.path), .string (B z.data), .int .i64 z.cr, .int .i64 z.ch, .int .i64 z.kd, .int .i64 z.ver, .int .i64 z.ks, .int .i64 z.own, .int .i64 z.nx] 41) := ⟨_, rfl⟩
      obtain ⟨q, eq⟩ : ∃ q, q = wr.heap.size := ⟨_, rfl⟩
      have hb3 : Below wr.heap.size wr w3 := by rw [hw3]; exact box_below wr _
      have hq3 : w3.heap[q]? = some (.cells #[.string (B z.path), .string (B z.data), .int .i64 z.cr, .int .i64 z.ch, .int .i64 z.kd, .int .i64 z.ver, .int .i64 z.ks, .int .i64 z.own, .int .i64 z.nx] 41 (0, 0)) := by rw [hw3, eq]; exact new_block wr _
      have HB3 := Lib.hid (HX.out.trans (hb3.mono HX.out.size))
      have HGE := Lib.hid (get_any (HT.out.below HB3.out) z.path (by have := HPL.out; unfold maxLen; omega))
      rw [HGZ.out] at HGE
      simp only [Option.getD_some, Option.isSome_some] at HGE
      unfold ndv at HGE
      have HQ3 := Lib.hid hq3
      have q0 := cell_of hq3 (j := 0) rfl
      have HW3 := Lib.hid hw3
      have EQ := Lib.hid eq
      clear hz hc hzm hw3 eq hb3 hq3
      go_upto_region 6 with fail
      rw [← HW3.out, ← EQ.out]
      clear a0 a1 a2 a3 a4 a5 a6 a7 a8
      go_wp2_with fail
      refine HGE.out.mono ?_
      rintro e w4 ⟨rfl, hb4⟩
      obtain ⟨w5, hw5⟩ : ∃ w5, w5 = w4.alloc (.cells #[.string (B z.path), .string (B z.data), .int .i64 z.cr, .int .i64 z.ch, .int .i64 z.kd, .int .i64 z.ver, .int .i64 z.ks, .int .i64 z.own, .int .i64 z.nx] 41) := ⟨_, rfl⟩
      obtain ⟨u, eu⟩ : ∃ s, s = w4.heap.size := ⟨_, rfl⟩
      have hb5 : Below w4.heap.size w4 w5 := by rw [hw5]; exact box_below w4 _
      have hu5 : w5.heap[u]? = some (.cells #[.string (B z.path), .string (B z.data), .int .i64 z.cr, .int .i64 z.ch, .int .i64 z.kd, .int .i64 z.ver, .int .i64 z.ks, .int .i64 z.own, .int .i64 z.nx] 41 (0, 0)) := by rw [hw5, eu]; exact new_block w4 _
      have HQ5 := Lib.hid (blk_below (blk_below HQ3.out hb4) hb5)
      have HU5 := Lib.hid hu5
      have HB5 := Lib.hid ((HB3.out.trans (hb4.mono HB3.out.size)).trans (hb5.mono (HB3.out.trans (hb4.mono HB3.out.size)).size))
      have HKI := Lib.hid (kids_any (HT.out.below HB5.out) HG.out z.path (by have := HPL.out; unfold maxLen; omega))
      unfold KiPost at HKI
      have hka : kidsA T z.path = kids T z.path := by unfold kidsA; rw [HGZ.out]; rfl
      rw [hka, HGZ.out] at HKI
      simp only [Option.isSome_some] at HKI
      have HW5 := Lib.hid hw5
      have EU := Lib.hid eu
      clear hb4 hw5 eu hb5 hu5 hka q0
      have q0 := cell_of HQ5.out (j := 0) rfl
      go_upto_region 7 with fail
      rw [← HW5.out, ← EU.out]
      go_wp2_with fail
      refine HKI.out.mono ?_
      rintro e w6 ⟨v6, rfl, hr6, hb6⟩
      obtain ⟨A6, c6, rfl, -, -, -⟩ := own_form hr6
      have HB6 := Lib.hid (HB5.out.trans (hb6.mono HB5.out.size))
      have HQ6 := Lib.hid (blk_below HQ5.out hb6)
      have HU6 := Lib.hid (blk_below HU5.out hb6)
      have HRK := Lib.hid (rkids_any (c := c) (HR.out.below HB6.out) (by omega) (fun y hy => by have := len_le (HG.out.each y hy).path; omega) z.path)
      have hka : kidsR T z.path = kids T z.path := by unfold kidsR; rw [HGZ.out]; rfl
      unfold RkPost at HRK
      rw [hka] at HRK
      have HR6 := Lib.hid hr6
      clear hr6 hb6 hka q0
      have q0 := cell_of HQ6.out (j := 0) rfl
      go_wp2_with fail
      refine HRK.out.mono ?_
      rintro e w7 ⟨v7, rfl, hr7, hb7⟩
      obtain ⟨A7, c7, rfl, -, -, -⟩ := own_form hr7
      have HB7 := Lib.hid (HB6.out.trans (hb7.mono HB6.out.size))
      have hq7 := blk_below HQ6.out hb7
      have hu7 := blk_below HU6.out hb7
      obtain ⟨ks, hks⟩ : ∃ l, kids T z.path = l := ⟨_, rfl⟩
      have hkl := kids_few T z.path
      rw [hks] at hr7 HR6 hkl
      have h6 := own_below HR6.out hb7
      rw [scells] at h6 hr7
      have HST := Lib.hid (rsametexts_any (c := c6) (c2 := c7) (Rd.of_own (cell := scell) (l := ks) h6 (fun _ _ => rfl) (by omega)) (Rd.of_own (cell := scell) (l := ks) hr7 (fun _ _ => rfl) (by omega)) (by omega))
      rw [HGZ.out, hks]
      clear hr7 hb7 h6 hks q0
      have q0 := cell_of hq7 (j := 0) rfl
      have q1 := cell_of hq7 (j := 1) rfl
      have q2 := cell_of hq7 (j := 2) rfl
      have q3 := cell_of hq7 (j := 3) rfl
      have q4 := cell_of hq7 (j := 4) rfl
      have q5 := cell_of hq7 (j := 5) rfl
      have q6 := cell_of hq7 (j := 6) rfl
      have q7 := cell_of hq7 (j := 7) rfl
      have q8 := cell_of hq7 (j := 8) rfl
      have u0 := cell_of hu7 (j := 0) rfl
      have u1 := cell_of hu7 (j := 1) rfl
      have u2 := cell_of hu7 (j := 2) rfl
      have u3 := cell_of hu7 (j := 3) rfl
      have u4 := cell_of hu7 (j := 4) rfl
      have u5 := cell_of hu7 (j := 5) rfl
      have u6 := cell_of hu7 (j := 6) rfl
      have u7 := cell_of hu7 (j := 7) rfl
      have u8 := cell_of hu7 (j := 8) rfl
      clear hq7 hu7
      go_wp2_with fail
      refine HST.out.mono ?_
      rintro e w8 ⟨rfl, hb8⟩
      have HB8 := Lib.hid (HB7.out.trans (hb8.mono HB7.out.size))
      clear hb8 q0 q1 q2 q3 q4 q5 q6 q7 q8 u0 u1 u2 u3 u4 u5 u6 u7 u8
      go_wp2_with fail
      go_roundw
      case rel => exact ⟨k + 1, hlt, by go_num, HB8⟩
      case measure => simp [intOf]; omega
    · go_wp2_with fail
      go_ret
      exact ⟨rfl, HX.out⟩
end Go.Proofs.YtfkhnnmibecbeaaGreatDoor
