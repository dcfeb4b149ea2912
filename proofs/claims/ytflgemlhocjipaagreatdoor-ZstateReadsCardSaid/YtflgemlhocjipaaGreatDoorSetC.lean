/-
  What set returns and leaves. Condition: the tree is good.
-/
import Derived.Test.YtflgemlhocjipaaGreatDoorCreate
namespace Go.Proofs.YtflgemlhocjipaaGreatDoor
set_option maxRecDepth 100000
open Go.ChangeShapes Go.WideShapes Go.ChangeAt Go.RowKit Go.Proofs.Zn Go.Proofs.Zt

/-- What a SetTo does. -/
def setS (T : Tr) (zx : Int) (c : Chg) : Stp :=
  if 1024 < c.data.length then fails 87 else
  if askedE T c ≠ 0 then fails (askedE T c) else ⟨put T (setd (askedZ T c) c.data zx), c.path, [⟨0, 3, c.path⟩], 0⟩
theorem asked_ok {T : Tr} {c : Chg} {z : Nd} (h : askedE T c = 0) (hz : askedZ T c = z) : get T c.path = some z := by
  unfold askedZ at hz
  rw [if_pos h] at hz
  unfold askedE at h
  cases hg : get T c.path with
  | none => rw [hg] at h; cases h
  | some y => rw [hg] at hz; exact congrArg some hz
theorem set_end {w w7 : World} {tp mb : Nat} {T : Tr} {zx : Int} {c : Chg} {z : Nd} (hd : ¬ 1024 < c.data.length) (h : askedE T c = 0) (hz : askedZ T c = z) (hp : z.path = c.path)
    (ht : TreeW w7 tp mb (put T (setd z c.data zx))) (hg : w.grownBy w7 (some mb)) (hs : w.heap.size ≤ w7.heap.size) :
    ChPost tp mb (setS T zx c) w (.returned (.tuple #[.string (B z.path), .slice (some ⟨w7.heap.size, 0, none⟩) 1 1, .int .i64 0])) ((w7.alloc (.cells #[.int .i64 0, .int .i64 3, .string (B z.path)] 165)).drew) := by
  unfold setS
  rw [if_neg hd, if_neg (by rw [h]; simp), hz]
  refine ⟨_, by rw [hp], gb_trans hg (gb_trans (gb_below (box_below w7 _) _) gb_drew), fun _ => ⟨(ht.below (box_below w7 _)).below ((Below.refl _ _).drew), ?_⟩⟩
  have := own_new (base := w.heap.size) (sz := 3) (n := 1) (new_block w7 (.cells #[.int .i64 0, .int .i64 3, .string (B z.path)] 165)) hs (by unfold maxLen; omega) rfl
  rw [hp] at this ⊢
  exact this
set_option maxHeartbeats 4000000 in
theorem set_any {w : World} {tp mb : Nat} {T : Tr} (h : TreeW w tp mb T) (hg : Zt.Good T) (zx : Int) (c : Chg) (hv : valid c.path = true) :
    Calls Tryz.prog 122 #[.pointer (some ⟨tp, 0, none⟩), .int .i64 zx, .agg #[.int .i64 c.kind, .string (B c.path), .string (B c.data), .int .i64 c.ver, .bool c.eph, .bool c.sq]] w (ChPost tp mb (setS T zx c) w) := by
  obtain ⟨w1, hw1⟩ : ∃ w1, w1 = w.alloc (.cells #[.int .i64 c.kind, .string (B c.path), .string (B c.data), .int .i64 c.ver, .bool c.eph, .bool c.sq] 79) := ⟨_, rfl⟩
  obtain ⟨q, eq⟩ : ∃ q, q = w.heap.size := ⟨_, rfl⟩
  have hb1 : Below w.heap.size w w1 := by rw [hw1]; exact box_below w _
  have hq : w1.heap[q]? = some (.cells #[.int .i64 c.kind, .string (B c.path), .string (B c.data), .int .i64 c.ver, .bool c.eph, .bool c.sq] 79 (0, 0)) := by rw [hw1, eq]; exact new_block w _
  have HPL : Hid (Cq w q tp mb T c w1) := Lib.hid ⟨hb1, h.below hb1, hq⟩
  have HPC := Lib.hid (asked_any (h.below hb1) c (by have := len_le hv; unfold maxLen; omega))
  obtain ⟨k, hk⟩ : ∃ k, askedE T c = k := ⟨_, rfl⟩
  obtain ⟨p, hp⟩ : ∃ p, askedZ T c = p := ⟨_, rfl⟩
  rw [hk, hp] at HPC
  unfold ndv at HPC
  have HK := Lib.hid hk
  have HP := Lib.hid hp
  have HW1 := Lib.hid hw1
  have EQ := Lib.hid eq
  have HG := Lib.hid hg
  have q0 := cell_of hq (j := 0) rfl
  have q1 := cell_of hq (j := 1) rfl
  have q2 := cell_of hq (j := 2) rfl
  have q3 := cell_of hq (j := 3) rfl
  have q4 := cell_of hq (j := 4) rfl
  have q5 := cell_of hq (j := 5) rfl
  clear h hg hw1 eq hb1 hq hk hp
  go_enter Tryz.func122, Tryz.ntmps122
  go_upto_region 1 with fail
  rw [← HW1.out, ← EQ.out]
  by_cases hd : 1024 < c.data.length
  · have hd' : (1024 : Int) < (c.data.length : Int) := by omega
    have HE := Lib.hid (ch_fail (tp := tp) (mb := mb) (S := setS T zx c) (k := 87) (by unfold setS; rw [if_pos hd]) (by decide) HPL.out.below)
    clear hd
    go_wp2_with fail
    go_ret3
    exact HE.out
  have hd' : ¬ (1024 : Int) < (c.data.length : Int) := by omega
  have HD := Lib.hid hd
  clear hd
  go_wp2_with fail
  refine HPC.out.mono ?_
  rintro e w2 ⟨rfl, hb2⟩
  have HPL2 := Lib.hid (HPL.out.go hb2)
  obtain ⟨w3, hw3⟩ : ∃ w3, w3 = w2.alloc (.cells #[.string (B p.path), .string (B p.data), .int .i64 p.cr, .int .i64 p.ch, .int .i64 p.kd, .int .i64 p.ver, .int .i64 p.ks, .int .i64 p.own, .int .i64 p.nx] 132) := ⟨_, rfl⟩
  obtain ⟨s, es⟩ : ∃ s, s = w2.heap.size := ⟨_, rfl⟩
  have hb3 : Below w2.heap.size w2 w3 := by rw [hw3]; exact box_below w2 _
  have hs : w3.heap[s]? = some (.cells #[.string (B p.path), .string (B p.data), .int .i64 p.cr, .int .i64 p.ch, .int .i64 p.kd, .int .i64 p.ver, .int .i64 p.ks, .int .i64 p.own, .int .i64 p.nx] 132 (0, 0)) := by rw [hw3, es]; exact new_block w2 _
  have HPL3 := Lib.hid (HPL2.out.go hb3)
  have HSZ2 := Lib.hid HPL2.out.below.size
  clear HPL HPL2
  have HPL := HPL3
  have HW3 := Lib.hid hw3
  have ES := Lib.hid es
  have HS := Lib.hid hs
  clear HPL3 hb2 hb3 hw3 es hs q0 q1 q2 q3 q4 q5
  go_upto_region 4 with fail
  rw [← HW3.out, ← ES.out]
  by_cases hk0 : k = 0
  · subst hk0
    have hgp := asked_ok HK.out HP.out
    have HGP := Lib.hid hgp
    have HPI : Hid (NdOk p) := Lib.hid (HG.out.each p (get_some hgp).1)
    have HPP : Hid (p.path = c.path) := Lib.hid (get_some hgp).2
    have HC := Lib.hid (clone_any (B c.data) w3 (by rw [lenB]; have := HD.out; omega))
    have hq := HPL.out.bq
    have q2 := cell_of hq (j := 2) rfl
    clear hq hgp
    go_wp2_with fail
    refine HC.out.mono ?_
    rintro e w4 ⟨rfl, hb4⟩
    have HPL4 := Lib.hid (HPL.out.go hb4)
    have hs4 := blk_below HS.out hb4
    clear HPL HS hb4 q2
    obtain ⟨U, hU⟩ : ∃ U, up p.ver = U := ⟨_, rfl⟩
    have HM := Lib.hid (more_any p.ver HPI.out.ver)
    rw [hU] at HM
    have hx1 := heap_setCell_same w4 s 1 _ 132 (.string (B c.data)) hs4
    have hx2 := heap_setCell_same _ s 3 _ 132 (.int .i64 zx) hx1
    have hx3 := heap_setCell_same _ s 5 _ 132 (.int .i64 U) hx2
    obtain ⟨w5, hw5⟩ : ∃ w5, w5 = (w4.setCell ⟨s, 1, none⟩ (.string (B c.data))).setCell ⟨s, 3, none⟩ (.int .i64 zx) := ⟨_, rfl⟩
    rw [← hw5] at hx2 hx3
    obtain ⟨w6, hw6⟩ : ∃ w6, w6 = w5.setCell ⟨s, 5, none⟩ (.int .i64 U) := ⟨_, rfl⟩
    have hwr : Wr s w4 w6 := by rw [hw6, hw5]; exact (((Wr.refl s w4).set 1 _).set 3 _).set 5 _
    rw [← hw6] at hx3
    replace hx2 : w5.heap[s]? = some (.cells #[.string (B p.path), .string (B c.data), .int .i64 p.cr, .int .i64 zx, .int .i64 p.kd, .int .i64 p.ver, .int .i64 p.ks, .int .i64 p.own, .int .i64 p.nx] 132 (0, 0)) := hx2
    replace hx3 : w6.heap[s]? = some (.cells #[.string (B p.path), .string (B c.data), .int .i64 p.cr, .int .i64 zx, .int .i64 p.kd, .int .i64 U, .int .i64 p.ks, .int .i64 p.own, .int .i64 p.nx] 132 (0, 0)) := hx3
    have ht6 := HPL4.out.tree.gb hwr.gb (ne_cell HPL4.out.tree.here hs4 (by decide)) (Ne.symm (HPL4.out.tree.map.ne_cells hs4))
    obtain ⟨w7, hrun, hm7, hg7⟩ := store_nd ht6.map.drew HG.out.srt ⟨p.path, c.data, p.cr, zx, p.kd, U, p.ks, p.own, p.nx⟩ (by have := len_le HPI.out.path; unfold maxLen; dsimp only; omega) (by have := HG.out.len; omega)
    have ht7 := ht6.put (gb_trans gb_drew hg7) hm7
    have hs7 := gb_cells (gb_trans gb_drew hg7) (ht6.map.ne_cells hx3) hx3
    have hg := gb_trans (gb_wr (gb_below HPL4.out.below (some mb)) hwr (by rw [ES.out]; exact HSZ2.out)) (gb_trans gb_drew hg7)
    have HE := Lib.hid (set_end (zx := zx) HD.out HK.out HP.out HPP.out (by unfold setd; rw [hU]; exact ht7) hg hg.size)
    dsimp only at hrun
    have a0 := cell_of hs4 (j := 0) rfl
    have a1 := cell_of hs4 (j := 1) rfl
    have a2 := cell_of hs4 (j := 2) rfl
    have a3 := cell_of hs4 (j := 3) rfl
    have a4 := cell_of hs4 (j := 4) rfl
    have a5 := cell_of hs4 (j := 5) rfl
    have a6 := cell_of hs4 (j := 6) rfl
    have a7 := cell_of hs4 (j := 7) rfl
    have a8 := cell_of hs4 (j := 8) rfl
    have af0 := frozen_of_row w4 _ 0 _ _ hs4
    have af1 := frozen_of_row w4 _ 1 _ _ hs4
    have af2 := frozen_of_row w4 _ 2 _ _ hs4
    have af3 := frozen_of_row w4 _ 3 _ _ hs4
    have af4 := frozen_of_row w4 _ 4 _ _ hs4
    have af5 := frozen_of_row w4 _ 5 _ _ hs4
    have af6 := frozen_of_row w4 _ 6 _ _ hs4
    have af7 := frozen_of_row w4 _ 7 _ _ hs4
    have af8 := frozen_of_row w4 _ 8 _ _ hs4
    have b0 := cell_of hx2 (j := 0) rfl
    have b1 := cell_of hx2 (j := 1) rfl
    have b2 := cell_of hx2 (j := 2) rfl
    have b3 := cell_of hx2 (j := 3) rfl
    have b4 := cell_of hx2 (j := 4) rfl
    have b5 := cell_of hx2 (j := 5) rfl
    have b6 := cell_of hx2 (j := 6) rfl
    have b7 := cell_of hx2 (j := 7) rfl
    have b8 := cell_of hx2 (j := 8) rfl
    have bf0 := frozen_of_row w5 _ 0 _ _ hx2
    have bf1 := frozen_of_row w5 _ 1 _ _ hx2
    have bf2 := frozen_of_row w5 _ 2 _ _ hx2
    have bf3 := frozen_of_row w5 _ 3 _ _ hx2
    have bf4 := frozen_of_row w5 _ 4 _ _ hx2
    have bf5 := frozen_of_row w5 _ 5 _ _ hx2
    have bf6 := frozen_of_row w5 _ 6 _ _ hx2
    have bf7 := frozen_of_row w5 _ 7 _ _ hx2
    have bf8 := frozen_of_row w5 _ 8 _ _ hx2
    have s0 := cell_of hx3 (j := 0) rfl
    have s1 := cell_of hx3 (j := 1) rfl
    have s2 := cell_of hx3 (j := 2) rfl
    have s3 := cell_of hx3 (j := 3) rfl
    have s4 := cell_of hx3 (j := 4) rfl
    have s5 := cell_of hx3 (j := 5) rfl
    have s6 := cell_of hx3 (j := 6) rfl
    have s7 := cell_of hx3 (j := 7) rfl
    have s8 := cell_of hx3 (j := 8) rfl
    have d0 := cell_of hs7 (j := 0) rfl
    have d1 := cell_of hs7 (j := 1) rfl
    have d2 := cell_of hs7 (j := 2) rfl
    have d3 := cell_of hs7 (j := 3) rfl
    have d4 := cell_of hs7 (j := 4) rfl
    have d5 := cell_of hs7 (j := 5) rfl
    have d6 := cell_of hs7 (j := 6) rfl
    have d7 := cell_of hs7 (j := 7) rfl
    have d8 := cell_of hs7 (j := 8) rfl
    have e0 := cell_of (blk_alloc hs7 (.cells #[.int .i64 0, .int .i64 3, .string (B p.path)] 165)) (j := 0) rfl
    have t0 := cell_of ht6.here (j := 0) rfl
    have HW5 := Lib.hid hw5
    have HW6 := Lib.hid hw6
    clear hs4 hU hx1 hx2 hx3 hw5 hw6 hwr ht6 hm7 hg7 ht7 hs7 hg
    go_upto_region 8 with fail
    rw [← HW5.out]
    go_wp2_with fail
    refine (HM.out _).mono ?_
    rintro e w2 ⟨rfl, rfl⟩
    go_upto_region 9 with fail
    rw [← HW6.out]
    go_still_tail 7, (by kernel_rfl)
    change wpList _ _ _ _ _ w6.drew
    go_wp2_with fail
    go_region
    go_wp2_with fail
    go_ret3
    exact HE.out
  · have HE := Lib.hid (ch_fail (tp := tp) (mb := mb) (S := setS T zx c) (k := k) (by unfold setS; rw [if_neg HD.out, HK.out, if_pos hk0]) hk0 HPL.out.below)
    have hk1 : (k != 0) = true := by simpa using hk0
    clear hk0
    go_wp2_with fail
    go_ret3
    exact HE.out
end Go.Proofs.YtflgemlhocjipaaGreatDoor
