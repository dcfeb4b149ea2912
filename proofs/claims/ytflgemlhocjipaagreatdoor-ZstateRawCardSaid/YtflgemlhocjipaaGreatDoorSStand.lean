/-
  What the law's stands returns of a state and a document's state that are alike: true. Condition: the state is good.
-/
import Derived.Test.YtflgemlhocjipaaGreatDoorSSame
import Derived.Test.YtflgemlhocjipaaGreatDoorSSeen
namespace Go.Proofs.YtflgemlhocjipaaGreatDoor
set_option maxRecDepth 100000
open Go.ChangeShapes Go.WideShapes Go.ChangeAt Go.RowKit Go.Proofs.Zn Go.Proofs.Zt
open Go.Proofs.Zs (St Lst Rep Tx)

theorem alk_seen {S : St} (hg : Zs.Gd S) : Alk ⟨S.z, S.T, S.L, seenD S.D S.L⟩ S := ⟨rfl, rfl, rfl, fun x hx => by
  dsimp only at hx ⊢
  rw [seen_fd hg hx]
  exact ⟨rfl, rfl⟩⟩
theorem seen_like {w : World} {B B2 : Nat} {S : St} {vT vL vD vT2 vL2 vD2 : Value} (hg : Zs.Gd S) (hD : S.D.length ≤ 100000) (h : RW w B vT vL vD ⟨S.z, S.T, S.L, seenD S.D S.L⟩) (h2 : RW w B2 vT2 vL2 vD2 S) :
    Calls Tryz.prog 21 #[.agg #[.int .i64 S.z, vT, vL, vD], .agg #[.int .i64 S.z, vT2, vL2, vD2]] w fun e w' => e = .returned (.bool true) ∧ Below w.heap.size w w' :=
  vsame_any (S := ⟨S.z, S.T, S.L, seenD S.D S.L⟩) (S2 := S) h h2 (alk_seen hg) (Nat.le_trans hg.T.len (by decide)) (Nat.le_trans hg.L.len (by decide)) (Nat.le_trans (seen_len _ _) (Nat.le_trans hg.L.len (by decide))) hD (fun x hx => by
    dsimp only
    rw [seen_fd hg hx]
    have h9 := (fd_ps hg x.i).1
    omega)
theorem seen_like' {w : World} {B B2 : Nat} {S : St} {vT vL vD vT2 vL2 vD2 : Value} (hg : Zs.Gd S) (hD : S.D.length ≤ 100000) (h : RW w B vT vL vD ⟨S.z, S.T, S.L, seenD S.D S.L⟩) (h2 : RW w B2 vT2 vL2 vD2 S) :
    Calls Tryz.prog 21 #[.agg #[.int .i64 S.z, vT2, vL2, vD2], .agg #[.int .i64 S.z, vT, vL, vD]] w fun e w' => e = .returned (.bool true) ∧ Below w.heap.size w w' :=
  vsame_any (S := S) (S2 := ⟨S.z, S.T, S.L, seenD S.D S.L⟩) h2 h (alk_seen hg).symm (Nat.le_trans hg.T.len (by decide)) (Nat.le_trans hg.L.len (by decide)) hD (Nat.le_trans (seen_len _ _) (Nat.le_trans hg.L.len (by decide))) (fun x hx => by
    have h9 := (fd_ps hg x.i).1
    omega)
set_option maxHeartbeats 4000000 in
theorem stands_any {w : World} {B B2 sp : Nat} {S : St} {vT vL vD : Value} (h : StW w B sp S) (hg : Zs.Gd S) (hD : S.D.length ≤ 100000) (h2 : RW w B2 vT vL vD S) :
    Calls Tryz.prog 15 #[.pointer (some ⟨sp, 0, none⟩), .agg #[.int .i64 S.z, vT, vL, vD]] w fun e w' => e = .returned (.bool true) ∧ Below w.heap.size w w' := by
  obtain ⟨⟨A1, c1, rfl, -, -⟩, ⟨A2, c2, rfl, -⟩, ⟨A3, c3, l3, rfl, -, -⟩⟩ := id h2
  obtain ⟨nT, hnT⟩ : ∃ n, S.T.length = n := ⟨_, rfl⟩
  obtain ⟨nL, hnL⟩ : ∃ n, S.L.length = n := ⟨_, rfl⟩
  obtain ⟨nD, hnD⟩ : ∃ n, l3.length = n := ⟨_, rfl⟩
  rw [hnT, hnL, hnD] at h2 ⊢
  obtain ⟨w1, hw1⟩ : ∃ xx, xx = w.alloc (.cells #[.int .i64 S.z, .slice A1 nT c1, .slice A2 nL c2, .slice A3 nD c3] 31) := ⟨_, rfl⟩
  obtain ⟨q, eq⟩ : ∃ xx, xx = w.heap.size := ⟨_, rfl⟩
  have hbw1 : Below w.heap.size w w1 := by rw [hw1]; exact box_below w _
  have hkq : w1.heap[q]? = some (.cells #[.int .i64 S.z, .slice A1 nT c1, .slice A2 nL c2, .slice A3 nD c3] 31 (0, 0)) := by rw [hw1, eq]; exact new_block w _
  have HSE := Lib.hid (seen_any (h.below hbw1) hg)
  have HG := Lib.hid hg
  have HDL := Lib.hid hD
  have HB1 := Lib.hid hbw1
  have HQ1 := Lib.hid hkq
  have HD1 := Lib.hid (h2.below hbw1)
  have HW1 := Lib.hid hw1
  have EQ := Lib.hid eq
  clear h hg hD h2 hbw1 hkq hw1 eq hnT hnL hnD
  go_enter Tryz.func15, Tryz.ntmps15
  go_upto_region 1 with fail
  rw [← HW1.out, ← EQ.out]
  go_wp2_with fail
  refine HSE.out.mono ?_
  rintro e w2 ⟨vT2, vL2, vD2, rfl, hr2, hb2⟩
  obtain ⟨⟨A4, c4, rfl, -, -⟩, ⟨A5, c5, rfl, -⟩, ⟨A6, c6, l6, rfl, -, -⟩⟩ := id hr2
  dsimp only at *
  obtain ⟨mT, hmT⟩ : ∃ n, S.T.length = n := ⟨_, rfl⟩
  obtain ⟨mL, hmL⟩ : ∃ n, S.L.length = n := ⟨_, rfl⟩
  obtain ⟨mD, hmD⟩ : ∃ n, l6.length = n := ⟨_, rfl⟩
  rw [hmT, hmL, hmD] at hr2 ⊢
  obtain ⟨w3, hw3⟩ : ∃ xx, xx = w2.alloc (.cells #[.int .i64 S.z, .slice A4 mT c4, .slice A5 mL c5, .slice A6 mD c6] 31) := ⟨_, rfl⟩
  obtain ⟨r, er⟩ : ∃ xx, xx = w2.heap.size := ⟨_, rfl⟩
  have hbw3 : Below w2.heap.size w2 w3 := by rw [hw3]; exact box_below w2 _
  have hkr : w3.heap[r]? = some (.cells #[.int .i64 S.z, .slice A4 mT c4, .slice A5 mL c5, .slice A6 mD c6] 31 (0, 0)) := by rw [hw3, er]; exact new_block w2 _
  have hb13 := hb2.trans (hbw3.mono hb2.size)
  have HB3 : Hid (Below w.heap.size w w3) := Lib.hid (HB1.out.trans (hb13.mono HB1.out.size))
  have hq3 := blk_below HQ1.out hb13
  have HA := Lib.hid (hr2.below hbw3)
  have HD3 := Lib.hid (HD1.out.below hb13)
  have HS1 := Lib.hid (seen_like HG.out HDL.out HA.out HD3.out)
  have HQ3 := Lib.hid hq3
  have HR3 := Lib.hid hkr
  have HW3 := Lib.hid hw3
  have ER := Lib.hid er
  have s0 := cell_of hq3 (j := 0) rfl
  have s1 := cell_of hq3 (j := 1) rfl
  have s2 := cell_of hq3 (j := 2) rfl
  have s3 := cell_of hq3 (j := 3) rfl
  have t0 := cell_of hkr (j := 0) rfl
  have t1 := cell_of hkr (j := 1) rfl
  have t2 := cell_of hkr (j := 2) rfl
  have t3 := cell_of hkr (j := 3) rfl
  clear hr2 hb2 hbw3 hb13 hq3 hkr hw3 er hmT hmL hmD
  go_upto_region 2 with fail
  rw [← HW3.out, ← ER.out]
  go_wp2_with fail
  refine HS1.out.mono ?_
  rintro e w4 ⟨rfl, hb4⟩
  have hq4 := blk_below HQ3.out hb4
  have hr4 := blk_below HR3.out hb4
  have HS2 := Lib.hid (seen_like' HG.out HDL.out (HA.out.below hb4) (HD3.out.below hb4))
  have HB4 := Lib.hid (HB3.out.trans (hb4.mono HB3.out.size))
  have x0 := cell_of hq4 (j := 0) rfl
  have x1 := cell_of hq4 (j := 1) rfl
  have x2 := cell_of hq4 (j := 2) rfl
  have x3 := cell_of hq4 (j := 3) rfl
  have y0 := cell_of hr4 (j := 0) rfl
  have y1 := cell_of hr4 (j := 1) rfl
  have y2 := cell_of hr4 (j := 2) rfl
  have y3 := cell_of hr4 (j := 3) rfl
  clear hb4 hq4 hr4
  go_wp2_with fail
  refine HS2.out.mono ?_
  rintro e w5 ⟨rfl, hb5⟩
  have HE := Lib.hid (HB4.out.trans (hb5.mono HB4.out.size))
  clear hb5
  go_wp2_with fail
  go_ret
  exact ⟨rfl, HE.out⟩
end Go.Proofs.YtflgemlhocjipaaGreatDoor
