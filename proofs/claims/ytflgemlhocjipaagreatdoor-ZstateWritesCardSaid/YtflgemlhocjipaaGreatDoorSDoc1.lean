/-
  What the document's own New, Find, forget and SameReply return, and the laws' own and plain. Condition: memory holds the states.
-/
import Derived.Test.YtflgemlhocjipaaGreatDoorSMem
import Derived.Test.YtflgemlhocjipaaGreatDoorRef6
namespace Go.Proofs.YtflgemlhocjipaaGreatDoor
set_option maxRecDepth 100000
open Go.ChangeShapes Go.WideShapes Go.ChangeAt Go.RowKit Go.Proofs.Zn Go.Proofs.Zt
open Go.Proofs.Zs (St Lst Rep Tx)

def lvcells (l : List Lv) : List Value := l.flatMap lvcell
theorem LsW.nil (w : World) (B : Nat) : LsW w B (.slice none 0 0) [] := ⟨none, 0, [], rfl, ⟨Rd.nil _ _ _ _, fun h => absurd h (by simp), fun x hx => (by cases hx)⟩, rfl⟩
theorem DV.nil (w : World) (B : Nat) : Lq.DV w B (.slice none 0 0) [] := ⟨none, 0, rfl, Lq.DR.nil w B⟩
/-! ### Find -/
/-! ### forget -/
/-! ### Replies compared; own, plain -/
set_option maxHeartbeats 1000000 in
theorem own_any (w : World) (a b c d e : Int) (A : Option Addr) (n k : Nat) : Calls Tryz.prog 17 #[.agg #[.int .i64 a, .int .i64 b, .int .i64 c, .int .i64 d, .int .i64 e, .slice A n k]] w fun x w' => x = .returned (.agg #[.int .i64 a, .int .i64 b, .int .i64 c, .int .i64 d, .int .i64 e, .slice A n k]) ∧ Below w.heap.size w w' := by
  obtain ⟨w1, hw1, hbw1, hkq, hkr, hsw1⟩ := two_box w (.cells #[.int .i64 a, .int .i64 b, .int .i64 c, .int .i64 d, .int .i64 e, .slice A n k] 38) (.cells #[.int .i64 0, .int .i64 0, .int .i64 0, .int .i64 0, .int .i64 0, .slice none 0 0] 46)
  obtain ⟨q, eq⟩ : ∃ xx, xx = w.heap.size := ⟨_, rfl⟩
  obtain ⟨r, er⟩ : ∃ xx, xx = w.heap.size + 1 := ⟨_, rfl⟩
  rw [← eq] at hkq
  rw [← er] at hkr
  have hle : w.heap.size ≤ r := by omega
  obtain ⟨w6, hw6⟩ : ∃ xx, xx = ((((((w1.setCell ⟨r, 0, none⟩ (.int .i64 a)).setCell ⟨r, 1, none⟩ (.int .i64 b)).setCell ⟨r, 2, none⟩ (.int .i64 c)).setCell ⟨r, 3, none⟩ (.int .i64 d)).setCell ⟨r, 4, none⟩ (.int .i64 e)).setCell ⟨r, 5, none⟩ (.slice A n k)) := ⟨_, rfl⟩
  obtain ⟨hwrw6, hkw6⟩ := set6 hkr (.int .i64 a) (.int .i64 b) (.int .i64 c) (.int .i64 d) (.int .i64 e) (.slice A n k)
  rw [← hw6] at hwrw6 hkw6
  have HE : Hid (Below w.heap.size w w6) := Lib.hid (hbw1.trans (hwrw6.below.mono hle))
  have q0 := cell_of hkq (j := 0) rfl
  have q1 := cell_of hkq (j := 1) rfl
  have q2 := cell_of hkq (j := 2) rfl
  have q3 := cell_of hkq (j := 3) rfl
  have q4 := cell_of hkq (j := 4) rfl
  have q5 := cell_of hkq (j := 5) rfl
  have y0 := cell_of hkr (j := 0) rfl
  have y1 := cell_of hkr (j := 1) rfl
  have y2 := cell_of hkr (j := 2) rfl
  have y3 := cell_of hkr (j := 3) rfl
  have y4 := cell_of hkr (j := 4) rfl
  have y5 := cell_of hkr (j := 5) rfl
  have g0 := frozen_of_row w1 _ 0 _ _ hkr
  have g1 := frozen_of_row w1 _ 1 _ _ hkr
  have g2 := frozen_of_row w1 _ 2 _ _ hkr
  have g3 := frozen_of_row w1 _ 3 _ _ hkr
  have g4 := frozen_of_row w1 _ 4 _ _ hkr
  have g5 := frozen_of_row w1 _ 5 _ _ hkr
  have z0 := cell_of hkw6 (j := 0) rfl
  have z1 := cell_of hkw6 (j := 1) rfl
  have z2 := cell_of hkw6 (j := 2) rfl
  have z3 := cell_of hkw6 (j := 3) rfl
  have z4 := cell_of hkw6 (j := 4) rfl
  have z5 := cell_of hkw6 (j := 5) rfl
  have HW1 := Lib.hid hw1
  have HW6 := Lib.hid hw6
  have ER := Lib.hid er
  have EQ := Lib.hid eq
  clear hw1 er eq hbw1 hkr hkq hsw1 hle hw6 hwrw6 hkw6
  go_enter Tryz.func17, Tryz.ntmps17
  go_upto_region 1 with fail
  rw [← HW1.out, ← ER.out, ← EQ.out]
  go_wp2_with fail
  rw [← HW6.out]
  exact bodyPost_ret (v := .agg #[.int .i64 a, .int .i64 b, .int .i64 c, .int .i64 d, .int .i64 e, .slice A n k]) (by simp [results, Tryz.results17, go_sem, z0, z1, z2, z3, z4, z5]) rfl ⟨rfl, HE.out⟩
end Go.Proofs.YtflgemlhocjipaaGreatDoor
