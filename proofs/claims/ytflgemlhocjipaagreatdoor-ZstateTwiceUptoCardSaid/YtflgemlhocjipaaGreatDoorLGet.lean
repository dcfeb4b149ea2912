/-
  What New, Clone and Get return and leave. Condition: the table is good.
-/
import Derived.Test.YtflgemlhocjipaaGreatDoorLAll
import Derived.Test.YtflgemlhocjipaaGreatDoorLFind
namespace Go.Proofs.YtflgemlhocjipaaGreatDoor.Lq
set_option maxRecDepth 100000
open Go.ChangeShapes Go.WideShapes Go.ChangeAt Go.RowKit Go.Proofs.Le

/-- A table that is new. -/
def NwPost (w : World) (L : Tb) (e : Ending) (w' : World) : Prop := ∃ tp v, e = .returned (.pointer (some ⟨tp, 0, none⟩)) ∧ TabW w' w.heap.size tp v L ∧ Below w.heap.size w w' ∧ tp < w'.heap.size ∧ v.ownBlock ≠ some tp
theorem nw_of {w w1 : World} {L : Tb} {v : Value} (ho : w1.ownsRow w.heap.size 100 3 v L.length (lcells L)) (hb : Below w.heap.size w w1) : NwPost w L (.returned (.pointer (some ⟨w1.heap.size, 0, none⟩))) (w1.alloc (.cells #[v] 160)) := by
  have h1 := new_block w1 (.cells #[v] 160)
  have h2 := box_below w1 (.cells #[v] 160)
  have h3 := own_below ho h2
  exact ⟨w1.heap.size, v, rfl, ⟨h1, h3, hb.size⟩, hb.trans (h2.mono hb.size), blk_lt h1, own_ne h3 h1 (by decide)⟩
theorem clone_any {w : World} {Bs tp : Nat} {v : Value} {L : Tb} (ht : TabW w Bs tp v L) (hn : L.length ≤ 100000) : Calls Tryz.prog 76 #[.pointer (some ⟨tp, 0, none⟩)] w (NwPost w L) := by
  have HA := Lib.hid (all_any ht hn)
  clear ht
  go_enter Tryz.func76, Tryz.ntmps76
  go_wp2_with fail
  refine HA.out.mono ?_
  rintro e w1 ⟨A1, c1, rfl, h1, h2⟩
  have HE := Lib.hid (nw_of h1 h2)
  clear h1 h2
  go_wp2_with fail
  go_ret
  exact HE.out
theorem new_any (w : World) : Calls Tryz.prog 39 #[] w (NwPost w []) := by
  have HE := Lib.hid (nw_of (w1 := w) (L := []) (by simpa [lcells] using World.ownsRow_nil w w.heap.size 100 3) (Below.refl _ _))
  go_enter Tryz.func39, Tryz.ntmps39
  go_wp2_with fail
  go_ret
  exact HE.out
theorem fnd_some {L : Tb} {id : Int} {x : Ls} (h : has L id = some x) : fnd L id = x := by unfold fnd; rw [h]; rfl
theorem fnd_none {L : Tb} {id : Int} (h : has L id = none) : fnd L id = z0 := by unfold fnd; rw [h]; rfl
theorem fnd_bool {L : Tb} (hg : Le.Good L) (id : Int) : decide (fnd L id = z0) = !(has L id).isSome := by
  cases h : has L id with
  | none => rw [fnd_none h]; simp
  | some x =>
    rw [fnd_some h]
    have := okL_ne (hg.each x (has_mem h).1)
    simp [this]
def GePost (w : World) (L : Tb) (id : Int) (e : Ending) (w' : World) : Prop :=
  e = .returned (.tuple #[.agg #[.int .i64 (fnd L id).i, .int .i64 (fnd L id).s, .int .i64 (fnd L id).l], .bool (has L id).isSome]) ∧ Below w.heap.size w w'
set_option maxHeartbeats 2000000 in
theorem get_any {w : World} {Bs tp : Nat} {v : Value} {L : Tb} (ht : TabW w Bs tp v L) (hg : Le.Good L) (id : Int) : Calls Tryz.prog 85 #[.pointer (some ⟨tp, 0, none⟩), .int .i64 id] w (GePost w L id) := by
  obtain ⟨w1, hw1⟩ : ∃ w1, w1 = w.alloc (.cells #[.int .i64 0, .int .i64 0, .int .i64 0] 100) := ⟨_, rfl⟩
  obtain ⟨q, eq⟩ : ∃ q, q = w.heap.size := ⟨_, rfl⟩
  have hb1 : Below w.heap.size w w1 := by rw [hw1]; exact box_below w _
  have hq : w1.heap[q]? = some (.cells #[.int .i64 0, .int .i64 0, .int .i64 0] 100 (0, 0)) := by rw [hw1, eq]; exact new_block w _
  obtain ⟨f, hf⟩ : ∃ f, fnd L id = f := ⟨_, rfl⟩
  obtain ⟨b, hb⟩ : ∃ b, (has L id).isSome = b := ⟨_, rfl⟩
  have hqe : ∀ W, (binOp .neq 100 (.agg #[.int .i64 f.i, .int .i64 f.s, .int .i64 f.l]) (.agg #[.int .i64 0, .int .i64 0, .int .i64 0])).run Tryz.prog W = .ok (.bool b) W := fun W => by
    have h := neqL f z0 W
    rw [← hf, fnd_bool hg id, hb, hf, Bool.not_not] at h
    exact h
  have hgu := guard_neqL
  have HFI := Lib.hid (find_any (ht.below hb1) hg id)
  unfold FiPost at HFI
  rw [hf] at HFI
  unfold GePost
  rw [hf, hb]
  have HW1 := Lib.hid hw1
  have EQ := Lib.hid eq
  have HB1 := Lib.hid hb1
  have HQ := Lib.hid hq
  clear hw1 eq hb1 hq hf hb ht hg
  go_enter Tryz.func85, Tryz.ntmps85
  go_upto_region 1 with fail
  rw [← HW1.out, ← EQ.out]
  go_wp2_with fail
  refine HFI.out.mono ?_
  rintro e w2 ⟨rfl, hb2⟩
  obtain ⟨w3, hw3⟩ : ∃ w3, w3 = w2.alloc (.cells #[.int .i64 f.i, .int .i64 f.s, .int .i64 f.l] 100) := ⟨_, rfl⟩
  obtain ⟨r, er⟩ : ∃ r, r = w2.heap.size := ⟨_, rfl⟩
  have hb3 : Below w2.heap.size w2 w3 := by rw [hw3]; exact box_below w2 _
  have hr : w3.heap[r]? = some (.cells #[.int .i64 f.i, .int .i64 f.s, .int .i64 f.l] 100 (0, 0)) := by rw [hw3, er]; exact new_block w2 _
  have hq3 := blk_below (blk_below HQ.out hb2) hb3
  have HB3 := Lib.hid (HB1.out.trans ((hb2.trans (hb3.mono hb2.size)).mono HB1.out.size))
  have hne : r ≠ q := by have := blk_lt (blk_below HQ.out hb2); omega
  have r0 := cell_of hr (j := 0) rfl
  have r1 := cell_of hr (j := 1) rfl
  have r2 := cell_of hr (j := 2) rfl
  have q0 := cell_of hq3 (j := 0) rfl
  have q1 := cell_of hq3 (j := 1) rfl
  have q2 := cell_of hq3 (j := 2) rfl
  have f0 := frozen_of_row w3 q 0 _ _ hq3
  have f1 := frozen_of_row w3 q 1 _ _ hq3
  have f2 := frozen_of_row w3 q 2 _ _ hq3
  have HQ3 := Lib.hid hq3
  have HW3 := Lib.hid hw3
  have ER := Lib.hid er
  clear hw3 er hb3 hr hq3 hb2
  go_upto_region 2 with fail
  rw [← HW3.out, ← ER.out]
  have hsq : w.heap.size ≤ q := by rw [EQ.out]; exact Nat.le_refl _
  obtain ⟨w4, hw4⟩ : ∃ w4, w4 = (((w3.setCell ⟨q, 0, none⟩ (.int .i64 f.i)).setCell ⟨q, 1, none⟩ (.int .i64 f.s)).setCell ⟨q, 2, none⟩ (.int .i64 f.l)) := ⟨_, rfl⟩
  have hq4 : w4.heap[q]? = some (.cells #[.int .i64 f.i, .int .i64 f.s, .int .i64 f.l] 100 (0, 0)) := by
    have h := heap_setCell_same _ q 2 _ 100 (.int .i64 f.l) (heap_setCell_same _ q 1 _ 100 (.int .i64 f.s) (heap_setCell_same w3 q 0 _ 100 (.int .i64 f.i) HQ3.out))
    rw [hw4]; exact h
  have hb4 : Below w.heap.size w w4 := by rw [hw4]; exact ((HB3.out.setCell hsq _).setCell hsq _).setCell hsq _
  have z0' := cell_of hq4 (j := 0) rfl
  have z1' := cell_of hq4 (j := 1) rfl
  have z2' := cell_of hq4 (j := 2) rfl
  have HB4 := Lib.hid hb4
  have HW4 := Lib.hid hw4
  clear hw4 hq4 hb4
  go_region
  all_goals
    rw [← HW4.out]
    go_wp2_with fail
    exact bodyPost_ret (v := .tuple #[.agg #[.int .i64 f.i, .int .i64 f.s, .int .i64 f.l], .bool b]) (by simp [results, Tryz.results85, go_sem, z0', z1', z2']) rfl ⟨rfl, HB4.out.drew⟩
end Go.Proofs.YtflgemlhocjipaaGreatDoor.Lq
