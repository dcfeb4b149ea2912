/-
  What New and Root return. No condition.
-/
import Derived.Test.YtoaahhgngelnaaaFAdd
namespace Go.Proofs.Ytoaahhgngelnaaa
set_option maxRecDepth 100000
open Go.ChangeShapes Go.WideShapes Go.ChangeAt Go.RowKit Go.Proofs.Sg Go.Proofs.Fz

theorem zero_fs0 (r mi : Nat) : (Try.zeroCells65.setIfInBounds 0 (.int .i64 (r : Int))).setIfInBounds 1 (.map (some mi)) = (fsCells r mi []).toArray := by kernel_rfl
theorem zero_fs (x : Int) (mi : Nat) : (Try.zeroCells65.setIfInBounds 0 (.int .i64 (max x 0))).setIfInBounds 1 (.map (some mi)) = (fsCells x.toNat mi []).toArray := by
  have e : max x 0 = ((x.toNat : Nat) : Int) := by omega
  rw [e]
  exact zero_fs0 _ _
abbrev mk0 : Mk := ⟨2, 493, 0, []⟩
theorem adS_new (r : Int) (d : Nat) : adS ⟨r.toNat, [], [], []⟩ d mk0 = newF r := by
  have e : least [] 201 1 = 1 := by unfold least; rfl
  unfold adS adN newF
  rw [show (⟨r.toNat, [], [], []⟩ : Fst).I = [] from rfl, e]
  rfl
def FnPost (w : World) (r : Int) (e : Ending) (w' : World) : Prop := ∃ Y, e = .returned (pA Y.fp) ∧ FM w' w.heap.size Y (newF r) ∧ Below w.heap.size w w'
set_option maxHeartbeats 4000000 in
theorem fnew_any (x : Int) (w : World) : Calls Try.prog 7 #[.int .i64 x] w (FnPost w x) := by
  obtain ⟨mi, hmi⟩ : ∃ k, k = w.heap.size := ⟨_, rfl⟩
  obtain ⟨fp, hfp⟩ : ∃ k, k = w.heap.size + 1 := ⟨_, rfl⟩
  obtain ⟨w2, hw2⟩ : ∃ W, W = (w.alloc (.map #[] 0)).alloc (.cells (fsCells x.toNat w.heap.size []).toArray 65) := ⟨_, rfl⟩
  have hb2 : Below w.heap.size w w2 := by rw [hw2]; exact box2 w _ _
  have h2 : w2.heap[fp]? = some (.cells (fsCells x.toNat mi []).toArray 65 (0, 0)) := by
    have h3 := new_block (w.alloc (.map #[] 0)) (.cells (fsCells x.toNat w.heap.size []).toArray 65)
    rw [hw2, hfp, hmi]
    simpa using h3
  have h3 : w2.ownsMap (H := Value) Try.prog 3 vR mi 0 (.map []) := by
    have h4 : (w.alloc (.map #[] 0)).ownsMap (H := Value) Try.prog 3 vR w.heap.size 0 (.map []) := World.ownsMap_made w Try.prog 3 vR
    rw [← hmi] at h4
    obtain ⟨es, clock, g1, g2⟩ := h4
    exact ⟨es, clock, by rw [hw2]; exact blk_alloc g1 _, g2⟩
  have hM : FM w2 w.heap.size ⟨fp, mi, fun _ => 0, fun _ => 0, fun _ => 0⟩ ⟨x.toNat, [], [], []⟩ := ⟨h2, ⟨.map [], h3, rfl, fun a => rfl, fun a => rfl⟩, (fun y hy => by cases hy), (fun y hy => by cases hy), (fun y hy => by cases hy), (fun y hy => by cases hy), (fun y hy => by cases hy), by
    rintro k (e | e | ⟨y, hy, -⟩)
    · dsimp only at e; omega
    · dsimp only at e; omega
    · cases hy⟩
  have HA := Lib.hid (add_any (T := 0) hM hb2.size (Nw.of_empty rfl rfl _) (fun i => by simp) (by decide) (by simp) 0 mk0 (by decide) ⟨#[]⟩ rfl)
  have hmm := @run_makeMap Try.prog
  have HW2 := Lib.hid hw2
  have HFP := Lib.hid hfp
  have HB2 := Lib.hid hb2
  have HMI := Lib.hid hmi
  clear hw2 hfp hb2 h2 h3 hM hmi
  go_enter Try.func7, Try.ntmps7
  go_upto_region 2 with fail
  rw [zero_fs, ← HW2.out, ← HFP.out]
  go_wp2_with fail
  refine HA.out.mono ?_
  rintro e w3 ⟨p, hb, mb, rfl, g1, g2, g3⟩
  rw [adS_new] at g1
  have HE : Hid (FnPost w x (.returned (pA fp)) w3) := Lib.hid ⟨_, rfl, g1, HB2.out.trans (g2.below (fun k hk => by
    rcases hk with e | e | ⟨y, hy, -⟩
    · have := HFP.out; dsimp only at e; omega
    · have := HMI.out; dsimp only at e; omega
    · cases hy) HB2.out.size)⟩
  clear g1 g2 g3
  go_wp2_with fail
  go_ret
  exact HE.out
/-- What Root returns. -/
theorem root_any (fp : Nat) (w : World) : Calls Try.prog 12 #[pA fp] w fun e w' => e = .returned (hV ⟨1, 1⟩) ∧ Below w.heap.size w w' := by
  obtain ⟨w1, hw1⟩ : ∃ w1, w1 = w.alloc (.cells #[.int .i64 1, .int .i64 1] 40) := ⟨_, rfl⟩
  obtain ⟨q, hq⟩ : ∃ g, g = w.heap.size := ⟨_, rfl⟩
  have hb1 : Below w.heap.size w w1 := by rw [hw1]; exact box_below w _
  have hbx : w1.heap[q]? = some (.cells #[.int .i64 1, .int .i64 1] 40 (0, 0)) := by rw [hw1, hq]; exact new_block w _
  have z0 := cell_of hbx (j := 0) rfl
  have z1 := cell_of hbx (j := 1) rfl
  have HW1 := Lib.hid hw1
  have HQ := Lib.hid hq
  have HB := Lib.hid hb1
  clear hw1 hq hb1 hbx
  go_enter Try.func12, Try.ntmps12
  go_wp2_with fail
  rw [← HW1.out, ← HQ.out]
  exact bodyPost_ret (v := hV ⟨1, 1⟩) (by simp [results, Try.results12, go_sem, z0, z1]) rfl ⟨rfl, by rw [HQ.out]; exact HB.out⟩
end Go.Proofs.Ytoaahhgngelnaaa
