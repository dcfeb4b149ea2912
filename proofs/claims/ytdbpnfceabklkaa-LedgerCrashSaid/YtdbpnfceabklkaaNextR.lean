/-
  What the document's Next returns. No condition.
-/
import Derived.Test.YtdbpnfceabklkaaRun
namespace Go.Proofs.Ytdbpnfceabklkaa
set_option maxRecDepth 100000
open Go.ChangeShapes Go.WideShapes Go.ChangeAt Go.RowKit

/-- What would last. -/
def nextV (k : Int) (now firm all : Value) : Value := if k = 1 then now else if k = 2 then all else firm
theorem rnext_any (A1 A2 A3 : Option Addr) (n1 c1 n2 c2 n3 c3 : Nat) (k : Int) (S : ByteArray) (w : World) :
    Calls Try.prog 26 #[.agg #[.slice A1 n1 c1, .slice A2 n2 c2], .agg #[.int .i64 k, .string S, .slice A3 n3 c3]] w fun e w' => e = .returned (nextV k (.slice A1 n1 c1) (.slice A2 n2 c2) (.slice A3 n3 c3)) ∧ Below w.heap.size w w' := by
  obtain ⟨w1, hw1⟩ : ∃ w1, w1 = (w.alloc (.cells #[.slice A1 n1 c1, .slice A2 n2 c2] 31)).alloc (.cells #[.int .i64 k, .string S, .slice A3 n3 c3] 33) := ⟨_, rfl⟩
  have s1 : (w.alloc (.cells #[.slice A1 n1 c1, .slice A2 n2 c2] 31)).heap.size = w.heap.size + 1 := by simp
  have hb : Below w.heap.size w w1 := by rw [hw1]; exact (box_below w _).alloc (by rw [s1]; omega) _
  have b0 : w1.heap[w.heap.size]? = some (.cells #[.slice A1 n1 c1, .slice A2 n2 c2] 31 (0, 0)) := by
    rw [hw1]
    exact ((box_below (w.alloc (.cells #[.slice A1 n1 c1, .slice A2 n2 c2] 31)) _).block w.heap.size (by rw [s1]; omega)).trans (new_block w _)
  have b1 : w1.heap[w.heap.size + 1]? = some (.cells #[.int .i64 k, .string S, .slice A3 n3 c3] 33 (0, 0)) := by
    have h := new_block (w.alloc (.cells #[.slice A1 n1 c1, .slice A2 n2 c2] 31)) (.cells #[.int .i64 k, .string S, .slice A3 n3 c3] 33)
    rw [s1] at h
    rw [hw1]; exact h
  have HB := Lib.hid hb
  have HW := Lib.hid hw1
  have d0 := cell_of b0 (j := 0) rfl
  have d1 := cell_of b0 (j := 1) rfl
  have o0 := cell_of b1 (j := 0) rfl
  have o2 := cell_of b1 (j := 2) rfl
  clear hb hw1 b0 b1 s1
  by_cases k1 : k = 1
  · subst k1
    go_enter Try.func26, Try.ntmps26
    go_upto_region 1 with fail
    rw [← HW.out]
    go_wp2_with fail
    go_ret
    exact ⟨rfl, HB.out⟩
  · by_cases k2 : k = 2
    · subst k2
      go_enter Try.func26, Try.ntmps26
      go_upto_region 1 with fail
      rw [← HW.out]
      go_wp2_with fail
      go_ret
      exact ⟨rfl, HB.out⟩
    · have hb1 : (k == 1) = false := by simpa using k1
      have hb2 : (k == 2) = false := by simpa using k2
      have HE : Hid (nextV k (.slice A1 n1 c1) (.slice A2 n2 c2) (.slice A3 n3 c3) = .slice A2 n2 c2) := Lib.hid (by unfold nextV; rw [if_neg k1, if_neg k2])
      go_enter Try.func26, Try.ntmps26
      go_upto_region 1 with fail
      rw [← HW.out]
      go_wp2_with fail
      go_ret
      rw [HE.out]
      exact ⟨rfl, HB.out⟩
end Go.Proofs.Ytdbpnfceabklkaa
