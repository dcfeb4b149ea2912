/-
  Bytes of any number. No condition.
-/
import Derived.Test.YtoallenigfbkpaaTLawU
namespace Go.Proofs.Ytoallenigfbkpaa
set_option maxRecDepth 100000
open Go.ChangeShapes Go.WideShapes Go.ChangeAt Go.RowKit Go.Proofs.Sg

/-- A byte's cell, of any number. -/
def zcell (z : Int) : List Value := [.int .u8 z]
theorem zcell_of (l : List UInt8) : bcells l = (l.map (fun x => (x.toNat : Int))).flatMap zcell := by
  rw [List.flatMap_map]; rfl
theorem str_eq (s : ByteArray) : (s == s) = true := by
  first | (show (s.data == s.data) = true; simp) | (cases s; rename_i d; show (d == d) = true; simp) | (cases s; rename_i d; show (ByteArray.beq _ _) = true; simp) | exact decide_eq_true rfl | (unfold BEq.beq; unfold instBEqOfDecidableEq; simp)
theorem str_ne (s : ByteArray) : (s != s) = false := by unfold bne; rw [str_eq]; rfl
theorem rd_le (T : Sh) (p m : Int) : (rd T p m).length ≤ T.n := by
  unfold rd
  split
  · simp
  · rw [List.length_take, List.length_drop, bs_len]; omega
end Go.Proofs.Ytoallenigfbkpaa
