/-
  What strings.Clone returns of any text of a size that memory bears. No other condition.
-/
import Derived.Test.YtfejapaoflikhaaDoorDepth
import Derived.Test.YtfejapaoflikhaaDoorMath2
import Derived.WalkKit
import Derived.Carry
namespace Go.Proofs.YtfejapaoflikhaaDoor
set_option maxRecDepth 100000
open Go.ChangeShapes Go.WideShapes Go.ChangeAt Go.RowKit Go.Proofs.Zn
theorem of_list {x : ByteArray} {l : Txt} (h : x.data.toList = l) : x = B l := by subst h; exact (BL x).symm
theorem byte_47 {c : UInt8} : ((c.toNat : Int) = 47) ↔ c = 47 := by
  rw [← UInt8.toNat_inj]
  show _ ↔ c.toNat = 47
  omega
set_option maxHeartbeats 1000000 in
theorem clone_any (s : ByteArray) (w : World) (hs : s.size ≤ 281474976710656) : Calls Tryd.prog 32 #[.string s] w fun e w' => e = .returned (.string s) ∧ Below w.heap.size w w' := by
  go_enter Tryd.func32, Tryd.ntmps32
  go_wp2_with fail
  refine (stringslite_Clone s _ hs).mono ?_
  rintro e w' ⟨rfl, hb⟩
  have HB := Lib.hid hb
  clear hb
  go_wp2
  go_ret
  exact ⟨rfl, HB.out⟩
end Go.Proofs.YtfejapaoflikhaaDoor
