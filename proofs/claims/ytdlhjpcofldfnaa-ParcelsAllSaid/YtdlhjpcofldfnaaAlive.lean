/-
  That the laws' own test of life returns true. No condition.
-/
import Derived.Test.YtdlhjpcofldfnaaTake
namespace Go.Proofs.Ytdlhjpcofldfnaa
set_option maxRecDepth 100000
open Go.ChangeShapes Go.WideShapes Go.ChangeAt Go.RowKit

def pkA : Pk := ⟨1, 2, { data := #[97] }⟩
set_option maxHeartbeats 2000000 in
theorem alive_any (w : World) : Calls Try.prog 9 #[] w fun e w' => e = .returned (.bool true) ∧ Below w.heap.size w w' := by
  go_enter Try.func9, Try.ntmps9
  go_wp2_with fail
  refine (new_any w).mono ?_
  rintro e w1 ⟨np, mb, rfl, hn, hb⟩
  have HN := Lib.hid hn
  have HB := Lib.hid hb
  have HSD := Lib.hid (send_any hn pkA ⟨⟨by decide, by decide⟩, ⟨by decide, by decide⟩⟩)
  clear hn hb
  go_wp2_with fail
  refine HSD.out.mono ?_
  rintro e w2 ⟨rfl, rv, hn2, hk2⟩
  have e1 : canSend [] [] pkA = true := by decide
  rw [e1]
  rw [e1, if_pos rfl] at hn2
  have HTK := Lib.hid (take_any hn2 0)
  have HK2 := Lib.hid hk2
  clear hn2 hk2 e1
  go_wp2_with fail
  refine HTK.out.mono ?_
  rintro e w3 ⟨rfl, rv3, hn3, hk3⟩
  have e2 : (atL ([] ++ [pkA]) 0) = (pkA, true) := rfl
  have e3 : tkL ([] ++ [pkA]) 0 = [] := by unfold tkL; rw [e2]; rfl
  rw [e2]
  rw [e3] at hn3
  have hb3 := HB.out.trans (HK2.out.below.trans hk3.below)
  have HB3 := Lib.hid hb3
  have HN3 := Lib.hid hn3
  have heq : (({ data := #[97] } : ByteArray).toList == [97]) = true := by rw [ByteArray.toList_eq]; decide
  clear hn3 hk3 hb3 e2 e3
  unfold pv pkA
  go_wp2_with fail
  have HLN := Lib.hid (len_any (HN3.out.kept (box_below w3 (.cells #[.int .i64 1, .int .i64 2, .string { data := #[97] }] 31))))
  refine HLN.out.mono ?_
  rintro e w4 ⟨rfl, rfl⟩
  go_wp2_with fail
  go_ret
  exact ⟨rfl, HB3.out.trans ((box_below w3 _).mono HB3.out.size)⟩
end Go.Proofs.Ytdlhjpcofldfnaa
