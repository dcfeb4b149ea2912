/-
  What the law PlatterAll returns of a script that reads: true, and older memory is as it was. No condition.
-/
import Derived.Test.YtogofgfdkkjnlaaPlays
import Derived.Test.YtogofgfdkkjnlaaAlive
namespace Go.Proofs.Ytogofgfdkkjnlaa
open Go.ChangeShapes Go.WideShapes Go.ChangeAt Go.RowKit

theorem more_than (len : Nat) (h : 200 < len) : (200 : Int) < (len : Int) := by omega
set_option maxHeartbeats 1000000 in
theorem law_all (many : Int) (ad : Option Addr) (len cap : Nat) (os : List Opr) (w : World) (hO : OReads w w.heap.size ad len os) :
    Calls Try.prog 3 #[.int .i64 many, .slice ad len cap] w fun e w' => e = .returned (.bool true) ∧ Below w.heap.size w w' := by
  by_cases hm : 60 < many
  · clear hO
    go_enter Try.func3, Try.ntmps3
    go_wp2_with fail
    refine (alive_any _).mono ?_
    rintro e w2 ⟨rfl, hb2⟩
    go_wp2
    go_ret
    exact ⟨rfl, hb2⟩
  by_cases h200 : 200 < len
  · have h200' := more_than len h200
    clear hO
    go_enter Try.func3, Try.ntmps3
    go_wp2_with fail
    refine (alive_any _).mono ?_
    rintro e w2 ⟨rfl, hb2⟩
    go_wp2
    go_ret
    exact ⟨rfl, hb2⟩
  have h200' : ¬ (200 : Int) < (len : Int) := by omega
  have HP := Lib.hid (plays_any many many.toNat ad len cap os w hO (by omega) (by omega) (by omega))
  clear hO
  go_enter Try.func3, Try.ntmps3
  go_wp2_with fail
  refine HP.out.mono ?_
  rintro e w1 ⟨p, Af, cf, Aw, cw, D, rfl, -, -, -, -, -, -, hb1⟩
  have HB1 := Lib.hid hb1
  clear hb1
  go_wp2_with fail
  refine (alive_any _).mono ?_
  rintro e w2 ⟨rfl, hb2⟩
  have HB2 := Lib.hid ((HB1.out.alloc HB1.out.size (.cells #[.slice Af D.firm.length cf, .slice Aw D.wait.length cw, .int .i64 D.armed, .bool D.dead] 28)).trans (hb2.mono (Nat.le_trans HB1.out.size (by simp))))
  clear hb2
  go_wp2
  go_ret
  exact ⟨rfl, HB2.out⟩
end Go.Proofs.Ytogofgfdkkjnlaa
