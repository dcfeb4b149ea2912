/-
  RankGroups returns true. No condition.
-/
import Derived.Test.YtlpidjmhjjmmcaaKAlive
namespace Go.Proofs.Ytlpidjmhjjmmcaa
set_option maxRecDepth 100000
open Go.ChangeShapes Go.WideShapes Go.ChangeAt Go.RowKit Go.Proofs.Rk

set_option maxHeartbeats 4000000 in
theorem groups_law {w : World} (v s m : Int) : Calls Try.prog 3 #[.int .i64 v, .int .i64 s, .int .i64 m] w fun e w' => e = .returned (.bool true) ∧ Below w.heap.size w w' := by
  obtain ⟨x, hx⟩ : ∃ x, nxt v s m = x := ⟨_, rfl⟩
  obtain ⟨y, hy⟩ : ∃ y, has v s m = y := ⟨_, rfl⟩
  obtain ⟨q, hq⟩ : ∃ q, quo m = q := ⟨_, rfl⟩
  obtain ⟨p, hp⟩ : ∃ p, pri v m = p := ⟨_, rfl⟩
  have HN : Hid (∀ W : World, Calls Try.prog 11 #[.int .i64 v, .int .i64 s, .int .i64 m] W fun e w' => e = .returned (.tuple #[.int .i64 x, .bool y]) ∧ W = w') := Lib.hid (fun W => by rw [← hx, ← hy]; exact next_any v s m W)
  have HN2 : Hid (∀ W : World, Calls Try.prog 12 #[.int .i64 v, .int .i64 s, .int .i64 m] W fun e w' => e = .returned (.tuple #[.int .i64 x, .bool y]) ∧ W = w') := Lib.hid (fun W => by rw [← hx, ← hy]; exact rnext_any v s m W)
  have HA := Lib.hid (fun W => alive_any W)
  have HQ := Lib.hid (fun W => quorum_any m W)
  have HQ2 := Lib.hid (fun W => rquorum_any m W)
  have HP := Lib.hid (fun W => primary_any v m W)
  have HP2 := Lib.hid (fun W => rprimary_any v m W)
  rw [hq] at HQ HQ2
  rw [hp] at HP HP2
  clear hx hy hq hp
  go_enter Try.func3, Try.ntmps3
  go_wp2_with fail
  refine (HN.out _).mono ?_
  rintro e w0 ⟨rfl, rfl⟩
  go_wp2_with fail
  refine (HN2.out _).mono ?_
  rintro e w0 ⟨rfl, rfl⟩
  go_wp2_with fail
  refine (HA.out _).mono ?_
  rintro e w2 ⟨rfl, hb2⟩
  have HB2 := Lib.hid hb2
  clear hb2
  go_wp2_with fail
  refine (HQ.out _).mono ?_
  rintro e w0 ⟨rfl, rfl⟩
  go_wp2_with fail
  refine (HQ2.out _).mono ?_
  rintro e w0 ⟨rfl, rfl⟩
  go_wp2_with fail
  refine (HP.out _).mono ?_
  rintro e w0 ⟨rfl, rfl⟩
  go_wp2_with fail
  refine (HP2.out _).mono ?_
  rintro e w0 ⟨rfl, rfl⟩
  go_wp2_with fail
  go_ret
  exact ⟨rfl, HB2.out⟩
end Go.Proofs.Ytlpidjmhjjmmcaa
