/-
  RankLogs returns true. Condition: memory holds the entries.
-/
import Derived.Test.YtlpidjmhjjmmcaaKAlive
namespace Go.Proofs.Ytlpidjmhjjmmcaa
set_option maxRecDepth 100000
open Go.ChangeShapes Go.WideShapes Go.ChangeAt Go.RowKit Go.Proofs.Rk

theorem eqlM (x y : Int) (w : World) : (binOp .eql 36 (.agg #[.int .i64 x, .int .i64 y]) (.agg #[.int .i64 x, .int .i64 y])).run Try.prog w = .ok (.bool true) w := by
  have hS : Try.prog.underlying 36 = some (.struct (Try.prog.fieldsOf 36)) := by kernel_rfl
  have hp : Try.prog.stoodInHeld 36 = false := by kernel_rfl
  have u3 := Try.underlying3
  have a3 := Try.isAgg3
  have z3 := Try.sizeOf3
  rw [run_eql_struct, show (10000 : Nat) = 9999 + 1 from rfl, run_equalIn_agg w 9999 36 _ _ hS hp]
  simp only [Program.fieldsOf, Try.underlying36]
  go_simp
set_option maxHeartbeats 4000000 in
theorem logs_law {w : World} {A A2 : Option Addr} {n c n2 c2 : Nat} {a b' : List En} (h : Rd ecell 3 w A n a) (h2 : Rd ecell 3 w A2 n2 b') (hn : n ≤ 9223372036854775807) (hn2 : n2 ≤ 9223372036854775807) (v : Int) :
    Calls Try.prog 6 #[.slice A n c, .slice A2 n2 c2, .int .i64 v] w fun e w' => e = .returned (.bool true) ∧ Below w.heap.size w w' := by
  have HA := Lib.hid (alive_any w)
  obtain ⟨r, hr⟩ : ∃ r, rgtB a = r := ⟨_, rfl⟩
  obtain ⟨k, hk⟩ : ∃ k, com a b' = k := ⟨_, rfl⟩
  have HR : Hid (∀ W, Below w.heap.size w W → Calls Try.prog 18 #[.slice A n c] W fun e w' => e = .returned (.bool r) ∧ Below W.heap.size W w') := Lib.hid (fun W hW => by rw [← hr]; exact right_any (h.below hW) hn)
  have HR2 : Hid (∀ W, Below w.heap.size w W → Calls Try.prog 19 #[.slice A n c] W fun e w' => e = .returned (.bool r) ∧ Below W.heap.size W w') := Lib.hid (fun W hW => by rw [← hr]; exact rright_any (h.below hW) hn)
  have HC : Hid (∀ W, Below w.heap.size w W → Calls Try.prog 20 #[.slice A n c, .slice A2 n2 c2] W fun e w' => e = .returned (.int .i64 (k : Int)) ∧ Below W.heap.size W w') := Lib.hid (fun W hW => by rw [← hk]; exact common_any (h.below hW) (h2.below hW) hn)
  have HC2 : Hid (∀ W, Below w.heap.size w W → Calls Try.prog 21 #[.slice A n c, .slice A2 n2 c2] W fun e w' => e = .returned (.int .i64 (k : Int)) ∧ Below W.heap.size W w') := Lib.hid (fun W hW => by rw [← hk]; exact rcommon_any (h.below hW) (h2.below hW) hn hn2)
  have HM := Lib.hid (fun W => markof_any v A n c W)
  have heq := fun W => eqlM v (n : Int) W
  have HB0 := Lib.hid (Below.refl w.heap.size w)
  clear hr hk h h2 hn hn2
  go_enter Try.func6, Try.ntmps6
  go_wp2_with fail
  refine (HA.out).mono ?_
  rintro e w1 ⟨rfl, hbw1⟩
  have HB1 := Lib.hid (HB0.out.trans (hbw1.mono HB0.out.size))
  clear hbw1
  go_wp2_with fail
  refine (HR.out _ HB1.out).mono ?_
  rintro e w2 ⟨rfl, hbw2⟩
  have HB2 := Lib.hid (HB1.out.trans (hbw2.mono HB1.out.size))
  clear hbw2
  go_wp2_with fail
  refine (HR2.out _ HB2.out).mono ?_
  rintro e w3 ⟨rfl, hbw3⟩
  have HB3 := Lib.hid (HB2.out.trans (hbw3.mono HB2.out.size))
  clear hbw3
  go_wp2_with fail
  refine (HC.out _ HB3.out).mono ?_
  rintro e w4 ⟨rfl, hbw4⟩
  have HB4 := Lib.hid (HB3.out.trans (hbw4.mono HB3.out.size))
  clear hbw4
  go_wp2_with fail
  refine (HC2.out _ HB4.out).mono ?_
  rintro e w5 ⟨rfl, hbw5⟩
  have HB5 := Lib.hid (HB4.out.trans (hbw5.mono HB4.out.size))
  clear hbw5
  go_wp2_with fail
  refine (HM.out _).mono ?_
  rintro e w6 ⟨rfl, hbw6⟩
  have HB6 := Lib.hid (HB5.out.trans (hbw6.mono HB5.out.size))
  clear hbw6
  go_wp2_with fail
  go_ret
  exact ⟨rfl, HB6.out⟩
end Go.Proofs.Ytlpidjmhjjmmcaa
