/-
  What isView, isGroup, Quorum, Primary, MarkOf, Less and before return, and the document's Quorum, Primary, Less. No condition.
-/
import Derived.Test.YtbgobchmkohhnaaKMem
namespace Go.Proofs.Ytbgobchmkohhnaa
set_option maxRecDepth 100000
open Go.ChangeShapes Go.WideShapes Go.ChangeAt Go.RowKit Go.Proofs.Rk

theorem isview_any (v : Int) (w : World) : Calls Try.prog 25 #[.int .i64 v] w fun e w' => e = .returned (.bool (isV v)) ∧ w = w' := by
  obtain ⟨r, hr⟩ : ∃ r, isV v = r := ⟨_, rfl⟩
  rw [hr]
  obtain ⟨b, hb⟩ : ∃ b, decide (v ≤ 4611686018427387904) = b := ⟨_, rfl⟩
  obtain ⟨a, ha⟩ : ∃ a, decide (0 ≤ v) = a := ⟨_, rfl⟩
  have HE : Hid ((a && b) = r) := Lib.hid (by rw [← hr, ← hb, ← ha]; rfl)
  clear hr
  cases a with
  | true =>
    go_enter Try.func25, Try.ntmps25
    go_wp2_with fail
    go_ret
    exact ⟨ret_b HE.out, rfl⟩
  | false =>
    go_enter Try.func25, Try.ntmps25
    go_wp2_with fail
    go_ret
    exact ⟨ret_b HE.out, rfl⟩
theorem isgroup_any (v : Int) (w : World) : Calls Try.prog 26 #[.int .i64 v] w fun e w' => e = .returned (.bool (isG v)) ∧ w = w' := by
  obtain ⟨r, hr⟩ : ∃ r, isG v = r := ⟨_, rfl⟩
  rw [hr]
  obtain ⟨b, hb⟩ : ∃ b, decide (v ≤ 7) = b := ⟨_, rfl⟩
  obtain ⟨a, ha⟩ : ∃ a, decide (1 ≤ v) = a := ⟨_, rfl⟩
  have HE : Hid ((a && b) = r) := Lib.hid (by rw [← hr, ← hb, ← ha]; rfl)
  clear hr
  cases a with
  | true =>
    go_enter Try.func26, Try.ntmps26
    go_wp2_with fail
    go_ret
    exact ⟨ret_b HE.out, rfl⟩
  | false =>
    go_enter Try.func26, Try.ntmps26
    go_wp2_with fail
    go_ret
    exact ⟨ret_b HE.out, rfl⟩
theorem quorum_any (m : Int) (w : World) : Calls Try.prog 24 #[.int .i64 m] w fun e w' => e = .returned (.int .i64 (quo m)) ∧ w = w' := by
  have HG := Lib.hid (isgroup_any m w)
  obtain ⟨g, hg⟩ : ∃ g, isG m = g := ⟨_, rfl⟩
  rw [hg] at HG
  cases g with
  | false =>
    have HQ : Hid ((0 : Int) = quo m) := Lib.hid (by unfold quo; rw [if_neg (by rw [hg]; decide)])
    clear hg
    go_enter Try.func24, Try.ntmps24
    go_wp2_with fail
    refine HG.out.mono ?_
    rintro e w2 ⟨rfl, rfl⟩
    go_wp2_with fail
    go_ret
    exact ⟨ret_i HQ.out, rfl⟩
  | true =>
    have HQ : Hid (quo m = m / 2 + 1) := Lib.hid (by unfold quo; rw [if_pos hg])
    have hm : 1 ≤ m ∧ m ≤ 7 := by rcases isG_cases hg with h | h | h | h | h | h | h <;> omega
    clear hg
    go_enter Try.func24, Try.ntmps24
    go_wp2_with fail
    refine HG.out.mono ?_
    rintro e w2 ⟨rfl, rfl⟩
    go_wp2_with fail
    go_ret
    exact ⟨ret_i (by rw [HQ.out]), rfl⟩
end Go.Proofs.Ytbgobchmkohhnaa
