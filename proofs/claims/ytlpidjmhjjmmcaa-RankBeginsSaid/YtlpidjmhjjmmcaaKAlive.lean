/-
  The laws' own alive returns true. No condition.
-/
import Derived.Test.YtlpidjmhjjmmcaaKCom
import Derived.Test.YtlpidjmhjjmmcaaKHeld2
import Derived.Test.YtlpidjmhjjmmcaaKNext
import Derived.Test.YtlpidjmhjjmmcaaKBest
import Derived.Test.YtlpidjmhjjmmcaaKBest2
namespace Go.Proofs.Ytlpidjmhjjmmcaa
set_option maxRecDepth 100000
open Go.ChangeShapes Go.WideShapes Go.ChangeAt Go.RowKit Go.Proofs.Rk

theorem isH_529 : IsH [5, 2, 9] 5 := ⟨by omega, fun _ => by decide, fun a ha h0 hq => by
  simp only [List.mem_cons, List.not_mem_nil, or_false] at ha
  rcases ha with rfl | rfl | rfl
  · omega
  · omega
  · exact absurd hq (by decide)⟩
theorem hd_529 {r : Int} (h : Hd [5, 2, 9] r) : r = 5 := by
  unfold Hd at h
  rw [if_pos (by decide)] at h
  exact isH_one h isH_529
theorem ret_next (w : World) : Calls Try.prog 11 #[.int .i64 7, .int .i64 0, .int .i64 3] w fun e w' => e = .returned (.tuple #[.int .i64 9, .bool true]) ∧ w = w' := by
  have h := next_any 7 0 3 w
  have e1 : nxt 7 0 3 = 9 := by decide
  have e2 : has 7 0 3 = true := by decide
  rw [e1, e2] at h
  exact h
theorem ret_held {w : World} {b : Nat} (h : w.heap[b]? = some (.cells #[.int .i64 5, .int .i64 2, .int .i64 9] 3 (0, 0))) : Calls Try.prog 27 #[.slice (some ⟨b, 0, none⟩) 3 3] w fun e w' => e = .returned (.int .i64 5) ∧ Below w.heap.size w w' := by
  refine (held_any (l := [5, 2, 9]) ⟨rfl, fun _ => ⟨b, 0, rfl, fun i hi j v hv => ?_⟩⟩ (by decide)).mono ?_
  · have hj : j = 0 := by
      have := (List.getElem?_eq_some_iff.1 hv).1
      simp [icell] at this
      exact this
    subst hj
    simp only [List.length_cons, List.length_nil] at hi
    have hi' : i = 0 ∨ i = 1 ∨ i = 2 := by omega
    rcases hi' with rfl | rfl | rfl
    · exact cell_of h (j := 0) (by simpa [icell] using hv)
    · exact cell_of h (j := 1) (by simpa [icell] using hv)
    · exact cell_of h (j := 2) (by simpa [icell] using hv)
  · rintro e w2 ⟨r, hr, rfl, hb⟩
    exact ⟨by rw [hd_529 hr], hb⟩
theorem ret_right {w : World} {b : Nat} (h : w.heap[b]? = some (.cells #[.int .i64 0, .int .i64 0, .string ⟨#[]⟩] 49 (0, 0))) : Calls Try.prog 18 #[.slice (some ⟨b, 0, none⟩) 1 1] w fun e w' => e = .returned (.bool false) ∧ Below w.heap.size w w' := by
  have hz := rgtB_no not_rgt_zero
  rw [hz]
  refine right_any ⟨rfl, fun _ => ⟨b, 0, rfl, fun i hi j v hv => ?_⟩⟩ (by decide)
  have hi0 : i = 0 := by simpa using hi
  subst hi0
  have hj : j < 3 := by
    have := (List.getElem?_eq_some_iff.1 hv).1
    simpa [ecell] using this
  have hj' : j = 0 ∨ j = 1 ∨ j = 2 := by omega
  rcases hj' with rfl | rfl | rfl
  · exact cell_of h (j := 0) (by simpa [ecell] using hv)
  · exact cell_of h (j := 1) (by simpa [ecell] using hv)
  · exact cell_of h (j := 2) (show some (Value.string ⟨#[]⟩) = some v from hv)
set_option maxHeartbeats 4000000 in
theorem alive_any (w : World) : Calls Try.prog 13 #[] w fun e w' => e = .returned (.bool true) ∧ Below w.heap.size w w' := by
  have HN := Lib.hid ret_next
  have HQ : Hid (∀ W : World, Calls Try.prog 14 #[.int .i64 5] W fun e w' => e = .returned (.int .i64 3) ∧ W = w') := Lib.hid (fun W => quorum_any 5 W)
  have HP : Hid (∀ W : World, Calls Try.prog 16 #[.int .i64 7, .int .i64 3] W fun e w' => e = .returned (.int .i64 1) ∧ W = w') := Lib.hid (fun W => primary_any 7 3 W)
  have HR0 : Hid (∀ W : World, Calls Try.prog 18 #[.slice none 0 0] W fun e w' => e = .returned (.bool true) ∧ Below W.heap.size W w') := Lib.hid (fun W => by
    have := right_any (c := 0) (Rd.nil ecell 3 W none) (by omega)
    rw [← rgtB_yes rgt_nil] at this
    exact this)
  go_enter Try.func13, Try.ntmps13
  go_wp2_with fail
  refine (HN.out _).mono ?_
  rintro e w0 ⟨rfl, rfl⟩
  go_wp2_with fail
  refine (HQ.out _).mono ?_
  rintro e w0 ⟨rfl, rfl⟩
  go_wp2_with fail
  refine (HP.out _).mono ?_
  rintro e w0 ⟨rfl, rfl⟩
  go_wp2_with fail
  obtain ⟨w1, hw1⟩ : ∃ w1, w1 = w.alloc (.cells #[.int .i64 5, .int .i64 2, .int .i64 9] 3) := ⟨_, rfl⟩
  have hb1 : Below w.heap.size w w1 := by rw [hw1]; exact box_below w _
  have hr1 : w1.heap[w.heap.size]? = some (.cells #[.int .i64 5, .int .i64 2, .int .i64 9] 3 (0, 0)) := by rw [hw1]; exact new_block w _
  have HB1 := Lib.hid hb1
  have HH := Lib.hid (ret_held hr1)
  have HW1 := Lib.hid hw1
  rw [← HW1.out]
  clear hb1 hr1 hw1
  refine HH.out.mono ?_
  rintro e w2 ⟨rfl, hb2⟩
  have HB2 := Lib.hid (HB1.out.trans (hb2.mono HB1.out.size))
  clear hb2
  go_wp2_with fail
  refine (HR0.out _).mono ?_
  rintro e w3 ⟨rfl, hb3⟩
  have HB3 := Lib.hid (HB2.out.trans (hb3.mono HB2.out.size))
  clear hb3
  go_wp2_with fail
  obtain ⟨w4, hw4⟩ : ∃ w4, w4 = w3.alloc (.cells #[.int .i64 0, .int .i64 0, .string ⟨#[]⟩] 49) := ⟨_, rfl⟩
  have hb4 : Below w3.heap.size w3 w4 := by rw [hw4]; exact box_below w3 _
  have hr4 : w4.heap[w3.heap.size]? = some (.cells #[.int .i64 0, .int .i64 0, .string ⟨#[]⟩] 49 (0, 0)) := by rw [hw4]; exact new_block w3 _
  have HB4 := Lib.hid (HB3.out.trans (hb4.mono HB3.out.size))
  have HR4 := Lib.hid (ret_right hr4)
  have HW4 := Lib.hid hw4
  rw [← HW4.out]
  clear hb4 hr4 hw4
  refine HR4.out.mono ?_
  rintro e w5 ⟨rfl, hb5⟩
  have HB5 := Lib.hid (HB4.out.trans (hb5.mono HB4.out.size))
  clear hb5
  go_wp2_with fail
  go_ret
  exact ⟨rfl, HB5.out⟩
end Go.Proofs.Ytlpidjmhjjmmcaa
