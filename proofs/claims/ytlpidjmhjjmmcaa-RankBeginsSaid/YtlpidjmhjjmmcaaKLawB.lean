/-
  RankBegins returns true. Condition: memory holds the entries.
-/
import Derived.Test.YtlpidjmhjjmmcaaKAlive
namespace Go.Proofs.Ytlpidjmhjjmmcaa
set_option maxRecDepth 100000
open Go.ChangeShapes Go.WideShapes Go.ChangeAt Go.RowKit Go.Proofs.Rk

theorem rd_take {w : World} {A : Option Addr} {n m : Nat} {a : List En} (h : Rd ecell 3 w A n a) (hm : m ≤ n) : Rd ecell 3 w A m (a.take m) := by
  refine ⟨by rw [List.length_take, h.len]; omega, fun h0 => ?_⟩
  obtain ⟨b, off, e, hc⟩ := h.cells (by omega)
  refine ⟨b, off, e, fun i hi j v hv => ?_⟩
  rw [List.length_take] at hi
  rw [List.getElem_take] at hv
  exact hc i (by omega) j v hv
set_option maxHeartbeats 4000000 in
theorem begins_law {w : World} {A A2 : Option Addr} {n c n2 c2 : Nat} {a b' : List En} (h : Rd ecell 3 w A n a) (h2 : Rd ecell 3 w A2 n2 b') (hn : n ≤ 9223372036854775807) (hn2 : n2 ≤ 9223372036854775807) (hnc : n ≤ c) (x : Int) :
    Calls Try.prog 9 #[.slice A n c, .slice A2 n2 c2, .int .i64 x] w fun e w' => e = .returned (.bool true) ∧ Below w.heap.size w w' := by
  have HA : Hid (∀ W, Below w.heap.size w W → Calls Try.prog 13 #[] W fun e w' => e = .returned (.bool true) ∧ Below W.heap.size W w') := Lib.hid (fun W _ => alive_any W)
  obtain ⟨r, hr⟩ : ∃ r, rgtB a = r := ⟨_, rfl⟩
  obtain ⟨k, hk⟩ : ∃ k, com a b' = k := ⟨_, rfl⟩
  have hkn : k ≤ n := by rw [← hk, ← h.len]; exact (com_le a b').1
  have hkn2 : k ≤ n2 := by rw [← hk, ← h2.len]; exact (com_le a b').2
  have hmin : decide (min (n : Int) (n2 : Int) < (k : Int)) = false := by simp; omega
  have HR : Hid (∀ W, Below w.heap.size w W → Calls Try.prog 18 #[.slice A n c] W fun e w' => e = .returned (.bool r) ∧ Below W.heap.size W w') := Lib.hid (fun W hW => by rw [← hr]; exact right_any (h.below hW) hn)
  have HC : Hid (∀ W, Below w.heap.size w W → Calls Try.prog 20 #[.slice A n c, .slice A2 n2 c2] W fun e w' => e = .returned (.int .i64 (k : Int)) ∧ Below W.heap.size W w') := Lib.hid (fun W hW => by rw [← hk]; exact common_any (h.below hW) (h2.below hW) hn)
  have HC2 : Hid (∀ W, Below w.heap.size w W → Calls Try.prog 20 #[.slice A2 n2 c2, .slice A n c] W fun e w' => e = .returned (.int .i64 (k : Int)) ∧ Below W.heap.size W w') := Lib.hid (fun W hW => by rw [← hk, com_comm]; exact common_any (h2.below hW) (h.below hW) hn2)
  have HC3 : Hid (∀ W, Below w.heap.size w W → Calls Try.prog 20 #[.slice A n c, .slice A n c] W fun e w' => e = .returned (.int .i64 (n : Int)) ∧ Below W.heap.size W w') := Lib.hid (fun W hW => by
    refine (common_any (c := c) (c2 := c) (h.below hW) (h.below hW) hn).mono ?_
    rintro e w' ⟨he, hb⟩
    rw [com_self, h.len] at he
    exact ⟨he, hb⟩)
  have HB0 := Lib.hid (Below.refl w.heap.size w)
  have HAA := Lib.hid h
  have HRG := Lib.hid hr
  have hn0 : (0 : Int) ≤ (n : Int) := by omega
  obtain ⟨t1, h1⟩ : ∃ t, decide (x < 0) = t := ⟨_, rfl⟩
  obtain ⟨t2, h3⟩ : ∃ t, decide ((n : Int) < x) = t := ⟨_, rfl⟩
  clear hr hk h h2 hn2
  go_enter Try.func9, Try.ntmps9
  go_wp2_with fail
  refine (HC.out _ HB0.out).mono ?_
  rintro e w1 ⟨rfl, hbw1⟩
  have HB1 := Lib.hid (HB0.out.trans (hbw1.mono HB0.out.size))
  clear hbw1
  go_wp2_with fail
  refine (HC2.out _ HB1.out).mono ?_
  rintro e w2 ⟨rfl, hbw2⟩
  have HB2 := Lib.hid (HB1.out.trans (hbw2.mono HB1.out.size))
  clear hbw2
  go_wp2_with fail
  refine (HC3.out _ HB2.out).mono ?_
  rintro e w3 ⟨rfl, hbw3⟩
  have HB3 := Lib.hid (HB2.out.trans (hbw3.mono HB2.out.size))
  clear hbw3
  cases t1 with
  | true =>
    go_wp2_with fail
    refine (HA.out _ HB3.out).mono ?_
    rintro e w4 ⟨rfl, hbw4⟩
    have HB4 := Lib.hid (HB3.out.trans (hbw4.mono HB3.out.size))
    clear hbw4
    go_wp2_with fail
    go_ret
    exact ⟨rfl, HB4.out⟩
  | false =>
    cases t2 with
    | true =>
      go_wp2_with fail
      refine (HA.out _ HB3.out).mono ?_
      rintro e w4 ⟨rfl, hbw4⟩
      have HB4 := Lib.hid (HB3.out.trans (hbw4.mono HB3.out.size))
      clear hbw4
      go_wp2_with fail
      go_ret
      exact ⟨rfl, HB4.out⟩
    | false =>
      go_wp2_with fail
      refine (HR.out _ HB3.out).mono ?_
      rintro e w4 ⟨rfl, hbw4⟩
      have HB4 := Lib.hid (HB3.out.trans (hbw4.mono HB3.out.size))
      clear hbw4
      cases r with
      | false =>
        go_wp2_with fail
        refine (HA.out _ HB4.out).mono ?_
        rintro e w5 ⟨rfl, hbw5⟩
        have HB5 := Lib.hid (HB4.out.trans (hbw5.mono HB4.out.size))
        clear hbw5
        go_wp2_with fail
        go_ret
        exact ⟨rfl, HB5.out⟩
      | true =>
        have hx0 : 0 ≤ x := by simpa using h1
        have hxn : x ≤ (n : Int) := by simpa using h3
        obtain ⟨m, rfl⟩ : ∃ m : Nat, x = m := ⟨x.toNat, by omega⟩
        have hmn : m ≤ n := by omega
        have hmc : m ≤ c := by omega
        have hmc' : (m : Int) ≤ (c : Int) := by omega
        have HT1 : Hid (∀ W, Below w.heap.size w W → Calls Try.prog 18 #[.slice A m c] W fun e w' => e = .returned (.bool true) ∧ Below W.heap.size W w') := Lib.hid (fun W hW => by
          have e : rgtB (a.take m) = true := rgtB_iff.2 (rgt_take (rgtB_iff.1 HRG.out) m)
          rw [← e]
          exact right_any (rd_take (HAA.out.below hW) hmn) (by omega))
        have HT2 : Hid (∀ W, Below w.heap.size w W → Calls Try.prog 20 #[.slice A m c, .slice A n c] W fun e w' => e = .returned (.int .i64 (m : Int)) ∧ Below W.heap.size W w') := Lib.hid (fun W hW => by
          refine (common_any (c := c) (c2 := c) (rd_take (HAA.out.below hW) hmn) (HAA.out.below hW) (by omega)).mono ?_
          rintro e w' ⟨he, hb⟩
          rw [com_take a m (by rw [HAA.out.len]; exact hmn)] at he
          exact ⟨he, hb⟩)
        go_wp2_with fail
        refine (HA.out _ HB4.out).mono ?_
        rintro e w5 ⟨rfl, hbw5⟩
        have HB5 := Lib.hid (HB4.out.trans (hbw5.mono HB4.out.size))
        clear hbw5
        go_wp2_with fail
        refine (HT1.out _ HB5.out).mono ?_
        rintro e w6 ⟨rfl, hbw6⟩
        have HB6 := Lib.hid (HB5.out.trans (hbw6.mono HB5.out.size))
        clear hbw6
        go_wp2_with fail
        refine (HT2.out _ HB6.out).mono ?_
        rintro e w7 ⟨rfl, hbw7⟩
        have HB7 := Lib.hid (HB6.out.trans (hbw7.mono HB6.out.size))
        clear hbw7
        go_wp2_with fail
        go_ret
        exact ⟨rfl, HB7.out⟩
end Go.Proofs.Ytlpidjmhjjmmcaa
