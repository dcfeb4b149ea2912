/-
  RankHeld returns true. Condition: memory holds the numbers.
-/
import Derived.Test.YtlpidjmhjjmmcaaKLawM
namespace Go.Proofs.Ytlpidjmhjjmmcaa
set_option maxRecDepth 100000
open Go.ChangeShapes Go.WideShapes Go.ChangeAt Go.RowKit Go.Proofs.Rk

set_option maxHeartbeats 8000000 in
theorem held_law {w : World} {A : Option Addr} {n c : Nat} {l : List Int} (h : Rd icell 1 w A n l) (hn : n ≤ 9223372036854775807) (a0 a1 a2 a3 a4 a5 a6 : Bool) : Calls Try.prog 8 #[.slice A n c, .agg #[.bool a0, .bool a1, .bool a2, .bool a3, .bool a4, .bool a5, .bool a6]] w fun e w' => e = .returned (.bool true) ∧ Below w.heap.size w w' := by
  obtain ⟨w2, hw2⟩ : ∃ w2, w2 = w.alloc (.cells #[.bool a0, .bool a1, .bool a2, .bool a3, .bool a4, .bool a5, .bool a6] 28) := ⟨_, rfl⟩
  obtain ⟨q, eq⟩ : ∃ q, q = w.heap.size := ⟨_, rfl⟩
  have hb2 : Below w.heap.size w w2 := by rw [hw2]; exact box_below w _
  have hq : w2.heap[q]? = some (.cells #[.bool a0, .bool a1, .bool a2, .bool a3, .bool a4, .bool a5, .bool a6] 28 (0, 0)) := by rw [hw2, eq]; exact new_block w _
  have HFA : Hid (∀ k, k < 7 → w2.cell? ⟨q, k, none⟩ = some (.bool ([a0, a1, a2, a3, a4, a5, a6].getD k false))) := Lib.hid (fun k hk => cell_of hq (bools_at _ _ _ _ _ _ _ k hk))
  obtain ⟨f, hf⟩ : ∃ f : Nat → Bool, f = fun k => [a0, a1, a2, a3, a4, a5, a6].getD k false := ⟨_, rfl⟩
  have HF : Hid (∀ k, k < 7 → w2.cell? ⟨q, k, none⟩ = some (.bool (f k))) := Lib.hid (by rw [hf]; exact HFA.out)
  have HL := Lib.hid h.len
  have HR := Lib.hid (h.below hb2)
  have HH := Lib.hid (held_any (c := c) (h.below hb2) hn)
  have HW2 := Lib.hid hw2
  have EQ := Lib.hid eq
  have HB2 := Lib.hid hb2
  have HA := Lib.hid (fun W => alive_any W)
  clear hw2 hb2 hq eq hf HFA h
  go_enter Try.func8, Try.ntmps8
  go_upto_region 1 with fail
  rw [← HW2.out, ← EQ.out]
  go_wp2_with fail
  refine HH.out.mono ?_
  rintro e w3 ⟨r, hr, rfl, hb3⟩
  have HD := Lib.hid hr
  have HX3 := Lib.hid (hb3 : Below w2.heap.size w2 w3)
  have HH2 := Lib.hid (rheld_any (c := c) (HR.out.below hb3) hn)
  clear hr hb3
  go_wp2_with fail
  refine HH2.out.mono ?_
  rintro e w4 ⟨r2, hr2, rfl, hb4⟩
  obtain rfl := hd_one HD.out hr2
  have HX4 := Lib.hid (HX3.out.trans (hb4.mono HX3.out.size))
  clear hr2 hb4
  obtain ⟨t1, h1⟩ : ∃ t, decide ((n : Int) < 1) = t := ⟨_, rfl⟩
  obtain ⟨t2, h2⟩ : ∃ t, decide (7 < (n : Int)) = t := ⟨_, rfl⟩
  cases t1 with
  | true =>
    have HZ : Hid (r = 0) := Lib.hid (by
      have := HD.out
      unfold Hd at this
      rwa [if_neg (by rw [HL.out]; simp at h1; omega)] at this)
    have hz := HZ.out
    subst hz
    have HX' := Lib.hid (HB2.out.trans (HX4.out.mono HB2.out.size))
    go_wp2_with fail
    refine (HA.out _).mono ?_
    rintro e w5 ⟨rfl, hbw5⟩
    have HB5 := Lib.hid (HX'.out.trans (hbw5.mono HX'.out.size))
    clear hbw5
    go_wp2_with fail
    go_ret
    exact ⟨rfl, HB5.out⟩
  | false =>
    cases t2 with
    | true =>
      have HZ : Hid (r = 0) := Lib.hid (by
        have := HD.out
        unfold Hd at this
        rwa [if_neg (by rw [HL.out]; simp at h2; omega)] at this)
      have hz := HZ.out
      subst hz
      have HX' := Lib.hid (HB2.out.trans (HX4.out.mono HB2.out.size))
      go_wp2_with fail
      refine (HA.out _).mono ?_
      rintro e w5 ⟨rfl, hbw5⟩
      have HB5 := Lib.hid (HX'.out.trans (hbw5.mono HX'.out.size))
      clear hbw5
      go_wp2_with fail
      go_ret
      exact ⟨rfl, HB5.out⟩
    | false =>
      have hn1 : 1 ≤ n := by simp at h1; omega
      have hn7 : n ≤ 7 := by simp at h2; omega
      have HI : Hid (IsH l r) := Lib.hid (by have := HD.out; unfold Hd at this; rwa [if_pos (by rw [HL.out]; exact ⟨hn1, hn7⟩)] at this)
      have HRE := Lib.hid (fun hh => reaches (by rw [HL.out]; exact hn1) (by rw [HL.out]; exact hn7) HI.out f hh)
      have HQ : Hid (∀ W, Calls Try.prog 15 #[.int .i64 (n : Int)] W fun e w' => e = .returned (.int .i64 (qn n : Nat)) ∧ W = w') := Lib.hid (fun W => by
        rw [← (qn_two hn1 hn7).2.2.2.1]
        exact rquorum_any _ W)
      obtain ⟨z, hz⟩ : ∃ z, qn n = z := ⟨_, rfl⟩
      rw [hz] at HQ
      have HZ := Lib.hid hz
      clear hz
      go_wp2_with fail
      go_loopw [6, 7, 31] (fun u v i wr => ∃ (k p : Nat) (t : Bool), k ≤ n ∧ i = .int .i64 k ∧ u = .int .i64 p ∧ v = .bool t ∧ p ≤ k ∧ Hid (picked f k = p) ∧ Hid (t = true ↔ ∃ i, i < k ∧ f i = true ∧ r ≤ l.getD i 0) ∧ Hid (Below w2.heap.size w2 wr)) (fun _ _ i _ => n - (intOf i).toNat)
      case atStart => exact ⟨0, 0, false, Nat.zero_le _, rfl, rfl, rfl, Nat.zero_le _, Lib.hid rfl, Lib.hid ⟨(fun e => by cases e), fun ⟨i, hi, _⟩ => absurd hi (by omega)⟩, HX4⟩
      case round =>
        obtain ⟨k, p, t, hk, rfl, rfl, rfl, hp, HP, HT, HX⟩ := hrel
        by_cases hlt : k < n
        · have hk0 : (0 : Int) ≤ (k : Int) := by omega
          have hki : (k : Int) < (n : Int) := by omega
          have hk7 : (k : Int) < 7 := by omega
          have hwk : IntKind.i64.wrap ((k : Int) + 1) = (k : Int) + 1 := by rw [IntKind.wrap_i64]; omega
          have hwp : IntKind.i64.wrap ((p : Int) + 1) = (p : Int) + 1 := by rw [IntKind.wrap_i64]; omega
          have c0 : wr.cell? ⟨q, k, none⟩ = some (.bool (f k)) := (HX.out.cell (cell_lt (HF.out k (by omega)))).trans (HF.out k (by omega))
          obtain ⟨b, off, x, hA, hx, c1⟩ := icell_at (HR.out.below HX.out) hlt
          subst hA
          obtain ⟨t3, ht3⟩ : ∃ t, f k = t := ⟨_, rfl⟩
          rw [ht3] at c0
          obtain ⟨t4, ht4⟩ : ∃ t, decide (r ≤ x) = t := ⟨_, rfl⟩
          have N1 : Hid (picked f (k + 1) = p + if t3 then 1 else 0) := Lib.hid (by unfold picked; rw [HP.out, ht3])
          have N2 : Hid ((t || (t3 && t4)) = true ↔ ∃ i, i < k + 1 ∧ f i = true ∧ r ≤ l.getD i 0) := Lib.hid (by
            have hxd : l.getD k 0 = x := by rw [List.getD_eq_getElem?_getD, hx]; rfl
            have hT := HT.out
            rw [Bool.or_eq_true, hT, Bool.and_eq_true]
            constructor
            · rintro (⟨i, hi, h3⟩ | ⟨h3, h4⟩)
              · exact ⟨i, by omega, h3⟩
              · exact ⟨k, by omega, by rw [ht3]; exact h3, by rw [hxd]; rw [← ht4] at h4; simpa using h4⟩
            · rintro ⟨i, hi, h3, h4⟩
              by_cases e : i = k
              · subst e
                exact .inr ⟨by rw [← ht3]; exact h3, by rw [← ht4]; rw [hxd] at h4; simpa using h4⟩
              · exact .inl ⟨i, by omega, h3, h4⟩)
          clear ht3 hx
          cases t3 with
          | false =>
            have M1 : Hid (picked f (k + 1) = p) := Lib.hid (by rw [N1.out]; rfl)
            rw [Bool.false_and, Bool.or_false] at N2
            go_wp2_with fail
            go_roundw
            case rel => exact ⟨k + 1, p, t, by omega, by go_num, rfl, rfl, by omega, M1, N2, HX⟩
            case measure => simp [intOf]; omega
          | true =>
            have M1 : Hid (picked f (k + 1) = p + 1) := Lib.hid (by rw [N1.out]; rfl)
            rw [Bool.true_and] at N2
            cases t with
            | true =>
              rw [Bool.true_or] at N2
              go_wp2_with fail
              go_roundw
              case rel => exact ⟨k + 1, p + 1, true, by omega, by go_num, by go_num, rfl, by omega, M1, N2, HX⟩
              case measure => simp [intOf]; omega
            | false =>
              rw [Bool.false_or] at N2
              go_wp2_with fail
              go_roundw
              case rel => exact ⟨k + 1, p + 1, t4, by omega, by go_num, by go_num, rfl, by omega, M1, N2, HX⟩
              case measure => simp [intOf]; omega
        · obtain rfl : k = n := by omega
          have hki : ¬ (k : Int) < (k : Int) := by omega
          obtain ⟨s1, hs1⟩ : ∃ t, decide ((p : Int) < (z : Int)) = t := ⟨_, rfl⟩
          have hs1n : decide (p < z) = s1 := by rw [← hs1]; simp
          obtain ⟨s3, hs3⟩ : ∃ t, (r == 0) = t := ⟨_, rfl⟩
          have HTT : Hid ((s1 || t || s3) = true) := Lib.hid (by
            cases t with
            | true => simp
            | false =>
              by_cases e1 : (p : Int) < (z : Int)
              · rw [← hs1]; simp [e1]
              · rcases HRE.out (by rw [HL.out, HZ.out, HP.out]; omega) with e | ⟨i, hi, h3, h4⟩
                · rw [← hs3, e]; simp
                · have := HT.out.2 ⟨i, by rw [HL.out] at hi; exact hi, h3, h4⟩
                  cases this)
          have HX' := Lib.hid (HB2.out.trans (HX.out.mono HB2.out.size))
          go_wp2_with fail
          refine (HA.out _).mono ?_
          rintro e w5 ⟨rfl, hbw5⟩
          have HB5 := Lib.hid (HX'.out.trans (hbw5.mono HX'.out.size))
          clear hbw5
          go_wp2_with fail
          refine (HQ.out _).mono ?_
          rintro e w0 ⟨rfl, rfl⟩
          cases s1 with
          | true =>
            go_wp2_with fail
            go_ret
            exact ⟨rfl, HB5.out⟩
          | false =>
            cases t with
            | true =>
              go_wp2_with fail
              go_ret
              exact ⟨rfl, HB5.out⟩
            | false =>
              have HS : Hid (s3 = true) := Lib.hid (by simpa using HTT.out)
              have hs := HS.out
              subst hs
              go_wp2_with fail
              go_ret
              exact ⟨rfl, HB5.out⟩
end Go.Proofs.Ytlpidjmhjjmmcaa
