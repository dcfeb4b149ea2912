/-
  What the document's Right returns of any entries. Condition: memory holds the entries.
-/
import Derived.Test.YtlpidjmhjjmmcaaKRight
namespace Go.Proofs.Ytlpidjmhjjmmcaa
set_option maxRecDepth 100000
open Go.ChangeShapes Go.WideShapes Go.ChangeAt Go.RowKit Go.Proofs.Rk

theorem ok_all {l : List En} {k : Nat} {x : En} (hx : l[k]? = some x) : Ok l k ↔ (x.n = (k : Int) + 1 ∧ 1 ≤ x.v ∧ x.v ≤ 4611686018427387904 ∧ x.b.size ≤ 200 ∧ ∀ p, l[k - 1]? = some p → p.v ≤ x.v) := by
  constructor
  · rintro ⟨e, he, h⟩
    rw [hx] at he
    injection he with he
    rw [he]
    exact h
  · exact fun h => ⟨x, hx, h⟩
set_option maxHeartbeats 8000000 in
theorem rright_any {w : World} {A : Option Addr} {n c : Nat} {l : List En} (h : Rd ecell 3 w A n l) (hn : n ≤ 9223372036854775807) : Calls Try.prog 19 #[.slice A n c] w fun e w' => e = .returned (.bool (rgtB l)) ∧ Below w.heap.size w w' := by
  have HR := Lib.hid h
  have HL := Lib.hid h.len
  clear h
  go_enter Try.func19, Try.ntmps19
  go_wp2_with fail
  go_loopw [3] (fun i wr => ∃ (k : Nat), k ≤ n ∧ i = .int .i64 k ∧ Hid (∀ j, j < k → Ok l j) ∧ Hid (Below w.heap.size w wr)) (fun i _ => n - (intOf i).toNat)
  case atStart => exact ⟨0, Nat.zero_le _, rfl, Lib.hid (fun j hj => absurd hj (by omega)), Lib.hid (Below.refl _ _)⟩
  case round =>
    obtain ⟨k, hk, rfl, HK, HX⟩ := hrel
    by_cases hlt : k < n
    · obtain ⟨b, off, x, hA, hx, hcc⟩ := (HR.out.below HX.out).at hlt
      subst hA
      have c0 : wr.cell? ⟨b, off + k * 3, none⟩ = some (.int .i64 x.v) := hcc 0 _ rfl
      have c1 : wr.cell? ⟨b, off + k * 3 + 1, none⟩ = some (.int .i64 x.n) := hcc 1 _ rfl
      have c2 : wr.cell? ⟨b, off + k * 3 + 2, none⟩ = some (.string x.b) := hcc 2 _ rfl
      have hk0 : (0 : Int) ≤ (k : Int) := by omega
      have hki : (k : Int) < (n : Int) := by omega
      have hwk : IntKind.i64.wrap ((k : Int) + 1) = (k : Int) + 1 := by rw [IntKind.wrap_i64]; omega
      have HOK := Lib.hid (ok_all hx)
      have HXX := Lib.hid hx
      have HKL : Hid (k < l.length) := Lib.hid (by rw [HL.out]; exact hlt)
      obtain ⟨t1, h1⟩ : ∃ t, (x.n == (k : Int) + 1) = t := ⟨_, rfl⟩
      obtain ⟨t2, h2⟩ : ∃ t, decide (x.v < 1) = t := ⟨_, rfl⟩
      obtain ⟨t3, h3⟩ : ∃ t, decide (4611686018427387904 < x.v) = t := ⟨_, rfl⟩
      obtain ⟨t4, h4⟩ : ∃ t, decide (200 < (x.b.size : Int)) = t := ⟨_, rfl⟩
      obtain ⟨t5, HT5⟩ : ∃ t, Hid (t = true ↔ ∃ p, l[k - 1]? = some p ∧ x.v < p.v) := by
        by_cases e : ∃ p, l[k - 1]? = some p ∧ x.v < p.v
        · exact ⟨true, Lib.hid (by simp [e])⟩
        · exact ⟨false, Lib.hid (by simp [e])⟩
      have HOO : Hid (Ok l k ↔ (t1 = true ∧ t2 = false ∧ t3 = false ∧ t4 = false ∧ t5 = false)) := Lib.hid (by
        rw [HOK.out, ← h1, ← h2, ← h3, ← h4]
        simp only [beq_iff_eq, decide_eq_false_iff_not]
        constructor
        · rintro ⟨a1, a2, a3, a4, a5⟩
          refine ⟨a1, by omega, by omega, by omega, ?_⟩
          cases t5 with
          | false => rfl
          | true =>
            obtain ⟨p, hp, hl⟩ := HT5.out.1 rfl
            have := a5 p hp
            omega
        · rintro ⟨a1, a2, a3, a4, a5⟩
          refine ⟨a1, by omega, by omega, by omega, fun p hp => ?_⟩
          by_cases hl : x.v < p.v
          · have := HT5.out.2 ⟨p, hp, hl⟩
            rw [a5] at this
            cases this
          · omega)
      clear hx hcc
      cases t1 with
      | false =>
        have h1p : ¬ x.n = (k : Int) + 1 := by simpa using h1
        have HE : Hid (false = rgtB l) := Lib.hid (rgtB_no (fun hr => by have := HOO.out.1 (hr.2 k HKL.out); simp at this))
        go_wp2_with fail
        go_ret
        exact ⟨ret_b HE.out, HX.out⟩
      | true =>
        have h1p : x.n = (k : Int) + 1 := by simpa using h1
        cases t2 with
        | true =>
          have HE : Hid (false = rgtB l) := Lib.hid (rgtB_no (fun hr => by have := HOO.out.1 (hr.2 k HKL.out); simp at this))
          go_wp2_with fail
          go_ret
          exact ⟨ret_b HE.out, HX.out⟩
        | false =>
          cases t3 with
          | true =>
            have HE : Hid (false = rgtB l) := Lib.hid (rgtB_no (fun hr => by have := HOO.out.1 (hr.2 k HKL.out); simp at this))
            go_wp2_with fail
            go_ret
            exact ⟨ret_b HE.out, HX.out⟩
          | false =>
            cases t4 with
            | true =>
              have HE : Hid (false = rgtB l) := Lib.hid (rgtB_no (fun hr => by have := HOO.out.1 (hr.2 k HKL.out); simp at this))
              go_wp2_with fail
              go_ret
              exact ⟨ret_b HE.out, HX.out⟩
            | false =>
              go_upto_region 6 with fail
              by_cases h0 : k = 0
              · have g1 : decide ((0 : Int) < (k : Int)) = false := by simpa using (by omega : ¬ (0 : Int) < (k : Int))
                have g2 : decide (0 < k) = false := by simpa using h0
                have HF : t5 = false := by
                  cases t5 with
                  | false => rfl
                  | true =>
                    obtain ⟨p, hp, hl⟩ := HT5.out.1 rfl
                    have hx := HXX.out
                    rw [h0] at hp hx
                    rw [hx] at hp
                    injection hp with hp
                    rw [hp] at hl
                    exact absurd hl (by omega)
                subst HF
                clear h0
                go_quiet (fail)
                obtain ⟨w2, hq9⟩ : ∃ W, W = wr.drewN nq := ⟨_, rfl⟩
                have hb9 : Below wr.heap.size wr w2 := by rw [hq9]; exact below_drewN (Below.refl _ _) _
                have HQQw2 := Lib.hid hq9
                rw [← HQQw2.out]
                have HX2 := Lib.hid (HX.out.trans (hb9.mono HX.out.size))
                clear hq9 hb9
                have HN : Hid (∀ j, j < k + 1 → Ok l j) := Lib.hid (fun j hj => by
                  by_cases e : j = k
                  · rw [e]; exact HOO.out.2 (by simp)
                  · exact HK.out j (by omega))
                go_wp2_with fail
                go_roundw
                case rel => exact ⟨k + 1, by omega, by go_num, HN, HX2⟩
                case measure => simp [intOf]; omega
              · have g1 : decide ((0 : Int) < (k : Int)) = true := by simpa using (by omega : (0 : Int) < (k : Int))
                have g2 : decide (0 < k) = true := by simpa using (by omega : 0 < k)
                obtain ⟨m, hm⟩ : ∃ m, k = m + 1 := ⟨k - 1, by omega⟩
                have hwm : IntKind.i64.wrap ((k : Int) - 1) = (m : Int) := by rw [IntKind.wrap_i64]; omega
                have hm0 : (0 : Int) ≤ (m : Int) := by omega
                have hmi : (m : Int) < (n : Int) := by omega
                obtain ⟨b2, off2, p, hA2, hp, hpc⟩ := (HR.out.below HX.out).at (show m < n by omega)
                injection hA2 with hA2
                injection hA2 with hA3 hA4
                subst hA3; subst hA4
                have d0 : wr.cell? ⟨b, off + m * 3, none⟩ = some (.int .i64 p.v) := hpc 0 _ rfl
                have HP5 : Hid (decide (x.v < p.v) = t5) := Lib.hid (by
                  have e : l[k - 1]? = some p := by rw [hm, Nat.add_sub_cancel]; exact hp
                  cases t5 with
                  | true =>
                    obtain ⟨p', hp', hl⟩ := HT5.out.1 rfl
                    rw [e] at hp'
                    injection hp' with hp'
                    rw [hp']
                    exact decide_eq_true hl
                  | false =>
                    refine decide_eq_false fun hl => ?_
                    have := HT5.out.2 ⟨p, e, hl⟩
                    cases this)
                have h5 := HP5.out
                clear h0 hm hp hpc
                go_quiet (fail)
                obtain ⟨w2, hq9⟩ : ∃ W, W = wr.drewN nq := ⟨_, rfl⟩
                have hb9 : Below wr.heap.size wr w2 := by rw [hq9]; exact below_drewN (Below.refl _ _) _
                have HQQw2 := Lib.hid hq9
                rw [← HQQw2.out]
                have HX2 := Lib.hid (HX.out.trans (hb9.mono HX.out.size))
                clear hq9 hb9
                clear d0
                cases t5 with
                | true =>
                  have HE : Hid (false = rgtB l) := Lib.hid (rgtB_no (fun hr => by have := HOO.out.1 (hr.2 k HKL.out); simp at this))
                  go_wp2_with fail
                  go_ret
                  exact ⟨ret_b HE.out, HX2.out⟩
                | false =>
                  have HN : Hid (∀ j, j < k + 1 → Ok l j) := Lib.hid (fun j hj => by
                    by_cases e : j = k
                    · rw [e]; exact HOO.out.2 (by simp)
                    · exact HK.out j (by omega))
                  go_wp2_with fail
                  go_roundw
                  case rel => exact ⟨k + 1, by omega, by go_num, HN, HX2⟩
                  case measure => simp [intOf]; omega
    · obtain rfl : k = n := by omega
      have hki : ¬ (k : Int) < (k : Int) := by omega
      obtain ⟨t, ht⟩ : ∃ t, decide ((k : Int) ≤ 150) = t := ⟨_, rfl⟩
      have HE : Hid (t = rgtB l) := Lib.hid (by
        by_cases e : k ≤ 150
        · rw [← ht, decide_eq_true (by omega)]
          exact rgtB_yes ⟨by rw [HL.out]; exact e, fun j hj => HK.out j (by rw [HL.out] at hj; exact hj)⟩
        · rw [← ht, decide_eq_false (by omega)]
          exact rgtB_no (fun hr => e (by have := hr.1; rw [HL.out] at this; exact this)))
      go_wp2_with fail
      go_ret
      exact ⟨ret_b HE.out, HX.out⟩
end Go.Proofs.Ytlpidjmhjjmmcaa
