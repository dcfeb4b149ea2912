/-
  What Right and MarkOf return of any entries, and the document's Right. Condition: memory holds the entries.
-/
import Derived.Test.YtlpidjmhjjmmcaaKSmall
namespace Go.Proofs.Ytlpidjmhjjmmcaa
set_option maxRecDepth 100000
open Go.ChangeShapes Go.WideShapes Go.ChangeAt Go.RowKit Go.Proofs.Rk

noncomputable def rgtB (l : List En) : Bool := @decide (Rgt l) (Classical.propDecidable _)
theorem rgtB_no {l : List En} (h : ¬ Rgt l) : false = rgtB l := by unfold rgtB; simp [h]
theorem rgtB_yes {l : List En} (h : Rgt l) : true = rgtB l := by unfold rgtB; simp [h]
theorem rgtB_iff {l : List En} : rgtB l = true ↔ Rgt l := by unfold rgtB; simp
/-- What has been looked at: k entries, the last one's view. -/
def Lk (l : List En) (k : Nat) (lv : Int) : Prop := (∀ j, j < k → Ok l j) ∧ 1 ≤ lv ∧ (k = 0 → lv = 1) ∧ ∀ p, 0 < k → l[k - 1]? = some p → p.v = lv
theorem lk_zero (l : List En) : Lk l 0 1 := ⟨fun _ h => absurd h (by omega), by omega, fun _ => rfl, fun _ h => absurd h (by omega)⟩
theorem lk_ok {l : List En} {k : Nat} {lv : Int} {x : En} (h : Lk l k lv) (hx : l[k]? = some x) : Ok l k ↔ (x.n = (k : Int) + 1 ∧ lv ≤ x.v ∧ isV x.v = true ∧ x.b.size ≤ 200) := by
  obtain ⟨h1, h2, h3, h4⟩ := h
  simp only [isV, Bool.and_eq_true, decide_eq_true_eq]
  constructor
  · rintro ⟨e, he, e1, e2, e3, e4, e5⟩
    rw [hx] at he
    injection he with he
    subst he
    refine ⟨e1, ?_, ⟨by omega, e3⟩, e4⟩
    by_cases h0 : k = 0
    · rw [h3 h0]; exact e2
    · have hk : k - 1 < l.length := by have := (List.getElem?_eq_some_iff.1 hx).1; omega
      have := h4 _ (by omega) (List.getElem?_eq_getElem hk)
      rw [← this]
      exact e5 _ (List.getElem?_eq_getElem hk)
  · rintro ⟨e1, e2, ⟨e3, e4⟩, e5⟩
    refine ⟨x, hx, e1, by omega, e4, e5, fun p hp => ?_⟩
    by_cases h0 : k = 0
    · subst h0
      rw [hx] at hp
      injection hp with hp
      rw [hp]
      exact Int.le_refl _
    · rw [h4 p (by omega) hp]; exact e2
theorem lk_next {l : List En} {k : Nat} {lv : Int} {x : En} (h : Lk l k lv) (hx : l[k]? = some x) (ho : Ok l k) : Lk l (k + 1) x.v := by
  have hh := (lk_ok h hx).1 ho
  obtain ⟨h1, h2, h3, h4⟩ := h
  refine ⟨fun j hj => ?_, by omega, fun e => absurd e (by omega), fun p _ hp => ?_⟩
  · by_cases e : j = k
    · rw [e]; exact ho
    · exact h1 j (by omega)
  · rw [Nat.add_sub_cancel, hx] at hp
    injection hp with hp
    rw [hp]
set_option maxHeartbeats 4000000 in
theorem right_any {w : World} {A : Option Addr} {n c : Nat} {l : List En} (h : Rd ecell 3 w A n l) (hn : n ≤ 9223372036854775807) : Calls Try.prog 18 #[.slice A n c] w fun e w' => e = .returned (.bool (rgtB l)) ∧ Below w.heap.size w w' := by
  have HR := Lib.hid h
  have HL := Lib.hid h.len
  clear h
  by_cases hbig : 150 < n
  · have HE : Hid (false = rgtB l) := Lib.hid (rgtB_no (fun hr => by have := hr.1; rw [HL.out] at this; omega))
    have hb : (150 : Int) < (n : Int) := by omega
    go_enter Try.func18, Try.ntmps18
    go_wp2_with fail
    go_ret
    exact ⟨ret_b HE.out, Below.refl _ _⟩
  have hb : ¬ (150 : Int) < (n : Int) := by omega
  have hnn : n ≤ 150 := by omega
  clear hbig hn
  go_enter Try.func18, Try.ntmps18
  go_wp2_with fail
  go_loopw [3, 11] (fun u i wr => ∃ (k : Nat) (lv : Int), k ≤ n ∧ i = .int .i64 k ∧ u = .int .i64 lv ∧ Hid (Lk l k lv) ∧ Hid (Below w.heap.size w wr)) (fun _ i _ => n - (intOf i).toNat)
  case atStart => exact ⟨0, 1, Nat.zero_le _, rfl, rfl, Lib.hid (lk_zero l), Lib.hid (Below.refl _ _)⟩
  case round =>
    obtain ⟨k, lv, hk, rfl, rfl, HK, HX⟩ := hrel
    by_cases hlt : k < n
    · obtain ⟨b, off, x, rfl, hx, hcc⟩ := (HR.out.below HX.out).at hlt
      have c0 : wr.cell? ⟨b, off + k * 3, none⟩ = some (.int .i64 x.v) := hcc 0 _ rfl
      have c1 : wr.cell? ⟨b, off + k * 3 + 1, none⟩ = some (.int .i64 x.n) := hcc 1 _ rfl
      have c2 : wr.cell? ⟨b, off + k * 3 + 2, none⟩ = some (.string x.b) := hcc 2 _ rfl
      obtain ⟨w3, hw3⟩ : ∃ w3, w3 = wr.alloc (.cells #[.int .i64 x.v, .int .i64 x.n, .string x.b] 49) := ⟨_, rfl⟩
      obtain ⟨r, er⟩ : ∃ r, r = wr.heap.size := ⟨_, rfl⟩
      have hb3 : Below wr.heap.size wr w3 := by rw [hw3]; exact box_below wr _
      have hr : w3.heap[r]? = some (.cells #[.int .i64 x.v, .int .i64 x.n, .string x.b] 49 (0, 0)) := by rw [hw3, er]; exact new_block wr _
      have HX3 := Lib.hid (HX.out.trans (hb3.mono HX.out.size))
      have r0 := cell_of hr (j := 0) rfl
      have r1 := cell_of hr (j := 1) rfl
      have r2 := cell_of hr (j := 2) rfl
      have hk0 : (0 : Int) ≤ (k : Int) := by omega
      have hki : (k : Int) < (n : Int) := by omega
      have hwk : IntKind.i64.wrap ((k : Int) + 1) = (k : Int) + 1 := by rw [IntKind.wrap_i64]; omega
      have HOK := Lib.hid (lk_ok HK.out hx)
      have HXX := Lib.hid hx
      have HKL : Hid (k < l.length) := Lib.hid (by rw [HL.out]; exact hlt)
      have HW3 := Lib.hid hw3
      have ER := Lib.hid er
      have HV := Lib.hid (isview_any x.v w3)
      obtain ⟨t1, h1⟩ : ∃ t, (x.n == (k : Int) + 1) = t := ⟨_, rfl⟩
      obtain ⟨t2, h2⟩ : ∃ t, decide (x.v < lv) = t := ⟨_, rfl⟩
      obtain ⟨t3, h3⟩ : ∃ t, isV x.v = t := ⟨_, rfl⟩
      obtain ⟨t4, h4⟩ : ∃ t, decide (200 < (x.b.size : Int)) = t := ⟨_, rfl⟩
      rw [h3] at HV
      have HOO : Hid (Ok l k ↔ (t1 = true ∧ t2 = false ∧ t3 = true ∧ t4 = false)) := Lib.hid (by
        rw [HOK.out, ← h1, ← h2, ← h3, ← h4]
        simp only [beq_iff_eq, decide_eq_false_iff_not]
        constructor
        · rintro ⟨a1, a2, a3, a4⟩; exact ⟨a1, by omega, a3, by omega⟩
        · rintro ⟨a1, a2, a3, a4⟩; exact ⟨a1, by omega, a3, by omega⟩)
      clear hx hcc hw3 er hb3 hr h3
      go_upto_region 7 with fail
      rw [← HW3.out, ← ER.out]
      clear c0 c1 c2
      cases t1 with
      | false =>
        have h1p : ¬ x.n = (k : Int) + 1 := by simpa using h1
        have HE : Hid (false = rgtB l) := Lib.hid (rgtB_no (fun hr => by have := HOO.out.1 (hr.2 k HKL.out); simp at this))
        go_wp2_with fail
        go_ret
        exact ⟨ret_b HE.out, HX3.out⟩
      | true =>
        have h1p : x.n = (k : Int) + 1 := by simpa using h1
        cases t2 with
        | true =>
          have HE : Hid (false = rgtB l) := Lib.hid (rgtB_no (fun hr => by have := HOO.out.1 (hr.2 k HKL.out); simp at this))
          go_wp2_with fail
          go_ret
          exact ⟨ret_b HE.out, HX3.out⟩
        | false =>
          cases t3 with
          | false =>
            have HE : Hid (false = rgtB l) := Lib.hid (rgtB_no (fun hr => by have := HOO.out.1 (hr.2 k HKL.out); simp at this))
            go_wp2_with fail
            refine HV.out.mono ?_
            rintro e w9 ⟨rfl, rfl⟩
            go_wp2_with fail
            go_ret
            exact ⟨ret_b HE.out, HX3.out⟩
          | true =>
            go_wp2_with fail
            refine HV.out.mono ?_
            rintro e w9 ⟨rfl, rfl⟩
            cases t4 with
            | true =>
              have HE : Hid (false = rgtB l) := Lib.hid (rgtB_no (fun hr => by have := HOO.out.1 (hr.2 k HKL.out); simp at this))
              go_wp2_with fail
              go_ret
              exact ⟨ret_b HE.out, HX3.out⟩
            | false =>
              have HN := Lib.hid (lk_next HK.out HXX.out (HOO.out.2 (by simp)))
              go_wp2_with fail
              go_roundw
              case rel => exact ⟨k + 1, x.v, by omega, by go_num, rfl, HN, HX3⟩
              case measure => simp [intOf]; omega
    · obtain rfl : k = n := by omega
      have hki : ¬ (k : Int) < (k : Int) := by omega
      have HE : Hid (true = rgtB l) := Lib.hid (rgtB_yes ⟨by rw [HL.out]; exact hnn, fun j hj => HK.out.1 j (by rw [HL.out] at hj; exact hj)⟩)
      go_wp2_with fail
      go_ret
      exact ⟨ret_b HE.out, HX.out⟩
end Go.Proofs.Ytlpidjmhjjmmcaa
