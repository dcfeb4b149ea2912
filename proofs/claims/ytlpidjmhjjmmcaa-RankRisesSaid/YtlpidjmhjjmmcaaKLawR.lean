/-
  RankRises returns true. Condition: memory holds the numbers.
-/
import Derived.Test.YtlpidjmhjjmmcaaKAlive
namespace Go.Proofs.Ytlpidjmhjjmmcaa
set_option maxRecDepth 100000
open Go.ChangeShapes Go.WideShapes Go.ChangeAt Go.RowKit Go.Proofs.Rk

theorem part_set {α : Type} (f : α → List Value) (m : Nat) : ∀ (l : List α) (k : Nat) (_ : k < l.length) (y : α), (∀ x ∈ l, (f x).length = m) → (f y).length = m → splice (l.flatMap f) (k * m) (f y) = (l.set k y).flatMap f
  | x :: l, 0, _, y, h, hy => by
    have hx := h x (by simp)
    simp only [splice, Nat.zero_mul, List.take_zero, List.nil_append, Nat.zero_add, List.flatMap_cons, List.set_cons_zero]
    rw [List.drop_append, List.drop_eq_nil_of_le (by omega), List.nil_append, hx, hy, Nat.sub_self, List.drop_zero]
  | x :: l, k + 1, hk, y, h, hy => by
    have hx := h x (by simp)
    have ih := part_set f m l k (by simpa using hk) y (fun z hz => h z (by simp [hz])) hy
    simp only [List.set_cons_succ, List.flatMap_cons]
    rw [← ih]
    have e1 : (k + 1) * m = (f x).length + k * m := by rw [hx, Nat.succ_mul]; omega
    simp only [splice]
    rw [e1, List.take_append, List.take_of_length_le (by omega), Nat.add_sub_cancel_left, List.append_assoc, Nat.add_assoc, List.drop_append, List.drop_eq_nil_of_le (by omega), List.nil_append, Nat.add_sub_cancel_left]

theorem own_at {w : World} {B e size n g c : Nat} {xs : List Value} (h : w.ownsRow B e size (.slice (some ⟨g, 0, none⟩) n c) n xs) : ∃ cur, w.heap[g]? = some (.cells cur e (0, 0)) ∧ B ≤ g ∧ n ≤ c ∧ c ≤ maxLen ∧ cur.size = c * size ∧ cur.toList.take (n * size) = xs ∧ xs.length = n * size := by
  rcases h.2 with ⟨h0, _⟩ | ⟨g', cap, cur', e1, hbg, hgg, hnc, hcm, hcs, ht⟩
  · cases h0
  · simp only [Value.slice.injEq, Option.some.injEq, Addr.mk.injEq] at e1
    obtain ⟨⟨rfl, _⟩, _, rfl⟩ := e1
    exact ⟨cur', hgg, hbg, hnc, hcm, hcs, ht, h.1⟩
theorem own_set_cells {w : World} {B e size n g c : Nat} {xs : List Value} (h : w.ownsRow B e size (.slice (some ⟨g, 0, none⟩) n c) n xs) (off : Nat) (vs : List Value) (hf : off + vs.length ≤ n * size) :
    (w.setCells g off vs).ownsRow B e size (.slice (some ⟨g, 0, none⟩) n c) n (splice xs off vs) := by
  obtain ⟨cur, hg, hB, hnc, hcm, hcs, ht, hx⟩ := own_at h
  have hle : n * size ≤ c * size := Nat.mul_le_mul_right _ hnc
  have hcl : cur.toList.length = c * size := by rw [Array.length_toList]; exact hcs
  have hb := setCells_block (fr := (0, 0)) vs off w cur hg (by omega)
  refine ⟨by rw [length_splice _ _ _ (by omega)]; exact hx, .inr ⟨g, c, _, rfl, hB, hb, hnc, hcm, by rw [List.size_toArray, length_splice _ _ _ (by omega)]; exact hcl, ?_⟩⟩
  show (splice cur.toList off vs).take (n * size) = splice xs off vs
  rw [← ht]
  unfold splice
  rw [List.take_append, List.length_take, Nat.min_eq_left (by omega), List.take_take, Nat.min_eq_right (by omega), List.take_append, List.take_of_length_le (show vs.length ≤ n * size - off by omega), List.take_take, Nat.min_eq_left (by omega), List.drop_take]
  congr 3
  omega
theorem own_cells {w : World} {B n g c e : Nat} {xs : List Value} (h : w.ownsRow B e 1 (.slice (some ⟨g, 0, none⟩) n c) n xs) (i : Nat) (hi : i < n * 1) : (w.cell? ⟨g, i, none⟩).isSome = true ∧ w.frozen? ⟨g, i, none⟩ = false := by
  obtain ⟨cur, hg, hB, hnc, hcm, hcs, ht, hx⟩ := own_at h
  refine ⟨?_, frozen_of_row w g i _ _ hg⟩
  rw [cell_of_row w g i cur e _ hg, Array.getElem?_eq_getElem (by omega)]
  rfl
set_option maxHeartbeats 8000000 in
theorem rises_law {w : World} {A : Option Addr} {n c : Nat} {l : List Int} (h : Rd icell 1 w A n l) (hn : n * 8 ≤ 140737488355328) (hA0 : A = none → c = 0) (hw : ∀ x ∈ l, -9223372036854775808 ≤ x ∧ x ≤ 9223372036854775807) (a d : Int) : Calls Try.prog 10 #[.slice A n c, .int .i64 a, .int .i64 d] w fun e w' => e = .returned (.bool true) ∧ Below w.heap.size w w' := by
  have HA := Lib.hid (fun W => alive_any W)
  have HB0 := Lib.hid (Below.refl w.heap.size w)
  have HR := Lib.hid h
  have HL := Lib.hid h.len
  have HH : Hid (∀ W, Below w.heap.size w W → Calls Try.prog 27 #[.slice A n c] W fun e w' => ∃ r, Hd l r ∧ e = .returned (.int .i64 r) ∧ Below W.heap.size W w') := Lib.hid (fun W hW => held_any (h.below hW) (by omega))
  obtain ⟨t1, h1⟩ : ∃ t, decide (a < 0) = t := ⟨_, rfl⟩
  obtain ⟨t2, h2⟩ : ∃ t, decide ((n : Int) ≤ a) = t := ⟨_, rfl⟩
  obtain ⟨t3, h3⟩ : ∃ t, decide (d < 0) = t := ⟨_, rfl⟩
  obtain ⟨i0, hi, hz0, hz1, hz2⟩ := info_parts infoI
  have HW := Lib.hid hw
  have HN8 := Lib.hid hn
  have HA0 := Lib.hid hA0
  clear h hw hn hA0
  cases t1 with
  | true =>
    go_enter Try.func10, Try.ntmps10
    go_wp2_with fail
    refine (HA.out _).mono ?_
    rintro e w1 ⟨rfl, hbw1⟩
    have HB1 := Lib.hid (HB0.out.trans (hbw1.mono HB0.out.size))
    clear hbw1
    go_wp2_with fail
    go_ret
    exact ⟨rfl, HB1.out⟩
  | false =>
    cases t2 with
    | true =>
      go_enter Try.func10, Try.ntmps10
      go_wp2_with fail
      refine (HA.out _).mono ?_
      rintro e w1 ⟨rfl, hbw1⟩
      have HB1 := Lib.hid (HB0.out.trans (hbw1.mono HB0.out.size))
      clear hbw1
      go_wp2_with fail
      go_ret
      exact ⟨rfl, HB1.out⟩
    | false =>
      cases t3 with
      | true =>
        go_enter Try.func10, Try.ntmps10
        go_wp2_with fail
        refine (HA.out _).mono ?_
        rintro e w1 ⟨rfl, hbw1⟩
        have HB1 := Lib.hid (HB0.out.trans (hbw1.mono HB0.out.size))
        clear hbw1
        go_wp2_with fail
        go_ret
        exact ⟨rfl, HB1.out⟩
      | false =>
        have ha0 : 0 ≤ a := by simpa using h1
        have han : a < (n : Int) := by simpa using h2
        have hd0 : 0 ≤ d := by simpa using h3
        obtain ⟨k, rfl⟩ : ∃ k : Nat, a = k := ⟨a.toNat, by omega⟩
        obtain ⟨b, off, x, hA, hx, c0⟩ := icell_at HR.out (show k < n by omega)
        have hxb := HW.out x (List.mem_of_getElem? hx)
        obtain ⟨hx1, hx2⟩ := hxb
        have HXX := Lib.hid hx
        have HAE := Lib.hid hA
        subst hA
        obtain ⟨y, hy⟩ : ∃ y, max x 0 = y := ⟨_, rfl⟩
        have hy0 : 0 ≤ y := by omega
        have hy1 : y ≤ 9223372036854775807 := by omega
        have hyx : x ≤ y := by omega
        have hwy : IntKind.i64.wrap (4611686018427387904 - y) = 4611686018427387904 - y := by rw [IntKind.wrap_i64]; omega
        obtain ⟨t4, h4⟩ : ∃ t, decide (4611686018427387904 < x) = t := ⟨_, rfl⟩
        obtain ⟨t5, h5⟩ : ∃ t, decide (4611686018427387904 - y < d) = t := ⟨_, rfl⟩
        clear hx
        cases t4 with
        | true =>
          go_enter Try.func10, Try.ntmps10
          go_wp2_with fail
          refine (HA.out _).mono ?_
          rintro e w1 ⟨rfl, hbw1⟩
          have HB1 := Lib.hid (HB0.out.trans (hbw1.mono HB0.out.size))
          clear hbw1
          go_wp2_with fail
          go_ret
          exact ⟨rfl, HB1.out⟩
        | false =>
          cases t5 with
          | true =>
            go_enter Try.func10, Try.ntmps10
            go_wp2_with fail
            refine (HA.out _).mono ?_
            rintro e w1 ⟨rfl, hbw1⟩
            have HB1 := Lib.hid (HB0.out.trans (hbw1.mono HB0.out.size))
            clear hbw1
            go_wp2_with fail
            go_ret
            exact ⟨rfl, HB1.out⟩
          | false =>
            have hdy : d ≤ 4611686018427387904 - y := by simpa using h5
            have hwx : IntKind.i64.wrap (x + d) = x + d := by rw [IntKind.wrap_i64]; omega
            obtain ⟨w1, hw1⟩ : ∃ w1, w1 = w.alloc (.cells #[] 3) := ⟨_, rfl⟩
            obtain ⟨q, eq⟩ : ∃ q, q = w.heap.size := ⟨_, rfl⟩
            have hb1 : Below w.heap.size w w1 := by rw [hw1]; exact box_below w _
            have ho1 : w1.ownsRow w.heap.size 3 1 (.slice (some ⟨q, 0, none⟩) 0 0) 0 [] := by
              have hq : w1.heap[q]? = some (.cells #[] 3 (0, 0)) := by rw [hw1, eq]; exact new_block w _
              exact own_new hq (by omega) (by unfold maxLen; omega) rfl
            have HB1 := Lib.hid hb1
            have HO1 := Lib.hid ho1
            have HW1 := Lib.hid hw1
            have EQ := Lib.hid eq
            clear hw1 eq hb1 ho1
            go_enter Try.func10, Try.ntmps10
            go_upto_region 3 with fail
            clear c0
            have hr1 := HR.out.below HB1.out
            have ho1 := HO1.out
            have hs1 := HB1.out.size
            have hn8 := HN8.out
            have hA0 := HA0.out
            go_upto_region 4 with (at_builtin; rw [← HW1.out, ← EQ.out]; refine wpList_append_rd rfl _ _ 43 rfl w.heap.size 3 i0 _ 1 8 Try.underlying43 hi hz0 hz1 hz2 rfl (by decide) (.slice (some ⟨q, 0, none⟩) 0 0) 0 [] rfl ho1 (some ⟨b, off, none⟩) n c l rfl hr1 (fun _ _ => rfl) icell_one hA0 (by unfold maxLen; omega) (by omega) hs1 ?_; intro v' w2 hown hg2)
            rw [Nat.zero_add, List.nil_append] at hown
            obtain ⟨A2, c2, rfl, -, -, hA2⟩ := own_form hown
            obtain ⟨g, rfl⟩ := hA2 (by omega)
            have HB2 : Hid (Below w.heap.size w w2) := Lib.hid (HB1.out.trans (gb_own HO1.out hg2 (Nat.le_refl _) hs1))
            have HGE : Hid (w.heap.size ≤ g) := Lib.hid ((hown.lt g rfl).1)
            have HOW := Lib.hid hown
            have cg : w2.cell? ⟨g, k, none⟩ = some (.int .i64 x) := own_cell hown k _ (by
              have := icells_map l
              unfold icells at this
              rw [this, List.getElem?_map, HXX.out]; rfl)
            have fg : w2.frozen? ⟨g, k, none⟩ = false := (own_cells hown k (by omega)).2
            have hkn : (k : Int) < (n : Int) := han
            have HB3 : Hid (Below w.heap.size w (w2.setCell ⟨g, k, none⟩ (.int .i64 (x + d)))) := Lib.hid (HB2.out.setCell HGE.out _)
            have HR3 : Hid (Rd icell 1 (w2.setCell ⟨g, k, none⟩ (.int .i64 (x + d))) (some ⟨g, 0, none⟩) n (l.set k (x + d))) := Lib.hid (by
              have hs := own_set_cells HOW.out k [.int .i64 (x + d)] (by simp; omega)
              refine Rd.of_own (l := l.set k (x + d)) (cell := icell) (base := w.heap.size) (e := 3) (c := c2) ?_ (fun _ _ => rfl) (by omega)
              have e : splice (List.flatMap icell l) k [.int .i64 (x + d)] = List.flatMap icell (l.set k (x + d)) := by
                have := part_set icell 1 l k (by rw [HL.out]; omega) (x + d) (fun _ _ => rfl) rfl
                rw [Nat.mul_one] at this
                exact this
              rw [e] at hs
              exact hs)
            have HH2 : Hid (∀ W, Below (w2.setCell ⟨g, k, none⟩ (.int .i64 (x + d))).heap.size (w2.setCell ⟨g, k, none⟩ (.int .i64 (x + d))) W → Calls Try.prog 27 #[.slice (some ⟨g, 0, none⟩) n c2] W fun e w' => ∃ r, Hd (l.set k (x + d)) r ∧ e = .returned (.int .i64 r) ∧ Below W.heap.size W w') := Lib.hid (fun W hW => held_any (HR3.out.below hW) (by omega))
            clear hown hg2 hr1 ho1 hA0 hy0 hyx hy1 hwy h4 h5 hdy hy hn8 h3 h1 h2 hx1 hx2 hs1
            have hkk : (0 : Int) ≤ (k : Int) := ha0
            go_wp2_with fail
            obtain ⟨w3, hw3⟩ : ∃ w3, w3 = w2.setCell ⟨g, k, none⟩ (.int .i64 (x + d)) := ⟨_, rfl⟩
            rw [← hw3] at HB3 HR3 HH2
            rw [← hw3]
            clear hw3 cg fg
            refine (HA.out _).mono ?_
            rintro e w4 ⟨rfl, hb4⟩
            have HB4 := Lib.hid (HB3.out.trans (hb4.mono HB3.out.size))
            have HC4 := Lib.hid (HH2.out _ hb4)
            have HX4 := Lib.hid hb4
            clear hb4
            go_wp2_with fail
            refine HC4.out.mono ?_
            rintro e w5 ⟨r1, hr1, rfl, hb5⟩
            have HB5 := Lib.hid (HB4.out.trans (hb5.mono HB4.out.size))
            have HR1 := Lib.hid hr1
            clear hb5 hr1
            go_wp2_with fail
            refine (HH.out _ HB5.out).mono ?_
            rintro e w6 ⟨r2, hr2, rfl, hb6⟩
            have HB6 := Lib.hid (HB5.out.trans (hb6.mono HB5.out.size))
            have hle : r2 ≤ r1 := hd_rises HXX.out hd0 hr2 HR1.out
            have gle : decide (r2 ≤ r1) = true := by simpa using hle
            clear hb6 hr2
            go_wp2_with fail
            go_ret
            exact ⟨rfl, HB6.out⟩
end Go.Proofs.Ytlpidjmhjjmmcaa
