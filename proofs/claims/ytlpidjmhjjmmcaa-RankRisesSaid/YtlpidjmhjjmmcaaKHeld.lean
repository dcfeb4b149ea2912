/-
  What the document's atLeast and Held return of any numbers. Condition: memory holds the numbers.
-/
import Derived.Test.YtlpidjmhjjmmcaaKNext
namespace Go.Proofs.Ytlpidjmhjjmmcaa
set_option maxRecDepth 100000
open Go.ChangeShapes Go.WideShapes Go.ChangeAt Go.RowKit Go.Proofs.Rk

/-- Numbers in memory. -/
theorem icell_at {w : World} {A : Option Addr} {n k : Nat} {l : List Int} (h : Rd icell 1 w A n l) (hk : k < n) : ∃ b off x, A = some ⟨b, off, none⟩ ∧ l[k]? = some x ∧ w.cell? ⟨b, off + k, none⟩ = some (.int .i64 x) := by
  obtain ⟨b, off, x, h1, h2, h3⟩ := h.at hk
  exact ⟨b, off, x, h1, h2, by have := h3 0 _ rfl; simpa using this⟩
theorem cnt_take {l : List Int} {k : Nat} {y x : Int} (hy : l[k]? = some y) : cnt (l.take (k + 1)) x = cnt (l.take k) x + if x ≤ y then 1 else 0 := by
  have hk : k < l.length := (List.getElem?_eq_some_iff.1 hy).1
  rw [List.take_succ_eq_append_getElem hk]
  rw [List.getElem?_eq_getElem hk] at hy
  injection hy with hy
  unfold cnt
  rw [List.countP_append, hy]
  simp [List.countP_cons]
set_option maxHeartbeats 2000000 in
theorem atleast_any {w : World} {A : Option Addr} {n c : Nat} {l : List Int} (h : Rd icell 1 w A n l) (hn : n ≤ 9223372036854775807) (x : Int) : Calls Try.prog 33 #[.slice A n c, .int .i64 x] w fun e w' => e = .returned (.int .i64 (cnt l x : Nat)) ∧ Below w.heap.size w w' := by
  have HR := Lib.hid h
  have HL := Lib.hid h.len
  clear h
  go_enter Try.func33, Try.ntmps33
  go_wp2_with fail
  go_loopw [5, 6] (fun u i wr => ∃ (k m : Nat), k ≤ n ∧ m ≤ k ∧ i = .int .i64 k ∧ u = .int .i64 m ∧ Hid (cnt (l.take k) x = m) ∧ Hid (Below w.heap.size w wr)) (fun _ i _ => n - (intOf i).toNat)
  case atStart => exact ⟨0, 0, Nat.zero_le _, Nat.zero_le _, rfl, rfl, Lib.hid (by simp [cnt]), Lib.hid (Below.refl _ _)⟩
  case round =>
    obtain ⟨k, m, hk, hm, rfl, rfl, HM, HX⟩ := hrel
    by_cases hlt : k < n
    · obtain ⟨b, off, y, hA, hy, c0⟩ := icell_at (HR.out.below HX.out) hlt
      subst hA
      have hk0 : (0 : Int) ≤ (k : Int) := by omega
      have hki : (k : Int) < (n : Int) := by omega
      have hwk : IntKind.i64.wrap ((k : Int) + 1) = (k : Int) + 1 := by rw [IntKind.wrap_i64]; omega
      have hwm : IntKind.i64.wrap ((m : Int) + 1) = (m : Int) + 1 := by rw [IntKind.wrap_i64]; omega
      have HT := Lib.hid (cnt_take (x := x) hy)
      clear hy
      by_cases hxy : x ≤ y
      · have HN : Hid (cnt (l.take (k + 1)) x = m + 1) := Lib.hid (by rw [HT.out, HM.out, if_pos hxy])
        go_wp2_with fail
        go_roundw
        case rel => exact ⟨k + 1, m + 1, by omega, by omega, by go_num, by go_num, HN, HX⟩
        case measure => simp [intOf]; omega
      · have HN : Hid (cnt (l.take (k + 1)) x = m) := Lib.hid (by rw [HT.out, HM.out, if_neg hxy]; rfl)
        go_wp2_with fail
        go_roundw
        case rel => exact ⟨k + 1, m, by omega, by omega, by go_num, rfl, HN, HX⟩
        case measure => simp [intOf]; omega
    · obtain rfl : k = n := by omega
      have hki : ¬ (k : Int) < (k : Int) := by omega
      have HE : Hid ((m : Int) = (cnt l x : Nat)) := Lib.hid (by rw [← HM.out, ← HL.out, List.take_length])
      go_wp2_with fail
      go_ret
      exact ⟨ret_i HE.out, HX.out⟩
/-- Of the first k numbers. -/
structure HP (l : List Int) (k : Nat) (o : Int) : Prop where
  nn : 0 ≤ o
  mem : 0 < o → o ∈ l ∧ qn l.length ≤ cnt l o
  top : ∀ j a, j < k → l[j]? = some a → 0 < a → qn l.length ≤ cnt l a → a ≤ o
theorem hp_zero (l : List Int) : HP l 0 0 := ⟨by omega, fun h => absurd h (by omega), fun j a h => absurd h (by omega)⟩
theorem hp_keep {l : List Int} {k : Nat} {o x : Int} (h : HP l k o) (hx : l[k]? = some x) (e : x ≤ o ∨ cnt l x < qn l.length) : HP l (k + 1) o := ⟨h.nn, h.mem, fun j a hj ha h0 hq => by
  by_cases ej : j = k
  · subst ej
    rw [hx] at ha
    injection ha with ha
    subst ha
    omega
  · exact h.top j a (by omega) ha h0 hq⟩
theorem hp_next {l : List Int} {k : Nat} {o x : Int} (h : HP l k o) (hx : l[k]? = some x) (e : o < x) (e2 : qn l.length ≤ cnt l x) : HP l (k + 1) x := ⟨by have := h.nn; omega, fun _ => ⟨List.mem_of_getElem? hx, e2⟩, fun j a hj ha h0 hq => by
  by_cases ej : j = k
  · subst ej
    rw [hx] at ha
    injection ha with ha
    omega
  · have := h.top j a (by omega) ha h0 hq; omega⟩
theorem hp_end {l : List Int} {o : Int} (h : HP l l.length o) : IsH l o := ⟨h.nn, h.mem, fun a ha h0 hq => by
  obtain ⟨j, hj, rfl⟩ := List.getElem_of_mem ha
  exact h.top j _ hj (List.getElem?_eq_getElem hj) h0 hq⟩
theorem hd_none {l : List Int} (h : ¬ (1 ≤ l.length ∧ l.length ≤ 7)) : Hd l 0 := by unfold Hd; rw [if_neg h]
theorem hd_some {l : List Int} {o : Int} (h : 1 ≤ l.length ∧ l.length ≤ 7) (k : IsH l o) : Hd l o := by unfold Hd; rw [if_pos h]; exact k
set_option maxHeartbeats 4000000 in
theorem rheld_any {w : World} {A : Option Addr} {n c : Nat} {l : List Int} (h : Rd icell 1 w A n l) (hn : n ≤ 9223372036854775807) : Calls Try.prog 28 #[.slice A n c] w fun e w' => ∃ r, Hd l r ∧ e = .returned (.int .i64 r) ∧ Below w.heap.size w w' := by
  have HR := Lib.hid h
  have HL := Lib.hid h.len
  clear h
  by_cases h7 : n ≤ 7
  · have h7i : decide ((n : Int) ≤ 7) = true := by simpa using (by omega : (n : Int) ≤ 7)
    go_enter Try.func28, Try.ntmps28
    go_wp2_with fail
    go_loopw [3, 4] (fun u i wr => ∃ (k : Nat) (o : Int), k ≤ n ∧ i = .int .i64 k ∧ u = .int .i64 o ∧ Hid (HP l k o) ∧ Hid (Below w.heap.size w wr)) (fun _ i _ => n - (intOf i).toNat)
    case atStart => exact ⟨0, 0, Nat.zero_le _, rfl, rfl, Lib.hid (hp_zero l), Lib.hid (Below.refl _ _)⟩
    case round =>
      obtain ⟨k, o, hk, rfl, rfl, HK, HX⟩ := hrel
      by_cases hlt : k < n
      · obtain ⟨b, off, x, hA, hx, c0⟩ := icell_at (HR.out.below HX.out) hlt
        subst hA
        have hk0 : (0 : Int) ≤ (k : Int) := by omega
        have hki : decide ((k : Int) < (n : Int)) = true := by simpa using hlt
        have hki2 : (k : Int) < (n : Int) := by omega
        have hwk : IntKind.i64.wrap ((k : Int) + 1) = (k : Int) + 1 := by rw [IntKind.wrap_i64]; omega
        have HXX := Lib.hid hx
        have HQ : Hid (quo (n : Int) = (qn l.length : Nat)) := Lib.hid (by rw [HL.out]; exact (qn_two (by omega) h7).2.2.2.1)
        have HC := Lib.hid (atleast_any (c := c) (HR.out.below HX.out) hn x)
        have HCQ := Lib.hid (fun W => rquorum_any (n : Int) W)
        have HQN : Hid (qn l.length ≤ 7) := Lib.hid (by rw [HL.out]; have := qn_two (show 1 ≤ n by omega) h7; omega)
        rw [HQ.out] at HCQ
        obtain ⟨p, hp⟩ : ∃ p, cnt l x = p := ⟨_, rfl⟩
        obtain ⟨q, hq⟩ : ∃ q, qn l.length = q := ⟨_, rfl⟩
        rw [hp] at HC
        rw [hq] at HCQ
        have HP' := Lib.hid hp
        have HQ' := Lib.hid hq
        clear hx hp hq
        by_cases hxo : o < x
        · have g1 : decide (o < x) = true := by simpa using hxo
          go_wp2_with fail
          refine HC.out.mono ?_
          rintro e w2 ⟨rfl, hb2⟩
          have HX2 := Lib.hid (HX.out.trans (hb2.mono HX.out.size))
          have c1 : w2.cell? ⟨b, off + k, none⟩ = some (.int .i64 x) := (hb2.cell (cell_lt c0)).trans c0
          clear hb2 c0
          go_wp2_with fail
          refine (HCQ.out _).mono ?_
          rintro e w3 ⟨rfl, rfl⟩
          by_cases hqp : q ≤ p
          · have g2 : decide ((q : Int) ≤ (p : Int)) = true := by simpa using hqp
            have HN := Lib.hid (hp_next HK.out HXX.out hxo (by rw [HP'.out, HQ'.out]; exact hqp))
            go_wp2_with fail
            go_roundw
            case rel => exact ⟨k + 1, x, by omega, by go_num, rfl, HN, HX2⟩
            case measure => simp [intOf]; omega
          · have g2 : decide ((q : Int) ≤ (p : Int)) = false := by simpa using hqp
            have HN := Lib.hid (hp_keep HK.out HXX.out (.inr (by rw [HP'.out, HQ'.out]; omega)))
            go_wp2_with fail
            go_roundw
            case rel => exact ⟨k + 1, o, by omega, by go_num, rfl, HN, HX2⟩
            case measure => simp [intOf]; omega
        · have g1 : decide (o < x) = false := by simpa using hxo
          have HN := Lib.hid (hp_keep HK.out HXX.out (.inl (by omega)))
          go_wp2_with fail
          go_roundw
          case rel => exact ⟨k + 1, o, by omega, by go_num, rfl, HN, HX⟩
          case measure => simp [intOf]; omega
      · obtain rfl : k = n := by omega
        have hki : decide ((k : Int) < (k : Int)) = false := by simp
        have HE : Hid (Hd l o) := Lib.hid (by
          by_cases h0 : k = 0
          · have hl : l = [] := List.eq_nil_of_length_eq_zero (by rw [HL.out]; exact h0)
            have ho : o = 0 := by
              have h1 := HK.out.nn
              by_cases hp : 0 < o
              · have := (HK.out.mem hp).1; rw [hl] at this; cases this
              · omega
            rw [ho]
            exact hd_none (by rw [HL.out]; omega)
          · exact hd_some (by rw [HL.out]; omega) (hp_end (by rw [HL.out]; exact HK.out)))
        go_wp2_with fail
        go_ret
        exact ⟨o, HE.out, rfl, HX.out⟩
  · have h7i : decide ((n : Int) ≤ 7) = false := by simpa using (by omega : ¬ (n : Int) ≤ 7)
    have h0i : decide ((0 : Int) < (n : Int)) = true := by simpa using (by omega : (0 : Int) < (n : Int))
    have HE : Hid (Hd l 0) := Lib.hid (hd_none (by rw [HL.out]; omega))
    go_enter Try.func28, Try.ntmps28
    go_wp2_with fail
    go_loopw [3, 4] (fun u i wr => u = .int .i64 0 ∧ i = .int .i64 0 ∧ Hid (Below w.heap.size w wr)) (fun _ _ _ => 0)
    case atStart => exact ⟨rfl, rfl, Lib.hid (Below.refl _ _)⟩
    case round =>
      obtain ⟨rfl, rfl, HX⟩ := hrel
      go_wp2_with fail
      go_ret
      exact ⟨0, HE.out, rfl, HX.out⟩
end Go.Proofs.Ytlpidjmhjjmmcaa
