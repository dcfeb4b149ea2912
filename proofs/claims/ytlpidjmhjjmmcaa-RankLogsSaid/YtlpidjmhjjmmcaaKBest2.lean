/-
  What the document's Best returns of any marks. Condition: memory holds the marks.
-/
import Derived.Test.YtlpidjmhjjmmcaaKMark
namespace Go.Proofs.Ytlpidjmhjjmmcaa
set_option maxRecDepth 100000
open Go.ChangeShapes Go.WideShapes Go.ChangeAt Go.RowKit Go.Proofs.Rk

set_option maxHeartbeats 8000000 in
theorem rbest_any {w : World} {A : Option Addr} {n c : Nat} {l : List Mk} (h : Rd mcell 2 w A n l) (hn : n ≤ 9223372036854775807) : Calls Try.prog 26 #[.slice A n c] w fun e w' => ∃ r, IsB l r ∧ e = .returned (.int .i64 r) ∧ Below w.heap.size w w' := by
  have HR := Lib.hid h
  have HL := Lib.hid h.len
  clear h
  go_enter Try.func26, Try.ntmps26
  go_wp2_with fail
  go_loopw [3] (fun i wr => ∃ (k : Nat), k ≤ n ∧ i = .int .i64 k ∧ Hid (∀ (j : Nat) (z : Mk), j < k → l[j]? = some z → ∃ y ∈ l, less z y = true) ∧ Hid (Below w.heap.size w wr)) (fun i _ => n - (intOf i).toNat)
  case atStart => exact ⟨0, Nat.zero_le _, rfl, Lib.hid (fun j _ hj => absurd hj (by omega)), Lib.hid (Below.refl _ _)⟩
  case round =>
    obtain ⟨k, hk, rfl, HK, HX⟩ := hrel
    by_cases hlt : k < n
    · obtain ⟨b, off, x, hA, hx, hcc⟩ := HR.out.at hlt
      subst hA
      have HCX := Lib.hid hcc
      have HXX := Lib.hid hx
      have hk0 : (0 : Int) ≤ (k : Int) := by omega
      have hki : (k : Int) < (n : Int) := by omega
      have hwk : IntKind.i64.wrap ((k : Int) + 1) = (k : Int) + 1 := by rw [IntKind.wrap_i64]; omega
      clear hx hcc
      go_wp2_with fail
      go_loopw [4, 5] (fun q i w2 => ∃ (m : Nat) (t : Bool), m ≤ n ∧ i = .int .i64 m ∧ q = .bool t ∧ Hid (t = true ↔ ∀ y ∈ l.take m, less x y = false) ∧ Hid (Below w.heap.size w w2)) (fun _ i _ => n - (intOf i).toNat)
      case atStart => exact ⟨0, true, Nat.zero_le _, rfl, rfl, Lib.hid ⟨fun _ y hy => by simp at hy, fun _ => rfl⟩, HX⟩
      case round =>
        obtain ⟨m, t, hm, rfl, rfl, HT, HX2⟩ := hrel
        by_cases hlt2 : m < n
        · obtain ⟨b2, off2, y, hA2, hy, hcc⟩ := HR.out.at hlt2
          injection hA2 with hA2
          injection hA2 with hA3 hA4
          subst hA3; subst hA4
          have HS : Hid (∀ W, Below wr.heap.size wr W → W.cell? ⟨b, off + k * 2, none⟩ = some (.int .i64 x.v) ∧ W.cell? ⟨b, off + k * 2 + 1, none⟩ = some (.int .i64 x.n) ∧ W.cell? ⟨b, off + m * 2, none⟩ = some (.int .i64 y.v) ∧ W.cell? ⟨b, off + m * 2 + 1, none⟩ = some (.int .i64 y.n) ∧ Below wr.heap.size wr W) := Lib.hid (fun W hW => by
            have up : ∀ {j : Nat} {v : Value}, w.cell? ⟨b, j, none⟩ = some v → W.cell? ⟨b, j, none⟩ = some v := fun hv => ((HX2.out.trans (hW.mono HX2.out.size)).cell (cell_lt hv)).trans hv
            exact ⟨up (HCX.out 0 _ rfl), up (HCX.out 1 _ rfl), up (hcc 0 _ rfl), up (hcc 1 _ rfl), hW⟩)
          obtain ⟨s0, s1, s2, s3, -⟩ := HS.out wr (Below.refl _ _)
          have hm0 : (0 : Int) ≤ (m : Int) := by omega
          have hmi : (m : Int) < (n : Int) := by omega
          have hwm : IntKind.i64.wrap ((m : Int) + 1) = (m : Int) + 1 := by rw [IntKind.wrap_i64]; omega
          obtain ⟨t2, ht2⟩ : ∃ t2, less x y = t2 := ⟨_, rfl⟩
          have HC : Hid (∀ W, Calls Try.prog 24 #[.agg #[.int .i64 x.v, .int .i64 x.n], .agg #[.int .i64 y.v, .int .i64 y.n]] W fun e w' => e = .returned (.bool t2) ∧ Below W.heap.size W w') := Lib.hid (fun W => by rw [← ht2]; exact rless_any x y W)
          have HN : Hid ((t && !t2) = true ↔ ∀ z ∈ l.take (m + 1), less x z = false) := Lib.hid (by
            have hml : m < l.length := (List.getElem?_eq_some_iff.1 hy).1
            have e : l[m] = y := by rw [List.getElem?_eq_getElem hml] at hy; injection hy
            rw [List.take_succ_eq_append_getElem hml, e]
            have ht := HT.out
            constructor
            · intro hh z hz
              simp only [Bool.and_eq_true, Bool.not_eq_true'] at hh
              rcases List.mem_append.1 hz with hz | hz
              · exact ht.1 hh.1 z hz
              · simp at hz; rw [hz, ht2]; exact hh.2
            · intro hh
              have h1 : t = true := ht.2 (fun z hz => hh z (by simp [hz]))
              have h2 : less x y = false := hh y (by simp)
              rw [h1, ← ht2, h2]; rfl)
          clear hy hcc ht2
          go_upto_region 8 with fail
          go_region_held3 (fun W => W.cell? ⟨b, off + k * 2, none⟩ = some (.int .i64 x.v) ∧ W.cell? ⟨b, off + k * 2 + 1, none⟩ = some (.int .i64 x.n) ∧ W.cell? ⟨b, off + m * 2, none⟩ = some (.int .i64 y.v) ∧ W.cell? ⟨b, off + m * 2 + 1, none⟩ = some (.int .i64 y.n) ∧ Below wr.heap.size wr W)
            (first
              | exact HS.out _ (Below.refl _ _).drew
              | (with_reducible assumption))
            (first
              | (go_at_call 24; (with_reducible refine (HC.out _).mono ?_); rintro e w3 ⟨rfl, hb3⟩; have hw3 : Below wr.heap.size wr w3 := (Below.refl _ _).drew.trans hb3; have hS3 := HS.out _ hw3))
          all_goals
            have HX3 := Lib.hid (HX2.out.trans (hw3.mono HX2.out.size))
            clear s0 s1 s2 s3 hS3 hw3 hb3
            cases t2 with
            | false =>
              rw [Bool.not_false, Bool.and_true] at HN
              go_wp2_with fail
              go_roundw
              case rel => exact ⟨m + 1, t, by omega, by go_num, rfl, HN, HX3⟩
              case measure => simp [intOf]; omega
            | true =>
              rw [Bool.not_true, Bool.and_false] at HN
              go_wp2_with fail
              go_roundw
              case rel => exact ⟨m + 1, false, by omega, by go_num, rfl, HN, HX3⟩
              case measure => simp [intOf]; omega
        · obtain rfl : m = n := by omega
          have hmi : ¬ (m : Int) < (m : Int) := by omega
          have HX3 := HX2
          have HTL : Hid (l.take m = l) := Lib.hid (by rw [← HL.out, List.take_length])
          rw [HTL.out] at HT
          cases t with
          | true =>
            have HE : Hid (IsB l (k : Int)) := Lib.hid (.inr ⟨k, x, rfl, HXX.out, HT.out.1 rfl, HK.out⟩)
            go_wp2_with fail
            go_ret
            exact ⟨k, HE.out, rfl, HX3.out⟩
          | false =>
            have HN : Hid (∀ (j : Nat) (z : Mk), j < k + 1 → l[j]? = some z → ∃ y ∈ l, less z y = true) := Lib.hid (fun j z hj hz => by
              by_cases e : j = k
              · subst e
                have : z = x := by have := HXX.out; rw [hz] at this; injection this
                subst this
                refine Classical.byContradiction fun hn => ?_
                have := HT.out.2 (fun y hy => by
                  cases e2 : less z y with
                  | false => rfl
                  | true => exact absurd ⟨y, hy, e2⟩ hn)
                cases this
              · exact HK.out j z (by omega) hz)
            go_wp2_with fail
            go_roundw
            case rel => exact ⟨k + 1, by omega, by go_num, HN, HX3⟩
            case measure => simp [intOf]; omega
    · obtain rfl : k = n := by omega
      have hki : ¬ (k : Int) < (k : Int) := by omega
      have HE : Hid (IsB l (-1)) := Lib.hid (isB_none (by rw [HL.out]; exact HK.out))
      go_wp2_with fail
      go_ret
      exact ⟨-1, HE.out, rfl, HX.out⟩
end Go.Proofs.Ytlpidjmhjjmmcaa
