/-
  Entries compared; what Common returns of any two lists of entries, and the document's Common. Condition: memory holds the entries.
-/
import Derived.Test.YtlpidjmhjjmmcaaKRight2
namespace Go.Proofs.Ytlpidjmhjjmmcaa
set_option maxRecDepth 100000
open Go.ChangeShapes Go.WideShapes Go.ChangeAt Go.RowKit Go.Proofs.Rk

theorem toList_inj {a b : ByteArray} (h : a.toList = b.toList) : a = b := by
  rw [ByteArray.toList_eq, ByteArray.toList_eq] at h
  obtain ⟨⟨x⟩⟩ := a
  obtain ⟨⟨y⟩⟩ := b
  have h' : x = y := h
  rw [h']
/-- Are two entries one and the same? -/
def sameE (x y : En) : Bool := x.v == y.v && x.n == y.n && x.b.toList == y.b.toList
theorem same_iff {x y : En} : sameE x y = true ↔ x = y := by
  constructor
  · intro h
    simp only [sameE, Bool.and_eq_true, beq_iff_eq] at h
    obtain ⟨⟨h1, h2⟩, h3⟩ := h
    obtain ⟨a, b, c⟩ := x
    obtain ⟨a', b', c'⟩ := y
    simp only at h1 h2 h3
    rw [h1, h2, toList_inj h3]
  · rintro rfl; simp [sameE]
theorem neqE (x y : En) (w : World) : (binOp .neq 49 (.agg #[.int .i64 x.v, .int .i64 x.n, .string x.b]) (.agg #[.int .i64 y.v, .int .i64 y.n, .string y.b])).run Try.prog w = .ok (.bool (!sameE x y)) w := by
  have hS : Try.prog.underlying 49 = some (.struct (Try.prog.fieldsOf 49)) := by kernel_rfl
  have hp : Try.prog.stoodInHeld 49 = false := by kernel_rfl
  have u3 := Try.underlying3
  have u9 := Try.underlying9
  have a3 := Try.isAgg3
  have z3 := Try.sizeOf3
  have a9 := Try.isAgg9
  have z9 := Try.sizeOf9
  rw [run_neq_struct, show (10000 : Nat) = 9999 + 1 from rfl, run_equalIn_agg w 9999 49 _ _ hS hp]
  simp only [Program.fieldsOf, Try.underlying49]
  go_simp
  unfold sameE
  by_cases h1 : x.v = y.v <;> by_cases h2 : x.n = y.n <;> by_cases h3 : x.b.toList = y.b.toList <;> simp [h1, h2, h3]
theorem eqlE (x y : En) (w : World) : (binOp .eql 49 (.agg #[.int .i64 x.v, .int .i64 x.n, .string x.b]) (.agg #[.int .i64 y.v, .int .i64 y.n, .string y.b])).run Try.prog w = .ok (.bool (sameE x y)) w := by
  have hS : Try.prog.underlying 49 = some (.struct (Try.prog.fieldsOf 49)) := by kernel_rfl
  have hp : Try.prog.stoodInHeld 49 = false := by kernel_rfl
  have u3 := Try.underlying3
  have u9 := Try.underlying9
  have a3 := Try.isAgg3
  have z3 := Try.sizeOf3
  have a9 := Try.isAgg9
  have z9 := Try.sizeOf9
  rw [run_eql_struct, show (10000 : Nat) = 9999 + 1 from rfl, run_equalIn_agg w 9999 49 _ _ hS hp]
  simp only [Program.fieldsOf, Try.underlying49]
  go_simp
  unfold sameE
  by_cases h1 : x.v = y.v <;> by_cases h2 : x.n = y.n <;> by_cases h3 : x.b.toList = y.b.toList <;> simp [h1, h2, h3]
/-- What two entries that stand at one place tell. -/
theorem eq_at {a b : List En} {k : Nat} {x y : En} (hx : a[k]? = some x) (hy : b[k]? = some y) : a[k]? = b[k]? ↔ sameE x y = true := by
  rw [hx, hy, same_iff]; simp
set_option maxHeartbeats 4000000 in
theorem common_any {w : World} {A A2 : Option Addr} {n c n2 c2 : Nat} {a b' : List En} (h : Rd ecell 3 w A n a) (h2 : Rd ecell 3 w A2 n2 b') (hn : n ≤ 9223372036854775807) : Calls Try.prog 20 #[.slice A n c, .slice A2 n2 c2] w fun e w' => e = .returned (.int .i64 (com a b' : Nat)) ∧ Below w.heap.size w w' := by
  have HR := Lib.hid h
  have HL := Lib.hid h.len
  have HR2 := Lib.hid h2
  have HL2 := Lib.hid h2.len
  clear h h2
  obtain ⟨m, hm⟩ : ∃ m : Nat, min (n : Int) (n2 : Int) = (m : Int) := ⟨min n n2, by omega⟩
  have hm1 : m ≤ n := by omega
  have hm2 : m ≤ n2 := by omega
  have HM : Hid (m = n ∨ m = n2) := Lib.hid (by omega)
  go_enter Try.func20, Try.ntmps20
  go_wp2_with fail
  clear hm
  go_loopw [13] (fun i wr => ∃ (k : Nat), k ≤ m ∧ i = .int .i64 k ∧ Hid (∀ j, j < k → a[j]? = b'[j]?) ∧ Hid (Below w.heap.size w wr)) (fun i _ => m - (intOf i).toNat)
  case atStart => exact ⟨0, Nat.zero_le _, rfl, Lib.hid (fun j hj => absurd hj (by omega)), Lib.hid (Below.refl _ _)⟩
  case round =>
    obtain ⟨k, hk, rfl, HK, HX⟩ := hrel
    by_cases hlt : k < m
    · obtain ⟨b, off, x, hA, hx, hcc⟩ := (HR.out.below HX.out).at (show k < n by omega)
      obtain ⟨b2, off2, y, hA2, hy, hcd⟩ := (HR2.out.below HX.out).at (show k < n2 by omega)
      subst hA; subst hA2
      have c0 : wr.cell? ⟨b, off + k * 3, none⟩ = some (.int .i64 x.v) := hcc 0 _ rfl
      have c1 : wr.cell? ⟨b, off + k * 3 + 1, none⟩ = some (.int .i64 x.n) := hcc 1 _ rfl
      have c2 : wr.cell? ⟨b, off + k * 3 + 2, none⟩ = some (.string x.b) := hcc 2 _ rfl
      have d0 : wr.cell? ⟨b2, off2 + k * 3, none⟩ = some (.int .i64 y.v) := hcd 0 _ rfl
      have d1 : wr.cell? ⟨b2, off2 + k * 3 + 1, none⟩ = some (.int .i64 y.n) := hcd 1 _ rfl
      have d2 : wr.cell? ⟨b2, off2 + k * 3 + 2, none⟩ = some (.string y.b) := hcd 2 _ rfl
      have hk0 : (0 : Int) ≤ (k : Int) := by omega
      have hki : (k : Int) < (n : Int) := by omega
      have hki2 : (k : Int) < (n2 : Int) := by omega
      have hwk : IntKind.i64.wrap ((k : Int) + 1) = (k : Int) + 1 := by rw [IntKind.wrap_i64]; omega
      have HXX := Lib.hid hx
      have HYY := Lib.hid hy
      obtain ⟨t, ht⟩ : ∃ t, sameE x y = t := ⟨_, rfl⟩
      have HEQ : Hid (a[k]? = b'[k]? ↔ t = true) := Lib.hid (by rw [← ht]; exact eq_at hx hy)
      have hkm : (k : Int) < (m : Int) := by omega
      have hne : ∀ W, (binOp .neq 49 (.agg #[.int .i64 x.v, .int .i64 x.n, .string x.b]) (.agg #[.int .i64 y.v, .int .i64 y.n, .string y.b])).run Try.prog W = .ok (.bool (!t)) W := fun W => by rw [← ht]; exact neqE x y W
      clear ht hx hy hcc hcd
      go_upto_region 5 with fail
      go_quiet (fail)
      obtain ⟨w2, hq9⟩ : ∃ W, W = wr.drewN nq := ⟨_, rfl⟩
      have hb9 : Below wr.heap.size wr w2 := by rw [hq9]; exact below_drewN (Below.refl _ _) _
      have HQQw2 := Lib.hid hq9
      rw [← HQQw2.out]
      have HX2 := Lib.hid (HX.out.trans (hb9.mono HX.out.size))
      clear hq9 hb9
      clear c0 c1 c2 d0 d1 d2 hne
      cases t with
      | false =>
        have HE : Hid ((k : Int) = (com a b' : Nat)) := Lib.hid (by rw [com_is a b' k (by rw [HL.out]; omega) (by rw [HL2.out]; omega) HK.out (.inr (.inr (fun e => by have := HEQ.out.1 e; cases this)))])
        go_wp2_with fail
        go_ret
        exact ⟨ret_i HE.out, HX2.out⟩
      | true =>
        have HN : Hid (∀ j, j < k + 1 → a[j]? = b'[j]?) := Lib.hid (fun j hj => by
          by_cases e : j = k
          · rw [e]; exact HEQ.out.2 rfl
          · exact HK.out j (by omega))
        go_wp2_with fail
        go_roundw
        case rel => exact ⟨k + 1, by omega, by go_num, HN, HX2⟩
        case measure => simp [intOf]; omega
    · obtain rfl : k = m := by omega
      have hki : ¬ (k : Int) < (k : Int) := by omega
      have HE : Hid ((k : Int) = (com a b' : Nat)) := Lib.hid (by rw [com_is a b' k (by rw [HL.out]; omega) (by rw [HL2.out]; omega) HK.out (by rw [HL.out, HL2.out]; have := HM.out; omega)])
      go_wp2_with fail
      go_ret
      exact ⟨ret_i HE.out, HX.out⟩
set_option maxHeartbeats 4000000 in
theorem rcommon_any {w : World} {A A2 : Option Addr} {n c n2 c2 : Nat} {a b' : List En} (h : Rd ecell 3 w A n a) (h2 : Rd ecell 3 w A2 n2 b') (hn : n ≤ 9223372036854775807) (_ : n2 ≤ 9223372036854775807) : Calls Try.prog 21 #[.slice A n c, .slice A2 n2 c2] w fun e w' => e = .returned (.int .i64 (com a b' : Nat)) ∧ Below w.heap.size w w' := by
  have HR := Lib.hid h
  have HL := Lib.hid h.len
  have HR2 := Lib.hid h2
  have HL2 := Lib.hid h2.len
  clear h h2
  go_enter Try.func21, Try.ntmps21
  go_wp2_with fail
  go_loopw [5, 6] (fun u i wr => ∃ (k p : Nat), k ≤ n ∧ k ≤ n2 ∧ (p = k ∨ (p + 1 = k ∧ com a b' = p)) ∧ i = .int .i64 k ∧ u = .int .i64 p ∧ Hid (∀ j, j < p → a[j]? = b'[j]?) ∧ Hid (Below w.heap.size w wr)) (fun _ i _ => n - (intOf i).toNat)
  case atStart => exact ⟨0, 0, Nat.zero_le _, Nat.zero_le _, .inl rfl, rfl, rfl, Lib.hid (fun j hj => absurd hj (by omega)), Lib.hid (Below.refl _ _)⟩
  case round =>
    obtain ⟨k, p, hk, hk2, hp, rfl, rfl, HK, HX⟩ := hrel
    by_cases hlt : k < n
    · have g1 : decide ((k : Int) < (n : Int)) = true := by simpa using hlt
      by_cases hlt2 : k < n2
      · have g2 : decide ((k : Int) < (n2 : Int)) = true := by simpa using hlt2
        by_cases hpk : p = k
        · subst hpk
          have g3 : ((p : Int) == (p : Int)) = true := by simp
          clear hp
          obtain ⟨b, off, x, hA, hx, hcc⟩ := (HR.out.below HX.out).at (show p < n by omega)
          obtain ⟨b2, off2, y, hA2, hy, hcd⟩ := (HR2.out.below HX.out).at (show p < n2 by omega)
          subst hA; subst hA2
          have c0 : wr.cell? ⟨b, off + p * 3, none⟩ = some (.int .i64 x.v) := hcc 0 _ rfl
          have c1 : wr.cell? ⟨b, off + p * 3 + 1, none⟩ = some (.int .i64 x.n) := hcc 1 _ rfl
          have c2 : wr.cell? ⟨b, off + p * 3 + 2, none⟩ = some (.string x.b) := hcc 2 _ rfl
          have d0 : wr.cell? ⟨b2, off2 + p * 3, none⟩ = some (.int .i64 y.v) := hcd 0 _ rfl
          have d1 : wr.cell? ⟨b2, off2 + p * 3 + 1, none⟩ = some (.int .i64 y.n) := hcd 1 _ rfl
          have d2 : wr.cell? ⟨b2, off2 + p * 3 + 2, none⟩ = some (.string y.b) := hcd 2 _ rfl
          have hk0 : (0 : Int) ≤ (p : Int) := by omega
          have hki : (p : Int) < (n : Int) := by omega
          have hki2 : (p : Int) < (n2 : Int) := by omega
          have hwk : IntKind.i64.wrap ((p : Int) + 1) = (p : Int) + 1 := by rw [IntKind.wrap_i64]; omega
          have HXX := Lib.hid hx
          have HYY := Lib.hid hy
          obtain ⟨t, ht⟩ : ∃ t, sameE x y = t := ⟨_, rfl⟩
          have HEQ : Hid (a[p]? = b'[p]? ↔ t = true) := Lib.hid (by rw [← ht]; exact eq_at hx hy)
          have hne : ∀ W, (binOp .eql 49 (.agg #[.int .i64 x.v, .int .i64 x.n, .string x.b]) (.agg #[.int .i64 y.v, .int .i64 y.n, .string y.b])).run Try.prog W = .ok (.bool t) W := fun W => by rw [← ht]; exact eqlE x y W
          clear ht hx hy hcc hcd
          go_upto_region 5 with fail
          go_quiet (fail)
          obtain ⟨w2, hq9⟩ : ∃ W, W = wr.drewN nq := ⟨_, rfl⟩
          have hb9 : Below wr.heap.size wr w2 := by rw [hq9]; exact below_drewN (Below.refl _ _) _
          have HQQw2 := Lib.hid hq9
          rw [← HQQw2.out]
          have HX2 := Lib.hid (HX.out.trans (hb9.mono HX.out.size))
          clear hq9 hb9
          clear c0 c1 c2 d0 d1 d2 hne
          cases t with
          | false =>
            have HE : Hid (com a b' = p) := Lib.hid (com_is a b' p (by rw [HL.out]; omega) (by rw [HL2.out]; omega) HK.out (.inr (.inr (fun e => by have := HEQ.out.1 e; cases this))))
            go_wp2_with fail
            go_roundw
            case rel => exact ⟨p + 1, p, by omega, by omega, .inr ⟨rfl, HE.out⟩, by go_num, rfl, HK, HX2⟩
            case measure => simp [intOf]; omega
          | true =>
            have HN : Hid (∀ j, j < p + 1 → a[j]? = b'[j]?) := Lib.hid (fun j hj => by
              by_cases e : j = p
              · rw [e]; exact HEQ.out.2 rfl
              · exact HK.out j (by omega))
            go_wp2_with fail
            go_roundw
            case rel => exact ⟨p + 1, p + 1, by omega, by omega, .inl rfl, by go_num, by go_num, HN, HX2⟩
            case measure => simp [intOf]; omega
        · have HE : Hid ((p : Int) = (com a b' : Nat)) := Lib.hid (by rcases hp with e | e <;> omega)
          have g3 : ((p : Int) == (k : Int)) = false := by simp; omega
          clear hp
          go_wp2_with fail
          go_ret
          exact ⟨ret_i HE.out, HX.out⟩
      · have HE : Hid ((p : Int) = (com a b' : Nat)) := Lib.hid (by
          rcases hp with e | e
          · subst e
            rw [com_is a b' p (by rw [HL.out]; omega) (by rw [HL2.out]; omega) HK.out (by rw [HL.out, HL2.out]; omega)]
          · omega)
        have g2 : decide ((k : Int) < (n2 : Int)) = false := by simpa using hlt2
        clear hp
        go_wp2_with fail
        go_ret
        exact ⟨ret_i HE.out, HX.out⟩
    · have HE : Hid ((p : Int) = (com a b' : Nat)) := Lib.hid (by
        rcases hp with e | e
        · subst e
          rw [com_is a b' p (by rw [HL.out]; omega) (by rw [HL2.out]; omega) HK.out (by rw [HL.out, HL2.out]; omega)]
        · omega)
      have g1 : decide ((k : Int) < (n : Int)) = false := by simpa using hlt
      clear hp
      go_wp2_with fail
      go_ret
      exact ⟨ret_i HE.out, HX.out⟩
end Go.Proofs.Ytlpidjmhjjmmcaa
