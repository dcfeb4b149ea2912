/-
  ElectHears returns true. Condition: memory holds the numbers.
-/
import Derived.Test.YtbgobchmkohhnaaEAlive
namespace Go.Proofs.Ytbgobchmkohhnaa
set_option maxRecDepth 100000
open Go.ChangeShapes Go.WideShapes Go.ChangeAt Go.RowKit Go.Proofs.Rk Go.Proofs.El

theorem icell_at {w : World} {A : Option Addr} {n k : Nat} {l : List Int} (h : Rd icell 1 w A n l) (hk : k < n) : ∃ b off x, A = some ⟨b, off, none⟩ ∧ l[k]? = some x ∧ w.cell? ⟨b, off + k, none⟩ = some (.int .i64 x) := by
  obtain ⟨b, off, x, hA, hx, hc⟩ := h.at hk
  exact ⟨b, off, x, hA, hx, by have := hc 0 (.int .i64 x) rfl; rwa [Nat.mul_one, Nat.add_zero] at this⟩
theorem run_min_three {P : Program} (w : World) (ts : Array TypeId) (t : TypeId) (x y z : Int) : (Builtin.min_ ts t #[.int .i64 x, .int .i64 y, .int .i64 z]).run P w = .ok (.int .i64 (min (min x y) z)) w := by
  have e1 : (if y < x then y else x) = min x y := by
    rw [Int.min_def]
    split <;> split <;> omega
  have e2 : (if z < min x y then z else min x y) = min (min x y) z := by
    rw [Int.min_def (min x y)]
    split <;> split <;> omega
  simp [Builtin.min_, Builtin.min2, e1, e2]
theorem lone3 {p g k L : Int} (h : k + 1 < L) : tickT ⟨p, g, k, L⟩ false = ⟨p, g, k + 1, L⟩ ∧ leadT ⟨p, g, k, L⟩ false = false ∧ nudgeT ⟨p, g, k, L⟩ false = false := by
  unfold tickT leadT nudgeT
  refine ⟨?_, ?_, rfl⟩
  · rw [if_neg (by simp), if_pos h]
  · simp; omega
set_option maxHeartbeats 8000000 in
theorem hears_law {w : World} {A : Option Addr} {n c : Nat} {l : List Int} (h : Rd icell 1 w A n l) (s m p : Int) : Calls Try.prog 6 #[.agg #[.int .i64 s, .int .i64 m, .int .i64 p], .slice A n c] w fun e w' => e = .returned (.bool true) ∧ Below w.heap.size w w' := by
  have HL := Lib.hid h
  clear h
  have HA := Lib.hid (fun W => alive_any W)
  obtain ⟨w1, hw1⟩ : ∃ w1, w1 = w.alloc (.cells #[.int .i64 s, .int .i64 m, .int .i64 p] 23) := ⟨_, rfl⟩
  obtain ⟨q, eq⟩ : ∃ q, q = w.heap.size := ⟨_, rfl⟩
  have hb1 : Below w.heap.size w w1 := by rw [hw1]; exact box_below w _
  have hq1 : w1.heap[q]? = some (.cells #[.int .i64 s, .int .i64 m, .int .i64 p] 23 (0, 0)) := by rw [hw1, eq]; exact new_block w _
  have HB1 := Lib.hid hb1
  have HQ1 := Lib.hid hq1
  have HW1 := Lib.hid hw1
  have EQ := Lib.hid eq
  clear hw1 eq hb1
  have c0 := cell_of hq1 (j := 0) rfl
  have c1 := cell_of hq1 (j := 1) rfl
  have c2 := cell_of hq1 (j := 2) rfl
  clear hq1
  obtain ⟨ok, hok⟩ : ∃ b, okN s m p = b := ⟨_, rfl⟩
  obtain ⟨t1, h1⟩ : ∃ t, decide (100 < (n : Int)) = t := ⟨_, rfl⟩
  cases ok with
  | false =>
    have HN := Lib.hid (fun W => new_no hok W)
    clear hok
    go_enter Try.func6, Try.ntmps6
    go_upto_region 1 with fail
    rw [← HW1.out, ← EQ.out]
    go_wp2_with fail
    refine (HN.out _).mono ?_
    rintro e w2 ⟨rfl, rfl⟩
    go_wp2_with fail
    refine (HA.out _).mono ?_
    rintro e wa0 ⟨rfl, hba0⟩
    have HBA0 := Lib.hid (HB1.out.trans (hba0.mono HB1.out.size))
    clear hba0
    go_wp2_with fail
    go_ret
    exact ⟨rfl, HBA0.out⟩

  | true =>
    cases t1 with
    | true =>
      have HN := Lib.hid (new_yes hok w1)
      have HGD := Lib.hid (new_good hok)
      have HOK := Lib.hid hok
      clear hok
      go_enter Try.func6, Try.ntmps6
      go_upto_region 1 with fail
      rw [← HW1.out, ← EQ.out]
      go_wp2_with fail
      refine HN.out.mono ?_
      rintro e w2 ⟨tp, rfl, ht, hge, hb⟩
      have HT2 := Lib.hid ht
      have HB2 := Lib.hid (HB1.out.trans (hb.mono HB1.out.size))
      have HGE : Hid (w1.heap.size ≤ tp) := Lib.hid hge
      have HGW : Hid (w.heap.size ≤ tp) := Lib.hid (Nat.le_trans HB1.out.size hge)
      have HQ2 := Lib.hid (blk_below HQ1.out hb)
      have HQT : Hid (q ≠ tp) := Lib.hid (by have := blk_lt HQ1.out; omega)
      clear ht hge hb c0 c1 c2
      go_wp2_with fail
      refine (HA.out _).mono ?_
      rintro e wa0 ⟨rfl, hba0⟩
      have HBA0 := Lib.hid (HB2.out.trans (hba0.mono HB2.out.size))
      clear hba0
      go_wp2_with fail
      go_ret
      exact ⟨rfl, HBA0.out⟩

    | false =>
      have hn : n ≤ 100 := by have : ¬ ((100 : Int) < (n : Int)) := of_decide_eq_false h1; omega
      have HN := Lib.hid (new_yes hok w1)
      have HGD := Lib.hid (new_good hok)
      have HOK := Lib.hid hok
      clear hok
      go_enter Try.func6, Try.ntmps6
      go_upto_region 1 with fail
      rw [← HW1.out, ← EQ.out]
      go_wp2_with fail
      refine HN.out.mono ?_
      rintro e w2 ⟨tp, rfl, ht, hge, hb⟩
      have HT2 := Lib.hid ht
      have HB2 := Lib.hid (HB1.out.trans (hb.mono HB1.out.size))
      have HGE : Hid (w1.heap.size ≤ tp) := Lib.hid hge
      have HGW : Hid (w.heap.size ≤ tp) := Lib.hid (Nat.le_trans HB1.out.size hge)
      have HQ2 := Lib.hid (blk_below HQ1.out hb)
      have HQT : Hid (q ≠ tp) := Lib.hid (by have := blk_lt HQ1.out; omega)
      clear ht hge hb c0 c1 c2

      obtain ⟨X, hX⟩ : ∃ X, (newT s m p).lm = X := ⟨_, rfl⟩
      obtain ⟨G, hG⟩ : ∃ G, p * (m + 2) = G := ⟨_, rfl⟩
      have e1 : newT s m p = ⟨p, G, 0, X⟩ := by rw [← hX, ← hG]; rfl
      rw [e1] at HT2 HGD
      clear hX hG e1
      have hXl := HGD.out.lm1
      have hXh := HGD.out.lm2
      have hp1 := HGD.out.sp1
      simp only at hXl hXh hp1
      have hX2 : 2 ≤ X := by omega
      clear hXl hp1
      go_wp2_with fail
      go_loopw [35] (fun i wr => ∃ (k : Nat), k ≤ n ∧ i = .int .i64 k ∧ Hid (TimW wr tp ⟨p, G, 0, X⟩) ∧ Hid (Below w.heap.size w wr)) (fun i _ => n - (intOf i).toNat)
      case atStart => exact ⟨0, Nat.zero_le _, rfl, HT2, HB2⟩
      case round =>
        obtain ⟨k, hk, rfl, HR, HX⟩ := hrel
        by_cases hlt : k < n
        · skip
          have hki : (k : Int) < (n : Int) := by omega
          have hwk : IntKind.i64.wrap ((k : Int) + 1) = (k : Int) + 1 := by rw [IntKind.wrap_i64]; omega
          obtain ⟨b0, o0, x, hA, hx, hcx⟩ := icell_at (HL.out.below HX.out) hlt
          subst hA
          clear hx
          have HLW := Lib.hid (limit_any HR.out)
          obtain ⟨y, hy⟩ : ∃ y, max x 0 = y := ⟨_, rfl⟩
          obtain ⟨z1, hz1⟩ : ∃ z, min y (X - 1) = z := ⟨_, rfl⟩
          obtain ⟨z, hz⟩ : ∃ z', min z1 500 = z' := ⟨_, rfl⟩
          have hz0 : 0 ≤ z := by omega
          have hzX : z < X := by omega
          have hz5 : z ≤ 500 := by omega
          have hwX : IntKind.i64.wrap (X - 1) = X - 1 := by rw [IntKind.wrap_i64]; omega
          obtain ⟨Z, rfl⟩ : ∃ Z : Nat, z = Z := ⟨z.toNat, by omega⟩
          have hmin : ∀ W, (Builtin.min_ #[3, 3, 3] 3 #[.int .i64 y, .int .i64 (X - 1), .int .i64 500]).run Try.prog W = .ok (.int .i64 (Z : Int)) W := fun W => by rw [run_min_three, hz1, hz]
          clear hz1 hz
          go_wp2_with fail
          refine HLW.out.mono ?_
          rintro e w0 ⟨rfl, rfl⟩
          go_wp2_with fail
          clear hcx
          go_loopw [45] (fun i wr => ∃ (j : Nat), j ≤ Z ∧ i = .int .i64 j ∧ Hid (TimW wr tp ⟨p, G, (j : Int), X⟩) ∧ Hid (Below w.heap.size w wr)) (fun i _ => Z - (intOf i).toNat)
          case atStart => exact ⟨0, Nat.zero_le _, rfl, HR, HX⟩
          case round =>
            obtain ⟨j, hj, rfl, HRj, HXj⟩ := hrel
            by_cases hjt : j < Z
            · have hji : (j : Int) < (Z : Int) := by omega
              have hwj : IntKind.i64.wrap ((j : Int) + 1) = (j : Int) + 1 := by rw [IntKind.wrap_i64]; omega
              have hg : El.Good ⟨p, G, (j : Int), X⟩ := ⟨HGD.out.sp1, HGD.out.sp2, HGD.out.gr1, HGD.out.gr2, by simp, by simp only; omega, HGD.out.lm1, HGD.out.lm2⟩
              obtain ⟨a1, a2, a3⟩ := lone3 (p := p) (g := G) (show (j : Int) + 1 < X by omega)
              have HTK := Lib.hid (tick_is HRj.out hg false a2 a3 a1)
              clear hg a1 a2 a3
              go_wp2_with fail
              refine HTK.out.mono ?_
              rintro e w4 ⟨rfl, h3, h4⟩
              have HB4 := Lib.hid (h4.on HXj.out HGW.out)
              have HT4 := Lib.hid h3
              clear h3 h4
              go_wp2_with fail
              go_roundw
              case rel => exact ⟨j + 1, by omega, by go_num, HT4, HB4⟩
              case measure => simp [intOf]; omega
            · obtain rfl : j = Z := by omega
              have HHE := Lib.hid (heard_any HRj.out)
              go_wp2_with fail
              refine HHE.out.mono ?_
              rintro e w4 ⟨rfl, h3, h4⟩
              have HB4 := Lib.hid (h4.on HXj.out HGW.out)
              have HT4 : Hid (TimW w4 tp ⟨p, G, 0, X⟩) := Lib.hid h3
              clear h3 h4
              go_wp2_with fail
              go_roundw
              case rel => exact ⟨k + 1, by omega, by go_num, HT4, HB4⟩
              case measure => simp [intOf]; omega
        · obtain rfl : k = n := by omega
          go_wp2_with fail
          refine (HA.out _).mono ?_
          rintro e wa3 ⟨rfl, hba3⟩
          have HBA3 := Lib.hid (HX.out.trans (hba3.mono HX.out.size))
          clear hba3
          go_wp2_with fail
          go_ret
          exact ⟨rfl, HBA3.out⟩
end Go.Proofs.Ytbgobchmkohhnaa
