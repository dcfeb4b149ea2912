/-
  ElectNudges returns true. No condition.
-/
import Derived.Test.YtbgobchmkohhnaaEAlive
namespace Go.Proofs.Ytbgobchmkohhnaa
set_option maxRecDepth 100000
open Go.ChangeShapes Go.WideShapes Go.ChangeAt Go.RowKit Go.Proofs.Rk Go.Proofs.El

theorem nudge_tick {p g L : Int} (h1 : 1 ≤ p) (i : Nat) : tickT ⟨p, g, (i : Int) % p, L⟩ true = ⟨p, g, ((i + 1 : Nat) : Int) % p, L⟩ ∧ leadT ⟨p, g, (i : Int) % p, L⟩ true = false ∧ nudgeT ⟨p, g, (i : Int) % p, L⟩ true = decide (((i + 1 : Nat) : Int) % p = 0) := by
  obtain ⟨e1, e2⟩ := nudge_at h1 i
  refine ⟨?_, rfl, ?_⟩
  · unfold tickT
    simp only [if_true]
    rw [← e1]
    split <;> rfl
  · unfold nudgeT
    rw [Bool.true_and]
    exact e2
set_option maxHeartbeats 8000000 in
theorem nudges_law {w : World} (s m p n : Int) : Calls Try.prog 5 #[.agg #[.int .i64 s, .int .i64 m, .int .i64 p], .int .i64 n] w fun e w' => e = .returned (.bool true) ∧ Below w.heap.size w w' := by
  have HA := Lib.hid (fun W => alive_any W)
  obtain ⟨w1, hw1⟩ : ∃ w1, w1 = w.alloc (.cells #[.int .i64 s, .int .i64 m, .int .i64 p] 23) := ⟨_, rfl⟩
  obtain ⟨q, eq⟩ : ∃ q, q = w.heap.size := ⟨_, rfl⟩
  have hb1 : Below w.heap.size w w1 := by rw [hw1]; exact box_below w _
  have hq1 : w1.heap[q]? = some (.cells #[.int .i64 s, .int .i64 m, .int .i64 p] 23 (0, 0)) := by rw [hw1, eq]; exact new_block w _
  have HB1 := Lib.hid hb1
  have HQ1 := Lib.hid hq1
  have HW1 := Lib.hid hw1
  have EQ := Lib.hid eq
  clear hw1 eq hb1
  have c0 := cell_of hq1 (j := 0) rfl
  have c1 := cell_of hq1 (j := 1) rfl
  have c2 := cell_of hq1 (j := 2) rfl
  clear hq1
  obtain ⟨ok, hok⟩ : ∃ b, okN s m p = b := ⟨_, rfl⟩
  obtain ⟨t1, h1⟩ : ∃ t, decide (n < 0) = t := ⟨_, rfl⟩
  obtain ⟨t2, h2⟩ : ∃ t, decide (3000 < n) = t := ⟨_, rfl⟩
  cases ok with
  | false =>
    have HN := Lib.hid (fun W => new_no hok W)
    clear hok
    go_enter Try.func5, Try.ntmps5
    go_upto_region 1 with fail
    rw [← HW1.out, ← EQ.out]
    go_wp2_with fail
    refine (HN.out _).mono ?_
    rintro e w2 ⟨rfl, rfl⟩
    go_wp2_with fail
    refine (HA.out _).mono ?_
    rintro e wa0 ⟨rfl, hba0⟩
    have HBA0 := Lib.hid (HB1.out.trans (hba0.mono HB1.out.size))
    clear hba0
    go_wp2_with fail
    go_ret
    exact ⟨rfl, HBA0.out⟩

  | true =>
    cases t1 with
    | true =>
      have HN := Lib.hid (new_yes hok w1)
      have HGD := Lib.hid (new_good hok)
      have HOK := Lib.hid hok
      clear hok
      go_enter Try.func5, Try.ntmps5
      go_upto_region 1 with fail
      rw [← HW1.out, ← EQ.out]
      go_wp2_with fail
      refine HN.out.mono ?_
      rintro e w2 ⟨tp, rfl, ht, hge, hb⟩
      have HT2 := Lib.hid ht
      have HB2 := Lib.hid (HB1.out.trans (hb.mono HB1.out.size))
      have HGE : Hid (w1.heap.size ≤ tp) := Lib.hid hge
      have HGW : Hid (w.heap.size ≤ tp) := Lib.hid (Nat.le_trans HB1.out.size hge)
      have HQ2 := Lib.hid (blk_below HQ1.out hb)
      have HQT : Hid (q ≠ tp) := Lib.hid (by have := blk_lt HQ1.out; omega)
      clear ht hge hb c0 c1 c2
      go_wp2_with fail
      refine (HA.out _).mono ?_
      rintro e wa0 ⟨rfl, hba0⟩
      have HBA0 := Lib.hid (HB2.out.trans (hba0.mono HB2.out.size))
      clear hba0
      go_wp2_with fail
      go_ret
      exact ⟨rfl, HBA0.out⟩

    | false =>
      cases t2 with
      | true =>
        have HN := Lib.hid (new_yes hok w1)
        have HGD := Lib.hid (new_good hok)
        have HOK := Lib.hid hok
        clear hok
        go_enter Try.func5, Try.ntmps5
        go_upto_region 1 with fail
        rw [← HW1.out, ← EQ.out]
        go_wp2_with fail
        refine HN.out.mono ?_
        rintro e w2 ⟨tp, rfl, ht, hge, hb⟩
        have HT2 := Lib.hid ht
        have HB2 := Lib.hid (HB1.out.trans (hb.mono HB1.out.size))
        have HGE : Hid (w1.heap.size ≤ tp) := Lib.hid hge
        have HGW : Hid (w.heap.size ≤ tp) := Lib.hid (Nat.le_trans HB1.out.size hge)
        have HQ2 := Lib.hid (blk_below HQ1.out hb)
        have HQT : Hid (q ≠ tp) := Lib.hid (by have := blk_lt HQ1.out; omega)
        clear ht hge hb c0 c1 c2
        go_wp2_with fail
        refine (HA.out _).mono ?_
        rintro e wa0 ⟨rfl, hba0⟩
        have HBA0 := Lib.hid (HB2.out.trans (hba0.mono HB2.out.size))
        clear hba0
        go_wp2_with fail
        go_ret
        exact ⟨rfl, HBA0.out⟩

      | false =>
        have hn0 : 0 ≤ n := by simpa using h1
        have hn1 : n ≤ 3000 := by simpa using h2
        obtain ⟨N, rfl⟩ : ∃ N : Nat, n = N := ⟨n.toNat, by omega⟩
        clear h1 h2
        have hp := (okN_cases hok).2
        obtain ⟨hp1, hp2⟩ := hp
        have HN := Lib.hid (new_yes hok w1)
        have HGD := Lib.hid (new_good hok)
        have HOK := Lib.hid hok
        clear hok
        go_enter Try.func5, Try.ntmps5
        go_upto_region 1 with fail
        rw [← HW1.out, ← EQ.out]
        go_wp2_with fail
        refine HN.out.mono ?_
        rintro e w2 ⟨tp, rfl, ht, hge, hb⟩
        have HT2 := Lib.hid ht
        have HB2 := Lib.hid (HB1.out.trans (hb.mono HB1.out.size))
        have HGE : Hid (w1.heap.size ≤ tp) := Lib.hid hge
        have HGW : Hid (w.heap.size ≤ tp) := Lib.hid (Nat.le_trans HB1.out.size hge)
        have HQ2 := Lib.hid (blk_below HQ1.out hb)
        have HQT : Hid (q ≠ tp) := Lib.hid (by have := blk_lt HQ1.out; omega)
        clear ht hge hb c0 c1 c2

        have g1 : decide ((N : Int) < 0) = false := by simp
        have g2 : decide (3000 < (N : Int)) = false := by simp; omega
        go_wp2_with fail
        go_loopw [36] (fun i wr => ∃ (k : Nat), k ≤ N ∧ i = .int .i64 k ∧ Hid (TimW wr tp ⟨p, p * (m + 2), (k : Int) % p, p * (s + 2)⟩) ∧ Hid (Below w.heap.size w wr) ∧ Hid (wr.heap[q]? = some (.cells #[.int .i64 s, .int .i64 m, .int .i64 p] 23 (0, 0)))) (fun i _ => N - (intOf i).toNat)
        case atStart => exact ⟨0, Nat.zero_le _, rfl, HT2, HB2, HQ2⟩
        case round =>
          obtain ⟨k, hk, rfl, HR, HX, HQ⟩ := hrel
          by_cases hlt : k < N
          · have hki : (k : Int) < (N : Int) := by omega
            have hwk : IntKind.i64.wrap ((k : Int) + 1) = (k : Int) + 1 := by rw [IntKind.wrap_i64]; omega
            obtain ⟨a1, a2, a3⟩ := nudge_tick (g := p * (m + 2)) (L := p * (s + 2)) hp1 k
            have hb0 := Int.emod_nonneg (k : Int) (show p ≠ 0 by omega)
            have hb1 := Int.emod_lt_of_pos (k : Int) (show 0 < p by omega)
            have hgd := HGD.out
            have HTK := Lib.hid (tick_is HR.out ⟨hp1, hp2, hgd.gr1, hgd.gr2, hb0, by have := hgd.lm1; simp only [newT] at this ⊢; omega, hgd.lm1, hgd.lm2⟩ true a2 a3 a1)
            have hrem : Int.tmod ((k : Int) + 1) p = ((k + 1 : Nat) : Int) % p := by rw [Int.tmod_eq_emod_of_nonneg (by omega)]; rfl
            obtain ⟨y, hy⟩ : ∃ y, ((k + 1 : Nat) : Int) % p = y := ⟨_, rfl⟩
            have hy0 : 0 ≤ y ∧ y < p := by rw [← hy]; exact ⟨Int.emod_nonneg _ (by omega), Int.emod_lt_of_pos _ (by omega)⟩
            obtain ⟨hy1, hy2⟩ := hy0
            rw [hy] at HTK hrem
            have HY := Lib.hid hy
            have hwy : IntKind.i64.wrap y = y := by rw [IntKind.wrap_i64]; omega
            have hp0 : ¬ p = 0 := by omega
            have c2 := cell_of HQ.out (j := 2) rfl
            have HQC := Lib.hid c2
            clear hy a1 a2 a3 hb0 hb1 hgd c2
            obtain ⟨b, hb⟩ : ∃ b, (y == 0) = b := ⟨_, rfl⟩
            have hbd : decide (y = 0) = b := by rw [← hb]; rfl
            have hbb : (!b == b) = false := by cases b <;> rfl
            rw [hbd] at HTK
            clear hbd
            go_wp2_with fail
            refine HTK.out.mono ?_
            rintro e w3 ⟨rfl, h3, h4⟩
            have HB3 := Lib.hid (h4.on HX.out HGW.out)
            have HT3 : Hid (TimW w3 tp ⟨p, p * (m + 2), ((k + 1 : Nat) : Int) % p, p * (s + 2)⟩) := Lib.hid (by rw [HY.out]; exact h3)
            have HQ3 := Lib.hid ((h4.rest q HQT.out).trans HQ.out)
            have c2 := cell_of HQ3.out (j := 2) rfl
            clear h3 h4
            go_wp2_with fail
            go_roundw
            case rel => exact ⟨k + 1, by omega, by go_num, HT3, HB3, HQ3⟩
            case measure => simp [intOf]; omega
          · obtain rfl : k = N := by omega
            go_wp2_with fail
            refine (HA.out _).mono ?_
            rintro e wa3 ⟨rfl, hba3⟩
            have HBA3 := Lib.hid (HX.out.trans (hba3.mono HX.out.size))
            clear hba3
            go_wp2_with fail
            go_ret
            exact ⟨rfl, HBA3.out⟩
end Go.Proofs.Ytbgobchmkohhnaa
