/-
  ParcelsFull: the law returns true of every number and message. No condition.
-/
import Derived.Test.YtdlhjpcofldfnaaPkEq
namespace Go.Proofs.Ytdlhjpcofldfnaa
set_option maxRecDepth 100000
open Go.ChangeShapes Go.WideShapes Go.ChangeAt Go.RowKit

/-- The messages that are sent. -/
def fullL (p : Pk) (k : Nat) : List Pk := (List.range (min k 2000)).map fun i : Nat => ⟨p.f, (i : Int), p.b⟩
theorem full_len (p : Pk) (k : Nat) : (fullL p k).length = min k 2000 := by simp [fullL]
theorem full_step (p : Pk) (k : Nat) : (k < 2000 → canSend (fullL p k) [] ⟨p.f, (k : Int), p.b⟩ = true ∧ fullL p (k + 1) = fullL p k ++ [⟨p.f, (k : Int), p.b⟩]) ∧ (2000 ≤ k → canSend (fullL p k) [] ⟨p.f, (k : Int), p.b⟩ = false ∧ fullL p (k + 1) = fullL p k) := by
  constructor
  · intro h
    refine ⟨decide_eq_true ⟨by rw [full_len]; omega, by simp⟩, ?_⟩
    unfold fullL
    rw [Nat.min_eq_left (by omega), Nat.min_eq_left (by omega), List.range_succ, List.map_append]
    rfl
  · intro h
    refine ⟨decide_eq_false (fun hh => by rw [full_len] at hh; omega), ?_⟩
    unfold fullL
    rw [Nat.min_eq_right (by omega), Nat.min_eq_right (by omega)]
theorem full_get (p : Pk) (k i : Nat) (h : i < min k 2000) : (fullL p k).getD i pk0 = ⟨p.f, (i : Int), p.b⟩ := by
  rw [getD_eq pk0 (by rw [full_len]; exact h)]
  simp [fullL]
theorem full_zero (p : Pk) : atL (fullL p 0) (((0 : Nat) : Int) - 1) = (pk0, false) ∧ canDouble (fullL p 0) [] 0 = false := by
  have e : fullL p 0 = [] := rfl
  rw [e]
  exact ⟨rfl, rfl⟩
theorem full_some (p : Pk) (n : Nat) (h1 : 1 ≤ n) (h2 : n ≤ 2000) : atL (fullL p n) ((n : Int) - 1) = (⟨p.f, (n : Int) - 1, p.b⟩, true) ∧ canDouble (fullL p n) [] 0 = decide (n < 2000) := by
  have hl := full_len p n
  constructor
  · unfold atL
    rw [if_pos ⟨by omega, by rw [hl]; omega⟩]
    have e : ((n : Int) - 1).toNat = n - 1 := by omega
    rw [e, full_get p n (n - 1) (by omega)]
    have e2 : ((n - 1 : Nat) : Int) = (n : Int) - 1 := by omega
    rw [e2]
  · have e : (atL (fullL p n) 0).2 = true := by
      unfold atL
      rw [if_pos ⟨by omega, by rw [hl]; omega⟩]
    unfold canDouble canSend
    rw [e, Bool.true_and]
    by_cases h : n < 2000
    · rw [decide_eq_true h]; exact decide_eq_true ⟨by rw [hl]; omega, by simp⟩
    · rw [decide_eq_false h]; exact decide_eq_false (fun hh => by rw [hl] at hh; omega)
theorem full_over (p : Pk) (n : Nat) (h : 2000 < n) : atL (fullL p n) ((n : Int) - 1) = (pk0, false) ∧ canDouble (fullL p n) [] 0 = false := by
  have hl := full_len p n
  constructor
  · unfold atL
    rw [if_neg (by rw [hl]; omega)]
  · unfold canDouble canSend
    rw [Bool.and_eq_false_iff]
    right
    exact decide_eq_false (fun hh => by rw [hl] at hh; omega)
set_option maxHeartbeats 8000000 in
theorem law_full (x : Int) (p : Pk) (w : World) (hx : I64 x) (hp : POk p) :
    Calls Try.prog 5 #[.int .i64 x, .agg #[.int .i64 p.f, .int .i64 p.t, .string p.b]] w fun e w' => e = .returned (.bool true) ∧ Below w.heap.size w w' := by
  obtain ⟨bp, hbp⟩ : ∃ b, b = w.heap.size := ⟨_, rfl⟩
  obtain ⟨w0, hw0⟩ : ∃ w0, w0 = w.alloc (.cells #[.int .i64 p.f, .int .i64 p.t, .string p.b] 31) := ⟨_, rfl⟩
  have hb0 : Below w.heap.size w w0 := by rw [hw0]; exact box_below w _
  have hx0 : w0.heap[bp]? = some (.cells #[.int .i64 p.f, .int .i64 p.t, .string p.b] 31 (0, 0)) := by rw [hw0, hbp]; exact new_block w _
  have HW0 := Lib.hid hw0
  have HBP := Lib.hid hbp
  have HB0 := Lib.hid hb0
  have HX0 := Lib.hid hx0
  have HP := Lib.hid hp
  have hxb := hx.1
  have hxc := hx.2
  clear hx hp hbp hw0 hb0 hx0
  by_cases hgo : 0 ≤ x ∧ x ≤ 2100
  · obtain ⟨n, rfl⟩ : ∃ n : Nat, x = (n : Int) := ⟨x.toNat, by omega⟩
    have hn1 : n ≤ 2100 := by omega
    have hn2 : (n : Int) ≤ 2100 := by omega
    have hn0 : (0 : Int) ≤ (n : Int) := by omega
    clear hgo hxb hxc
    go_enter Try.func5, Try.ntmps5
    go_upto_region 1 with fail
    rw [← HW0.out, ← HBP.out]
    go_wp2_with fail
    refine (new_any w0).mono ?_
    rintro e w1 ⟨np, mb, rfl, hn, hb⟩
    have HN : Hid (NetW w1 w.heap.size np mb (.slice none 0 0) (fullL p 0) []) := Lib.hid (hn.mono HB0.out.size)
    have HB := Lib.hid (HB0.out.trans (hb.mono HB0.out.size))
    have HXB : Hid (Bx np mb (.slice none 0 0) w1 bp (.cells #[.int .i64 p.f, .int .i64 p.t, .string p.b] 31)) := Lib.hid ⟨(hb.block _ (Array.getElem?_eq_some_iff.1 HX0.out).1).trans HX0.out, (by have h1 := (Array.getElem?_eq_some_iff.1 HX0.out).1; have h2 := hn.baseN; omega), (by have h1 := (Array.getElem?_eq_some_iff.1 HX0.out).1; have h2 := hn.baseM; omega), by simp [Value.ownBlock]⟩
    clear hn hb
    go_wp2_with fail
    go_loopw [26] (fun vk wr => ∃ (k : Nat) (rv : Value), k ≤ n ∧ vk = .int .i64 k ∧ NetW wr w.heap.size np mb rv (fullL p k) [] ∧ Bx np mb rv wr bp (.cells #[.int .i64 p.f, .int .i64 p.t, .string p.b] 31) ∧ Below w.heap.size w wr) (fun vk _ => n - (intOf vk).toNat)
    case atStart => exact ⟨0, _, Nat.zero_le _, rfl, HN.out, HXB.out, HB.out⟩
    case round =>
      obtain ⟨k, rv, hk, rfl, hnet, hbx, hbw⟩ := hrel
      have HNT := Lib.hid hnet
      have HBX := Lib.hid hbx
      have HBW := Lib.hid hbw
      clear hnet hbx hbw
      by_cases hlt : k < n
      · have HSD := Lib.hid (send_any HNT.out ⟨p.f, (k : Int), p.b⟩ ⟨HP.out.1, ⟨by show (-9223372036854775808 : Int) ≤ (k : Int); omega, by show (k : Int) ≤ 9223372036854775807; omega⟩⟩)
        obtain ⟨hs1, hs2⟩ := full_step p k
        have o0 := cell_of HBX.out.here (j := 0) rfl
        have o2 := cell_of HBX.out.here (j := 2) rfl
        have hk0 : (0 : Int) ≤ (k : Int) := by omega
        have hk1 : (k : Int) < (n : Int) := by omega
        by_cases h2k : k < 2000
        · have HS := Lib.hid (hs1 h2k)
          have h2i : (k : Int) < 2000 := by omega
          clear hs1 hs2
          go_wp2_with fail
          refine HSD.out.mono ?_
          rintro e w5 ⟨rfl, rv5, hn5, hk5⟩
          rw [HS.out.1]
          rw [if_pos HS.out.1, ← HS.out.2] at hn5
          have HN5 := Lib.hid hn5
          have HX5 := Lib.hid (HBX.out.kn hk5)
          have HB5 := Lib.hid (HBW.out.trans hk5.below)
          clear hn5 hk5 o0 o2
          go_wp2_with fail
          go_round
          case rel => exact ⟨k + 1, rv5, by omega, by go_num, HN5.out, HX5.out, HB5.out⟩
          case measure => simp [intOf]; omega
        · have HS := Lib.hid (hs2 (by omega))
          have h2i : ¬ (k : Int) < 2000 := by omega
          clear hs1 hs2
          go_wp2_with fail
          refine HSD.out.mono ?_
          rintro e w5 ⟨rfl, rv5, hn5, hk5⟩
          rw [HS.out.1]
          rw [if_neg (by rw [HS.out.1]; decide), ← HS.out.2] at hn5
          have HN5 := Lib.hid hn5
          have HX5 := Lib.hid (HBX.out.kn hk5)
          have HB5 := Lib.hid (HBW.out.trans hk5.below)
          clear hn5 hk5 o0 o2
          go_wp2_with fail
          go_round
          case rel => exact ⟨k + 1, rv5, by omega, by go_num, HN5.out, HX5.out, HB5.out⟩
          case measure => simp [intOf]; omega
      · obtain rfl : k = n := by omega
        have hk1 : ¬ (k : Int) < (k : Int) := by omega
        obtain ⟨ln, hln⟩ : ∃ ln, ln = (fullL p k).length := ⟨_, rfl⟩
        have hmin : min (k : Int) 2000 = (ln : Int) := by rw [hln, full_len]; omega
        have HLN := Lib.hid hln
        have HMIN := Lib.hid hmin
        have HAT := Lib.hid (at_any HNT.out ((k : Int) - 1))
        clear hln hmin
        have hcase : k = 0 ∨ (1 ≤ k ∧ k ≤ 2000) ∨ 2000 < k := by omega
        have hfacts : ∃ x bi bd, atL (fullL p k) ((k : Int) - 1) = (x, bi) ∧ canDouble (fullL p k) [] 0 = bd ∧ (bi = true ∧ x = ⟨p.f, (k : Int) - 1, p.b⟩ ∧ 0 < k ∧ k ≤ 2000 ∧ bd = decide (k < 2000) ∨ bi = false ∧ bd = false ∧ (k = 0 ∨ 2000 < k)) := by
          rcases hcase with rfl | ⟨h1, h2⟩ | h1
          · exact ⟨_, _, _, (full_zero p).1, (full_zero p).2, .inr ⟨rfl, rfl, .inl rfl⟩⟩
          · exact ⟨_, _, _, (full_some p k h1 h2).1, (full_some p k h1 h2).2, .inl ⟨rfl, rfl, h1, h2, rfl⟩⟩
          · exact ⟨_, _, _, (full_over p k h1).1, (full_over p k h1).2, .inr ⟨rfl, rfl, .inr h1⟩⟩
        obtain ⟨x, bi, bd, ha, hd, hf⟩ := hfacts
        have HA := Lib.hid ha
        have HD := Lib.hid hd
        have HF := Lib.hid hf
        clear ha hd hf hcase
        go_wp2_with fail
        refine HAT.out.mono ?_
        rintro e w3 ⟨rfl, hb3⟩
        rw [HA.out]
        have HN3 := Lib.hid (HNT.out.kept hb3)
        have HB3 := Lib.hid (HBW.out.trans (hb3.mono HBW.out.size))
        obtain ⟨bq, hbq⟩ : ∃ b, b = w3.heap.size := ⟨_, rfl⟩
        obtain ⟨w4, hw4⟩ : ∃ w4, w4 = w3.alloc (.cells #[.int .i64 x.f, .int .i64 x.t, .string x.b] 31) := ⟨_, rfl⟩
        have hb4 : Below w3.heap.size w3 w4 := by rw [hw4]; exact box_below w3 _
        have HN4 := Lib.hid (HN3.out.kept hb4)
        have HX4 : Hid (w4.heap[bq]? = some (.cells #[.int .i64 x.f, .int .i64 x.t, .string x.b] 31 (0, 0))) := Lib.hid (by rw [hw4, hbq]; exact new_block w3 _)
        have HB4 := Lib.hid (HB3.out.trans (hb4.mono HB3.out.size))
        have HW4 := Lib.hid hw4
        have HBQ := Lib.hid hbq
        clear hb3 hb4 hw4 hbq
        unfold pv
        go_upto_region 11 with fail
        rw [← HW4.out, ← HBQ.out]
        go_wp2_with fail
        refine (alive_any w4).mono ?_
        rintro e w5 ⟨rfl, hb5⟩
        have HN5 := Lib.hid (HN4.out.kept hb5)
        have HX5 : Hid (w5.heap[bq]? = some (.cells #[.int .i64 x.f, .int .i64 x.t, .string x.b] 31 (0, 0))) := Lib.hid ((hb5.block _ (Array.getElem?_eq_some_iff.1 HX4.out).1).trans HX4.out)
        have HB5 := Lib.hid (HB4.out.trans (hb5.mono HB4.out.size))
        have hlen := len_any HN5.out
        rw [← HLN.out] at hlen
        have HLE := Lib.hid hlen
        have HDB := Lib.hid (double_any HN5.out 0)
        have hmin := HMIN.out
        clear hb5 hlen
        go_wp2_with fail
        refine HLE.out.mono ?_
        rintro e w6 ⟨rfl, rfl⟩
        have x1 := cell_of HX5.out (j := 1) rfl
        rcases HF.out with ⟨rfl, rfl, h0, h2, hbd⟩ | ⟨rfl, rfl, h0⟩
        · have g0 : (0 : Int) < (k : Int) := by omega
          have g1 : (k : Int) ≤ 2000 := by omega
          by_cases h3 : k < 2000
          · have g2 : (k : Int) < 2000 := by omega
            have HDD : Hid (canDouble (fullL p k) [] 0 = true) := Lib.hid (by rw [HD.out, hbd]; exact decide_eq_true h3)
            clear hbd
            go_wp2_with fail
            refine HDB.out.mono ?_
            rintro e w7 ⟨rfl, rv7, hn7, hk7⟩
            rw [HDD.out]
            have HB7 := Lib.hid (HB5.out.trans hk7.below)
            clear hn7 hk7 x1
            go_wp2_with fail
            go_ret
            exact ⟨rfl, HB7.out⟩
          · have g2 : ¬ (k : Int) < 2000 := by omega
            have d2 : decide ((k : Int) < 2000) = false := decide_eq_false g2
            have HDD : Hid (canDouble (fullL p k) [] 0 = false) := Lib.hid (by rw [HD.out, hbd]; exact decide_eq_false h3)
            clear hbd
            go_wp2_with fail
            refine HDB.out.mono ?_
            rintro e w7 ⟨rfl, rv7, hn7, hk7⟩
            rw [HDD.out]
            have HB7 := Lib.hid (HB5.out.trans hk7.below)
            clear hn7 hk7 x1
            go_wp2_with fail
            go_ret
            exact ⟨rfl, HB7.out⟩
        · have HDD := HD
          rcases h0 with rfl | h0
          · go_wp2_with fail
            refine HDB.out.mono ?_
            rintro e w7 ⟨rfl, rv7, hn7, hk7⟩
            rw [HDD.out]
            have HB7 := Lib.hid (HB5.out.trans hk7.below)
            clear hn7 hk7 x1
            go_wp2_with fail
            go_ret
            exact ⟨rfl, HB7.out⟩
          · have g0 : (0 : Int) < (k : Int) := by omega
            have g1 : ¬ (k : Int) ≤ 2000 := by omega
            have g2 : ¬ (k : Int) < 2000 := by omega
            have d1 : decide ((k : Int) ≤ 2000) = false := decide_eq_false g1
            have d2 : decide ((k : Int) < 2000) = false := decide_eq_false g2
            go_wp2_with fail
            refine HDB.out.mono ?_
            rintro e w7 ⟨rfl, rv7, hn7, hk7⟩
            rw [HDD.out]
            have HB7 := Lib.hid (HB5.out.trans hk7.below)
            clear hn7 hk7 x1
            go_wp2_with fail
            go_ret
            exact ⟨rfl, HB7.out⟩
  · have hcase : x < 0 ∨ (0 ≤ x ∧ 2100 < x) := by omega
    clear hgo
    rcases hcase with h1 | ⟨h1, h2⟩
    all_goals
      go_enter Try.func5, Try.ntmps5
      go_upto_region 1 with fail
      rw [← HW0.out, ← HBP.out]
      go_wp2_with fail
      refine (new_any w0).mono ?_
      rintro e w1 ⟨np, mb, rfl, hn, hb⟩
      have HB := Lib.hid (HB0.out.trans (hb.mono HB0.out.size))
      clear hn hb
      go_wp2_with fail
      refine (alive_any w1).mono ?_
      rintro e w2 ⟨rfl, hb2⟩
      have HB2 := Lib.hid (HB.out.trans (hb2.mono HB.out.size))
      clear hb2
      go_wp2_with fail
      go_ret
      exact ⟨rfl, HB2.out⟩
end Go.Proofs.Ytdlhjpcofldfnaa
