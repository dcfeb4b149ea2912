/-
  WatcherFull returns true. Condition: the path has at most 2^21 bytes.
-/
import Derived.Test.YtfejapaoflikhaaDoorWDoes
namespace Go.Proofs.YtfejapaoflikhaaDoor
set_option maxRecDepth 100000
open Go.ChangeShapes Go.WideShapes Go.ChangeAt Go.RowKit Go.Proofs.Zn Go.Proofs.Wa

set_option maxHeartbeats 16000000 in
theorem full_law {w : World} (many : Int) (p : Txt) (hp : p.length ≤ 2097152) :
    Calls Tryd.prog 5 #[.int .i64 many, .string (B p)] w fun e w' => e = .returned (.bool true) ∧ Below w.heap.size w w' := by
  have HN := Lib.hid (new_any w)
  have HP := Lib.hid hp
  clear hp
  go_enter Tryd.func5, Tryd.ntmps5
  go_wp2_with fail
  refine HN.out.mono ?_
  rintro e w1 ⟨tp, v, rfl, ht1, hb1, -, -⟩
  have HT1 := Lib.hid ht1
  have HB1 := Lib.hid hb1
  clear ht1 hb1
  have HAL := Lib.hid (fun W => alive_any W)
  by_cases hm0 : many < 0
  · go_wp2_with fail
    refine (HAL.out _).mono ?_
    rintro e w2 ⟨rfl, hb2⟩
    have HB2 := Lib.hid (HB1.out.trans (hb2.mono HB1.out.size))
    clear hb2
    go_wp2_with fail
    go_ret
    exact ⟨rfl, HB2.out⟩
  by_cases hm6 : 600 < many
  · go_wp2_with fail
    refine (HAL.out _).mono ?_
    rintro e w2 ⟨rfl, hb2⟩
    have HB2 := Lib.hid (HB1.out.trans (hb2.mono HB1.out.size))
    clear hb2
    go_wp2_with fail
    go_ret
    exact ⟨rfl, HB2.out⟩
  obtain ⟨m, rfl⟩ : ∃ m : Nat, many = m := ⟨many.toNat, by omega⟩
  have hmm : m ≤ 600 := by omega
  have HRA := Lib.hid (radd_any (w := w1) (v := .slice none 0 0) (T := []) (World.ownsRow_nil _ _ _ _) good_nil ⟨1, p, false⟩ HP.out)
  obtain ⟨vd, hvd⟩ : ∃ b, valid p = b := ⟨_, rfl⟩
  have HVD := Lib.hid hvd
  have HA2 : Hid ((add [] ⟨1, p, false⟩).2 = vd) := Lib.hid (by
    unfold add addOk
    simp only [hvd]
    cases vd <;> simp)
  clear hvd
  go_wp2_with fail
  refine HRA.out.mono ?_
  rintro e w2 ⟨u2, rfl, -, hb2⟩
  rw [HA2.out]
  have HB2 := Lib.hid (HB1.out.trans (hb2.mono HB1.out.size))
  have HT2 := Lib.hid (HT1.out.below hb2)
  clear hb2
  cases vd with
  | true =>
    go_wp2_with fail
    go_loopw [32] (fun i wr => ∃ (k : Nat) (v : Value), k ≤ m ∧ i = .int .i64 k ∧ Hid (TabW wr w.heap.size tp v (fullT p (min k 500))) ∧ Hid (Below w.heap.size w wr)) (fun i _ => m - (intOf i).toNat)
    case atStart => exact ⟨0, v, Nat.zero_le _, rfl, HT2, HB2⟩
    case round =>
      obtain ⟨k, v, hk, rfl, HT, HX⟩ := hrel
      by_cases hlt : k < m
      · have HAD := Lib.hid (add_any HT.out HX.out.size (full_good HVD.out k) ⟨(k : Int) + 1, p, false⟩ (by have := HP.out; simp only; omega))
        rw [full_add HVD.out k] at HAD
        have hki : (k : Int) < (m : Int) := by omega
        have hw1 : IntKind.i64.wrap ((k : Int) + 1) = (k : Int) + 1 := by rw [IntKind.wrap_i64]; omega
        go_wp2_with fail
        refine HAD.out.mono ?_
        intro e w3 h3'
        obtain ⟨rfl, h3⟩ := kp_of_ad h3'
        have HX3 := Lib.hid (HX.out.trans (kp_below h3 HT.out HX.out.size))
        obtain ⟨v3, ht3, -, -⟩ := h3
        have HT3 := Lib.hid ht3
        clear h3' ht3
        by_cases h5 : k < 500
        · have h5' : (k : Int) < 500 := by omega
          rw [show decide (k < 500) = true by simpa using h5]
          clear h5
          go_wp2_with fail
          go_roundw
          case rel => exact ⟨k + 1, v3, by omega, by go_num, HT3, HX3⟩
          case measure => simp [intOf]; omega
        · have h5' : ¬ (k : Int) < 500 := by omega
          rw [show decide (k < 500) = false by simpa using h5]
          clear h5
          go_wp2_with fail
          go_roundw
          case rel => exact ⟨k + 1, v3, by omega, by go_num, HT3, HX3⟩
          case measure => simp [intOf]; omega
      · obtain rfl : k = m := by omega
        have hki : ¬ (k : Int) < (k : Int) := by omega
        by_cases hz : 0 < k
        · have hz' : (0 : Int) < (k : Int) := by omega
          have HAD := Lib.hid (add_any HT.out HX.out.size (full_good HVD.out k) ⟨1, p, false⟩ (by have := HP.out; simp only; omega))
          rw [full_first HVD.out hz] at HAD
          clear hz
          go_wp2_with fail
          refine HAD.out.mono ?_
          intro e w3 h3'
          obtain ⟨rfl, h3⟩ := kp_of_ad h3'
          have HX3 := Lib.hid (HX.out.trans (kp_below h3 HT.out HX.out.size))
          obtain ⟨v3, ht3, -, -⟩ := h3
          have HT3 := Lib.hid ht3
          clear h3' ht3
          go_wp2_with fail
          refine (HAL.out _).mono ?_
          rintro e w4 ⟨rfl, hb4⟩
          have HX4 := Lib.hid (HX3.out.trans (hb4.mono HX3.out.size))
          have HLE := Lib.hid (len_any (HT3.out.below hb4))
          rw [fullT_len] at HLE
          have hmin : ((min k 500 : Nat) : Int) = min (k : Int) 500 := by omega
          rw [hmin] at HLE
          clear hb4 hmin
          go_wp2_with fail
          refine HLE.out.mono ?_
          rintro e w5 ⟨rfl, rfl⟩
          go_wp2_with fail
          go_ret
          exact ⟨rfl, HX4.out⟩
        · have hz' : ¬ (0 : Int) < (k : Int) := by omega
          clear hz
          go_wp2_with fail
          refine (HAL.out _).mono ?_
          rintro e w4 ⟨rfl, hb4⟩
          have HX4 := Lib.hid (HX.out.trans (hb4.mono HX.out.size))
          have HLE := Lib.hid (len_any (HT.out.below hb4))
          rw [fullT_len] at HLE
          have hmin : ((min k 500 : Nat) : Int) = min (k : Int) 500 := by omega
          rw [hmin] at HLE
          clear hb4 hmin
          go_wp2_with fail
          refine HLE.out.mono ?_
          rintro e w5 ⟨rfl, rfl⟩
          go_wp2_with fail
          go_ret
          exact ⟨rfl, HX4.out⟩
  | false =>
    go_wp2_with fail
    go_loopw [32] (fun i wr => ∃ (k : Nat) (v : Value), k ≤ m ∧ i = .int .i64 k ∧ Hid (TabW wr w.heap.size tp v []) ∧ Hid (Below w.heap.size w wr)) (fun i _ => m - (intOf i).toNat)
    case atStart => exact ⟨0, v, Nat.zero_le _, rfl, HT2, HB2⟩
    case round =>
      obtain ⟨k, v, hk, rfl, HT, HX⟩ := hrel
      by_cases hlt : k < m
      · have HAD := Lib.hid (add_any HT.out HX.out.size good_nil ⟨(k : Int) + 1, p, false⟩ (by have := HP.out; simp only; omega))
        rw [full_none HVD.out] at HAD
        have hki : (k : Int) < (m : Int) := by omega
        have hw1 : IntKind.i64.wrap ((k : Int) + 1) = (k : Int) + 1 := by rw [IntKind.wrap_i64]; omega
        go_wp2_with fail
        refine HAD.out.mono ?_
        intro e w3 h3'
        obtain ⟨rfl, h3⟩ := kp_of_ad h3'
        have HX3 := Lib.hid (HX.out.trans (kp_below h3 HT.out HX.out.size))
        obtain ⟨v3, ht3, -, -⟩ := h3
        have HT3 := Lib.hid ht3
        clear h3' ht3
        go_wp2_with fail
        go_roundw
        case rel => exact ⟨k + 1, v3, by omega, by go_num, HT3, HX3⟩
        case measure => simp [intOf]; omega
      · obtain rfl : k = m := by omega
        have hki : ¬ (k : Int) < (k : Int) := by omega
        go_wp2_with fail
        refine (HAL.out _).mono ?_
        rintro e w4 ⟨rfl, hb4⟩
        have HX4 := Lib.hid (HX.out.trans (hb4.mono HX.out.size))
        have HLE := Lib.hid (len_any (HT.out.below hb4))
        clear hb4
        go_wp2_with fail
        refine HLE.out.mono ?_
        rintro e w5 ⟨rfl, rfl⟩
        go_wp2_with fail
        go_ret
        exact ⟨rfl, HX4.out⟩
end Go.Proofs.YtfejapaoflikhaaDoor
