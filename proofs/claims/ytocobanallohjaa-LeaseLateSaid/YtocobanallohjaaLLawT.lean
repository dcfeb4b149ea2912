/-
  LeaseLate returns true. Condition: memory holds the script.
-/
import Derived.Test.YtocobanallohjaaLKn
namespace Go.Proofs.Ytocobanallohjaa
set_option maxRecDepth 100000
open Go.ChangeShapes Go.WideShapes Go.ChangeAt Go.RowKit Go.Proofs.Le

set_option maxHeartbeats 16000000 in
theorem late_law {w : World} {A : Option Addr} {n c : Nat} {l : List Cal} (h : Rd ocell 4 w A n l) (now later : Int) :
    Calls Try.prog 5 #[.slice A n c, .int .i64 now, .int .i64 later] w fun e w' => e = .returned (.bool true) ∧ Below w.heap.size w w' := by
  have HN := Lib.hid (new_any w)
  have HR := Lib.hid h
  have HL := Lib.hid h.len
  have HAL := Lib.hid (fun W => alive_any W)
  clear h
  go_enter Try.func5, Try.ntmps5
  go_wp2_with fail
  refine HN.out.mono ?_
  rintro e w1 ⟨tp, v, rfl, ht1, hb1, -, -⟩
  have HT1 := Lib.hid ht1
  have HB1 := Lib.hid hb1
  clear ht1 hb1
  by_cases hn : 400 < n
  · have hn' : decide ((400 : Int) < (n : Int)) = true := by rw [decide_eq_true_eq]; omega
    clear hn
    go_wp2_with fail
    refine (HAL.out _).mono ?_
    rintro e w2 ⟨rfl, hb2⟩
    have HB2 := Lib.hid (HB1.out.trans (hb2.mono HB1.out.size))
    clear hb2
    go_wp2_with fail
    go_ret
    exact ⟨rfl, HB2.out⟩
  have hn' : decide ((400 : Int) < (n : Int)) = false := by rw [decide_eq_false_iff_not]; omega
  by_cases hl1 : later < now
  · have hl1' : decide (later < now) = true := by simpa using hl1
    clear hl1
    go_wp2_with fail
    refine (HAL.out _).mono ?_
    rintro e w2 ⟨rfl, hb2⟩
    have HB2 := Lib.hid (HB1.out.trans (hb2.mono HB1.out.size))
    clear hb2
    go_wp2_with fail
    go_ret
    exact ⟨rfl, HB2.out⟩
  have hl1' : decide (later < now) = false := by simpa using hl1
  obtain ⟨t, ht⟩ : ∃ t, decide (1099511627776 < later) = t := ⟨_, rfl⟩
  have HLT := Lib.hid ht
  have HL1 : Hid (now ≤ later) := Lib.hid (by omega)
  clear hl1
  cases t with
  | true =>
    go_wp2_with fail
    refine (HAL.out _).mono ?_
    rintro e w2 ⟨rfl, hb2⟩
    have HB2 := Lib.hid (HB1.out.trans (hb2.mono HB1.out.size))
    clear hb2
    go_wp2_with fail
    go_ret
    exact ⟨rfl, HB2.out⟩
  | false =>
    have HPL := Lib.hid (plays_any (B := w.heap.size) (Bs := w.heap.size) (c := c) HT1.out HB1.out.size (Nat.le_refl _) good_nil (u := .slice none 0 0) ⟨none, 0, rfl, DR.nil _ _⟩ (fun W hW => HR.out.below (HB1.out.trans hW)) (by omega))
    go_wp2_with fail
    refine HPL.out.mono ?_
    rintro e w2 ⟨u2, rfl, hd2, hk2⟩
    have HX2 := Lib.hid (HB1.out.trans (kp_below hk2 HT1.out HB1.out.size))
    obtain ⟨v2, ht2, -, -⟩ := hk2
    obtain ⟨T, hT⟩ : ∃ T, Le.runT [] l = T := ⟨_, rfl⟩
    have HG : Hid (Le.Good T) := Lib.hid (by rw [← hT]; exact run_good good_nil _)
    have HTL : Hid (T.length ≤ 100) := Lib.hid HG.out.len
    rw [hT] at ht2 hd2
    have HT2 := Lib.hid ht2
    clear hd2
    have HC2 := Lib.hid (ended_any ht2 HG.out now)
    have HL2 : Hid (later ≤ 1099511627776) := Lib.hid (by have h := HLT.out; rw [decide_eq_false_iff_not] at h; omega)
    clear ht2 hT ht
    go_wp2_with fail
    refine HC2.out.mono ?_
    rintro e w3 ⟨A3, c3, rfl, ho3, hb3⟩
    have HT3 := Lib.hid (HT2.out.below hb3)
    have HC3 := Lib.hid (ended_any HT3.out HG.out later)
    have HO3 := Lib.hid (Rd.of_own (cell := icell) (l := endd T now) ho3 (fun _ _ => rfl) (by omega))
    have HX3 := Lib.hid (HX2.out.trans (hb3.mono HX2.out.size))
    clear ho3 hb3
    go_wp2_with fail
    refine HC3.out.mono ?_
    rintro e w4 ⟨A4, c4, rfl, ho4, hb4⟩
    have HT4 := Lib.hid (HT3.out.below hb4)
    have HO34 := Lib.hid (HO3.out.below hb4)
    have HO4 := Lib.hid (Rd.of_own (cell := icell) (l := endd T later) ho4 (fun _ _ => rfl) (by omega))
    have HX4 := Lib.hid (HX3.out.trans (hb4.mono HX3.out.size))
    obtain ⟨L1, hL1⟩ : ∃ L1, endd T now = L1 := ⟨_, rfl⟩
    obtain ⟨L2, hL2⟩ : ∃ L2, endd T later = L2 := ⟨_, rfl⟩
    rw [hL1] at HO34
    rw [hL2] at HO4
    rw [hL1, hL2]
    have HE1 := Lib.hid hL1
    have HE2 := Lib.hid hL2
    have hl1 : L1.length ≤ 100 := by rw [← hL1]; exact Nat.le_trans (endd_len T now) HTL.out
    have hl2 : L2.length ≤ 100 := by rw [← hL2]; exact Nat.le_trans (endd_len T later) HTL.out
    obtain ⟨n1, hn1⟩ : ∃ n, L1.length = n := ⟨_, rfl⟩
    obtain ⟨n2, hn2⟩ : ∃ n, L2.length = n := ⟨_, rfl⟩
    rw [hn1] at HO34 hl1 ⊢
    rw [hn2] at HO4 hl2 ⊢
    have HN1 := Lib.hid hn1
    have HN2 := Lib.hid hn2
    clear ho4 hb4 hL1 hL2 hn1 hn2
    go_wp2_with fail
    go_loopw [50] (fun i wr => ∃ k : Nat, k ≤ n1 ∧ i = .int .i64 k ∧ Hid (Below w4.heap.size w4 wr)) (fun i _ => n1 - (intOf i).toNat)
    case atStart => exact ⟨0, Nat.zero_le _, rfl, Lib.hid (Below.refl _ _)⟩
    case round =>
      obtain ⟨k, hk, rfl, HW⟩ := hrel
      by_cases hlt : k < n1
      · obtain ⟨b, off, a, rfl, ha, hcc⟩ := (HO34.out.below HW.out).at hlt
        have c0 : wr.cell? ⟨b, off + k, none⟩ = some (.int .i64 a) := by have := hcc 0 _ rfl; simpa using this
        have hk0 : (0 : Int) ≤ (k : Int) := by omega
        have hki : (k : Int) < (n1 : Int) := by omega
        have hwk : IntKind.i64.wrap ((k : Int) + 1) = (k : Int) + 1 := by rw [IntKind.wrap_i64]; omega
        have hain : a ∈ endd T now := by rw [HE1.out]; exact List.mem_of_getElem? ha
        obtain ⟨x, hx1, hx2, hx3⟩ := late_any HG.out HL1.out HL2.out hain
        rw [HE2.out] at hx3
        have HIN := Lib.hid hx3
        have hws : IntKind.i64.wrap (now - x.l) = now - x.l := wrap_sub (mem_endd.1 hain).1 (by
          have h := HG.out.each x (has_mem hx1).1
          unfold okL at h
          simp only [Bool.and_eq_true] at h
          exact h.2)
        have hle : decide (now - x.l ≤ x.s) = false := by rw [decide_eq_false_iff_not]; omega
        have HGE := Lib.hid (get_any (HT4.out.below HW.out) HG.out a)
        unfold GePost at HGE
        rw [fnd_some hx1, hx1] at HGE
        have HG2 : Hid (Calls Try.prog 12 #[.pointer (some ⟨tp, 0, none⟩), .int .i64 a] wr fun e w' => e = .returned (.tuple #[.agg #[.int .i64 x.i, .int .i64 x.s, .int .i64 x.l], .bool true]) ∧ Below wr.heap.size wr w') := Lib.hid HGE.out
        clear ha hcc hain hx1 hx2 hx3 HGE
        go_wp2_with fail
        refine HG2.out.mono ?_
        rintro e w5 ⟨rfl, hb5⟩
        obtain ⟨w6, hw6⟩ : ∃ w6, w6 = w5.alloc (.cells #[.int .i64 x.i, .int .i64 x.s, .int .i64 x.l] 30) := ⟨_, rfl⟩
        obtain ⟨r, er⟩ : ∃ r, r = w5.heap.size := ⟨_, rfl⟩
        have hb6 : Below w5.heap.size w5 w6 := by rw [hw6]; exact box_below w5 _
        have hr : w6.heap[r]? = some (.cells #[.int .i64 x.i, .int .i64 x.s, .int .i64 x.l] 30 (0, 0)) := by rw [hw6, er]; exact new_block w5 _
        have HW6n := Lib.hid (HW.out.trans ((hb5.trans (hb6.mono hb5.size)).mono HW.out.size))
        have r0 := cell_of hr (j := 0) rfl
        have r1 := cell_of hr (j := 1) rfl
        have r2 := cell_of hr (j := 2) rfl
        have HW6 := Lib.hid hw6
        have ER := Lib.hid er
        clear hb5 hw6 er hb6 hr c0
        go_upto_region 10 with fail
        rw [← HW6.out, ← ER.out]
        go_wp2_with fail
        go_loopw [14, 62] (fun d i wz => ∃ j : Nat, j ≤ n2 ∧ i = .int .i64 j ∧ d = .bool (kn (L2.take j) a) ∧ wz = w6) (fun _ i _ => n2 - (intOf i).toNat)
        case atStart => exact ⟨0, Nat.zero_le _, rfl, rfl, rfl⟩
        case round =>
          obtain ⟨j, hj, rfl, rfl, rfl⟩ := hrel
          obtain ⟨d, hd⟩ : ∃ d, kn (L2.take j) a = d := ⟨_, rfl⟩
          rw [hd]
          have HD := Lib.hid hd
          clear hd
          by_cases hlj : j < n2
          · obtain ⟨b2, off2, z, rfl, hz, hdd⟩ := (HO4.out.below HW6n.out).at hlj
            have d0 : wr.cell? ⟨b2, off2 + j, none⟩ = some (.int .i64 z) := by have := hdd 0 _ rfl; simpa using this
            have hj0 : (0 : Int) ≤ (j : Int) := by omega
            have hji : (j : Int) < (n2 : Int) := by omega
            have hwj : IntKind.i64.wrap ((j : Int) + 1) = (j : Int) + 1 := by rw [IntKind.wrap_i64]; omega
            obtain ⟨y, hy⟩ : ∃ y, (z == a) = y := ⟨_, rfl⟩
            have HKS : Hid (kn (L2.take (j + 1)) a = (d || y)) := Lib.hid (by rw [take_some hz, kn_snoc, HD.out, hy])
            clear hz hdd
            cases d with
            | true =>
              go_wp2_with fail
              go_roundw
              case rel => exact ⟨j + 1, by omega, by go_num, by rw [HKS.out]; rfl, trivial⟩
              case measure => simp [intOf]; omega
            | false =>
              go_wp2_with fail
              go_roundw
              case rel => exact ⟨j + 1, by omega, by go_num, by rw [HKS.out]; rfl, trivial⟩
              case measure => simp [intOf]; omega
          · obtain rfl : j = n2 := by omega
            have hji : ¬ (j : Int) < (j : Int) := by omega
            obtain rfl : d = true := by
              rw [← HD.out, List.take_of_length_le (by rw [HN2.out]; exact Nat.le_refl _)]
              exact kn_in HIN.out
            go_wp2_with fail
            go_roundw
            case rel => exact ⟨k + 1, by omega, by go_num, HW6n⟩
            case measure => simp [intOf]; omega
      · obtain rfl : k = n1 := by omega
        have hki : ¬ (k : Int) < (k : Int) := by omega
        have HX5 := Lib.hid (HX4.out.trans (HW.out.mono HX4.out.size))
        go_wp2_with fail
        refine (HAL.out _).mono ?_
        rintro e w5 ⟨rfl, hb5⟩
        have HX6 := Lib.hid (HX5.out.trans (hb5.mono HX5.out.size))
        clear hb5
        go_wp2_with fail
        go_ret
        exact ⟨rfl, HX6.out⟩
end Go.Proofs.Ytocobanallohjaa
