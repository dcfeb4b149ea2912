/-
  LeaseRenews returns true. Condition: memory holds the script.
-/
import Derived.Test.YtocobanallohjaaLKn
namespace Go.Proofs.Ytocobanallohjaa
set_option maxRecDepth 100000
open Go.ChangeShapes Go.WideShapes Go.ChangeAt Go.RowKit Go.Proofs.Le

set_option maxHeartbeats 16000000 in
theorem renews_law {w : World} {A : Option Addr} {n c : Nat} {l : List Cal} (h : Rd ocell 4 w A n l) (id now : Int) :
    Calls Try.prog 7 #[.slice A n c, .int .i64 id, .int .i64 now] w fun e w' => e = .returned (.bool true) ∧ Below w.heap.size w w' := by
  have HN := Lib.hid (new_any w)
  have HR := Lib.hid h
  have HL := Lib.hid h.len
  have HAL := Lib.hid (fun W => alive_any W)
  clear h
  go_enter Try.func7, Try.ntmps7
  go_wp2_with fail
  refine HN.out.mono ?_
  rintro e w1 ⟨tp, v, rfl, ht1, hb1, -, -⟩
  have HT1 := Lib.hid ht1
  have HB1 := Lib.hid hb1
  clear ht1 hb1
  by_cases hn : 400 < n
  · have hn' : decide ((400 : Int) < (n : Int)) = true := by rw [decide_eq_true_eq]; omega
    clear hn
    go_wp2_with fail
    refine (HAL.out _).mono ?_
    rintro e w2 ⟨rfl, hb2⟩
    have HB2 := Lib.hid (HB1.out.trans (hb2.mono HB1.out.size))
    clear hb2
    go_wp2_with fail
    go_ret
    exact ⟨rfl, HB2.out⟩
  have hn' : decide ((400 : Int) < (n : Int)) = false := by rw [decide_eq_false_iff_not]; omega
  have HPL := Lib.hid (plays_any (B := w.heap.size) (Bs := w.heap.size) (c := c) HT1.out HB1.out.size (Nat.le_refl _) good_nil (u := .slice none 0 0) ⟨none, 0, rfl, DR.nil _ _⟩ (fun W hW => HR.out.below (HB1.out.trans hW)) (by omega))
  go_wp2_with fail
  refine HPL.out.mono ?_
  rintro e w2 ⟨u2, rfl, hd2, hk2⟩
  have HX2 := Lib.hid (HB1.out.trans (kp_below hk2 HT1.out HB1.out.size))
  obtain ⟨v2, ht2, -, -⟩ := hk2
  obtain ⟨T, hT⟩ : ∃ T, Le.runT [] l = T := ⟨_, rfl⟩
  have HG : Hid (Le.Good T) := Lib.hid (by rw [← hT]; exact run_good good_nil _)
  have HTL : Hid (T.length ≤ 100) := Lib.hid HG.out.len
  rw [hT] at ht2 hd2
  have HT2 := Lib.hid ht2
  clear hd2
  have HC2 := Lib.hid (renew_any ht2 HX2.out.size HG.out id now)
  have HG1 := Lib.hid (ren_good HG.out id now)
  have HRE := Lib.hid (fun h => ren_ends (T := T) HG.out (id := id) (now := now) h)
  obtain ⟨a, ha⟩ : ∃ a, ren T id now = a := ⟨_, rfl⟩
  rw [ha] at HC2 HG1 HRE
  clear ht2 hT ha
  go_wp2_with fail
  refine HC2.out.mono ?_
  rintro e w3 ⟨rfl, hk3⟩
  have HX3 := Lib.hid (HX2.out.trans (kp_below hk3 HT2.out HX2.out.size))
  obtain ⟨v3, ht3, -, -⟩ := hk3
  obtain ⟨S, hS⟩ : ∃ S, a.1 = S := ⟨_, rfl⟩
  obtain ⟨er, her⟩ : ∃ er, a.2 = er := ⟨_, rfl⟩
  rw [hS] at ht3 HG1 HRE
  rw [her] at HRE ⊢
  have HT3 := Lib.hid ht3
  have HC3 := Lib.hid (ended_any ht3 HG1.out now)
  clear ht3 hS her
  go_wp2_with fail
  refine HC3.out.mono ?_
  rintro e w4 ⟨A4, c4, rfl, ho4, hb4⟩
  have HX4 := Lib.hid (HX3.out.trans (hb4.mono HX3.out.size))
  have HT4 := Lib.hid (HT3.out.below hb4)
  obtain ⟨L4, hL4⟩ : ∃ L4, endd S now = L4 := ⟨_, rfl⟩
  have HL4 : Hid (L4.length ≤ 100) := Lib.hid (by rw [← hL4]; exact Nat.le_trans (endd_len S _) HG1.out.len)
  have HO4 := Rd.of_own (cell := icell) (l := endd S now) ho4 (fun _ _ => rfl) (by omega)
  rw [hL4] at HO4 HRE ⊢
  have HO4 := Lib.hid HO4
  obtain ⟨n4, hn4⟩ : ∃ n, L4.length = n := ⟨_, rfl⟩
  have hl4 : n4 ≤ 100 := by rw [← hn4]; exact HL4.out
  have HN4 := Lib.hid hn4
  rw [hn4] at HO4 ⊢
  clear ho4 hb4 hL4 hn4
  go_wp2_with fail
  go_loopw [9, 40] (fun d i wz => ∃ j : Nat, j ≤ n4 ∧ i = .int .i64 j ∧ d = .bool (kn (L4.take j) id) ∧ wz = w4) (fun _ i _ => n4 - (intOf i).toNat)
  case atStart => exact ⟨0, Nat.zero_le _, rfl, rfl, rfl⟩
  case round =>
    obtain ⟨j, hj, rfl, rfl, rfl⟩ := hrel
    obtain ⟨d, hd⟩ : ∃ d, kn (L4.take j) id = d := ⟨_, rfl⟩
    rw [hd]
    have HD := Lib.hid hd
    clear hd
    by_cases hlj : j < n4
    · obtain ⟨b2, off2, z, rfl, hz, hdd⟩ := HO4.out.at hlj
      have d0 : wr.cell? ⟨b2, off2 + j, none⟩ = some (.int .i64 z) := by have := hdd 0 _ rfl; simpa using this
      have hj0 : (0 : Int) ≤ (j : Int) := by omega
      have hji : (j : Int) < (n4 : Int) := by omega
      have hwj : IntKind.i64.wrap ((j : Int) + 1) = (j : Int) + 1 := by rw [IntKind.wrap_i64]; omega
      obtain ⟨y, hy⟩ : ∃ y, (z == id) = y := ⟨_, rfl⟩
      have HKS : Hid (kn (L4.take (j + 1)) id = (d || y)) := Lib.hid (by rw [take_some hz, kn_snoc, HD.out, hy])
      clear hz hdd
      cases d with
      | true =>
        go_wp2_with fail
        go_roundw
        case rel => exact ⟨j + 1, by omega, by go_num, by rw [HKS.out]; rfl, trivial⟩
        case measure => simp [intOf]; omega
      | false =>
        go_wp2_with fail
        go_roundw
        case rel => exact ⟨j + 1, by omega, by go_num, by rw [HKS.out]; rfl, trivial⟩
        case measure => simp [intOf]; omega
    · obtain rfl : j = n4 := by omega
      have hji : ¬ (j : Int) < (j : Int) := by omega
      have HKD : Hid (kn L4 id = d) := Lib.hid (by rw [← HD.out, List.take_of_length_le (by rw [HN4.out]; exact Nat.le_refl _)])
      by_cases h0 : er = 0
      · have h0' : (er == 0) = true := by simpa using h0
        obtain rfl : d = false := by rw [← HKD.out]; exact kn_out (HRE.out h0)
        clear h0
        have HC4 := Lib.hid (close_any HT4.out HX4.out.size HG1.out id)
        go_wp2_with fail
        refine HC4.out.mono ?_
        rintro e w5 ⟨rfl, hk5⟩
        have HX5 := Lib.hid (HX4.out.trans (kp_below hk5 HT4.out HX4.out.size))
        obtain ⟨v5, ht5, -, -⟩ := hk5
        have HG5 := Lib.hid (cls_good HG1.out id)
        have HNO := Lib.hid (cls_none HG1.out id)
        obtain ⟨T5, hT5⟩ : ∃ T5, (cls S id).1 = T5 := ⟨_, rfl⟩
        rw [hT5] at ht5 HG5 HNO
        have HT5 := Lib.hid ht5
        have HGE := Lib.hid (get_any ht5 HG5.out id)
        unfold GePost at HGE
        rw [HNO.out] at HGE
        have HG6 : Hid (Calls Try.prog 12 #[.pointer (some ⟨tp, 0, none⟩), .int .i64 id] w5 fun e w' => e = .returned (.tuple #[.agg #[.int .i64 (fnd T5 id).i, .int .i64 (fnd T5 id).s, .int .i64 (fnd T5 id).l], .bool false]) ∧ Below w5.heap.size w5 w') := Lib.hid HGE.out
        obtain ⟨f, hf⟩ : ∃ f, fnd T5 id = f := ⟨_, rfl⟩
        rw [hf] at HG6
        clear ht5 HGE hf hT5
        go_wp2_with fail
        refine HG6.out.mono ?_
        rintro e w6 ⟨rfl, hb6⟩
        obtain ⟨w7, hw7⟩ : ∃ w7, w7 = w6.alloc (.cells #[.int .i64 f.i, .int .i64 f.s, .int .i64 f.l] 30) := ⟨_, rfl⟩
        obtain ⟨r, er⟩ : ∃ r, r = w6.heap.size := ⟨_, rfl⟩
        have hb7 : Below w6.heap.size w6 w7 := by rw [hw7]; exact box_below w6 _
        have hbs := hb6.trans (hb7.mono hb6.size)
        have HX7 := Lib.hid (HX5.out.trans (hbs.mono HX5.out.size))
        have HT7 := Lib.hid (HT5.out.below hbs)
        have HW7 := Lib.hid hw7
        have ER := Lib.hid er
        have HC7 := Lib.hid (ended_any (HT5.out.below hbs) HG5.out 1099511627776)
        clear hb6 hw7 er hb7 hbs
        go_upto_region 16 with fail
        rw [← HW7.out, ← ER.out]
        go_wp2_with fail
        refine HC7.out.mono ?_
        rintro e w8 ⟨A8, c8, rfl, ho8, hb8⟩
        have HX8 := Lib.hid (HX7.out.trans (hb8.mono HX7.out.size))
        have HT8 := Lib.hid (HT7.out.below hb8)
        obtain ⟨L8, hL8⟩ : ∃ L8, endd T5 1099511627776 = L8 := ⟨_, rfl⟩
        have HL8 : Hid (L8.length ≤ 100) := Lib.hid (by rw [← hL8]; exact Nat.le_trans (endd_len T5 _) HG5.out.len)
        have HOUT : Hid (id ∉ L8) := Lib.hid (by rw [← hL8]; exact none_ends HNO.out)
        have HO8 := Rd.of_own (cell := icell) (l := endd T5 1099511627776) ho8 (fun _ _ => rfl) (by omega)
        rw [hL8] at HO8 ⊢
        have HO8 := Lib.hid HO8
        obtain ⟨n8, hn8⟩ : ∃ n, L8.length = n := ⟨_, rfl⟩
        have hl8 : n8 ≤ 100 := by rw [← hn8]; exact HL8.out
        rw [hn8] at HO8 ⊢
        have HRN := Lib.hid (ren_none HNO.out)
        clear ho8 hb8 hL8 hn8
        go_wp2_with fail
        go_loopw [68] (fun i wr => ∃ k : Nat, k ≤ n8 ∧ i = .int .i64 k ∧ wr = w8) (fun i _ => n8 - (intOf i).toNat)
        case atStart => exact ⟨0, Nat.zero_le _, rfl, rfl⟩
        case round =>
          obtain ⟨k, hk, rfl, rfl⟩ := hrel
          by_cases hlt : k < n8
          · obtain ⟨b2, off2, z, rfl, hz, hdd⟩ := HO8.out.at hlt
            have d0 : wr.cell? ⟨b2, off2 + k, none⟩ = some (.int .i64 z) := by have := hdd 0 _ rfl; simpa using this
            have hk0 : (0 : Int) ≤ (k : Int) := by omega
            have hki : (k : Int) < (n8 : Int) := by omega
            have hwk : IntKind.i64.wrap ((k : Int) + 1) = (k : Int) + 1 := by rw [IntKind.wrap_i64]; omega
            have hne : (z == id) = false := by
              rw [beq_eq_false_iff_ne]
              intro e
              exact HOUT.out (e ▸ List.mem_of_getElem? hz)
            clear hz hdd
            go_wp2_with fail
            go_roundw
            case rel => exact ⟨k + 1, by omega, by go_num, trivial⟩
            case measure => simp [intOf]; omega
          · obtain rfl : k = n8 := by omega
            have hki : ¬ (k : Int) < (k : Int) := by omega
            go_wp2_with fail
            refine (HAL.out _).mono ?_
            rintro e w9 ⟨rfl, hb9⟩
            have HX9 := Lib.hid (HX8.out.trans (hb9.mono HX8.out.size))
            have HT9 := Lib.hid (HT8.out.below hb9)
            have HC9 := renew_any HT9.out HX9.out.size HG5.out id 0
            rw [HRN.out] at HC9
            have HC9 := Lib.hid HC9
            clear hb9
            go_wp2_with fail
            refine HC9.out.mono ?_
            rintro e w10 ⟨rfl, hk10⟩
            have HX10 := Lib.hid (HX9.out.trans (kp_below hk10 HT9.out HX9.out.size))
            clear hk10
            go_wp2_with fail
            go_ret
            exact ⟨rfl, HX10.out⟩
      · have h0' : (er == 0) = false := by simpa using h0
        clear h0
        have HC4 := Lib.hid (close_any HT4.out HX4.out.size HG1.out id)
        go_wp2_with fail
        refine HC4.out.mono ?_
        rintro e w5 ⟨rfl, hk5⟩
        have HX5 := Lib.hid (HX4.out.trans (kp_below hk5 HT4.out HX4.out.size))
        obtain ⟨v5, ht5, -, -⟩ := hk5
        have HG5 := Lib.hid (cls_good HG1.out id)
        have HNO := Lib.hid (cls_none HG1.out id)
        obtain ⟨T5, hT5⟩ : ∃ T5, (cls S id).1 = T5 := ⟨_, rfl⟩
        rw [hT5] at ht5 HG5 HNO
        have HT5 := Lib.hid ht5
        have HGE := Lib.hid (get_any ht5 HG5.out id)
        unfold GePost at HGE
        rw [HNO.out] at HGE
        have HG6 : Hid (Calls Try.prog 12 #[.pointer (some ⟨tp, 0, none⟩), .int .i64 id] w5 fun e w' => e = .returned (.tuple #[.agg #[.int .i64 (fnd T5 id).i, .int .i64 (fnd T5 id).s, .int .i64 (fnd T5 id).l], .bool false]) ∧ Below w5.heap.size w5 w') := Lib.hid HGE.out
        obtain ⟨f, hf⟩ : ∃ f, fnd T5 id = f := ⟨_, rfl⟩
        rw [hf] at HG6
        clear ht5 HGE hf hT5
        go_wp2_with fail
        refine HG6.out.mono ?_
        rintro e w6 ⟨rfl, hb6⟩
        obtain ⟨w7, hw7⟩ : ∃ w7, w7 = w6.alloc (.cells #[.int .i64 f.i, .int .i64 f.s, .int .i64 f.l] 30) := ⟨_, rfl⟩
        obtain ⟨r, er⟩ : ∃ r, r = w6.heap.size := ⟨_, rfl⟩
        have hb7 : Below w6.heap.size w6 w7 := by rw [hw7]; exact box_below w6 _
        have hbs := hb6.trans (hb7.mono hb6.size)
        have HX7 := Lib.hid (HX5.out.trans (hbs.mono HX5.out.size))
        have HT7 := Lib.hid (HT5.out.below hbs)
        have HW7 := Lib.hid hw7
        have ER := Lib.hid er
        have HC7 := Lib.hid (ended_any (HT5.out.below hbs) HG5.out 1099511627776)
        clear hb6 hw7 er hb7 hbs
        go_upto_region 16 with fail
        rw [← HW7.out, ← ER.out]
        go_wp2_with fail
        refine HC7.out.mono ?_
        rintro e w8 ⟨A8, c8, rfl, ho8, hb8⟩
        have HX8 := Lib.hid (HX7.out.trans (hb8.mono HX7.out.size))
        have HT8 := Lib.hid (HT7.out.below hb8)
        obtain ⟨L8, hL8⟩ : ∃ L8, endd T5 1099511627776 = L8 := ⟨_, rfl⟩
        have HL8 : Hid (L8.length ≤ 100) := Lib.hid (by rw [← hL8]; exact Nat.le_trans (endd_len T5 _) HG5.out.len)
        have HOUT : Hid (id ∉ L8) := Lib.hid (by rw [← hL8]; exact none_ends HNO.out)
        have HO8 := Rd.of_own (cell := icell) (l := endd T5 1099511627776) ho8 (fun _ _ => rfl) (by omega)
        rw [hL8] at HO8 ⊢
        have HO8 := Lib.hid HO8
        obtain ⟨n8, hn8⟩ : ∃ n, L8.length = n := ⟨_, rfl⟩
        have hl8 : n8 ≤ 100 := by rw [← hn8]; exact HL8.out
        rw [hn8] at HO8 ⊢
        have HRN := Lib.hid (ren_none HNO.out)
        clear ho8 hb8 hL8 hn8
        go_wp2_with fail
        go_loopw [68] (fun i wr => ∃ k : Nat, k ≤ n8 ∧ i = .int .i64 k ∧ wr = w8) (fun i _ => n8 - (intOf i).toNat)
        case atStart => exact ⟨0, Nat.zero_le _, rfl, rfl⟩
        case round =>
          obtain ⟨k, hk, rfl, rfl⟩ := hrel
          by_cases hlt : k < n8
          · obtain ⟨b2, off2, z, rfl, hz, hdd⟩ := HO8.out.at hlt
            have d0 : wr.cell? ⟨b2, off2 + k, none⟩ = some (.int .i64 z) := by have := hdd 0 _ rfl; simpa using this
            have hk0 : (0 : Int) ≤ (k : Int) := by omega
            have hki : (k : Int) < (n8 : Int) := by omega
            have hwk : IntKind.i64.wrap ((k : Int) + 1) = (k : Int) + 1 := by rw [IntKind.wrap_i64]; omega
            have hne : (z == id) = false := by
              rw [beq_eq_false_iff_ne]
              intro e
              exact HOUT.out (e ▸ List.mem_of_getElem? hz)
            clear hz hdd
            go_wp2_with fail
            go_roundw
            case rel => exact ⟨k + 1, by omega, by go_num, trivial⟩
            case measure => simp [intOf]; omega
          · obtain rfl : k = n8 := by omega
            have hki : ¬ (k : Int) < (k : Int) := by omega
            go_wp2_with fail
            refine (HAL.out _).mono ?_
            rintro e w9 ⟨rfl, hb9⟩
            have HX9 := Lib.hid (HX8.out.trans (hb9.mono HX8.out.size))
            have HT9 := Lib.hid (HT8.out.below hb9)
            have HC9 := renew_any HT9.out HX9.out.size HG5.out id 0
            rw [HRN.out] at HC9
            have HC9 := Lib.hid HC9
            clear hb9
            go_wp2_with fail
            refine HC9.out.mono ?_
            rintro e w10 ⟨rfl, hk10⟩
            have HX10 := Lib.hid (HX9.out.trans (kp_below hk10 HT9.out HX9.out.size))
            clear hk10
            go_wp2_with fail
            go_ret
            exact ⟨rfl, HX10.out⟩
end Go.Proofs.Ytocobanallohjaa
