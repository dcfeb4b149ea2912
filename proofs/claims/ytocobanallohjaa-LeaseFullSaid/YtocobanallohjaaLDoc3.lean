/-
  What the document's own Do, Ended, Check, Same and SameIds return. Condition: the lists are tables; the list that is checked is not long.
-/
import Derived.Test.YtocobanallohjaaLDoc2
namespace Go.Proofs.Ytocobanallohjaa
set_option maxRecDepth 100000
open Go.ChangeShapes Go.WideShapes Go.ChangeAt Go.RowKit Go.Proofs.Le

theorem ro_pre {B : Nat} {a : Tb × Int} {w w1 w' : World} {e : Ending} (hb : Below w.heap.size w w1) (h : RoPost B a w1 e w') : RoPost B a w e w' := by
  obtain ⟨v', h1, h2, h3⟩ := h
  exact ⟨v', h1, h2, hb.trans (h3.mono hb.size)⟩
theorem stp_0 {T : Tb} {o : Cal} (h : o.k = 0) : stepE T o = opn T ⟨o.i, o.s, o.n⟩ := by unfold stepE; rw [if_pos h]
theorem stp_1 {T : Tb} {o : Cal} (h : o.k = 1) : stepE T o = ren T o.i o.n := by unfold stepE; rw [if_neg (by omega), if_pos h]
theorem stp_2 {T : Tb} {o : Cal} (h : o.k = 2) : stepE T o = cls T o.i := by unfold stepE; rw [if_neg (by omega), if_neg (by omega), if_pos h]
theorem stp_3 {T : Tb} {o : Cal} (h0 : o.k ≠ 0) (h1 : o.k ≠ 1) (h2 : o.k ≠ 2) : stepE T o = (T, 0) := by unfold stepE; rw [if_neg h0, if_neg h1, if_neg h2]
set_option maxHeartbeats 8000000 in
theorem rdo_any {w : World} {B : Nat} {A : Option Addr} {c : Nat} {T : Tb} (hR : DR w B A T) (hg : Le.Good T) (o : Cal) : Calls Try.prog 26 #[.slice A T.length c, .agg #[.int .i64 o.k, .int .i64 o.i, .int .i64 o.s, .int .i64 o.n]] w (RoPost B (stepE T o) w) := by
  obtain ⟨w1, hw1⟩ : ∃ w1, w1 = w.alloc (.cells #[.int .i64 o.k, .int .i64 o.i, .int .i64 o.s, .int .i64 o.n] 58) := ⟨_, rfl⟩
  obtain ⟨q, eq⟩ : ∃ q, q = w.heap.size := ⟨_, rfl⟩
  have hb1 : Below w.heap.size w w1 := by rw [hw1]; exact box_below w _
  have hq : w1.heap[q]? = some (.cells #[.int .i64 o.k, .int .i64 o.i, .int .i64 o.s, .int .i64 o.n] 58 (0, 0)) := by rw [hw1, eq]; exact new_block w _
  have q0 := cell_of hq (j := 0) rfl
  have q1 := cell_of hq (j := 1) rfl
  have q2 := cell_of hq (j := 2) rfl
  have q3 := cell_of hq (j := 3) rfl
  have hR1 := hR.below hb1
  have HR1 := Lib.hid hR1
  have HG := Lib.hid hg
  have HD : Hid (DV w B (.slice A T.length c) T) := Lib.hid ⟨A, c, rfl, hR⟩
  have HW1 := Lib.hid hw1
  have EQ := Lib.hid eq
  have HB1 := Lib.hid hb1
  clear hw1 eq hb1 hq hR hR1 hg
  by_cases h0 : o.k = 0
  · have HST := Lib.hid (stp_0 (T := T) h0)
    have hk0 : (o.k == 0) = true := by simpa using h0
    have HC := Lib.hid (ropen_any (c := c) HR1.out HG.out ⟨o.i, o.s, o.n⟩)
    rw [HST.out]
    clear h0
    go_enter Try.func26, Try.ntmps26
    go_upto_region 1 with fail
    rw [← HW1.out, ← EQ.out]
    go_wp2_with fail
    refine HC.out.mono ?_
    intro e w3 h3
    have HE := Lib.hid (ro_pre HB1.out h3)
    obtain ⟨v3, rfl, -, -⟩ := h3
    go_wp2_with fail
    exact bodyPost_ret (v := .tuple #[v3, .int .i64 (opn T ⟨o.i, o.s, o.n⟩).2]) (by simp [results, Try.results26, go_sem]) rfl HE.out
  have hk0 : (o.k == 0) = false := by simpa using h0
  by_cases h1 : o.k = 1
  · have HST := Lib.hid (stp_1 (T := T) h1)
    have hk1 : (o.k == 1) = true := by simpa using h1
    have HC := Lib.hid (rrenew_any (c := c) HR1.out HG.out o.i o.n)
    rw [HST.out]
    clear h0 h1
    go_enter Try.func26, Try.ntmps26
    go_upto_region 1 with fail
    rw [← HW1.out, ← EQ.out]
    go_wp2_with fail
    refine HC.out.mono ?_
    intro e w3 h3
    have HE := Lib.hid (ro_pre HB1.out h3)
    obtain ⟨v3, rfl, -, -⟩ := h3
    go_wp2_with fail
    exact bodyPost_ret (v := .tuple #[v3, .int .i64 (ren T o.i o.n).2]) (by simp [results, Try.results26, go_sem]) rfl HE.out
  have hk1 : (o.k == 1) = false := by simpa using h1
  by_cases h2 : o.k = 2
  · have HST := Lib.hid (stp_2 (T := T) h2)
    have hk2 : (o.k == 2) = true := by simpa using h2
    have HC := Lib.hid (rclose_any (c := c) HR1.out HG.out o.i)
    rw [HST.out]
    clear h0 h1 h2
    go_enter Try.func26, Try.ntmps26
    go_upto_region 1 with fail
    rw [← HW1.out, ← EQ.out]
    go_wp2_with fail
    refine HC.out.mono ?_
    intro e w3 h3
    have HE := Lib.hid (ro_pre HB1.out h3)
    obtain ⟨v3, rfl, -, -⟩ := h3
    go_wp2_with fail
    exact bodyPost_ret (v := .tuple #[v3, .int .i64 (cls T o.i).2]) (by simp [results, Try.results26, go_sem]) rfl HE.out
  have hk2 : (o.k == 2) = false := by simpa using h2
  have HE : Hid (RoPost B (stepE T o) w (.returned (.tuple #[.slice A T.length c, .int .i64 0])) w1) := Lib.hid (ro_same (stp_3 h0 h1 h2) HD.out HB1.out)
  clear h0 h1 h2
  go_enter Try.func26, Try.ntmps26
  go_upto_region 1 with fail
  rw [← HW1.out, ← EQ.out]
  go_wp2_with fail
  exact bodyPost_ret (v := .tuple #[.slice A T.length c, .int .i64 0]) (by simp [results, Try.results26, go_sem]) rfl HE.out
/-! ### Ended -/
set_option maxHeartbeats 8000000 in
theorem rended_any {w : World} {A : Option Addr} {n c : Nat} {T : Tb} (hR : Rd lcell 3 w A n T) (hg : Le.Good T) (now : Int) : Calls Try.prog 19 #[.slice A n c, .int .i64 now] w (EnPost w (endd T now)) := by
  have HR := Lib.hid hR
  have HL := Lib.hid hR.len
  have HG := Lib.hid hg
  have hn1 : n ≤ 100 := by rw [← hR.len]; exact hg.len
  have HTM := Lib.hid (fun W => clock_any now W)
  obtain ⟨t, ht⟩ : ∃ t, okT now = t := ⟨_, rfl⟩
  rw [ht] at HTM
  have HOK := Lib.hid ht
  obtain ⟨i0, hi, hz0, hz1, hz2⟩ := info_parts infoI
  clear hR hg ht
  go_enter Try.func19, Try.ntmps19
  go_wp2_with fail
  cases t with
  | false =>
    have HE : Hid (EnPost w (endd T now) (.returned (.slice none 0 0)) w) := Lib.hid (by
      have : endd T now = [] := by unfold endd; rw [if_neg (by rw [HOK.out]; simp)]
      rw [this]
      exact ⟨none, 0, rfl, by simpa [icells] using World.ownsRow_nil w w.heap.size 3 1, Below.refl _ _⟩)
    go_loopw [5, 6] (fun u i wr => i = .int .i64 0 ∧ u = .slice none 0 0 ∧ wr = w) (fun _ _ _ => 0)
    case atStart => exact ⟨rfl, rfl, rfl⟩
    case round =>
      obtain ⟨rfl, rfl, rfl⟩ := hrel
      by_cases h0 : n = 0
      · have h0' : decide ((0 : Int) < (n : Int)) = false := by rw [decide_eq_false_iff_not]; omega
        have h0'' : decide (0 < n) = false := by rw [decide_eq_false_iff_not]; omega
        clear h0
        go_wp2_with fail
        go_ret
        exact HE.out
      · have h0' : decide ((0 : Int) < (n : Int)) = true := by rw [decide_eq_true_eq]; omega
        have h0'' : decide (0 < n) = true := by rw [decide_eq_true_eq]; omega
        clear h0
        go_wp2_with fail
        refine (HTM.out _).mono ?_
        rintro e w3 ⟨rfl, rfl⟩
        go_wp2_with fail
        go_ret
        exact HE.out
  | true =>
    have HEN : Hid (endd T now = overs T now) := Lib.hid (by unfold endd; rw [if_pos HOK.out])
    go_loopw [5, 6] (fun u i wr => ∃ k : Nat, k ≤ n ∧ i = .int .i64 k ∧ Hid (wr.ownsRow w.heap.size 3 1 u (overs (T.take k) now).length (icells (overs (T.take k) now))) ∧ Hid (Below w.heap.size w wr)) (fun _ i _ => n - (intOf i).toNat)
    case atStart => exact ⟨0, Nat.zero_le _, rfl, Lib.hid (World.ownsRow_nil _ _ _ _), Lib.hid (Below.refl _ _)⟩
    case round =>
      obtain ⟨k, hk, rfl, HO, HX⟩ := hrel
      by_cases hlt : k < n
      · obtain ⟨b, off, x, rfl, hx, hcc⟩ := (HR.out.below HX.out).at hlt
        have c0 : wr.cell? ⟨b, off + k * 3, none⟩ = some (.int .i64 x.i) := hcc 0 _ rfl
        have c1 : wr.cell? ⟨b, off + k * 3 + 1, none⟩ = some (.int .i64 x.s) := hcc 1 _ rfl
        have c2 : wr.cell? ⟨b, off + k * 3 + 2, none⟩ = some (.int .i64 x.l) := hcc 2 _ rfl
        obtain ⟨r, hr⟩ : ∃ r, decide (x.s < now - x.l) = r := ⟨_, rfl⟩
        have HTS : Hid (overs (T.take (k + 1)) now = overs (T.take k) now ++ (if r = true then [x.i] else [])) := Lib.hid (by rw [take_some hx, overs_snoc, show overB now x = r from hr])
        have hwsub := wrap_sub HOK.out (show okT x.l = true by
          have h := HG.out.each x (List.mem_of_getElem? hx)
          unfold okL at h
          simp only [Bool.and_eq_true] at h
          exact h.2)
        have HHX := Lib.hid (fun W (hW : Below wr.heap.size wr W) => (show W.cell? ⟨b, off + k * 3, none⟩ = some (.int .i64 x.i) from (hW.cell (p := ⟨b, off + k * 3, none⟩) (cell_lt c0)).trans c0))
        have hk0 : (0 : Int) ≤ (k : Int) := by omega
        have hki : (k : Int) < (n : Int) := by omega
        have hki' : decide ((k : Int) < (n : Int)) = true := by rw [decide_eq_true_eq]; omega
        have hki'' : decide (k < n) = true := by rw [decide_eq_true_eq]; omega
        have hwk : IntKind.i64.wrap ((k : Int) + 1) = (k : Int) + 1 := by rw [IntKind.wrap_i64]; omega
        clear hx hcc
        go_wp2_with fail
        refine (HTM.out _).mono ?_
        rintro e w3 ⟨rfl, rfl⟩
        go_upto_region 5 with fail
        go_quiet (fail)
        obtain ⟨w4, hw4⟩ : ∃ w4, w4 = wr.drewN nq := ⟨_, rfl⟩
        have hb4 : Below wr.heap.size wr w4 := by rw [hw4]; exact below_drewN (Below.refl _ _) _
        have HW4 := Lib.hid hw4
        rw [← HW4.out]
        have c0 := HHX.out w4 hb4
        have HX4 := Lib.hid (HX.out.trans (hb4.mono HX.out.size))
        have HO4 := Lib.hid (own_below HO.out hb4)
        clear hw4 hb4 c1 c2 hwsub
        cases r with
        | false =>
          go_wp2_with fail
          go_roundw
          case rel => exact ⟨k + 1, by omega, by go_num, Lib.hid (by rw [HTS.out]; simpa using HO4.out), HX4⟩
          case measure => simp [intOf]; omega
        | true =>
          have ho := HO4.out
          have hsz := HX4.out.size
          have htl := overs_len (T.take k) now
          rw [List.length_take] at htl
          go_wp2_with (at_builtin; refine wpList_append_own _ rfl _ _ 41 rfl w.heap.size 3 i0 _ 1 8 Try.underlying41 hi hz0 hz1 hz2 rfl (by decide) _ _ _ rfl (ho.alloc _) ⟨w4.heap.size, 0, none⟩ 1 1 (icell x.i) rfl rfl (World.news_of_block (new_block w4 _)) (icell_one _) (by unfold maxLen at *; omega) (by omega) (by simp; omega) ?_; intro v' w6 hown' hg6 hnil6)
          have HB6 := Lib.hid ((HX4.out.alloc hsz _).grown hg6 (by simp; omega) (fun j hj => (HO4.out.lt j hj).1))
          have HO6 : Hid (w6.ownsRow w.heap.size 3 1 v' (overs (T.take (k + 1)) now).length (icells (overs (T.take (k + 1)) now))) := Lib.hid (by
            rw [HTS.out]
            simp only [if_true]
            rw [icells_append, List.length_append]
            simpa [icells] using hown')
          clear hown' hg6 hnil6 ho htl c0
          go_wp2_with fail
          go_roundw
          case rel => exact ⟨k + 1, by omega, by go_num, HO6, HB6⟩
          case measure => simp [intOf]; omega
      · obtain rfl : k = n := by omega
        have hki : ¬ (k : Int) < (k : Int) := by omega
        have ho := HO.out
        rw [List.take_of_length_le (by rw [HL.out]; exact Nat.le_refl _)] at ho
        obtain ⟨A5, c5, he5, -, -, -⟩ := own_form ho
        have HE : Hid (EnPost w (endd T now) (.returned (.slice A5 (overs T now).length c5)) wr) := Lib.hid (by rw [HEN.out]; subst he5; exact ⟨A5, c5, rfl, ho, HX.out⟩)
        clear ho
        go_wp2_with fail
        subst he5
        go_ret
        exact HE.out
/-! ### Same, SameIds -/
set_option maxHeartbeats 4000000 in
theorem same_any {w : World} {A A2 : Option Addr} {c c2 : Nat} {L : Tb} (h : Rd lcell 3 w A L.length L) (h2 : Rd lcell 3 w A2 L.length L) (hn : L.length ≤ 100000) :
    Calls Try.prog 14 #[.slice A L.length c, .slice A2 L.length c2] w fun e w' => e = .returned (.bool true) ∧ Below w.heap.size w w' := by
  have HR := Lib.hid h
  have HR2 := Lib.hid h2
  clear h h2
  have hgu := guard_neqD
  obtain ⟨n, hnn⟩ : ∃ n, L.length = n := ⟨_, rfl⟩
  rw [hnn] at HR HR2 hn ⊢
  have HN := Lib.hid hnn
  clear hnn
  go_enter Try.func14, Try.ntmps14
  go_wp2_with fail
  go_loopw [5] (fun i wr => ∃ k : Nat, k ≤ n ∧ i = .int .i64 k ∧ Hid (Below w.heap.size w wr)) (fun i _ => n - (intOf i).toNat)
  case atStart => exact ⟨0, Nat.zero_le _, rfl, Lib.hid (Below.refl _ _)⟩
  case round =>
    obtain ⟨k, hk, rfl, HX⟩ := hrel
    by_cases hlt : k < n
    · obtain ⟨b, off, x, rfl, hx, hcc⟩ := (HR.out.below HX.out).at hlt
      obtain ⟨b2, off2, z, rfl, hz, hdd⟩ := (HR2.out.below HX.out).at hlt
      obtain rfl : x = z := Option.some.inj (hx.symm.trans hz)
      have c0 : wr.cell? ⟨b, off + k * 3, none⟩ = some (.int .i64 x.i) := hcc 0 _ rfl
      have c1 : wr.cell? ⟨b, off + k * 3 + 1, none⟩ = some (.int .i64 x.s) := hcc 1 _ rfl
      have c2 : wr.cell? ⟨b, off + k * 3 + 2, none⟩ = some (.int .i64 x.l) := hcc 2 _ rfl
      have d0 : wr.cell? ⟨b2, off2 + k * 3, none⟩ = some (.int .i64 x.i) := hdd 0 _ rfl
      have d1 : wr.cell? ⟨b2, off2 + k * 3 + 1, none⟩ = some (.int .i64 x.s) := hdd 1 _ rfl
      have d2 : wr.cell? ⟨b2, off2 + k * 3 + 2, none⟩ = some (.int .i64 x.l) := hdd 2 _ rfl
      have hqe := neqD x x
      rw [show (!decide (x = x)) = false by simp] at hqe
      have hk0 : (0 : Int) ≤ (k : Int) := by omega
      have hki : (k : Int) < (n : Int) := by omega
      have hwk : IntKind.i64.wrap ((k : Int) + 1) = (k : Int) + 1 := by rw [IntKind.wrap_i64]; omega
      clear hx hz hcc hdd
      go_upto_region 6 with fail
      go_quiet (fail)
      have HX2 := Lib.hid (below_drewN HX.out nq)
      clear c0 c1 c2 d0 d1 d2 hqe
      go_wp2_with fail
      go_roundw
      case rel => exact ⟨k + 1, by omega, by go_num, HX2⟩
      case measure => simp [intOf]; omega
    · obtain rfl : k = n := by omega
      have hki : ¬ (k : Int) < (k : Int) := by omega
      go_wp2_with fail
      go_ret
      exact ⟨rfl, HX.out⟩
set_option maxHeartbeats 4000000 in
theorem sameids_any {w : World} {A A2 : Option Addr} {c c2 : Nat} {L : List Int} (h : Rd icell 1 w A L.length L) (h2 : Rd icell 1 w A2 L.length L) (hn : L.length ≤ 100000) :
    Calls Try.prog 17 #[.slice A L.length c, .slice A2 L.length c2] w fun e w' => e = .returned (.bool true) ∧ Below w.heap.size w w' := by
  have HR := Lib.hid h
  have HR2 := Lib.hid h2
  clear h h2
  obtain ⟨n, hnn⟩ : ∃ n, L.length = n := ⟨_, rfl⟩
  rw [hnn] at HR HR2 hn ⊢
  have HN := Lib.hid hnn
  clear hnn
  go_enter Try.func17, Try.ntmps17
  go_wp2_with fail
  go_loopw [5] (fun i wr => ∃ k : Nat, k ≤ n ∧ i = .int .i64 k ∧ Hid (Below w.heap.size w wr)) (fun i _ => n - (intOf i).toNat)
  case atStart => exact ⟨0, Nat.zero_le _, rfl, Lib.hid (Below.refl _ _)⟩
  case round =>
    obtain ⟨k, hk, rfl, HX⟩ := hrel
    by_cases hlt : k < n
    · obtain ⟨b, off, x, rfl, hx, hcc⟩ := (HR.out.below HX.out).at hlt
      obtain ⟨b2, off2, z, rfl, hz, hdd⟩ := (HR2.out.below HX.out).at hlt
      obtain rfl : x = z := Option.some.inj (hx.symm.trans hz)
      have c0 : wr.cell? ⟨b, off + k, none⟩ = some (.int .i64 x) := by have := hcc 0 _ rfl; simpa using this
      have d0 : wr.cell? ⟨b2, off2 + k, none⟩ = some (.int .i64 x) := by have := hdd 0 _ rfl; simpa using this
      have hk0 : (0 : Int) ≤ (k : Int) := by omega
      have hki : (k : Int) < (n : Int) := by omega
      have hwk : IntKind.i64.wrap ((k : Int) + 1) = (k : Int) + 1 := by rw [IntKind.wrap_i64]; omega
      have hxx : (x != x) = false := by simp
      clear hx hz hcc hdd
      go_upto_region 6 with fail
      go_quiet (fail)
      have HX2 := Lib.hid (below_drewN HX.out nq)
      clear c0 d0
      go_wp2_with fail
      go_roundw
      case rel => exact ⟨k + 1, by omega, by go_num, HX2⟩
      case measure => simp [intOf]; omega
    · obtain rfl : k = n := by omega
      have hki : ¬ (k : Int) < (k : Int) := by omega
      go_wp2_with fail
      go_ret
      exact ⟨rfl, HX.out⟩
end Go.Proofs.Ytocobanallohjaa
