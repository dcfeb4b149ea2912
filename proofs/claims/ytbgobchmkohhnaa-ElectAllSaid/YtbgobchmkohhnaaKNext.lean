/-
  What Primary and Next return, and the document's Quorum, Primary, Next. No condition.
-/
import Derived.Test.YtbgobchmkohhnaaKSmall
namespace Go.Proofs.Ytbgobchmkohhnaa
set_option maxRecDepth 100000
open Go.ChangeShapes Go.WideShapes Go.ChangeAt Go.RowKit Go.Proofs.Rk

theorem rprimary_any (v m : Int) (w : World) : Calls Try.prog 23 #[.int .i64 v, .int .i64 m] w fun e w' => e = .returned (.int .i64 (pri v m)) ∧ w = w' := by
  obtain ⟨t1, h1⟩ : ∃ t, decide (m < 1) = t := ⟨_, rfl⟩
  obtain ⟨t2, h2⟩ : ∃ t, decide (7 < m) = t := ⟨_, rfl⟩
  obtain ⟨t3, h3⟩ : ∃ t, decide (v < 0) = t := ⟨_, rfl⟩
  obtain ⟨t4, h4⟩ : ∃ t, decide (4611686018427387904 < v) = t := ⟨_, rfl⟩
  have HQ : Hid (pri v m = if t1 || t2 || t3 || t4 then -1 else v % m) := Lib.hid (by
    rw [← h1, ← h2, ← h3, ← h4]
    unfold pri isV isG
    by_cases a : (0 ≤ v ∧ v ≤ 4611686018427387904) ∧ 1 ≤ m ∧ m ≤ 7
    · rw [if_pos (by simp; exact ⟨a.1, a.2⟩), if_neg (by simp; omega)]
    · rw [if_neg (by simp; omega), if_pos (by simp; omega)])
  cases t1 with
  | true =>
    go_enter Try.func23, Try.ntmps23
    go_wp2_with fail
    go_ret
    exact ⟨ret_i (by rw [HQ.out]; simp), rfl⟩
  | false =>
    cases t2 with
    | true =>
      go_enter Try.func23, Try.ntmps23
      go_wp2_with fail
      go_ret
      exact ⟨ret_i (by rw [HQ.out]; simp), rfl⟩
    | false =>
      cases t3 with
      | true =>
        go_enter Try.func23, Try.ntmps23
        go_wp2_with fail
        go_ret
        exact ⟨ret_i (by rw [HQ.out]; simp), rfl⟩
      | false =>
        cases t4 with
        | true =>
          go_enter Try.func23, Try.ntmps23
          go_wp2_with fail
          go_ret
          exact ⟨ret_i (by rw [HQ.out]; simp), rfl⟩
        | false =>
          have hm1 : 1 ≤ m := by simpa using h1
          have hm2 : m ≤ 7 := by simpa using h2
          have hv1 : 0 ≤ v := by simpa using h3
          have hv2 : v ≤ 4611686018427387904 := by simpa using h4
          have hr : IntKind.i64.wrap (Int.tmod v m) = v % m := by
            rw [Int.tmod_eq_emod_of_nonneg hv1, IntKind.wrap_i64]
            have h1 := Int.emod_nonneg v (show m ≠ 0 by omega)
            have h2 := Int.emod_lt_of_pos v (show 0 < m by omega)
            omega
          have hr2 : Int.tmod v m = v % m := Int.tmod_eq_emod_of_nonneg hv1
          go_enter Try.func23, Try.ntmps23
          go_wp2_with fail
          go_ret
          exact ⟨ret_i (by rw [HQ.out]; simp), rfl⟩
theorem rquorum_any (m : Int) (w : World) : Calls Try.prog 20 #[.int .i64 m] w fun e w' => e = .returned (.int .i64 (quo m)) ∧ w = w' := by
  obtain ⟨t1, h1⟩ : ∃ t, decide (m < 1) = t := ⟨_, rfl⟩
  obtain ⟨t2, h2⟩ : ∃ t, decide (7 < m) = t := ⟨_, rfl⟩
  cases t1 with
  | true =>
    have HE : Hid ((0 : Int) = quo m) := Lib.hid (by unfold quo isG; rw [if_neg (by simp at h1 ⊢; omega)])
    go_enter Try.func20, Try.ntmps20
    go_wp2_with fail
    go_ret
    exact ⟨ret_i HE.out, rfl⟩
  | false =>
    cases t2 with
    | true =>
      have HE : Hid ((0 : Int) = quo m) := Lib.hid (by unfold quo isG; rw [if_neg (by simp at h2 ⊢; omega)])
      go_enter Try.func20, Try.ntmps20
      go_wp2_with fail
      go_ret
      exact ⟨ret_i HE.out, rfl⟩
    | false =>
      have hm1 : 1 ≤ m := by simpa using h1
      have hm2 : m ≤ 7 := by simpa using h2
      have HQ : Hid (quo m = m / 2 + 1) := Lib.hid (by unfold quo isG; rw [if_pos (by simp; omega)])
      go_enter Try.func20, Try.ntmps20
      go_wp2_with fail
      clear h1 h2
      go_loop [3] (fun u => ∃ k : Int, u = .int .i64 k ∧ 1 ≤ k ∧ 2 * (k - 1) ≤ m) (fun u => (m + 1 - intOf u).toNat)
      case atStart => exact ⟨1, rfl, by omega, by omega⟩
      case round =>
        obtain ⟨k, rfl, hk1, hk2⟩ := hrel
        by_cases hlt : 2 * k ≤ m
        · go_wp2_with fail
          go_round
          case rel => exact ⟨k + 1, by go_num, by omega, by omega⟩
          case measure => simp [intOf]; omega
        · go_wp2_with fail
          go_ret
          exact ⟨ret_i (by rw [HQ.out]; omega), rfl⟩
theorem dec_le (a b : Int) : decide (a ≤ b) = !decide (b < a) := by by_cases h : a ≤ b <;> simp [h] <;> omega
theorem dec_lt (a b : Int) : decide (a < b) = !decide (b ≤ a) := by by_cases h : a < b <;> simp [h] <;> omega
def ret2 (v : Int) (b : Bool) : Ending := .returned (.tuple #[.int .i64 v, .bool b])
theorem nx_no {v s m : Int} (h : has v s m = false) : Ending.returned (.tuple #[.int .i64 0, .bool false]) = ret2 (nxt v s m) (has v s m) := by
  unfold ret2 nxt
  unfold has at h ⊢
  rw [h, if_neg (by simp)]
theorem nx_yes {v s m x : Int} (h : has v s m = true) (hx : x = nstep v s m) : Ending.returned (.tuple #[.int .i64 x, .bool true]) = ret2 (nxt v s m) (has v s m) := by
  unfold ret2 nxt
  unfold has at h ⊢
  rw [h, if_pos rfl, hx]
theorem has_unf (v s m : Int) : has v s m = (isV v && isG m && decide (0 ≤ s) && decide (s < m) && isV (nstep v s m)) := rfl
set_option maxHeartbeats 4000000 in
theorem next_any (v s m : Int) (w : World) : Calls Try.prog 22 #[.int .i64 v, .int .i64 s, .int .i64 m] w fun e w' => e = ret2 (nxt v s m) (has v s m) ∧ w = w' := by
  have HV := Lib.hid (fun W => isview_any v W)
  have HG := Lib.hid (fun W => isgroup_any m W)
  have HV2 := Lib.hid (fun W => isview_any (nstep v s m) W)
  obtain ⟨a, ha⟩ : ∃ a, isV v = a := ⟨_, rfl⟩
  obtain ⟨g, hg⟩ : ∃ g, isG m = g := ⟨_, rfl⟩
  obtain ⟨t1, h1⟩ : ∃ t, decide (s < 0) = t := ⟨_, rfl⟩
  obtain ⟨t2, h2⟩ : ∃ t, decide (m ≤ s) = t := ⟨_, rfl⟩
  obtain ⟨z, hz⟩ : ∃ z, isV (nstep v s m) = z := ⟨_, rfl⟩
  have HH : Hid (has v s m = (a && g && !t1 && !t2 && z)) := Lib.hid (by
    rw [has_unf, ha, hg, hz, ← h1, ← h2]
    rw [dec_le 0 s, dec_lt s m])
  rw [ha] at HV
  rw [hg] at HG
  rw [hz] at HV2
  cases a with
  | false =>
    have HF : Hid (has v s m = false) := Lib.hid (by rw [HH.out]; simp)
    clear ha hg hz
    go_enter Try.func22, Try.ntmps22
    go_wp2_with fail
    refine (HV.out _).mono ?_
    rintro e w2 ⟨rfl, rfl⟩
    go_wp2_with fail
    exact bodyPost_ret (v := .tuple #[.int .i64 0, .bool false]) (by simp [results, Try.results22, go_sem]) rfl ⟨nx_no HF.out, rfl⟩
  | true =>
    cases g with
    | false =>
      have HF : Hid (has v s m = false) := Lib.hid (by rw [HH.out]; simp)
      clear ha hg hz
      go_enter Try.func22, Try.ntmps22
      go_wp2_with fail
      refine (HV.out _).mono ?_
      rintro e w2 ⟨rfl, rfl⟩
      go_wp2_with fail
      refine (HG.out _).mono ?_
      rintro e w2 ⟨rfl, rfl⟩
      go_wp2_with fail
      exact bodyPost_ret (v := .tuple #[.int .i64 0, .bool false]) (by simp [results, Try.results22, go_sem]) rfl ⟨nx_no HF.out, rfl⟩
    | true =>
      cases t1 with
      | true =>
        have HF : Hid (has v s m = false) := Lib.hid (by rw [HH.out]; simp)
        clear ha hg hz
        go_enter Try.func22, Try.ntmps22
        go_wp2_with fail
        refine (HV.out _).mono ?_
        rintro e w2 ⟨rfl, rfl⟩
        go_wp2_with fail
        refine (HG.out _).mono ?_
        rintro e w2 ⟨rfl, rfl⟩
        go_wp2_with fail
        exact bodyPost_ret (v := .tuple #[.int .i64 0, .bool false]) (by simp [results, Try.results22, go_sem]) rfl ⟨nx_no HF.out, rfl⟩
      | false =>
        cases t2 with
        | true =>
          have HF : Hid (has v s m = false) := Lib.hid (by rw [HH.out]; simp)
          clear ha hg hz
          go_enter Try.func22, Try.ntmps22
          go_wp2_with fail
          refine (HV.out _).mono ?_
          rintro e w2 ⟨rfl, rfl⟩
          go_wp2_with fail
          refine (HG.out _).mono ?_
          rintro e w2 ⟨rfl, rfl⟩
          go_wp2_with fail
          exact bodyPost_ret (v := .tuple #[.int .i64 0, .bool false]) (by simp [results, Try.results22, go_sem]) rfl ⟨nx_no HF.out, rfl⟩
        | false =>
          have hv : 0 ≤ v ∧ v ≤ 4611686018427387904 := by simpa [isV] using ha
          obtain ⟨hv1, hv2⟩ := hv
          have hs0 : 0 ≤ s := by simpa using h1
          have hs1 : s < m := by simpa using h2
          have hw1 : IntKind.i64.wrap (v + 1) = v + 1 := by rw [IntKind.wrap_i64]; omega
          have hm : 1 ≤ m ∧ m ≤ 7 := by rcases isG_cases hg with h | h | h | h | h | h | h <;> omega
          obtain ⟨hm1, hm2⟩ := hm
          obtain ⟨d, hd⟩ : ∃ d, (v + 1) % m = d := ⟨_, rfl⟩
          have hd0 : 0 ≤ d := by rw [← hd]; exact Int.emod_nonneg _ (by omega)
          have hd1 : d < m := by rw [← hd]; exact Int.emod_lt_of_pos _ (by omega)
          obtain ⟨q, hq⟩ : ∃ q, (s + m - d) % m = q := ⟨_, rfl⟩
          have hq0 : 0 ≤ q := by rw [← hq]; exact Int.emod_nonneg _ (by omega)
          have hq1 : q < m := by rw [← hq]; exact Int.emod_lt_of_pos _ (by omega)
          have hst : nstep v s m = v + 1 + q := by unfold nstep; rw [hd, hq]
          have hr1 : Int.tmod (v + 1) m = d := by rw [Int.tmod_eq_emod_of_nonneg (by omega)]; exact hd
          have hr2 : Int.tmod (s + m - d) m = q := by rw [Int.tmod_eq_emod_of_nonneg (by omega)]; exact hq
          have hr3 : IntKind.i64.wrap (Int.tmod (v + 1) m) = d := by rw [hr1, IntKind.wrap_i64]; omega
          have hr4 : IntKind.i64.wrap (Int.tmod (s + m - d) m) = q := by rw [hr2, IntKind.wrap_i64]; omega
          rw [hst] at HV2
          have HST := Lib.hid hst
          clear ha hg hz hd hq hst
          go_enter Try.func22, Try.ntmps22
          go_wp2_with fail
          refine (HV.out _).mono ?_
          rintro e w2 ⟨rfl, rfl⟩
          go_wp2_with fail
          refine (HG.out _).mono ?_
          rintro e w2 ⟨rfl, rfl⟩
          go_wp2_with fail
          refine (HV2.out _).mono ?_
          rintro e w2 ⟨rfl, rfl⟩
          cases z with
          | false =>
            have HF : Hid (has v s m = false) := Lib.hid (by rw [HH.out]; simp)
            go_wp2_with fail
            exact bodyPost_ret (v := .tuple #[.int .i64 0, .bool false]) (by simp [results, Try.results22, go_sem]) rfl ⟨nx_no HF.out, rfl⟩
          | true =>
            have HF : Hid (has v s m = true) := Lib.hid (by rw [HH.out]; simp)
            go_wp2_with fail
            exact bodyPost_ret (v := .tuple #[.int .i64 (v + 1 + q), .bool true]) (by simp [results, Try.results22, go_sem]) rfl ⟨nx_yes HF.out HST.out.symm, rfl⟩
set_option maxHeartbeats 4000000 in
theorem rnext_any (v s m : Int) (w : World) : Calls Try.prog 18 #[.int .i64 v, .int .i64 s, .int .i64 m] w fun e w' => e = ret2 (nxt v s m) (has v s m) ∧ w = w' := by
  have HP := Lib.hid (fun u W => rprimary_any u m W)
  obtain ⟨p, hp⟩ : ∃ p, pri v m = p := ⟨_, rfl⟩
  have HP0 := Lib.hid (fun W => rprimary_any v m W)
  rw [hp] at HP0
  obtain ⟨t0, h0⟩ : ∃ t, decide (p < 0) = t := ⟨_, rfl⟩
  obtain ⟨t1, h1⟩ : ∃ t, decide (s < 0) = t := ⟨_, rfl⟩
  obtain ⟨t2, h2⟩ : ∃ t, decide (m ≤ s) = t := ⟨_, rfl⟩
  have HFI : Hid (fits v s m = (!t0 && !t1 && !t2)) := Lib.hid (by
    have e0 : (isV v && isG m) = !t0 := by
      rw [← h0, ← hp]
      unfold pri
      cases e : (isV v && isG m) with
      | false => rw [if_neg (by simp)]; rfl
      | true =>
        rw [if_pos rfl]
        have hg : isG m = true := by simp at e; exact e.2
        have := Int.emod_nonneg v (show m ≠ 0 by rcases isG_cases hg with h | h | h | h | h | h | h <;> omega)
        simp; omega
    unfold fits
    rw [e0, ← h1, ← h2]
    rw [dec_le 0 s, dec_lt s m])
  cases t0 with
  | true =>
    have HF : Hid (has v s m = false) := Lib.hid (by unfold has; rw [HFI.out]; simp)
    clear hp
    go_enter Try.func18, Try.ntmps18
    go_wp2_with fail
    refine (HP0.out _).mono ?_
    rintro e w2 ⟨rfl, rfl⟩
    go_wp2_with fail
    exact bodyPost_ret (v := .tuple #[.int .i64 0, .bool false]) (by simp [results, Try.results18, go_sem]) rfl ⟨nx_no HF.out, rfl⟩
  | false =>
    cases t1 with
    | true =>
      have HF : Hid (has v s m = false) := Lib.hid (by unfold has; rw [HFI.out]; simp)
      clear hp
      go_enter Try.func18, Try.ntmps18
      go_wp2_with fail
      refine (HP0.out _).mono ?_
      rintro e w2 ⟨rfl, rfl⟩
      go_wp2_with fail
      exact bodyPost_ret (v := .tuple #[.int .i64 0, .bool false]) (by simp [results, Try.results18, go_sem]) rfl ⟨nx_no HF.out, rfl⟩
    | false =>
      cases t2 with
      | true =>
        have HF : Hid (has v s m = false) := Lib.hid (by unfold has; rw [HFI.out]; simp)
        clear hp
        go_enter Try.func18, Try.ntmps18
        go_wp2_with fail
        refine (HP0.out _).mono ?_
        rintro e w2 ⟨rfl, rfl⟩
        go_wp2_with fail
        exact bodyPost_ret (v := .tuple #[.int .i64 0, .bool false]) (by simp [results, Try.results18, go_sem]) rfl ⟨nx_no HF.out, rfl⟩
      | false =>
        have HFT : Hid (fits v s m = true) := Lib.hid (by rw [HFI.out]; simp)
        have HS := Lib.hid (nstep_mod HFT.out)
        have hv : 0 ≤ v ∧ v ≤ 4611686018427387904 := by
          have := HFT.out
          unfold fits isV at this
          simp at this
          omega
        obtain ⟨hv1, hv2⟩ := hv
        have HG : Hid (isG m = true) := Lib.hid (by have := HFT.out; unfold fits at this; simp at this; exact this.1.1.2)
        have hw1 : IntKind.i64.wrap (v + 1) = v + 1 := by rw [IntKind.wrap_i64]; omega
        clear hp
        go_enter Try.func18, Try.ntmps18
        go_wp2_with fail
        refine (HP0.out _).mono ?_
        rintro e w2 ⟨rfl, rfl⟩
        go_wp2_with fail
        go_loop [8] (fun u => ∃ k : Int, u = .int .i64 k ∧ v < k ∧ k ≤ 4611686018427387905 ∧ k ≤ nstep v s m) (fun u => (4611686018427387906 - intOf u).toNat)
        case atStart => exact ⟨v + 1, rfl, by omega, by omega, by have := HS.out; omega⟩
        case round =>
          obtain ⟨k, rfl, hk1, hk2, hk3⟩ := hrel
          by_cases hlt : k ≤ 4611686018427387904
          · have HPK : Hid (pri k m = k % m) := Lib.hid (by unfold pri; rw [if_pos (by rw [HG.out]; simp [isV]; omega)])
            have HC := Lib.hid (fun W => rprimary_any k m W)
            rw [HPK.out] at HC
            by_cases he : k % m = s
            · have HX : Hid (k = nstep v s m) := Lib.hid (by
                by_cases e : k = nstep v s m
                · exact e
                · exact absurd he (HS.out.2.2.2 k hk1 (by omega)))
              have HF : Hid (has v s m = true) := Lib.hid (by unfold has; rw [HFT.out, ← HX.out]; simp [isV]; omega)
              rw [he] at HC
              clear he
              go_wp2_with fail
              refine (HC.out _).mono ?_
              rintro e w2 ⟨rfl, rfl⟩
              go_wp2_with fail
              exact bodyPost_ret (v := .tuple #[.int .i64 k, .bool true]) (by simp [results, Try.results18, go_sem]) rfl ⟨nx_yes HF.out HX.out, rfl⟩
            · have HX : Hid (k + 1 ≤ nstep v s m) := Lib.hid (by
                by_cases e : k = nstep v s m
                · exact absurd (by rw [e]; exact HS.out.1) he
                · omega)
              obtain ⟨y, hy⟩ : ∃ y, k % m = y := ⟨_, rfl⟩
              rw [hy] at HC he
              have hwk : IntKind.i64.wrap (k + 1) = k + 1 := by rw [IntKind.wrap_i64]; omega
              clear hy
              go_wp2_with fail
              refine (HC.out _).mono ?_
              rintro e w2 ⟨rfl, rfl⟩
              go_wp2_with fail
              go_round
              case rel => exact ⟨k + 1, rfl, by omega, by omega, HX.out⟩
              case measure => simp [intOf]; omega
          · have HF : Hid (has v s m = false) := Lib.hid (by unfold has isV; simp; intro _; omega)
            go_wp2_with fail
            exact bodyPost_ret (v := .tuple #[.int .i64 0, .bool false]) (by simp [results, Try.results18, go_sem]) rfl ⟨nx_no HF.out, rfl⟩
end Go.Proofs.Ytbgobchmkohhnaa
