/-
  What the document's Punch returns. No condition.
-/
import Derived.Test.YtoallenigfbkpaaTDoc4
namespace Go.Proofs.Ytoallenigfbkpaa
set_option maxRecDepth 100000
open Go.ChangeShapes Go.WideShapes Go.ChangeAt Go.RowKit Go.Proofs.Sg

theorem bs_zero (f : Byt) {P t n : Nat} (h : t < n) (hP : P ≤ t) : spl (bs (zF f P t) n) t [0] = bs (zF f P (t + 1)) n := by
  rw [← bs_write (b := [0]) (by simp; omega)]
  refine bs_congr (fun i hi => ?_)
  unfold wF zF
  by_cases h1 : i = t
  · subst h1
    rw [if_pos (by simp), if_pos (by omega)]; simp
  · rw [if_neg (by simp; omega)]
    by_cases h2 : P ≤ i ∧ i < t
    · rw [if_pos h2, if_pos (by omega)]
    · rw [if_neg h2, if_neg (by omega)]
set_option maxHeartbeats 8000000 in
theorem rpunch_any {w : World} {A A2 : Option Addr} {c c2 : Nat} {S : Sh} (hD : DF w A c A2 c2 S) (hg : GoodS S) (p m : Int) (hp : p ≤ 9223372036854775807) :
    Calls Try.prog 37 #[dv A S.n c A2 S.K.length c2, .int .i64 p, .int .i64 m] w (DoPost w (punchI S p m) (ft p m)) := by
  obtain ⟨w2, hw2, hb2, hq, hr, hs2⟩ := two_box w (.cells #[.slice A S.n c, .slice A2 S.K.length c2] 30) (.cells #[.slice none 0 0, .slice none 0 0] 30)
  obtain ⟨q, eq⟩ : ∃ q, q = w.heap.size := ⟨_, rfl⟩
  obtain ⟨r, er⟩ : ∃ r, r = w.heap.size + 1 := ⟨_, rfl⟩
  rw [← eq] at hq
  rw [← er] at hr
  have HD := Lib.hid (hD.below hb2)
  have HQ := Lib.hid hq
  have HRB := Lib.hid hr
  have HW2 := Lib.hid hw2
  have EQ := Lib.hid eq
  have ER := Lib.hid er
  have HB2 := Lib.hid hb2
  have HRW : Hid (w.heap.size ≤ r ∧ r < w2.heap.size ∧ q < w2.heap.size) := Lib.hid (by omega)
  have hlim := hg.lim
  have HG := Lib.hid hg
  have HLIM := Lib.hid hlim
  have HKM : Hid (∀ k ∈ S.K, k < 65536) := Lib.hid (fun k hk => by have := hg.key k hk; omega)
  unfold dv
  clear hD hw2 eq er hb2 hq hr hs2
  by_cases h0 : p < 0
  · have h0' : decide (p < 0) = true := by simpa using h0
    have hff : ft p m = false := by
      have : ¬ ft p m = true := fun h => by have := ft_iff.1 h; omega
      simpa using this
    have HSS : Hid (punchI S p m = S) := Lib.hid (by unfold punchI; rw [hff]; simp)
    rw [HSS.out, hff]
    clear hff h0
    have q0 := cell_of HQ.out (j := 0) rfl
    have q1 := cell_of HQ.out (j := 1) rfl
    have hr9 : w2.heap[r]? = some (.cells #[.slice none 0 0, .slice none 0 0] 30 (0, 0)) := by first | exact HRB.out | exact blk_below HRB.out (by first | exact Below.refl _ _ | exact Below.refl _ _)
    obtain ⟨w9, hw9⟩ : ∃ x, x = ((w2.setCell ⟨r, 0, none⟩ (.slice A S.n c)).setCell ⟨r, 1, none⟩ (.slice A2 S.K.length c2)) := ⟨_, rfl⟩
    obtain ⟨hwr9, hk9⟩ := set_two hr9 (.slice A S.n c) (.slice A2 S.K.length c2)
    rw [← hw9] at hwr9 hk9
    have r0 := cell_of hr9 (j := 0) rfl
    have r1 := cell_of hr9 (j := 1) rfl
    have g0 := frozen_of_row w2 r 0 _ _ hr9
    have g1 := frozen_of_row w2 r 1 _ _ hr9
    have HE : Hid (DoPost w S false (.returned (.tuple #[.agg #[.slice A S.n c, .slice A2 S.K.length c2], .bool false])) w9) := Lib.hid ⟨_, _, _, _, rfl, (HD.out).wr hwr9 hr9, (HB2.out.trans ((by first | exact Below.refl _ _ | exact Below.refl _ _ : Below w2.heap.size w2 w2).mono HB2.out.size)).trans (hwr9.below.mono HRW.out.1)⟩
    have z0 := cell_of hk9 (j := 0) rfl
    have z1 := cell_of hk9 (j := 1) rfl
    have HW9 := Lib.hid hw9
    clear hr9 hw9 hwr9 hk9
    go_enter Try.func37, Try.ntmps37
    go_upto_region 1 with fail
    rw [← HW2.out, ← ER.out, ← EQ.out]
    go_wp2_with fail
    rw [← HW9.out]
    (try go_wp2_with fail)
    exact bodyPost_ret (v := .tuple #[.agg #[.slice A S.n c, .slice A2 S.K.length c2], .bool false]) (by simp [results, Try.results37, go_sem, z0, z1]) rfl HE.out
  have h0' : decide (p < 0) = false := by simpa using h0
  by_cases h1 : m < 0
  · have h1' : decide (m < 0) = true := by simpa using h1
    have hff : ft p m = false := by
      have : ¬ ft p m = true := fun h => by have := ft_iff.1 h; omega
      simpa using this
    have HSS : Hid (punchI S p m = S) := Lib.hid (by unfold punchI; rw [hff]; simp)
    rw [HSS.out, hff]
    clear hff h0 h1
    have q0 := cell_of HQ.out (j := 0) rfl
    have q1 := cell_of HQ.out (j := 1) rfl
    have hr9 : w2.heap[r]? = some (.cells #[.slice none 0 0, .slice none 0 0] 30 (0, 0)) := by first | exact HRB.out | exact blk_below HRB.out (by first | exact Below.refl _ _ | exact Below.refl _ _)
    obtain ⟨w9, hw9⟩ : ∃ x, x = ((w2.setCell ⟨r, 0, none⟩ (.slice A S.n c)).setCell ⟨r, 1, none⟩ (.slice A2 S.K.length c2)) := ⟨_, rfl⟩
    obtain ⟨hwr9, hk9⟩ := set_two hr9 (.slice A S.n c) (.slice A2 S.K.length c2)
    rw [← hw9] at hwr9 hk9
    have r0 := cell_of hr9 (j := 0) rfl
    have r1 := cell_of hr9 (j := 1) rfl
    have g0 := frozen_of_row w2 r 0 _ _ hr9
    have g1 := frozen_of_row w2 r 1 _ _ hr9
    have HE : Hid (DoPost w S false (.returned (.tuple #[.agg #[.slice A S.n c, .slice A2 S.K.length c2], .bool false])) w9) := Lib.hid ⟨_, _, _, _, rfl, (HD.out).wr hwr9 hr9, (HB2.out.trans ((by first | exact Below.refl _ _ | exact Below.refl _ _ : Below w2.heap.size w2 w2).mono HB2.out.size)).trans (hwr9.below.mono HRW.out.1)⟩
    have z0 := cell_of hk9 (j := 0) rfl
    have z1 := cell_of hk9 (j := 1) rfl
    have HW9 := Lib.hid hw9
    clear hr9 hw9 hwr9 hk9
    go_enter Try.func37, Try.ntmps37
    go_upto_region 1 with fail
    rw [← HW2.out, ← ER.out, ← EQ.out]
    go_wp2_with fail
    rw [← HW9.out]
    (try go_wp2_with fail)
    exact bodyPost_ret (v := .tuple #[.agg #[.slice A S.n c, .slice A2 S.K.length c2], .bool false]) (by simp [results, Try.results37, go_sem, z0, z1]) rfl HE.out
  have h1' : decide (m < 0) = false := by simpa using h1
  by_cases h2 : 1048576 < m
  · have h2' : decide (1048576 < m) = true := by simpa using h2
    have hff : ft p m = false := by
      have : ¬ ft p m = true := fun h => by have := ft_iff.1 h; omega
      simpa using this
    have HSS : Hid (punchI S p m = S) := Lib.hid (by unfold punchI; rw [hff]; simp)
    rw [HSS.out, hff]
    clear hff h0 h1 h2
    have q0 := cell_of HQ.out (j := 0) rfl
    have q1 := cell_of HQ.out (j := 1) rfl
    have hr9 : w2.heap[r]? = some (.cells #[.slice none 0 0, .slice none 0 0] 30 (0, 0)) := by first | exact HRB.out | exact blk_below HRB.out (by first | exact Below.refl _ _ | exact Below.refl _ _)
    obtain ⟨w9, hw9⟩ : ∃ x, x = ((w2.setCell ⟨r, 0, none⟩ (.slice A S.n c)).setCell ⟨r, 1, none⟩ (.slice A2 S.K.length c2)) := ⟨_, rfl⟩
    obtain ⟨hwr9, hk9⟩ := set_two hr9 (.slice A S.n c) (.slice A2 S.K.length c2)
    rw [← hw9] at hwr9 hk9
    have r0 := cell_of hr9 (j := 0) rfl
    have r1 := cell_of hr9 (j := 1) rfl
    have g0 := frozen_of_row w2 r 0 _ _ hr9
    have g1 := frozen_of_row w2 r 1 _ _ hr9
    have HE : Hid (DoPost w S false (.returned (.tuple #[.agg #[.slice A S.n c, .slice A2 S.K.length c2], .bool false])) w9) := Lib.hid ⟨_, _, _, _, rfl, (HD.out).wr hwr9 hr9, (HB2.out.trans ((by first | exact Below.refl _ _ | exact Below.refl _ _ : Below w2.heap.size w2 w2).mono HB2.out.size)).trans (hwr9.below.mono HRW.out.1)⟩
    have z0 := cell_of hk9 (j := 0) rfl
    have z1 := cell_of hk9 (j := 1) rfl
    have HW9 := Lib.hid hw9
    clear hr9 hw9 hwr9 hk9
    go_enter Try.func37, Try.ntmps37
    go_upto_region 1 with fail
    rw [← HW2.out, ← ER.out, ← EQ.out]
    go_wp2_with fail
    rw [← HW9.out]
    (try go_wp2_with fail)
    exact bodyPost_ret (v := .tuple #[.agg #[.slice A S.n c, .slice A2 S.K.length c2], .bool false]) (by simp [results, Try.results37, go_sem, z0, z1]) rfl HE.out
  have h2' : decide (1048576 < m) = false := by simpa using h2
  obtain ⟨s, hs⟩ : ∃ s : Int, 1048576 - m = s := ⟨_, rfl⟩
  have hws : IntKind.i64.wrap (1048576 - m) = s := by rw [IntKind.wrap_i64]; omega
  by_cases h3 : s < p
  · have h3' : decide (s < p) = true := by simpa using h3
    have hff : ft p m = false := by
      have : ¬ ft p m = true := fun h => by have := ft_iff.1 h; omega
      simpa using this
    have HSS : Hid (punchI S p m = S) := Lib.hid (by unfold punchI; rw [hff]; simp)
    rw [HSS.out, hff]
    clear hff h0 h1 h2 h3 hs
    have q0 := cell_of HQ.out (j := 0) rfl
    have q1 := cell_of HQ.out (j := 1) rfl
    have hr9 : w2.heap[r]? = some (.cells #[.slice none 0 0, .slice none 0 0] 30 (0, 0)) := by first | exact HRB.out | exact blk_below HRB.out (by first | exact Below.refl _ _ | exact Below.refl _ _)
    obtain ⟨w9, hw9⟩ : ∃ x, x = ((w2.setCell ⟨r, 0, none⟩ (.slice A S.n c)).setCell ⟨r, 1, none⟩ (.slice A2 S.K.length c2)) := ⟨_, rfl⟩
    obtain ⟨hwr9, hk9⟩ := set_two hr9 (.slice A S.n c) (.slice A2 S.K.length c2)
    rw [← hw9] at hwr9 hk9
    have r0 := cell_of hr9 (j := 0) rfl
    have r1 := cell_of hr9 (j := 1) rfl
    have g0 := frozen_of_row w2 r 0 _ _ hr9
    have g1 := frozen_of_row w2 r 1 _ _ hr9
    have HE : Hid (DoPost w S false (.returned (.tuple #[.agg #[.slice A S.n c, .slice A2 S.K.length c2], .bool false])) w9) := Lib.hid ⟨_, _, _, _, rfl, (HD.out).wr hwr9 hr9, (HB2.out.trans ((by first | exact Below.refl _ _ | exact Below.refl _ _ : Below w2.heap.size w2 w2).mono HB2.out.size)).trans (hwr9.below.mono HRW.out.1)⟩
    have z0 := cell_of hk9 (j := 0) rfl
    have z1 := cell_of hk9 (j := 1) rfl
    have HW9 := Lib.hid hw9
    clear hr9 hw9 hwr9 hk9
    go_enter Try.func37, Try.ntmps37
    go_upto_region 1 with fail
    rw [← HW2.out, ← ER.out, ← EQ.out]
    go_wp2_with fail
    rw [← HW9.out]
    (try go_wp2_with fail)
    exact bodyPost_ret (v := .tuple #[.agg #[.slice A S.n c, .slice A2 S.K.length c2], .bool false]) (by simp [results, Try.results37, go_sem, z0, z1]) rfl HE.out
  have h3' : decide (s < p) = false := by simpa using h3
  obtain ⟨P, hP⟩ : ∃ P : Nat, p = (P : Int) := ⟨p.toNat, by omega⟩
  obtain ⟨M, hM⟩ : ∃ M : Nat, m = (M : Int) := ⟨m.toNat, by omega⟩
  have hff : ft p m = true := ft_iff.2 (by omega)
  have HSS : Hid (punchI S p m = punchS S P M) := Lib.hid (by unfold punchI; rw [hff, if_pos rfl, hP, hM, Int.toNat_natCast, Int.toNat_natCast])
  rw [HSS.out, hff]
  obtain ⟨y, hy⟩ : ∃ y : Int, p + m = y := ⟨_, rfl⟩
  have hwy : IntKind.i64.wrap (p + m) = y := by rw [IntKind.wrap_i64]; omega
  have HP : Hid (p = (P : Int) ∧ m = (M : Int) ∧ ((P + M : Nat) : Int) = y ∧ P + M ≤ 1048576) := Lib.hid (by omega)
  obtain ⟨i0, hi, hz0, hz1, hz2⟩ := info_parts infoB
  obtain ⟨j0, hj, hy0, hy1, hy2⟩ := info_parts infoI
  have HRD : Hid (Rd bcell 1 (w2.alloc (.cells #[] 5)) A S.n (bs S.f S.n)) := Lib.hid ((HD.out.rdB).below (box_below w2 _))
  have HNIL : Hid (A = none → c = 0) := Lib.hid (own_cap HD.out.bytes)
  have q0 := cell_of (blk_alloc HQ.out (.cells #[] 5)) (j := 0) rfl
  have q0' := cell_of HQ.out (j := 0) rfl
  clear h0 h1 h2 h3 hs hff hP hM hy
  go_enter Try.func37, Try.ntmps37
  go_upto_region 1 with fail
  rw [← HW2.out, ← ER.out, ← EQ.out]
  go_upto_region 4 with (at_builtin; refine wpList_append_rd rfl _ _ 27 rfl w2.heap.size 5 i0 _ 1 1 Try.underlying27 hi hz0 hz1 hz2 rfl (by decide) _ 0 [] rfl (u8_empty w2) A S.n c (bs S.f S.n) rfl HRD.out (fun _ _ => rfl) bcell_one HNIL.out (by have := HLIM.out; unfold maxLen; omega) (by have := HLIM.out; omega) (by simp) ?_; intro v3 w3 hown3 hg3)
  rw [Nat.zero_add, List.nil_append] at hown3
  have HX3 : Hid (Below w2.heap.size w2 w3) := Lib.hid ((box_below w2 (.cells #[] 5)).trans (gb_own (u8_empty w2) hg3 (Nat.le_refl _) (by simp)))
  have HO3 : Hid (w3.ownsRow w2.heap.size 5 1 v3 S.n (bcells (bs S.f S.n))) := Lib.hid hown3
  clear hown3 hg3 q0 q0'
  obtain ⟨Ax, cx, eAx, -, -, hAx⟩ := own_form HO3.out
  subst eAx
  have HAX := Lib.hid hAx
  have HO0 : Hid (w3.ownsRow w2.heap.size 5 1 (.slice Ax S.n cx) S.n (bcells (bs (zF S.f P P) S.n))) := Lib.hid (by rw [zF_none _ (Nat.le_refl _)]; exact HO3.out)
  have hpP := HP.out.1
  subst hpP
  clear hAx HO3
  go_wp2_with fail
  go_loopw [9] (fun i wr => ∃ t : Nat, i = .int .i64 (t : Int) ∧ P ≤ t ∧ t ≤ max P (min (P + M) S.n) ∧ Hid (wr.ownsRow w2.heap.size 5 1 (.slice Ax S.n cx) S.n (bcells (bs (zF S.f P t) S.n))) ∧ Hid (Below w2.heap.size w2 wr)) (fun i _ => P + M - (intOf i).toNat)
  case atStart => exact ⟨P, rfl, Nat.le_refl _, Nat.le_max_left _ _, HO0, HX3⟩
  case round =>
    obtain ⟨t, rfl, ht1, ht2, HO, HX⟩ := hrel
    have hpm := HP.out
    obtain ⟨tI, htI⟩ : ∃ z : Int, (t : Int) = z := ⟨_, rfl⟩
    obtain ⟨nI, hnI⟩ : ∃ z : Int, (S.n : Int) = z := ⟨_, rfl⟩
    by_cases hlt : t < min (P + M) S.n
    · obtain ⟨g, hgx⟩ := HAX.out (by omega)
      subst hgx
      have hl1 : (t : Int) < y := by omega
      have hl2 : (t : Int) < (S.n : Int) := by omega
      have hl0 : (0 : Int) ≤ (t : Int) := by omega
      have e0 := own_cell HO.out t (.int .u8 ((zF S.f P t t).toNat : Int)) (by rw [bcells_get, bs_get _ (by omega)]; rfl)
      obtain ⟨cur, hcur, -, -, -, -, -, -⟩ := own_at HO.out
      have f0 := frozen_of_row wr g t _ _ hcur
      have ho5 := own_set_cells HO.out t (bcells [0]) (by simp [bcells, bcell]; omega)
      rw [bcells_spl, bs_zero _ (by omega) ht1] at ho5
      have HO5 : Hid ((wr.setCell ⟨g, t, none⟩ (.int .u8 0)).ownsRow w2.heap.size 5 1 (.slice (some ⟨g, 0, none⟩) S.n cx) S.n (bcells (bs (zF S.f P (t + 1)) S.n))) := Lib.hid ho5
      have HX5 : Hid (Below w2.heap.size w2 (wr.setCell ⟨g, t, none⟩ (.int .u8 0))) := Lib.hid (HX.out.setCell (HO.out.lt g rfl).1 _)
      have hwt : IntKind.i64.wrap ((t : Int) + 1) = (t : Int) + 1 := by rw [IntKind.wrap_i64]; omega
      have HT : Hid (t < min (P + M) S.n) := Lib.hid hlt
      clear htI hnI hlt hcur ho5 hpm
      go_wp2_with fail
      go_roundw
      case rel => exact ⟨t + 1, by go_num, by omega, by have := HT.out; omega, HO5, HX5⟩
      case measure => simp [intOf]; have := HT.out; omega
    · have HTE : Hid (zF S.f P t = (punchS S P M).f) := Lib.hid (by
        show _ = zF S.f P (min (P + M) S.n)
        by_cases h9 : P ≤ min (P + M) S.n
        · have : t = min (P + M) S.n := by omega
          rw [this]
        · have : t = P := by omega
          rw [this, zF_none _ (Nat.le_refl _), zF_none _ (by omega)])
      have HBR : Hid (wr.ownsRow w2.heap.size 5 1 (.slice Ax S.n cx) S.n (bcells (bs (punchS S P M).f S.n))) := Lib.hid (by rw [← HTE.out]; exact HO.out)
      obtain ⟨w4, hw4⟩ : ∃ w4, w4 = wr := ⟨_, rfl⟩
      subst hw4
      obtain ⟨pr, hpr⟩ : ∃ pr : Nat → Bool, pr = fun k => decide (M = 0) || decide (16 * k < P) || decide (P + M < min (16 * k + 16) S.n) := ⟨_, rfl⟩
      have HPR : Hid (∀ k, pr k = (decide (M = 0) || decide (16 * k < P) || decide (P + M < min (16 * k + 16) S.n))) := Lib.hid (fun k => by rw [hpr])
      have HKE : Hid (S.K.filter pr = (punchS S P M).K) := Lib.hid (by rw [punch_K HG.out, hpr])
      have hmM := HP.out.2.1
      subst hmM
      by_cases hl1 : t < P + M
      · have hl1' : (t : Int) < y := by omega
        have hl2' : ¬ (t : Int) < (S.n : Int) := by omega
        clear hpr htI hnI hlt ht1 ht2 hpm hl1
        go_wp2_with fail
        go_loopw [10, 11] (fun l i wr' => ∃ (d : Nat), d ≤ S.K.length ∧ i = .int .i64 (d : Int) ∧ Hid (wr'.ownsRow w4.heap.size 3 1 l ((S.K.take d).filter pr).length (ncells ((S.K.take d).filter pr))) ∧ Hid (Below w4.heap.size w4 wr')) (fun _ i _ => S.K.length - (intOf i).toNat)
        case atStart => exact ⟨0, Nat.zero_le _, rfl, Lib.hid (World.ownsRow_nil _ _ _ _), Lib.hid (Below.refl _ _)⟩
        case round =>
          obtain ⟨d, hd, rfl, HK, HY⟩ := hrel
          have hy : Below w2.heap.size w2 wr := HX.out.trans (HY.out.mono HX.out.size)
          have q1 := cell_of (blk_below HQ.out hy) (j := 1) rfl
          by_cases hlt : d < S.K.length
          · obtain ⟨b, off, x, rfl, hx, c0⟩ := ncell_get ((HD.out.rdK).below hy) hlt
            have hx6 := HKM.out x (List.mem_of_getElem? hx)
            obtain ⟨d1, hd1⟩ : ∃ d1, d + 1 = d1 := ⟨_, rfl⟩
            have hl6 := srt_len HG.out.srt HKM.out
            have hwd : IntKind.i64.wrap ((d : Int) + 1) = (d1 : Int) := by rw [IntKind.wrap_i64]; omega
            obtain ⟨xI, hxI⟩ : ∃ z : Int, (x : Int) = z := ⟨_, rfl⟩
            obtain ⟨fI, hfI⟩ : ∃ z : Int, 16 * xI = z := ⟨_, rfl⟩
            obtain ⟨eI, heI⟩ : ∃ z : Int, fI + 16 = z := ⟨_, rfl⟩
            have hwf : IntKind.i64.wrap (16 * xI) = fI := by rw [IntKind.wrap_i64]; omega
            have hwe : IntKind.i64.wrap (fI + 16) = eI := by rw [IntKind.wrap_i64]; omega
            rw [hxI] at c0
            have hk0 : (0 : Int) ≤ (d : Int) := by omega
            have hki : (d : Int) < (S.K.length : Int) := by omega
            have HD1 : Hid (d < S.K.length ∧ d + 1 = d1) := Lib.hid ⟨hlt, hd1⟩
            have HFS := Lib.hid (filter_snoc pr hx)
            have hlen : ((S.K.take d).filter pr).length ≤ d := by have := List.length_filter_le pr (S.K.take d); rw [List.length_take] at this; omega
            have HLE : Hid (((S.K.take d).filter pr).length + 1 ≤ 65536) := Lib.hid (by omega)
            have HXI := Lib.hid hxI
            have hyP := HP.out
            by_cases ge : (S.n : Int) < eI
            · have ge' : decide ((S.n : Int) < eI) = true := by simp only [decide_eq_true_eq]; omega
              by_cases g0 : M = 0
              · have g0' : ((M : Int) == 0) = true := by simp only [beq_iff_eq]; omega
                have g0'' : (M == 0) = true := by simp only [beq_iff_eq]; omega
                have HFK : Hid ((S.K.take d1).filter pr = (S.K.take d).filter pr ++ [x]) := Lib.hid (by rw [← hd1, HFS.out, HPR.out, if_pos (by simp only [Bool.or_eq_true, decide_eq_true_eq]; omega)])
                clear hx hx6 hd1 hl6 hxI hfI heI hlt hlen hd hy hyP g0 ge
                go_wp2_with (at_builtin; refine wpList_append_own _ rfl _ _ 28 rfl w4.heap.size 3 j0 _ 1 8 Try.underlying28 hj hy0 hy1 hy2 rfl (by decide) _ ((S.K.take d).filter pr).length (ncells ((S.K.take d).filter pr)) rfl (HK.out.alloc _) ⟨wr.heap.size, 0, none⟩ 1 1 [.int .i64 xI] rfl rfl (World.news_of_block (new_block wr _)) (fun u hu => by rcases List.mem_singleton.1 hu with rfl; rfl) (by have := HLE.out; unfold maxLen; omega) (by have := HLE.out; omega) (by have := HY.out.size; simp; omega) ?_; intro v5 w5 hown' hg5 hnil5)
                have HK5 : Hid (w5.ownsRow w4.heap.size 3 1 v5 ((S.K.take d1).filter pr).length (ncells ((S.K.take d1).filter pr))) := Lib.hid (by
                  rw [HFK.out, ncells_append, List.length_append]
                  have e : ncells [x] = [.int .i64 xI] := by simp [ncells, ncell, HXI.out]
                  rw [e]; exact hown')
                have HY5 : Hid (Below w4.heap.size w4 w5) := Lib.hid ((HY.out.alloc HY.out.size _).grown hg5 (by have := HY.out.size; simp; omega) (fun j hj => (HK.out.lt j hj).1))
                clear hown' hg5 hnil5
                go_roundw
                case rel => exact ⟨d1, by have := HD1.out; omega, rfl, HK5, HY5⟩
                case measure => simp [intOf]; have := HD1.out; omega
              · have g0' : ((M : Int) == 0) = false := by simp only [beq_eq_false_iff_ne]; omega
                have g0'' : (M == 0) = false := by simp only [beq_eq_false_iff_ne]; omega
                by_cases g1 : fI < (P : Int)
                · have g1' : decide (fI < (P : Int)) = true := by simp only [decide_eq_true_eq]; omega
                  have HFK : Hid ((S.K.take d1).filter pr = (S.K.take d).filter pr ++ [x]) := Lib.hid (by rw [← hd1, HFS.out, HPR.out, if_pos (by simp only [Bool.or_eq_true, decide_eq_true_eq]; omega)])
                  clear hx hx6 hd1 hl6 hxI hfI heI hlt hlen hd hy hyP g0 g1 ge
                  go_wp2_with (at_builtin; refine wpList_append_own _ rfl _ _ 28 rfl w4.heap.size 3 j0 _ 1 8 Try.underlying28 hj hy0 hy1 hy2 rfl (by decide) _ ((S.K.take d).filter pr).length (ncells ((S.K.take d).filter pr)) rfl (HK.out.alloc _) ⟨wr.heap.size, 0, none⟩ 1 1 [.int .i64 xI] rfl rfl (World.news_of_block (new_block wr _)) (fun u hu => by rcases List.mem_singleton.1 hu with rfl; rfl) (by have := HLE.out; unfold maxLen; omega) (by have := HLE.out; omega) (by have := HY.out.size; simp; omega) ?_; intro v5 w5 hown' hg5 hnil5)
                  have HK5 : Hid (w5.ownsRow w4.heap.size 3 1 v5 ((S.K.take d1).filter pr).length (ncells ((S.K.take d1).filter pr))) := Lib.hid (by
                    rw [HFK.out, ncells_append, List.length_append]
                    have e : ncells [x] = [.int .i64 xI] := by simp [ncells, ncell, HXI.out]
                    rw [e]; exact hown')
                  have HY5 : Hid (Below w4.heap.size w4 w5) := Lib.hid ((HY.out.alloc HY.out.size _).grown hg5 (by have := HY.out.size; simp; omega) (fun j hj => (HK.out.lt j hj).1))
                  clear hown' hg5 hnil5
                  go_roundw
                  case rel => exact ⟨d1, by have := HD1.out; omega, rfl, HK5, HY5⟩
                  case measure => simp [intOf]; have := HD1.out; omega
                · have g1' : decide (fI < (P : Int)) = false := by simp only [decide_eq_false_iff_not]; omega
                  by_cases g2 : y < (S.n : Int)
                  · exfalso; omega
                  · have g2' : decide (y < (S.n : Int)) = false := by simp only [decide_eq_false_iff_not]; omega
                    have HK5 : Hid (wr.ownsRow w4.heap.size 3 1 u10 ((S.K.take d1).filter pr).length (ncells ((S.K.take d1).filter pr))) := Lib.hid (by
                      have e : (S.K.take d1).filter pr = (S.K.take d).filter pr := by rw [← hd1, HFS.out, HPR.out, if_neg (by simp only [Bool.or_eq_true, decide_eq_true_eq]; omega), List.append_nil]
                      rw [e]; exact HK.out)
                    clear hx hx6 hd1 hl6 hxI hfI heI hlt hlen hd hy hyP g0 g1 ge
                    go_wp2_with fail
                    go_roundw
                    case rel => exact ⟨d1, by have := HD1.out; omega, rfl, HK5, HY⟩
                    case measure => simp [intOf]; have := HD1.out; omega
            · have ge' : decide ((S.n : Int) < eI) = false := by simp only [decide_eq_false_iff_not]; omega
              by_cases g0 : M = 0
              · have g0' : ((M : Int) == 0) = true := by simp only [beq_iff_eq]; omega
                have g0'' : (M == 0) = true := by simp only [beq_iff_eq]; omega
                have HFK : Hid ((S.K.take d1).filter pr = (S.K.take d).filter pr ++ [x]) := Lib.hid (by rw [← hd1, HFS.out, HPR.out, if_pos (by simp only [Bool.or_eq_true, decide_eq_true_eq]; omega)])
                clear hx hx6 hd1 hl6 hxI hfI heI hlt hlen hd hy hyP g0 ge
                go_wp2_with (at_builtin; refine wpList_append_own _ rfl _ _ 28 rfl w4.heap.size 3 j0 _ 1 8 Try.underlying28 hj hy0 hy1 hy2 rfl (by decide) _ ((S.K.take d).filter pr).length (ncells ((S.K.take d).filter pr)) rfl (HK.out.alloc _) ⟨wr.heap.size, 0, none⟩ 1 1 [.int .i64 xI] rfl rfl (World.news_of_block (new_block wr _)) (fun u hu => by rcases List.mem_singleton.1 hu with rfl; rfl) (by have := HLE.out; unfold maxLen; omega) (by have := HLE.out; omega) (by have := HY.out.size; simp; omega) ?_; intro v5 w5 hown' hg5 hnil5)
                have HK5 : Hid (w5.ownsRow w4.heap.size 3 1 v5 ((S.K.take d1).filter pr).length (ncells ((S.K.take d1).filter pr))) := Lib.hid (by
                  rw [HFK.out, ncells_append, List.length_append]
                  have e : ncells [x] = [.int .i64 xI] := by simp [ncells, ncell, HXI.out]
                  rw [e]; exact hown')
                have HY5 : Hid (Below w4.heap.size w4 w5) := Lib.hid ((HY.out.alloc HY.out.size _).grown hg5 (by have := HY.out.size; simp; omega) (fun j hj => (HK.out.lt j hj).1))
                clear hown' hg5 hnil5
                go_roundw
                case rel => exact ⟨d1, by have := HD1.out; omega, rfl, HK5, HY5⟩
                case measure => simp [intOf]; have := HD1.out; omega
              · have g0' : ((M : Int) == 0) = false := by simp only [beq_eq_false_iff_ne]; omega
                have g0'' : (M == 0) = false := by simp only [beq_eq_false_iff_ne]; omega
                by_cases g1 : fI < (P : Int)
                · have g1' : decide (fI < (P : Int)) = true := by simp only [decide_eq_true_eq]; omega
                  have HFK : Hid ((S.K.take d1).filter pr = (S.K.take d).filter pr ++ [x]) := Lib.hid (by rw [← hd1, HFS.out, HPR.out, if_pos (by simp only [Bool.or_eq_true, decide_eq_true_eq]; omega)])
                  clear hx hx6 hd1 hl6 hxI hfI heI hlt hlen hd hy hyP g0 g1 ge
                  go_wp2_with (at_builtin; refine wpList_append_own _ rfl _ _ 28 rfl w4.heap.size 3 j0 _ 1 8 Try.underlying28 hj hy0 hy1 hy2 rfl (by decide) _ ((S.K.take d).filter pr).length (ncells ((S.K.take d).filter pr)) rfl (HK.out.alloc _) ⟨wr.heap.size, 0, none⟩ 1 1 [.int .i64 xI] rfl rfl (World.news_of_block (new_block wr _)) (fun u hu => by rcases List.mem_singleton.1 hu with rfl; rfl) (by have := HLE.out; unfold maxLen; omega) (by have := HLE.out; omega) (by have := HY.out.size; simp; omega) ?_; intro v5 w5 hown' hg5 hnil5)
                  have HK5 : Hid (w5.ownsRow w4.heap.size 3 1 v5 ((S.K.take d1).filter pr).length (ncells ((S.K.take d1).filter pr))) := Lib.hid (by
                    rw [HFK.out, ncells_append, List.length_append]
                    have e : ncells [x] = [.int .i64 xI] := by simp [ncells, ncell, HXI.out]
                    rw [e]; exact hown')
                  have HY5 : Hid (Below w4.heap.size w4 w5) := Lib.hid ((HY.out.alloc HY.out.size _).grown hg5 (by have := HY.out.size; simp; omega) (fun j hj => (HK.out.lt j hj).1))
                  clear hown' hg5 hnil5
                  go_roundw
                  case rel => exact ⟨d1, by have := HD1.out; omega, rfl, HK5, HY5⟩
                  case measure => simp [intOf]; have := HD1.out; omega
                · have g1' : decide (fI < (P : Int)) = false := by simp only [decide_eq_false_iff_not]; omega
                  by_cases g2 : y < eI
                  · have g2' : decide (y < eI) = true := by simp only [decide_eq_true_eq]; omega
                    have HFK : Hid ((S.K.take d1).filter pr = (S.K.take d).filter pr ++ [x]) := Lib.hid (by rw [← hd1, HFS.out, HPR.out, if_pos (by simp only [Bool.or_eq_true, decide_eq_true_eq]; omega)])
                    clear hx hx6 hd1 hl6 hxI hfI heI hlt hlen hd hy hyP g0 g1 ge
                    go_wp2_with (at_builtin; refine wpList_append_own _ rfl _ _ 28 rfl w4.heap.size 3 j0 _ 1 8 Try.underlying28 hj hy0 hy1 hy2 rfl (by decide) _ ((S.K.take d).filter pr).length (ncells ((S.K.take d).filter pr)) rfl (HK.out.alloc _) ⟨wr.heap.size, 0, none⟩ 1 1 [.int .i64 xI] rfl rfl (World.news_of_block (new_block wr _)) (fun u hu => by rcases List.mem_singleton.1 hu with rfl; rfl) (by have := HLE.out; unfold maxLen; omega) (by have := HLE.out; omega) (by have := HY.out.size; simp; omega) ?_; intro v5 w5 hown' hg5 hnil5)
                    have HK5 : Hid (w5.ownsRow w4.heap.size 3 1 v5 ((S.K.take d1).filter pr).length (ncells ((S.K.take d1).filter pr))) := Lib.hid (by
                      rw [HFK.out, ncells_append, List.length_append]
                      have e : ncells [x] = [.int .i64 xI] := by simp [ncells, ncell, HXI.out]
                      rw [e]; exact hown')
                    have HY5 : Hid (Below w4.heap.size w4 w5) := Lib.hid ((HY.out.alloc HY.out.size _).grown hg5 (by have := HY.out.size; simp; omega) (fun j hj => (HK.out.lt j hj).1))
                    clear hown' hg5 hnil5
                    go_roundw
                    case rel => exact ⟨d1, by have := HD1.out; omega, rfl, HK5, HY5⟩
                    case measure => simp [intOf]; have := HD1.out; omega
                  · have g2' : decide (y < eI) = false := by simp only [decide_eq_false_iff_not]; omega
                    have HK5 : Hid (wr.ownsRow w4.heap.size 3 1 u10 ((S.K.take d1).filter pr).length (ncells ((S.K.take d1).filter pr))) := Lib.hid (by
                      have e : (S.K.take d1).filter pr = (S.K.take d).filter pr := by rw [← hd1, HFS.out, HPR.out, if_neg (by simp only [Bool.or_eq_true, decide_eq_true_eq]; omega), List.append_nil]
                      rw [e]; exact HK.out)
                    clear hx hx6 hd1 hl6 hxI hfI heI hlt hlen hd hy hyP g0 g1 ge
                    go_wp2_with fail
                    go_roundw
                    case rel => exact ⟨d1, by have := HD1.out; omega, rfl, HK5, HY⟩
                    case measure => simp [intOf]; have := HD1.out; omega
          · obtain rfl : d = S.K.length := by omega
            have hki : ¬ ((S.K.length : Nat) : Int) < ((S.K.length : Nat) : Int) := by omega
            obtain ⟨A3, c3, eA3, -⟩ := own_form HK.out
            subst eA3
            have hrow := HK.out
            rw [List.take_length, HKE.out] at hrow
            have hdf : DF wr Ax cx A3 c3 (punchS S P M) := ⟨own_base (own_below HBR.out HY.out) (Nat.zero_le _), own_base hrow (Nat.zero_le _)⟩
            have hkl : ((S.K.take S.K.length).filter pr).length = (punchS S P M).K.length := by rw [List.take_length, HKE.out]
            rw [hkl]
            clear hrow hkl
            have hr9 : wr.heap[r]? = some (.cells #[.slice none 0 0, .slice none 0 0] 30 (0, 0)) := by first | exact HRB.out | exact blk_below HRB.out (by first | exact hy | exact Below.refl _ _)
            obtain ⟨w9, hw9⟩ : ∃ x, x = ((wr.setCell ⟨r, 0, none⟩ (.slice Ax S.n cx)).setCell ⟨r, 1, none⟩ (.slice A3 (punchS S P M).K.length c3)) := ⟨_, rfl⟩
            obtain ⟨hwr9, hk9⟩ := set_two hr9 (.slice Ax S.n cx) (.slice A3 (punchS S P M).K.length c3)
            rw [← hw9] at hwr9 hk9
            have r0 := cell_of hr9 (j := 0) rfl
            have r1 := cell_of hr9 (j := 1) rfl
            have g0 := frozen_of_row wr r 0 _ _ hr9
            have g1 := frozen_of_row wr r 1 _ _ hr9
            have HE : Hid (DoPost w (punchS S P M) true (.returned (.tuple #[.agg #[.slice Ax S.n cx, .slice A3 (punchS S P M).K.length c3], .bool true])) w9) := Lib.hid ⟨_, _, _, _, rfl, (hdf).wr hwr9 hr9, (HB2.out.trans ((by first | exact hy | exact Below.refl _ _ : Below w2.heap.size w2 wr).mono HB2.out.size)).trans (hwr9.below.mono HRW.out.1)⟩
            have z0 := cell_of hk9 (j := 0) rfl
            have z1 := cell_of hk9 (j := 1) rfl
            have HW9 := Lib.hid hw9
            clear hr9 hw9 hwr9 hk9
            clear hdf hy
            go_wp2_with fail
            rw [← HW9.out]
            go_wp2_with fail
            exact bodyPost_ret (v := .tuple #[.agg #[.slice Ax S.n cx, .slice A3 (punchS S P M).K.length c3], .bool true]) (by simp [results, Try.results37, go_sem, z0, z1]) rfl HE.out
      · have hl1' : ¬ (t : Int) < y := by omega
        clear hpr htI hnI hlt ht1 ht2 hpm hl1
        go_wp2_with fail
        go_loopw [10, 11] (fun l i wr' => ∃ (d : Nat), d ≤ S.K.length ∧ i = .int .i64 (d : Int) ∧ Hid (wr'.ownsRow w4.heap.size 3 1 l ((S.K.take d).filter pr).length (ncells ((S.K.take d).filter pr))) ∧ Hid (Below w4.heap.size w4 wr')) (fun _ i _ => S.K.length - (intOf i).toNat)
        case atStart => exact ⟨0, Nat.zero_le _, rfl, Lib.hid (World.ownsRow_nil _ _ _ _), Lib.hid (Below.refl _ _)⟩
        case round =>
          obtain ⟨d, hd, rfl, HK, HY⟩ := hrel
          have hy : Below w2.heap.size w2 wr := HX.out.trans (HY.out.mono HX.out.size)
          have q1 := cell_of (blk_below HQ.out hy) (j := 1) rfl
          by_cases hlt : d < S.K.length
          · obtain ⟨b, off, x, rfl, hx, c0⟩ := ncell_get ((HD.out.rdK).below hy) hlt
            have hx6 := HKM.out x (List.mem_of_getElem? hx)
            obtain ⟨d1, hd1⟩ : ∃ d1, d + 1 = d1 := ⟨_, rfl⟩
            have hl6 := srt_len HG.out.srt HKM.out
            have hwd : IntKind.i64.wrap ((d : Int) + 1) = (d1 : Int) := by rw [IntKind.wrap_i64]; omega
            obtain ⟨xI, hxI⟩ : ∃ z : Int, (x : Int) = z := ⟨_, rfl⟩
            obtain ⟨fI, hfI⟩ : ∃ z : Int, 16 * xI = z := ⟨_, rfl⟩
            obtain ⟨eI, heI⟩ : ∃ z : Int, fI + 16 = z := ⟨_, rfl⟩
            have hwf : IntKind.i64.wrap (16 * xI) = fI := by rw [IntKind.wrap_i64]; omega
            have hwe : IntKind.i64.wrap (fI + 16) = eI := by rw [IntKind.wrap_i64]; omega
            rw [hxI] at c0
            have hk0 : (0 : Int) ≤ (d : Int) := by omega
            have hki : (d : Int) < (S.K.length : Int) := by omega
            have HD1 : Hid (d < S.K.length ∧ d + 1 = d1) := Lib.hid ⟨hlt, hd1⟩
            have HFS := Lib.hid (filter_snoc pr hx)
            have hlen : ((S.K.take d).filter pr).length ≤ d := by have := List.length_filter_le pr (S.K.take d); rw [List.length_take] at this; omega
            have HLE : Hid (((S.K.take d).filter pr).length + 1 ≤ 65536) := Lib.hid (by omega)
            have HXI := Lib.hid hxI
            have hyP := HP.out
            by_cases ge : (S.n : Int) < eI
            · have ge' : decide ((S.n : Int) < eI) = true := by simp only [decide_eq_true_eq]; omega
              by_cases g0 : M = 0
              · have g0' : ((M : Int) == 0) = true := by simp only [beq_iff_eq]; omega
                have g0'' : (M == 0) = true := by simp only [beq_iff_eq]; omega
                have HFK : Hid ((S.K.take d1).filter pr = (S.K.take d).filter pr ++ [x]) := Lib.hid (by rw [← hd1, HFS.out, HPR.out, if_pos (by simp only [Bool.or_eq_true, decide_eq_true_eq]; omega)])
                clear hx hx6 hd1 hl6 hxI hfI heI hlt hlen hd hy hyP g0 ge
                go_wp2_with (at_builtin; refine wpList_append_own _ rfl _ _ 28 rfl w4.heap.size 3 j0 _ 1 8 Try.underlying28 hj hy0 hy1 hy2 rfl (by decide) _ ((S.K.take d).filter pr).length (ncells ((S.K.take d).filter pr)) rfl (HK.out.alloc _) ⟨wr.heap.size, 0, none⟩ 1 1 [.int .i64 xI] rfl rfl (World.news_of_block (new_block wr _)) (fun u hu => by rcases List.mem_singleton.1 hu with rfl; rfl) (by have := HLE.out; unfold maxLen; omega) (by have := HLE.out; omega) (by have := HY.out.size; simp; omega) ?_; intro v5 w5 hown' hg5 hnil5)
                have HK5 : Hid (w5.ownsRow w4.heap.size 3 1 v5 ((S.K.take d1).filter pr).length (ncells ((S.K.take d1).filter pr))) := Lib.hid (by
                  rw [HFK.out, ncells_append, List.length_append]
                  have e : ncells [x] = [.int .i64 xI] := by simp [ncells, ncell, HXI.out]
                  rw [e]; exact hown')
                have HY5 : Hid (Below w4.heap.size w4 w5) := Lib.hid ((HY.out.alloc HY.out.size _).grown hg5 (by have := HY.out.size; simp; omega) (fun j hj => (HK.out.lt j hj).1))
                clear hown' hg5 hnil5
                go_roundw
                case rel => exact ⟨d1, by have := HD1.out; omega, rfl, HK5, HY5⟩
                case measure => simp [intOf]; have := HD1.out; omega
              · have g0' : ((M : Int) == 0) = false := by simp only [beq_eq_false_iff_ne]; omega
                have g0'' : (M == 0) = false := by simp only [beq_eq_false_iff_ne]; omega
                by_cases g1 : fI < (P : Int)
                · have g1' : decide (fI < (P : Int)) = true := by simp only [decide_eq_true_eq]; omega
                  have HFK : Hid ((S.K.take d1).filter pr = (S.K.take d).filter pr ++ [x]) := Lib.hid (by rw [← hd1, HFS.out, HPR.out, if_pos (by simp only [Bool.or_eq_true, decide_eq_true_eq]; omega)])
                  clear hx hx6 hd1 hl6 hxI hfI heI hlt hlen hd hy hyP g0 g1 ge
                  go_wp2_with (at_builtin; refine wpList_append_own _ rfl _ _ 28 rfl w4.heap.size 3 j0 _ 1 8 Try.underlying28 hj hy0 hy1 hy2 rfl (by decide) _ ((S.K.take d).filter pr).length (ncells ((S.K.take d).filter pr)) rfl (HK.out.alloc _) ⟨wr.heap.size, 0, none⟩ 1 1 [.int .i64 xI] rfl rfl (World.news_of_block (new_block wr _)) (fun u hu => by rcases List.mem_singleton.1 hu with rfl; rfl) (by have := HLE.out; unfold maxLen; omega) (by have := HLE.out; omega) (by have := HY.out.size; simp; omega) ?_; intro v5 w5 hown' hg5 hnil5)
                  have HK5 : Hid (w5.ownsRow w4.heap.size 3 1 v5 ((S.K.take d1).filter pr).length (ncells ((S.K.take d1).filter pr))) := Lib.hid (by
                    rw [HFK.out, ncells_append, List.length_append]
                    have e : ncells [x] = [.int .i64 xI] := by simp [ncells, ncell, HXI.out]
                    rw [e]; exact hown')
                  have HY5 : Hid (Below w4.heap.size w4 w5) := Lib.hid ((HY.out.alloc HY.out.size _).grown hg5 (by have := HY.out.size; simp; omega) (fun j hj => (HK.out.lt j hj).1))
                  clear hown' hg5 hnil5
                  go_roundw
                  case rel => exact ⟨d1, by have := HD1.out; omega, rfl, HK5, HY5⟩
                  case measure => simp [intOf]; have := HD1.out; omega
                · have g1' : decide (fI < (P : Int)) = false := by simp only [decide_eq_false_iff_not]; omega
                  by_cases g2 : y < (S.n : Int)
                  · have g2' : decide (y < (S.n : Int)) = true := by simp only [decide_eq_true_eq]; omega
                    have HFK : Hid ((S.K.take d1).filter pr = (S.K.take d).filter pr ++ [x]) := Lib.hid (by rw [← hd1, HFS.out, HPR.out, if_pos (by simp only [Bool.or_eq_true, decide_eq_true_eq]; omega)])
                    clear hx hx6 hd1 hl6 hxI hfI heI hlt hlen hd hy hyP g0 g1 ge
                    go_wp2_with (at_builtin; refine wpList_append_own _ rfl _ _ 28 rfl w4.heap.size 3 j0 _ 1 8 Try.underlying28 hj hy0 hy1 hy2 rfl (by decide) _ ((S.K.take d).filter pr).length (ncells ((S.K.take d).filter pr)) rfl (HK.out.alloc _) ⟨wr.heap.size, 0, none⟩ 1 1 [.int .i64 xI] rfl rfl (World.news_of_block (new_block wr _)) (fun u hu => by rcases List.mem_singleton.1 hu with rfl; rfl) (by have := HLE.out; unfold maxLen; omega) (by have := HLE.out; omega) (by have := HY.out.size; simp; omega) ?_; intro v5 w5 hown' hg5 hnil5)
                    have HK5 : Hid (w5.ownsRow w4.heap.size 3 1 v5 ((S.K.take d1).filter pr).length (ncells ((S.K.take d1).filter pr))) := Lib.hid (by
                      rw [HFK.out, ncells_append, List.length_append]
                      have e : ncells [x] = [.int .i64 xI] := by simp [ncells, ncell, HXI.out]
                      rw [e]; exact hown')
                    have HY5 : Hid (Below w4.heap.size w4 w5) := Lib.hid ((HY.out.alloc HY.out.size _).grown hg5 (by have := HY.out.size; simp; omega) (fun j hj => (HK.out.lt j hj).1))
                    clear hown' hg5 hnil5
                    go_roundw
                    case rel => exact ⟨d1, by have := HD1.out; omega, rfl, HK5, HY5⟩
                    case measure => simp [intOf]; have := HD1.out; omega
                  · have g2' : decide (y < (S.n : Int)) = false := by simp only [decide_eq_false_iff_not]; omega
                    have HK5 : Hid (wr.ownsRow w4.heap.size 3 1 u10 ((S.K.take d1).filter pr).length (ncells ((S.K.take d1).filter pr))) := Lib.hid (by
                      have e : (S.K.take d1).filter pr = (S.K.take d).filter pr := by rw [← hd1, HFS.out, HPR.out, if_neg (by simp only [Bool.or_eq_true, decide_eq_true_eq]; omega), List.append_nil]
                      rw [e]; exact HK.out)
                    clear hx hx6 hd1 hl6 hxI hfI heI hlt hlen hd hy hyP g0 g1 ge
                    go_wp2_with fail
                    go_roundw
                    case rel => exact ⟨d1, by have := HD1.out; omega, rfl, HK5, HY⟩
                    case measure => simp [intOf]; have := HD1.out; omega
            · have ge' : decide ((S.n : Int) < eI) = false := by simp only [decide_eq_false_iff_not]; omega
              by_cases g0 : M = 0
              · have g0' : ((M : Int) == 0) = true := by simp only [beq_iff_eq]; omega
                have g0'' : (M == 0) = true := by simp only [beq_iff_eq]; omega
                have HFK : Hid ((S.K.take d1).filter pr = (S.K.take d).filter pr ++ [x]) := Lib.hid (by rw [← hd1, HFS.out, HPR.out, if_pos (by simp only [Bool.or_eq_true, decide_eq_true_eq]; omega)])
                clear hx hx6 hd1 hl6 hxI hfI heI hlt hlen hd hy hyP g0 ge
                go_wp2_with (at_builtin; refine wpList_append_own _ rfl _ _ 28 rfl w4.heap.size 3 j0 _ 1 8 Try.underlying28 hj hy0 hy1 hy2 rfl (by decide) _ ((S.K.take d).filter pr).length (ncells ((S.K.take d).filter pr)) rfl (HK.out.alloc _) ⟨wr.heap.size, 0, none⟩ 1 1 [.int .i64 xI] rfl rfl (World.news_of_block (new_block wr _)) (fun u hu => by rcases List.mem_singleton.1 hu with rfl; rfl) (by have := HLE.out; unfold maxLen; omega) (by have := HLE.out; omega) (by have := HY.out.size; simp; omega) ?_; intro v5 w5 hown' hg5 hnil5)
                have HK5 : Hid (w5.ownsRow w4.heap.size 3 1 v5 ((S.K.take d1).filter pr).length (ncells ((S.K.take d1).filter pr))) := Lib.hid (by
                  rw [HFK.out, ncells_append, List.length_append]
                  have e : ncells [x] = [.int .i64 xI] := by simp [ncells, ncell, HXI.out]
                  rw [e]; exact hown')
                have HY5 : Hid (Below w4.heap.size w4 w5) := Lib.hid ((HY.out.alloc HY.out.size _).grown hg5 (by have := HY.out.size; simp; omega) (fun j hj => (HK.out.lt j hj).1))
                clear hown' hg5 hnil5
                go_roundw
                case rel => exact ⟨d1, by have := HD1.out; omega, rfl, HK5, HY5⟩
                case measure => simp [intOf]; have := HD1.out; omega
              · have g0' : ((M : Int) == 0) = false := by simp only [beq_eq_false_iff_ne]; omega
                have g0'' : (M == 0) = false := by simp only [beq_eq_false_iff_ne]; omega
                by_cases g1 : fI < (P : Int)
                · have g1' : decide (fI < (P : Int)) = true := by simp only [decide_eq_true_eq]; omega
                  have HFK : Hid ((S.K.take d1).filter pr = (S.K.take d).filter pr ++ [x]) := Lib.hid (by rw [← hd1, HFS.out, HPR.out, if_pos (by simp only [Bool.or_eq_true, decide_eq_true_eq]; omega)])
                  clear hx hx6 hd1 hl6 hxI hfI heI hlt hlen hd hy hyP g0 g1 ge
                  go_wp2_with (at_builtin; refine wpList_append_own _ rfl _ _ 28 rfl w4.heap.size 3 j0 _ 1 8 Try.underlying28 hj hy0 hy1 hy2 rfl (by decide) _ ((S.K.take d).filter pr).length (ncells ((S.K.take d).filter pr)) rfl (HK.out.alloc _) ⟨wr.heap.size, 0, none⟩ 1 1 [.int .i64 xI] rfl rfl (World.news_of_block (new_block wr _)) (fun u hu => by rcases List.mem_singleton.1 hu with rfl; rfl) (by have := HLE.out; unfold maxLen; omega) (by have := HLE.out; omega) (by have := HY.out.size; simp; omega) ?_; intro v5 w5 hown' hg5 hnil5)
                  have HK5 : Hid (w5.ownsRow w4.heap.size 3 1 v5 ((S.K.take d1).filter pr).length (ncells ((S.K.take d1).filter pr))) := Lib.hid (by
                    rw [HFK.out, ncells_append, List.length_append]
                    have e : ncells [x] = [.int .i64 xI] := by simp [ncells, ncell, HXI.out]
                    rw [e]; exact hown')
                  have HY5 : Hid (Below w4.heap.size w4 w5) := Lib.hid ((HY.out.alloc HY.out.size _).grown hg5 (by have := HY.out.size; simp; omega) (fun j hj => (HK.out.lt j hj).1))
                  clear hown' hg5 hnil5
                  go_roundw
                  case rel => exact ⟨d1, by have := HD1.out; omega, rfl, HK5, HY5⟩
                  case measure => simp [intOf]; have := HD1.out; omega
                · have g1' : decide (fI < (P : Int)) = false := by simp only [decide_eq_false_iff_not]; omega
                  by_cases g2 : y < eI
                  · have g2' : decide (y < eI) = true := by simp only [decide_eq_true_eq]; omega
                    have HFK : Hid ((S.K.take d1).filter pr = (S.K.take d).filter pr ++ [x]) := Lib.hid (by rw [← hd1, HFS.out, HPR.out, if_pos (by simp only [Bool.or_eq_true, decide_eq_true_eq]; omega)])
                    clear hx hx6 hd1 hl6 hxI hfI heI hlt hlen hd hy hyP g0 g1 ge
                    go_wp2_with (at_builtin; refine wpList_append_own _ rfl _ _ 28 rfl w4.heap.size 3 j0 _ 1 8 Try.underlying28 hj hy0 hy1 hy2 rfl (by decide) _ ((S.K.take d).filter pr).length (ncells ((S.K.take d).filter pr)) rfl (HK.out.alloc _) ⟨wr.heap.size, 0, none⟩ 1 1 [.int .i64 xI] rfl rfl (World.news_of_block (new_block wr _)) (fun u hu => by rcases List.mem_singleton.1 hu with rfl; rfl) (by have := HLE.out; unfold maxLen; omega) (by have := HLE.out; omega) (by have := HY.out.size; simp; omega) ?_; intro v5 w5 hown' hg5 hnil5)
                    have HK5 : Hid (w5.ownsRow w4.heap.size 3 1 v5 ((S.K.take d1).filter pr).length (ncells ((S.K.take d1).filter pr))) := Lib.hid (by
                      rw [HFK.out, ncells_append, List.length_append]
                      have e : ncells [x] = [.int .i64 xI] := by simp [ncells, ncell, HXI.out]
                      rw [e]; exact hown')
                    have HY5 : Hid (Below w4.heap.size w4 w5) := Lib.hid ((HY.out.alloc HY.out.size _).grown hg5 (by have := HY.out.size; simp; omega) (fun j hj => (HK.out.lt j hj).1))
                    clear hown' hg5 hnil5
                    go_roundw
                    case rel => exact ⟨d1, by have := HD1.out; omega, rfl, HK5, HY5⟩
                    case measure => simp [intOf]; have := HD1.out; omega
                  · have g2' : decide (y < eI) = false := by simp only [decide_eq_false_iff_not]; omega
                    have HK5 : Hid (wr.ownsRow w4.heap.size 3 1 u10 ((S.K.take d1).filter pr).length (ncells ((S.K.take d1).filter pr))) := Lib.hid (by
                      have e : (S.K.take d1).filter pr = (S.K.take d).filter pr := by rw [← hd1, HFS.out, HPR.out, if_neg (by simp only [Bool.or_eq_true, decide_eq_true_eq]; omega), List.append_nil]
                      rw [e]; exact HK.out)
                    clear hx hx6 hd1 hl6 hxI hfI heI hlt hlen hd hy hyP g0 g1 ge
                    go_wp2_with fail
                    go_roundw
                    case rel => exact ⟨d1, by have := HD1.out; omega, rfl, HK5, HY⟩
                    case measure => simp [intOf]; have := HD1.out; omega
          · obtain rfl : d = S.K.length := by omega
            have hki : ¬ ((S.K.length : Nat) : Int) < ((S.K.length : Nat) : Int) := by omega
            obtain ⟨A3, c3, eA3, -⟩ := own_form HK.out
            subst eA3
            have hrow := HK.out
            rw [List.take_length, HKE.out] at hrow
            have hdf : DF wr Ax cx A3 c3 (punchS S P M) := ⟨own_base (own_below HBR.out HY.out) (Nat.zero_le _), own_base hrow (Nat.zero_le _)⟩
            have hkl : ((S.K.take S.K.length).filter pr).length = (punchS S P M).K.length := by rw [List.take_length, HKE.out]
            rw [hkl]
            clear hrow hkl
            have hr9 : wr.heap[r]? = some (.cells #[.slice none 0 0, .slice none 0 0] 30 (0, 0)) := by first | exact HRB.out | exact blk_below HRB.out (by first | exact hy | exact Below.refl _ _)
            obtain ⟨w9, hw9⟩ : ∃ x, x = ((wr.setCell ⟨r, 0, none⟩ (.slice Ax S.n cx)).setCell ⟨r, 1, none⟩ (.slice A3 (punchS S P M).K.length c3)) := ⟨_, rfl⟩
            obtain ⟨hwr9, hk9⟩ := set_two hr9 (.slice Ax S.n cx) (.slice A3 (punchS S P M).K.length c3)
            rw [← hw9] at hwr9 hk9
            have r0 := cell_of hr9 (j := 0) rfl
            have r1 := cell_of hr9 (j := 1) rfl
            have g0 := frozen_of_row wr r 0 _ _ hr9
            have g1 := frozen_of_row wr r 1 _ _ hr9
            have HE : Hid (DoPost w (punchS S P M) true (.returned (.tuple #[.agg #[.slice Ax S.n cx, .slice A3 (punchS S P M).K.length c3], .bool true])) w9) := Lib.hid ⟨_, _, _, _, rfl, (hdf).wr hwr9 hr9, (HB2.out.trans ((by first | exact hy | exact Below.refl _ _ : Below w2.heap.size w2 wr).mono HB2.out.size)).trans (hwr9.below.mono HRW.out.1)⟩
            have z0 := cell_of hk9 (j := 0) rfl
            have z1 := cell_of hk9 (j := 1) rfl
            have HW9 := Lib.hid hw9
            clear hr9 hw9 hwr9 hk9
            clear hdf hy
            go_wp2_with fail
            rw [← HW9.out]
            go_wp2_with fail
            exact bodyPost_ret (v := .tuple #[.agg #[.slice Ax S.n cx, .slice A3 (punchS S P M).K.length c3], .bool true]) (by simp [results, Try.results37, go_sem, z0, z1]) rfl HE.out
end Go.Proofs.Ytoallenigfbkpaa
