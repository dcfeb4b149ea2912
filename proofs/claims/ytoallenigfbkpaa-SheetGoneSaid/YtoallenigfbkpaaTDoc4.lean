/-
  What the document's Cut returns. No condition.
-/
import Derived.Test.YtoallenigfbkpaaTDoc3
namespace Go.Proofs.Ytoallenigfbkpaa
set_option maxRecDepth 100000
open Go.ChangeShapes Go.WideShapes Go.ChangeAt Go.RowKit Go.Proofs.Sg

theorem filter_snoc {K : List Nat} {j x : Nat} (p : Nat → Bool) (h : K[j]? = some x) : (K.take (j + 1)).filter p = (K.take j).filter p ++ if p x = true then [x] else [] := by
  rw [take_snoc h, List.filter_append]
  cases hp : p x <;> simp [hp]
/-- The beginning of bytes as a slice. -/
theorem head_any {w : World} {B n m c : Nat} {A : Option Addr} {xs : List Value} (h : w.ownsRow B 5 1 (.slice A n c) n xs) (hm : m ≤ n) : w.ownsRow B 5 1 (.slice A m c) m (xs.take m) ∧ ∀ W : World, (Instr.slice 27 (.slice A n c) none (some (.int .i64 (m : Int))) none).run Try.prog W = .ok (.slice A m c) W := by
  obtain ⟨i0, hi, hz0, hz1, hz2⟩ := info_parts infoB
  have e : Try.prog.elem 27 = 5 := by kernel_rfl
  have hc := (own_le h).1
  have hrun : ∀ W : World, (Instr.slice 27 (.slice A n c) none (some (.int .i64 (m : Int))) none).run Try.prog W = .ok (.slice A m c) W := fun W => by
    rw [run_slice_h (P := Try.prog) (w := W) 27 A n c Try.underlying27 .i64 (m : Int) (by omega) (by omega)]
    rcases h.2 with ⟨e1, _⟩ | ⟨g, cap, cur, e1, _⟩
    · injection e1 with e1
      subst e1
      simp [e, sizeOf, typeInfo, hi, hz1, sliced]
    · injection e1 with e1
      subst e1
      simp [e, sizeOf, typeInfo, hi, hz1, sliced, Go.WideShapes.add_plain]
  refine ⟨?_, hrun⟩
  rcases h.2 with ⟨e1, e2⟩ | ⟨g, cap, cur, e1, _⟩
  · injection e1 with e1 e3 e4
    subst e1; subst e4
    have hx : xs = [] := List.eq_nil_of_length_eq_zero (by have := h.1; omega)
    obtain rfl : m = 0 := by omega
    rw [hx]
    exact World.ownsRow_nil _ _ _ _
  · injection e1 with e1
    subst e1
    have := own_short h hm
    rwa [Nat.mul_one] at this
set_option maxHeartbeats 8000000 in
theorem rcut_any {w : World} {A A2 : Option Addr} {c c2 : Nat} {S : Sh} (hD : DF w A c A2 c2 S) (hg : GoodS S) (n : Int) :
    Calls Try.prog 36 #[dv A S.n c A2 S.K.length c2, .int .i64 n] w (DoPost w (cutI S n) (ft 0 n)) := by
  obtain ⟨w2, hw2, hb2, hq, hr, hs2⟩ := two_box w (.cells #[.slice A S.n c, .slice A2 S.K.length c2] 30) (.cells #[.slice none 0 0, .slice none 0 0] 30)
  obtain ⟨q, eq⟩ : ∃ q, q = w.heap.size := ⟨_, rfl⟩
  obtain ⟨r, er⟩ : ∃ r, r = w.heap.size + 1 := ⟨_, rfl⟩
  rw [← eq] at hq
  rw [← er] at hr
  have HD := Lib.hid (hD.below hb2)
  have HQ := Lib.hid hq
  have HRB := Lib.hid hr
  have HW2 := Lib.hid hw2
  have EQ := Lib.hid eq
  have ER := Lib.hid er
  have HB2 := Lib.hid hb2
  have HRW : Hid (w.heap.size ≤ r ∧ r < w2.heap.size ∧ q < w2.heap.size) := Lib.hid (by omega)
  have hlim := hg.lim
  have HG := Lib.hid hg
  have HLIM := Lib.hid hlim
  have HKM : Hid (∀ k ∈ S.K, k < 65536) := Lib.hid (fun k hk => by have := hg.key k hk; omega)
  unfold dv
  clear hD hw2 eq er hb2 hq hr hs2
  by_cases h0 : n < 0
  · have h0' : decide (n < 0) = true := by simpa using h0
    have hff : ft 0 n = false := by
      have : ¬ ft 0 n = true := fun h => by have := ft_iff.1 h; omega
      simpa using this
    have HSS : Hid (cutI S n = S) := Lib.hid (by unfold cutI; rw [hff]; simp)
    rw [HSS.out, hff]
    clear h0 hff
    have q0 := cell_of HQ.out (j := 0) rfl
    have q1 := cell_of HQ.out (j := 1) rfl
    have hr9 : w2.heap[r]? = some (.cells #[.slice none 0 0, .slice none 0 0] 30 (0, 0)) := by first | exact HRB.out | exact blk_below HRB.out (by first | exact Below.refl _ _ | exact Below.refl _ _)
    obtain ⟨w9, hw9⟩ : ∃ x, x = ((w2.setCell ⟨r, 0, none⟩ (.slice A S.n c)).setCell ⟨r, 1, none⟩ (.slice A2 S.K.length c2)) := ⟨_, rfl⟩
    obtain ⟨hwr9, hk9⟩ := set_two hr9 (.slice A S.n c) (.slice A2 S.K.length c2)
    rw [← hw9] at hwr9 hk9
    have r0 := cell_of hr9 (j := 0) rfl
    have r1 := cell_of hr9 (j := 1) rfl
    have g0 := frozen_of_row w2 r 0 _ _ hr9
    have g1 := frozen_of_row w2 r 1 _ _ hr9
    have HE : Hid (DoPost w S false (.returned (.tuple #[.agg #[.slice A S.n c, .slice A2 S.K.length c2], .bool false])) w9) := Lib.hid ⟨_, _, _, _, rfl, (HD.out).wr hwr9 hr9, (HB2.out.trans ((by first | exact Below.refl _ _ | exact Below.refl _ _ : Below w2.heap.size w2 w2).mono HB2.out.size)).trans (hwr9.below.mono HRW.out.1)⟩
    have z0 := cell_of hk9 (j := 0) rfl
    have z1 := cell_of hk9 (j := 1) rfl
    have HW9 := Lib.hid hw9
    clear hr9 hw9 hwr9 hk9
    go_enter Try.func36, Try.ntmps36
    go_upto_region 1 with fail
    rw [← HW2.out, ← ER.out, ← EQ.out]
    go_wp2_with fail
    rw [← HW9.out]
    (try go_wp2_with fail)
    exact bodyPost_ret (v := .tuple #[.agg #[.slice A S.n c, .slice A2 S.K.length c2], .bool false]) (by simp [results, Try.results36, go_sem, z0, z1]) rfl HE.out
  have h0' : decide (n < 0) = false := by simpa using h0
  by_cases h1 : 1048576 < n
  · have h1' : decide ((1048576 : Int) < n) = true := by simpa using h1
    have hff : ft 0 n = false := by
      have : ¬ ft 0 n = true := fun h => by have := ft_iff.1 h; omega
      simpa using this
    have HSS : Hid (cutI S n = S) := Lib.hid (by unfold cutI; rw [hff]; simp)
    rw [HSS.out, hff]
    clear h0 h1 hff
    have q0 := cell_of HQ.out (j := 0) rfl
    have q1 := cell_of HQ.out (j := 1) rfl
    have hr9 : w2.heap[r]? = some (.cells #[.slice none 0 0, .slice none 0 0] 30 (0, 0)) := by first | exact HRB.out | exact blk_below HRB.out (by first | exact Below.refl _ _ | exact Below.refl _ _)
    obtain ⟨w9, hw9⟩ : ∃ x, x = ((w2.setCell ⟨r, 0, none⟩ (.slice A S.n c)).setCell ⟨r, 1, none⟩ (.slice A2 S.K.length c2)) := ⟨_, rfl⟩
    obtain ⟨hwr9, hk9⟩ := set_two hr9 (.slice A S.n c) (.slice A2 S.K.length c2)
    rw [← hw9] at hwr9 hk9
    have r0 := cell_of hr9 (j := 0) rfl
    have r1 := cell_of hr9 (j := 1) rfl
    have g0 := frozen_of_row w2 r 0 _ _ hr9
    have g1 := frozen_of_row w2 r 1 _ _ hr9
    have HE : Hid (DoPost w S false (.returned (.tuple #[.agg #[.slice A S.n c, .slice A2 S.K.length c2], .bool false])) w9) := Lib.hid ⟨_, _, _, _, rfl, (HD.out).wr hwr9 hr9, (HB2.out.trans ((by first | exact Below.refl _ _ | exact Below.refl _ _ : Below w2.heap.size w2 w2).mono HB2.out.size)).trans (hwr9.below.mono HRW.out.1)⟩
    have z0 := cell_of hk9 (j := 0) rfl
    have z1 := cell_of hk9 (j := 1) rfl
    have HW9 := Lib.hid hw9
    clear hr9 hw9 hwr9 hk9
    go_enter Try.func36, Try.ntmps36
    go_upto_region 1 with fail
    rw [← HW2.out, ← ER.out, ← EQ.out]
    go_wp2_with fail
    rw [← HW9.out]
    (try go_wp2_with fail)
    exact bodyPost_ret (v := .tuple #[.agg #[.slice A S.n c, .slice A2 S.K.length c2], .bool false]) (by simp [results, Try.results36, go_sem, z0, z1]) rfl HE.out
  · have h1' : decide ((1048576 : Int) < n) = false := by simpa using h1
    obtain ⟨t, hP⟩ : ∃ t : Nat, n = (t : Int) := ⟨n.toNat, by omega⟩
    subst hP
    have hff : ft 0 (t : Int) = true := ft_iff.2 (by omega)
    have HT : Hid (t ≤ 1048576) := Lib.hid (by omega)
    have HSS : Hid (cutI S (t : Int) = cutS S t) := Lib.hid (by unfold cutI; rw [hff, if_pos rfl, Int.toNat_natCast])
    rw [HSS.out, hff]
    obtain ⟨i0, hi, hz0, hz1, hz2⟩ := info_parts infoB
    obtain ⟨j0, hj, hy0, hy1, hy2⟩ := info_parts infoI
    have h1'' : decide ((1048576 : Nat) < t) = false := by simp only [decide_eq_false_iff_not]; omega
    have HRD : Hid (Rd bcell 1 (w2.alloc (.cells #[] 5)) A S.n (bs S.f S.n)) := Lib.hid ((HD.out.rdB).below (box_below w2 _))
    have HNIL : Hid (A = none → c = 0) := Lib.hid (own_cap HD.out.bytes)
    have q0 := cell_of (blk_alloc HQ.out (.cells #[] 5)) (j := 0) rfl
    have q0' := cell_of HQ.out (j := 0) rfl
    clear h0 h1 hff
    go_enter Try.func36, Try.ntmps36
    go_upto_region 1 with fail
    rw [← HW2.out, ← ER.out, ← EQ.out]
    go_upto_region 4 with (at_builtin; refine wpList_append_rd rfl _ _ 27 rfl w2.heap.size 5 i0 _ 1 1 Try.underlying27 hi hz0 hz1 hz2 rfl (by decide) _ 0 [] rfl (u8_empty w2) A S.n c (bs S.f S.n) rfl HRD.out (fun _ _ => rfl) bcell_one HNIL.out (by have := HLIM.out; unfold maxLen; omega) (by have := HLIM.out; omega) (by simp) ?_; intro v3 w3 hown3 hg3)
    rw [Nat.zero_add, List.nil_append] at hown3
    have HX3 : Hid (Below w2.heap.size w2 w3) := Lib.hid ((box_below w2 (.cells #[] 5)).trans (gb_own (u8_empty w2) hg3 (Nat.le_refl _) (by simp)))
    have HO3 : Hid (w3.ownsRow w2.heap.size 5 1 v3 S.n (bcells (bs S.f S.n))) := Lib.hid hown3
    clear hown3 hg3 q0 q0'
    go_loopw [6] (fun u wr => ∃ L : Nat, S.n ≤ L ∧ L ≤ max S.n t ∧ Hid (wr.ownsRow w2.heap.size 5 1 u L (bcells (bs S.f L))) ∧ Hid (Below w2.heap.size w2 wr)) (fun u _ => t - lnOf u)
    case atStart => exact ⟨S.n, Nat.le_refl _, Nat.le_max_left _ _, HO3, HX3⟩
    case round =>
      obtain ⟨L, hL1, hL2, HO, HX⟩ := hrel
      obtain ⟨Ax, cx, eAx, -, -, hAx⟩ := own_form HO.out
      subst eAx
      by_cases hlt : L < t
      · have hlt1 : (L : Int) < (t : Int) := by omega
        have hlt2 : decide ((L : Int) < (t : Int)) = true := by simpa using hlt1
        have HLL : Hid (L + 1 ≤ max S.n t ∧ S.n ≤ L ∧ L < t ∧ L ≤ 1048576) := Lib.hid (by have := HLIM.out; have := HT.out; omega)
        clear hlt hL1 hL2 hAx
        go_wp2_with (at_builtin; refine wpList_append_own _ rfl _ _ 27 rfl w2.heap.size 5 i0 _ 1 1 Try.underlying27 hi hz0 hz1 hz2 rfl (by decide) _ L (bcells (bs S.f L)) rfl (HO.out.alloc _) ⟨wr.heap.size, 0, none⟩ 1 1 [.int .u8 0] rfl rfl (World.news_of_block (new_block wr _)) (fun u hu => by rcases List.mem_singleton.1 hu with rfl; rfl) (by have := HLL.out; unfold maxLen; omega) (by have := HLL.out; omega) (by have := HX.out.size; simp; omega) ?_; intro v5 w5 hown' hg5 hnil5)
        have HO5 : Hid (w5.ownsRow w2.heap.size 5 1 v5 (L + 1) (bcells (bs S.f (L + 1)))) := Lib.hid (by
          rw [bs_snoc, bcells_append]
          have e : bcells [S.f L] = [.int .u8 0] := by
            rw [HG.out.far L HLL.out.2.1]; rfl
          rw [e]; exact hown')
        have HX5 : Hid (Below w2.heap.size w2 w5) := Lib.hid ((HX.out.alloc HX.out.size _).grown hg5 (by have := HX.out.size; simp; omega) (fun j hj => (HO.out.lt j hj).1))
        have hln : ∃ Ay cy, v5 = .slice Ay (L + 1) cy := by obtain ⟨Ay, cy, e, -⟩ := own_form hown'; exact ⟨Ay, cy, e⟩
        obtain ⟨Ay, cy, rfl⟩ := hln
        clear hown' hg5 hnil5
        go_roundw
        case rel => exact ⟨L + 1, by have := HLL.out; omega, HLL.out.1, HO5, HX5⟩
        case measure => simp [lnOf]; have := HLL.out; omega
      · have hlt1 : ¬ (L : Int) < (t : Int) := by omega
        have hlt2 : decide ((L : Int) < (t : Int)) = false := by simpa using hlt1
        obtain ⟨N, hN⟩ : ∃ N, max S.n t = N := ⟨_, rfl⟩
        obtain rfl : L = N := by omega
        have HN := Lib.hid hN
        clear hlt hL1 hL2 hN
        obtain ⟨w4, hw4⟩ : ∃ w4, w4 = wr := ⟨_, rfl⟩
        subst hw4
        obtain ⟨pr, hpr⟩ : ∃ pr : Nat → Bool, pr = fun k => decide (16 * k < t) || decide (S.n ≤ t) := ⟨_, rfl⟩
        have HPR : Hid (∀ k, pr k = (decide (16 * k < t) || decide (S.n ≤ t))) := Lib.hid (fun k => by rw [hpr])
        have HKE : Hid (S.K.filter pr = (cutS S t).K) := Lib.hid (by rw [cut_K HG.out, hpr])
        obtain ⟨hhd, hsl⟩ := head_any HO.out (m := t) (by have := HN.out; omega)
        rw [bcells_take, bs_short _ (by have := HN.out; omega)] at hhd
        have HHD : Hid (w4.ownsRow w2.heap.size 5 1 (.slice Ax t cx) t (bcells (bs (cutS S t).f t))) := Lib.hid (by
          have e : bs (cutS S t).f t = bs S.f t := bs_congr (fun i hi => by show (if t ≤ i ∧ i < S.n then 0 else S.f i) = S.f i; rw [if_neg (by omega)])
          rw [e]; exact hhd)
        obtain ⟨nI, hnI⟩ : ∃ z : Int, (S.n : Int) = z := ⟨_, rfl⟩
        have HNI := Lib.hid hnI
        clear hpr hhd hAx
        go_wp2_with fail
        go_loopw [7, 8] (fun l i wr' => ∃ (d : Nat), d ≤ S.K.length ∧ i = .int .i64 (d : Int) ∧ Hid (wr'.ownsRow w4.heap.size 3 1 l ((S.K.take d).filter pr).length (ncells ((S.K.take d).filter pr))) ∧ Hid (Below w4.heap.size w4 wr')) (fun _ i _ => S.K.length - (intOf i).toNat)
        case atStart => exact ⟨0, Nat.zero_le _, rfl, Lib.hid (World.ownsRow_nil _ _ _ _), Lib.hid (Below.refl _ _)⟩
        case round =>
          obtain ⟨d, hd, rfl, HK, HY⟩ := hrel
          have hy : Below w2.heap.size w2 wr := HX.out.trans (HY.out.mono HX.out.size)
          have q0 := cell_of (blk_below HQ.out hy) (j := 0) rfl
          have q1 := cell_of (blk_below HQ.out hy) (j := 1) rfl
          by_cases hlt : d < S.K.length
          · obtain ⟨b, off, x, rfl, hx, c0⟩ := ncell_get ((HD.out.rdK).below hy) hlt
            have hx6 := HKM.out x (List.mem_of_getElem? hx)
            obtain ⟨d1, hd1⟩ : ∃ d1, d + 1 = d1 := ⟨_, rfl⟩
            have hl6 := srt_len HG.out.srt HKM.out
            have hwd : IntKind.i64.wrap ((d : Int) + 1) = (d1 : Int) := by rw [IntKind.wrap_i64]; omega
            obtain ⟨xI, hxI⟩ : ∃ z : Int, (x : Int) = z := ⟨_, rfl⟩
            obtain ⟨yI, hyI⟩ : ∃ z : Int, 16 * xI = z := ⟨_, rfl⟩
            have hwy : IntKind.i64.wrap (16 * xI) = yI := by rw [IntKind.wrap_i64]; omega
            rw [hxI] at c0
            have hk0 : (0 : Int) ≤ (d : Int) := by omega
            have hki : (d : Int) < (S.K.length : Int) := by omega
            have HD1 : Hid (d < S.K.length ∧ d + 1 = d1) := Lib.hid ⟨hlt, hd1⟩
            have HFS := Lib.hid (filter_snoc pr hx)
            have hlen : ((S.K.take d).filter pr).length ≤ d := by have := List.length_filter_le pr (S.K.take d); rw [List.length_take] at this; omega
            have HLE : Hid (((S.K.take d).filter pr).length + 1 ≤ 65536) := Lib.hid (by omega)
            have HXI := Lib.hid hxI
            by_cases hc1 : 16 * x < t
            · have hc1' : decide (yI < (t : Int)) = true := by simp only [decide_eq_true_eq]; omega
              have HFK : Hid ((S.K.take d1).filter pr = (S.K.take d).filter pr ++ [x]) := Lib.hid (by rw [← hd1, HFS.out, HPR.out, if_pos (by simp only [Bool.or_eq_true, decide_eq_true_eq]; omega)])
              clear hx hx6 hd1 hl6 hxI hyI hlt hlen hd hy hc1
              go_wp2_with (at_builtin; refine wpList_append_own _ rfl _ _ 28 rfl w4.heap.size 3 j0 _ 1 8 Try.underlying28 hj hy0 hy1 hy2 rfl (by decide) _ ((S.K.take d).filter pr).length (ncells ((S.K.take d).filter pr)) rfl (HK.out.alloc _) ⟨wr.heap.size, 0, none⟩ 1 1 [.int .i64 xI] rfl rfl (World.news_of_block (new_block wr _)) (fun u hu => by rcases List.mem_singleton.1 hu with rfl; rfl) (by have := HLE.out; unfold maxLen; omega) (by have := HLE.out; omega) (by have := HY.out.size; simp; omega) ?_; intro v5 w5 hown' hg5 hnil5)
              have HK5 : Hid (w5.ownsRow w4.heap.size 3 1 v5 ((S.K.take d1).filter pr).length (ncells ((S.K.take d1).filter pr))) := Lib.hid (by
                rw [HFK.out, ncells_append, List.length_append]
                have e : ncells [x] = [.int .i64 xI] := by simp [ncells, ncell, HXI.out]
                rw [e]; exact hown')
              have HY5 : Hid (Below w4.heap.size w4 w5) := Lib.hid ((HY.out.alloc HY.out.size _).grown hg5 (by have := HY.out.size; simp; omega) (fun j hj => (HK.out.lt j hj).1))
              clear hown' hg5 hnil5
              go_roundw
              case rel => exact ⟨d1, by have := HD1.out; omega, rfl, HK5, HY5⟩
              case measure => simp [intOf]; have := HD1.out; omega
            · have hc1' : decide (yI < (t : Int)) = false := by simp only [decide_eq_false_iff_not]; omega
              by_cases hc2 : S.n ≤ t
              · have hc2' : decide ((S.n : Int) ≤ (t : Int)) = true := by simp only [decide_eq_true_eq]; omega
                have hc2'' : (S.n : Int) ≤ (t : Int) := by omega
                have HFK : Hid ((S.K.take d1).filter pr = (S.K.take d).filter pr ++ [x]) := Lib.hid (by rw [← hd1, HFS.out, HPR.out, if_pos (by simp only [Bool.or_eq_true, decide_eq_true_eq]; omega)])
                clear hx hx6 hd1 hl6 hxI hyI hlt hlen hd hy hc1
                go_wp2_with (at_builtin; refine wpList_append_own _ rfl _ _ 28 rfl w4.heap.size 3 j0 _ 1 8 Try.underlying28 hj hy0 hy1 hy2 rfl (by decide) _ ((S.K.take d).filter pr).length (ncells ((S.K.take d).filter pr)) rfl (HK.out.alloc _) ⟨wr.heap.size, 0, none⟩ 1 1 [.int .i64 xI] rfl rfl (World.news_of_block (new_block wr _)) (fun u hu => by rcases List.mem_singleton.1 hu with rfl; rfl) (by have := HLE.out; unfold maxLen; omega) (by have := HLE.out; omega) (by have := HY.out.size; simp; omega) ?_; intro v5 w5 hown' hg5 hnil5)
                have HK5 : Hid (w5.ownsRow w4.heap.size 3 1 v5 ((S.K.take d1).filter pr).length (ncells ((S.K.take d1).filter pr))) := Lib.hid (by
                  rw [HFK.out, ncells_append, List.length_append]
                  have e : ncells [x] = [.int .i64 xI] := by simp [ncells, ncell, HXI.out]
                  rw [e]; exact hown')
                have HY5 : Hid (Below w4.heap.size w4 w5) := Lib.hid ((HY.out.alloc HY.out.size _).grown hg5 (by have := HY.out.size; simp; omega) (fun j hj => (HK.out.lt j hj).1))
                clear hown' hg5 hnil5
                go_roundw
                case rel => exact ⟨d1, by have := HD1.out; omega, rfl, HK5, HY5⟩
                case measure => simp [intOf]; have := HD1.out; omega
              · have hc2' : decide ((S.n : Int) ≤ (t : Int)) = false := by simp only [decide_eq_false_iff_not]; omega
                have hc2'' : ¬ (S.n : Int) ≤ (t : Int) := by omega
                have HK5 : Hid (wr.ownsRow w4.heap.size 3 1 u7 ((S.K.take d1).filter pr).length (ncells ((S.K.take d1).filter pr))) := Lib.hid (by
                  have e : (S.K.take d1).filter pr = (S.K.take d).filter pr := by rw [← hd1, HFS.out, HPR.out, if_neg (by simp only [Bool.or_eq_true, decide_eq_true_eq]; omega), List.append_nil]
                  rw [e]; exact HK.out)
                clear hx hx6 hd1 hl6 hxI hyI hlt hlen hd hy hc1
                go_wp2_with fail
                go_roundw
                case rel => exact ⟨d1, by have := HD1.out; omega, rfl, HK5, HY⟩
                case measure => simp [intOf]; have := HD1.out; omega
          · obtain rfl : d = S.K.length := by omega
            have hki : ¬ ((S.K.length : Nat) : Int) < ((S.K.length : Nat) : Int) := by omega
            obtain ⟨A3, c3, eA3, -⟩ := own_form HK.out
            subst eA3
            have hrow := HK.out
            rw [List.take_length, HKE.out] at hrow
            have hdf : DF wr Ax cx A3 c3 (cutS S t) := ⟨own_base (own_below HHD.out HY.out) (Nat.zero_le _), own_base hrow (Nat.zero_le _)⟩
            have hkl : ((S.K.take S.K.length).filter pr).length = (cutS S t).K.length := by rw [List.take_length, HKE.out]
            rw [hkl]
            clear hrow
            have hr9 : wr.heap[r]? = some (.cells #[.slice none 0 0, .slice none 0 0] 30 (0, 0)) := by first | exact HRB.out | exact blk_below HRB.out (by first | exact hy | exact Below.refl _ _)
            obtain ⟨w9, hw9⟩ : ∃ x, x = ((wr.setCell ⟨r, 0, none⟩ (.slice Ax t cx)).setCell ⟨r, 1, none⟩ (.slice A3 (cutS S t).K.length c3)) := ⟨_, rfl⟩
            obtain ⟨hwr9, hk9⟩ := set_two hr9 (.slice Ax t cx) (.slice A3 (cutS S t).K.length c3)
            rw [← hw9] at hwr9 hk9
            have r0 := cell_of hr9 (j := 0) rfl
            have r1 := cell_of hr9 (j := 1) rfl
            have g0 := frozen_of_row wr r 0 _ _ hr9
            have g1 := frozen_of_row wr r 1 _ _ hr9
            have HE : Hid (DoPost w (cutS S t) true (.returned (.tuple #[.agg #[.slice Ax t cx, .slice A3 (cutS S t).K.length c3], .bool true])) w9) := Lib.hid ⟨_, _, _, _, rfl, (hdf).wr hwr9 hr9, (HB2.out.trans ((by first | exact hy | exact Below.refl _ _ : Below w2.heap.size w2 wr).mono HB2.out.size)).trans (hwr9.below.mono HRW.out.1)⟩
            have z0 := cell_of hk9 (j := 0) rfl
            have z1 := cell_of hk9 (j := 1) rfl
            have HW9 := Lib.hid hw9
            clear hr9 hw9 hwr9 hk9
            clear hdf hy
            go_wp2_with fail
            rw [← HW9.out]
            go_wp2_with fail
            exact bodyPost_ret (v := .tuple #[.agg #[.slice Ax t cx, .slice A3 (cutS S t).K.length c3], .bool true]) (by simp [results, Try.results36, go_sem, z0, z1]) rfl HE.out
end Go.Proofs.Ytoallenigfbkpaa
