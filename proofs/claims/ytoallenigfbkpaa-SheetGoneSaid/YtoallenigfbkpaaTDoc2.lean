/-
  What the document's Need and Read return. No condition.
-/
import Derived.Test.YtoallenigfbkpaaTDoc1
namespace Go.Proofs.Ytoallenigfbkpaa
set_option maxRecDepth 100000
open Go.ChangeShapes Go.WideShapes Go.ChangeAt Go.RowKit Go.Proofs.Sg

set_option maxHeartbeats 4000000 in
theorem rneed_any {w : World} {A A2 : Option Addr} {c c2 : Nat} {S : Sh} (hD : DF w A c A2 c2 S) (hg : GoodS S) (p : Int) (hp : p ≤ 9223372036854775807) (B : Option Addr) (n cb : Nat) (hn : n ≤ 4611686018427387904) : Calls Try.prog 25 #[dv A S.n c A2 S.K.length c2, .int .i64 p, .slice B n cb] w fun e w' => e = .returned (.int .i64 ((ndI S p n : Nat) : Int)) ∧ Below w.heap.size w w' := by
  obtain ⟨w1, hw1⟩ : ∃ w1, w1 = w.alloc (.cells #[.slice A S.n c, .slice A2 S.K.length c2] 30) := ⟨_, rfl⟩
  obtain ⟨q, eq⟩ : ∃ q, q = w.heap.size := ⟨_, rfl⟩
  have hb1 : Below w.heap.size w w1 := by rw [hw1]; exact box_below w _
  have hq : w1.heap[q]? = some (.cells #[.slice A S.n c, .slice A2 S.K.length c2] 30 (0, 0)) := by rw [hw1, eq]; exact new_block w _
  have HD := Lib.hid (hD.below hb1)
  have HQ := Lib.hid hq
  have HW1 := Lib.hid hw1
  have EQ := Lib.hid eq
  have HB1 := Lib.hid hb1
  have HSR := Lib.hid hg.srt
  have HKM : Hid (∀ k ∈ S.K, k < 65536) := Lib.hid (fun k hk => by have := hg.key k hk; have := hg.lim; omega)
  have HKL : Hid (S.K.length ≤ 65536) := Lib.hid (srt_len hg.srt (fun k hk => by have := hg.key k hk; have := hg.lim; omega))
  obtain ⟨v, hv⟩ : ∃ v : Int, ((ndI S p n : Nat) : Int) = v := ⟨_, rfl⟩
  rw [hv]
  have HV := Lib.hid hv
  have HON : Hid (∀ (W : World) (k : Nat), Below w1.heap.size w1 W → Calls Try.prog 35 #[.agg #[.slice A S.n c, .slice A2 S.K.length c2], .int .i64 (k : Int)] W fun e w' => e = .returned (.bool (decide (k ∈ S.K))) ∧ Below W.heap.size W w') := Lib.hid (fun W k hW => on_any ((HD.out.below hW).rdK) (by have := HKL.out; omega) S.n k)
  unfold dv
  obtain ⟨r, hrr⟩ : ∃ r, ft p (n : Int) = r := ⟨_, rfl⟩
  have HF : Hid (∀ W, Calls Try.prog 33 #[.int .i64 p, .int .i64 (n : Int)] W fun e w' => e = .returned (.bool r) ∧ W = w') := Lib.hid (fun W => by rw [← hrr]; exact rfits_any p n W)
  have HRR := Lib.hid hrr
  clear hD hw1 eq hb1 hq hv hrr hg
  go_enter Try.func25, Try.ntmps25
  go_upto_region 1 with fail
  rw [← HW1.out, ← EQ.out]
  go_wp2_with fail
  cases r with
  | false =>
    go_loopw [7, 8] (fun u i wr => u = .int .i64 0 ∧ i = .int .i64 0 ∧ wr = w1) (fun _ _ _ => 0)
    case atStart => exact ⟨rfl, rfl, rfl⟩
    case round =>
      obtain ⟨rfl, rfl, rfl⟩ := hrel
      have HE : Hid ((0 : Int) = v) := Lib.hid (by rw [← HV.out]; unfold ndI; rw [HRR.out]; rfl)
      by_cases h0 : n = 0
      · have hlt : ¬ (0 : Int) < (n : Int) := by omega
        have hlt' : decide ((0 : Int) < (n : Int)) = false := by simpa using hlt
        clear h0
        go_wp2_with fail
        go_ret
        exact ⟨ret_i HE.out, HB1.out⟩
      · have hlt : (0 : Int) < (n : Int) := by omega
        have hlt' : decide ((0 : Int) < (n : Int)) = true := by simpa using hlt
        clear h0
        go_wp2_with fail
        refine (HF.out _).mono ?_
        rintro e w' ⟨rfl, rfl⟩
        go_wp2_with fail
        go_ret
        exact ⟨ret_i HE.out, HB1.out⟩
  | true =>
    obtain ⟨f0, f1, f2⟩ := ft_iff.1 HRR.out
    obtain ⟨P, hP⟩ : ∃ P : Nat, p = (P : Int) := ⟨p.toNat, by omega⟩
    subst hP
    have HPn : Hid (P + n ≤ 1048576) := Lib.hid (by omega)
    clear f0 f1 f2
    go_loopw [7, 8] (fun u i wr => ∃ d m : Nat, d ≤ n ∧ u = .int .i64 (m : Int) ∧ i = .int .i64 (d : Int) ∧ Hid ((wK S.K P d).length = S.K.length + m) ∧ Hid (Below w1.heap.size w1 wr)) (fun _ i _ => n - (intOf i).toNat)
    case atStart => exact ⟨0, 0, Nat.zero_le _, rfl, rfl, Lib.hid rfl, Lib.hid (Below.refl _ _)⟩
    case round =>
      obtain ⟨d, m, hd, rfl, rfl, HL, HB⟩ := hrel
      by_cases hlt : d < n
      · have hpn := HPn.out
        have hml : S.K.length + m ≤ 65536 * 2 := by
          rw [← HL.out]
          exact srt_len (srt_wK HSR.out P d) (fun k hk => by
            rcases mem_wK.1 hk with h1 | ⟨j, hj, rfl⟩
            · have := HKM.out k h1; omega
            · omega)
        have q0 := cell_of (blk_below HQ.out HB.out) (j := 0) rfl
        have q1 := cell_of (blk_below HQ.out HB.out) (j := 1) rfl
        obtain ⟨d1, hd1⟩ : ∃ d1, d + 1 = d1 := ⟨_, rfl⟩
        obtain ⟨m1, hm1⟩ : ∃ m1, m + 1 = m1 := ⟨_, rfl⟩
        have HMM := Lib.hid hm1
        have hwd : IntKind.i64.wrap ((d : Int) + 1) = (d1 : Int) := by rw [IntKind.wrap_i64]; omega
        have hwm : IntKind.i64.wrap ((m : Int) + 1) = (m1 : Int) := by rw [IntKind.wrap_i64]; omega
        obtain ⟨x, hx⟩ : ∃ x, P + d = x := ⟨_, rfl⟩
        obtain ⟨k, hk⟩ : ∃ k, x / 16 = k := ⟨_, rfl⟩
        obtain ⟨r, hr⟩ : ∃ r, x % 16 = r := ⟨_, rfl⟩
        have hwx : IntKind.i64.wrap ((P : Int) + (d : Int)) = (x : Int) := by rw [IntKind.wrap_i64]; omega
        have htq : Int.tdiv (x : Int) 16 = (k : Int) := by rw [Int.tdiv_eq_ediv_of_nonneg (by omega)]; omega
        have htm : Int.tmod (x : Int) 16 = (r : Int) := by rw [Int.tmod_eq_emod_of_nonneg (by omega)]; omega
        have hwk : IntKind.i64.wrap (k : Int) = (k : Int) := by rw [IntKind.wrap_i64]; omega
        have hwr : IntKind.i64.wrap (r : Int) = (r : Int) := by rw [IntKind.wrap_i64]; omega
        have hlt1 : (d : Int) < (n : Int) := by omega
        have hlt2 : decide ((d : Int) < (n : Int)) = true := by simpa using hlt1
        have HFW := Lib.hid (HF.out wr)
        obtain ⟨dI, hdI⟩ : ∃ z : Int, (d : Int) = z := ⟨_, rfl⟩
        obtain ⟨rI, hrI⟩ : ∃ z : Int, (r : Int) = z := ⟨_, rfl⟩
        have HD1 : Hid (d < n ∧ d + 1 = d1 ∧ (d : Int) = dI) := Lib.hid ⟨hlt, hd1, hdI⟩
        rw [hdI] at hwd hwx hlt1 hlt2 ⊢
        rw [hrI] at htm hwr
        by_cases hd0 : d = 0
        · have hdc : d = 0 ∨ (P + d) % 16 = 0 := .inl hd0
          have hz : (dI == 0) = true := by simp only [beq_iff_eq]; omega
          clear hlt hml hpn hd1 hm1 hr hrI htm hwr hdI hd0
          go_wp2_with fail
          refine HFW.out.mono ?_
          rintro e w' ⟨rfl, rfl⟩
          have HLW := Lib.hid (len_wK (p := P) (d := d) HSR.out hdc)
          have HC := Lib.hid (HON.out wr k HB.out)
          obtain ⟨bb, hbb⟩ : ∃ bb, decide (k ∈ S.K) = bb := ⟨_, rfl⟩
          rw [hbb] at HC
          have HBB := Lib.hid hbb
          have HKX : Hid ((P + d) / 16 = k) := Lib.hid (by rw [hx]; exact hk)
          clear hbb hk hx hd hdc 
          go_wp2_with fail
          refine HC.out.mono ?_
          rintro e w' ⟨rfl, hb'⟩
          have HB' := Lib.hid (HB.out.trans (hb'.mono HB.out.size))
          clear hb'
          cases bb with
          | true =>
            have HL2 : Hid ((wK S.K P d1).length = S.K.length + m) := Lib.hid (by rw [← HD1.out.2.1, HLW.out, HL.out, HKX.out, if_pos (by simpa using HBB.out)]; rfl)
            go_wp2_with fail
            go_roundw
            case rel => exact ⟨d1, m, by have := HD1.out; omega, rfl, rfl, HL2, HB'⟩
            case measure => simp [intOf]; have := HD1.out; omega
          | false =>
            have HL2 : Hid ((wK S.K P d1).length = S.K.length + m1) := Lib.hid (by rw [← HD1.out.2.1, HLW.out, HL.out, HKX.out, if_neg (by simpa using HBB.out), ← HMM.out]; omega)
            go_wp2_with fail
            go_roundw
            case rel => exact ⟨d1, m1, by have := HD1.out; omega, rfl, rfl, HL2, HB'⟩
            case measure => simp [intOf]; have := HD1.out; omega
        · have hz : (dI == 0) = false := by simp only [beq_eq_false_iff_ne]; omega
          by_cases hr0 : r = 0
          · have hdc : d = 0 ∨ (P + d) % 16 = 0 := .inr (by omega)
            have hrz : (rI == 0) = true := by simp only [beq_iff_eq]; omega
            clear hlt hml hpn hd1 hm1 hr hrI hdI hd0 hr0
            go_wp2_with fail
            refine HFW.out.mono ?_
            rintro e w' ⟨rfl, rfl⟩
            have HLW := Lib.hid (len_wK (p := P) (d := d) HSR.out hdc)
            have HC := Lib.hid (HON.out wr k HB.out)
            obtain ⟨bb, hbb⟩ : ∃ bb, decide (k ∈ S.K) = bb := ⟨_, rfl⟩
            rw [hbb] at HC
            have HBB := Lib.hid hbb
            have HKX : Hid ((P + d) / 16 = k) := Lib.hid (by rw [hx]; exact hk)
            clear hbb hk hx hd hdc 
            go_wp2_with fail
            refine HC.out.mono ?_
            rintro e w' ⟨rfl, hb'⟩
            have HB' := Lib.hid (HB.out.trans (hb'.mono HB.out.size))
            clear hb'
            cases bb with
            | true =>
              have HL2 : Hid ((wK S.K P d1).length = S.K.length + m) := Lib.hid (by rw [← HD1.out.2.1, HLW.out, HL.out, HKX.out, if_pos (by simpa using HBB.out)]; rfl)
              go_wp2_with fail
              go_roundw
              case rel => exact ⟨d1, m, by have := HD1.out; omega, rfl, rfl, HL2, HB'⟩
              case measure => simp [intOf]; have := HD1.out; omega
            | false =>
              have HL2 : Hid ((wK S.K P d1).length = S.K.length + m1) := Lib.hid (by rw [← HD1.out.2.1, HLW.out, HL.out, HKX.out, if_neg (by simpa using HBB.out), ← HMM.out]; omega)
              go_wp2_with fail
              go_roundw
              case rel => exact ⟨d1, m1, by have := HD1.out; omega, rfl, rfl, HL2, HB'⟩
              case measure => simp [intOf]; have := HD1.out; omega
          · have hrz : (rI == 0) = false := by simp only [beq_eq_false_iff_ne]; omega
            have HL2 : Hid ((wK S.K P d1).length = S.K.length + m) := Lib.hid (by rw [← hd1, wK_skip HSR.out hd0 (by omega)]; exact HL.out)
            clear hlt hml hpn hd1 hm1 hr hrI hdI hd0 hr0 hx hk hd
            go_wp2_with fail
            refine HFW.out.mono ?_
            rintro e w' ⟨rfl, rfl⟩
            go_wp2_with fail
            go_roundw
            case rel => exact ⟨d1, m, by have := HD1.out; omega, rfl, rfl, HL2, HB⟩
            case measure => simp [intOf]; have := HD1.out; omega
      · obtain rfl : d = n := by omega
        have hlt1 : ¬ (d : Int) < (d : Int) := by omega
        have hlt2 : decide ((d : Int) < (d : Int)) = false := by simp
        have HE : Hid ((m : Int) = v) := Lib.hid (by
          rw [← HV.out]
          unfold ndI nd
          rw [if_pos HRR.out, Int.toNat_natCast, HL.out]
          omega)
        go_wp2_with fail
        go_ret
        exact ⟨ret_i HE.out, HB1.out.trans (HB.out.mono HB1.out.size)⟩
/-! ### Read -/
def RdPost (w : World) (l : List UInt8) (e : Ending) (w' : World) : Prop := ∃ A k c, e = .returned (.slice A k c) ∧ Rd bcell 1 w' A k l ∧ k ≤ c ∧ Below w.heap.size w w'
theorem rd_part {w : World} {A : Option Addr} {n c : Nat} {l : List UInt8} (h : Rd bcell 1 w A n l) (hc : n ≤ c) (i k : Nat) (hik : i ≤ k) (hkn : k ≤ n) (hA : A = none → c = 0) : ∃ A2, (∀ W : World, (Instr.slice 27 (.slice A n c) (some (.int .i64 (i : Int))) (some (.int .i64 (k : Int))) none).run Try.prog W = .ok (.slice A2 (k - i) (c - i)) W) ∧ Rd bcell 1 w A2 (k - i) ((l.drop i).take (k - i)) := by
  obtain ⟨i0, hi, hz0, hz1, hz2⟩ := info_parts infoB
  have e : Try.prog.elem 27 = 5 := by kernel_rfl
  have hl : ((l.drop i).take (k - i)).length = k - i := by rw [List.length_take, List.length_drop, h.len]; omega
  by_cases hk : i < k
  · obtain ⟨b, o, rfl, hcc⟩ := h.cells (by omega)
    have hne : ¬ c = i := by omega
    refine ⟨some ⟨b, o + i, none⟩, fun W => ?_, hl, fun _ => ⟨b, o + i, rfl, fun j hj v u hv2 => ?_⟩⟩
    · rw [run_slice_lh (P := Try.prog) (w := W) 27 (some ⟨b, o, none⟩) n c Try.underlying27 .i64 .i64 (i : Int) (k : Int) (by omega) (by omega) (by omega)]
      simp [e, sizeOf, typeInfo, hi, hz1, sliced, hne, Go.WideShapes.add_plain]
    · rw [hl] at hj
      have hij : i + j < l.length := by rw [h.len]; omega
      have := hcc (i + j) hij v u (by rw [← hv2]; simp [List.getElem_take, List.getElem_drop])
      rw [← this]
      congr 2
      omega
  · obtain rfl : i = k := by omega
    cases A with
    | none =>
      have hc0 := hA rfl
      subst hc0
      obtain rfl : i = 0 := by omega
      refine ⟨none, fun W => ?_, hl, fun h0 => absurd h0 (by omega)⟩
      show (Instr.slice 27 (.slice none n 0) (some (.int .i64 0)) (some (.int .i64 0)) none).run Try.prog W = _
      rw [run_slice_lh (P := Try.prog) (w := W) 27 none n 0 Try.underlying27 .i64 .i64 0 0 (by omega) (by omega) (by omega)]
      simp [e, sizeOf, typeInfo, hi, hz1, sliced]
    | some a =>
      refine ⟨some (if c = i then a else a.add (i * 1)), fun W => ?_, hl, fun h0 => absurd h0 (by omega)⟩
      rw [run_slice_lh (P := Try.prog) (w := W) 27 (some a) n c Try.underlying27 .i64 .i64 (i : Int) (i : Int) (by omega) (by omega) (by omega)]
      by_cases hh : c = i
      · simp [e, sizeOf, typeInfo, hi, hz1, sliced, hh]
      · simp [e, sizeOf, typeInfo, hi, hz1, sliced, hh]
set_option maxHeartbeats 4000000 in
theorem rread_any {w : World} {A A2 : Option Addr} {c c2 : Nat} {S : Sh} (hD : DF w A c A2 c2 S) (hl : S.n ≤ 1048576) (p m : Int) (hp : p ≤ 9223372036854775807) : Calls Try.prog 15 #[dv A S.n c A2 S.K.length c2, .int .i64 p, .int .i64 m] w (RdPost w (rd S p m)) := by
  obtain ⟨w1, hw1⟩ : ∃ w1, w1 = w.alloc (.cells #[.slice A S.n c, .slice A2 S.K.length c2] 30) := ⟨_, rfl⟩
  obtain ⟨q, eq⟩ : ∃ q, q = w.heap.size := ⟨_, rfl⟩
  have hb1 : Below w.heap.size w w1 := by rw [hw1]; exact box_below w _
  have hq : w1.heap[q]? = some (.cells #[.slice A S.n c, .slice A2 S.K.length c2] 30 (0, 0)) := by rw [hw1, eq]; exact new_block w _
  have HD := Lib.hid (hD.below hb1)
  have HW1 := Lib.hid hw1
  have EQ := Lib.hid eq
  have HB1 := Lib.hid hb1
  have q0 := cell_of hq (j := 0) rfl
  have HNIL : Hid (∀ l : List UInt8, l = [] → RdPost w l (.returned (.slice none 0 0)) w1) := Lib.hid (fun l e => by subst e; exact ⟨_, _, _, rfl, Rd.nil _ _ _ _, Nat.le_refl _, HB1.out⟩)
  obtain ⟨n, hn⟩ : ∃ n, S.n = n := ⟨_, rfl⟩
  have HN := Lib.hid hn
  obtain ⟨z, hz⟩ : ∃ z : Int, (n : Int) = z := ⟨_, rfl⟩
  unfold dv
  rw [hn] at hw1 HW1 q0 ⊢
  clear hD hw1 eq hb1 hq
  by_cases h0 : p < 0
  · have HE : Hid (rd S p m = []) := Lib.hid (by unfold rd; rw [if_pos (.inl h0)])
    have h0' : decide (p < 0) = true := by simpa using h0
    clear h0 hl hn hz
    go_enter Try.func15, Try.ntmps15
    go_upto_region 1 with fail
    rw [← HW1.out, ← EQ.out]
    go_wp2_with fail
    go_ret
    exact HNIL.out _ HE.out
  · have h0' : decide (p < 0) = false := by simpa using h0
    by_cases h1 : m < 0
    · have HE : Hid (rd S p m = []) := Lib.hid (by unfold rd; rw [if_pos (.inr (.inl h1))])
      have h1' : decide (m < 0) = true := by simpa using h1
      clear h0 h1 hl hn hz
      go_enter Try.func15, Try.ntmps15
      go_upto_region 1 with fail
      rw [← HW1.out, ← EQ.out]
      go_wp2_with fail
      go_ret
      exact HNIL.out _ HE.out
    · have h1' : decide (m < 0) = false := by simpa using h1
      by_cases h2 : (n : Int) ≤ p
      · have HE : Hid (rd S p m = []) := Lib.hid (by unfold rd; rw [if_pos (.inr (.inr (by rw [hn]; exact h2)))])
        have h2' : decide ((n : Int) ≤ p) = true := by simpa using h2
        clear h0 h1 h2 hl hn hz
        go_enter Try.func15, Try.ntmps15
        go_upto_region 1 with fail
        rw [← HW1.out, ← EQ.out]
        go_wp2_with fail
        go_ret
        exact HNIL.out _ HE.out
      · have h2' : decide ((n : Int) ≤ p) = false := by simpa using h2
        obtain ⟨P, hP⟩ : ∃ P : Nat, p = (P : Int) := ⟨p.toNat, by omega⟩
        subst hP
        have h2'' : decide (n ≤ P) = false := by simp only [decide_eq_false_iff_not]; omega
        obtain ⟨N, hN⟩ : ∃ N : Nat, (N : Int) = min m ((n : Int) - (P : Int)) := ⟨(min m ((n : Int) - (P : Int))).toNat, by omega⟩
        obtain ⟨t, ht⟩ : ∃ t : Int, (n : Int) - (P : Int) = t := ⟨_, rfl⟩
        have hw2 : IntKind.i64.wrap ((n : Int) - (P : Int)) = t := by rw [IntKind.wrap_i64]; omega
        have hw3 : IntKind.i64.wrap ((P : Int) + (N : Int)) = ((P + N : Nat) : Int) := by rw [IntKind.wrap_i64]; omega
        have hrB := HD.out.rdB
        rw [hn] at hrB
        have hown := HD.out.bytes
        rw [hn] at hown
        obtain ⟨A3, hsl, hr3⟩ := rd_part hrB (own_le hown).1 P (P + N) (by omega) (by omega) (own_cap hown)
        rw [show P + N - P = N by omega] at hsl hr3
        obtain ⟨y, hy⟩ : ∃ y : Int, ((P + N : Nat) : Int) = y := ⟨_, rfl⟩
        rw [hy] at hsl hw3
        have hcap := (own_le hown).1
        have HE : Hid (RdPost w (rd S (P : Int) m) (.returned (.slice A3 N (c - P))) w1) := Lib.hid (by
          refine ⟨A3, N, c - P, rfl, ?_, by omega, HB1.out⟩
          unfold rd
          rw [if_neg (by omega), Int.toNat_natCast, hn]
          by_cases hm : m ≤ t
          · have : m.toNat = N := by omega
            rw [this]; exact hr3
          · have e1 : ((bs S.f n).drop P).length = n - P := by rw [List.length_drop, bs_len]
            rw [List.take_of_length_le (by rw [e1]; omega)] at hr3
            rw [List.take_of_length_le (by rw [e1]; omega)]
            exact hr3)
        by_cases hm : m ≤ t
        · obtain rfl : m = (N : Int) := by omega
          have hm' : decide (t < (N : Int)) = false := by simp only [decide_eq_false_iff_not]; omega
          clear h0 h1 h2 hl hn hz hN ht hrB hown hr3 hy hcap hm
          go_enter Try.func15, Try.ntmps15
          go_upto_region 1 with fail
          rw [← HW1.out, ← EQ.out]
          go_wp2_with fail
          go_ret
          exact HE.out
        · have hm' : decide (t < m) = true := by simp only [decide_eq_true_eq]; omega
          obtain rfl : t = (N : Int) := by omega
          clear h0 h1 h2 hl hn hz hN ht hrB hown hr3 hy hcap hm
          go_enter Try.func15, Try.ntmps15
          go_upto_region 1 with fail
          rw [← HW1.out, ← EQ.out]
          go_wp2_with fail
          go_ret
          exact HE.out
end Go.Proofs.Ytoallenigfbkpaa
