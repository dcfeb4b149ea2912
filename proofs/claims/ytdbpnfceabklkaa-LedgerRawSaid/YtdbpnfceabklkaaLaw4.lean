/-
  LedgerRaw: the law returns true of every script, and of every place. No condition.
-/
import Derived.Test.YtdbpnfceabklkaaRaw
namespace Go.Proofs.Ytdbpnfceabklkaa
set_option maxRecDepth 100000
open Go.ChangeShapes Go.WideShapes Go.ChangeAt Go.RowKit

theorem raw_writes {G : Lg} {n : Nat} {half there : Nat} {b : List Int} (hg : Gok G n) (hh : half ≤ 1) (hb : b.length ≤ G.sz * 64) : ∀ x ∈ setW G.fr G.sz G.m half there b, x.1 < n ∧ x.2.length ≤ 64 :=
  setW_fits hh hg.slot hg.num hb hg.fit
theorem raw_put {G : Lg} {D : Dk} {k n : Nat} (hg : Gok G n) (hl : Lives n k D) {half there : Nat} {b : List Int} (hh : half ≤ 1) (hb : b.length ≤ G.sz * 64) :
    (putL G D half there b).2.2 = 0 ∧ (putL G D half there b).1 = { G with m := nextMk G.m half b.length, bs := b } := by
  rcases run_ends (setW G.fr G.sz G.m half there b) D (by rw [hl.arm]; decide) (by rw [hl.len]; exact raw_writes hg hh hb) with hr | hr
  · exact ⟨hr.1, if_pos hr.1⟩
  · obtain ⟨-, -, hx, -⟩ := hr
    rcases hx with hx | hx
    · rw [hl.dead] at hx; cases hx
    · exact absurd hl.arm hx
/-- Replace, on a ledger that was told. -/
theorem raw_replace {w : World} {B q p n : Nat} {G : Lg} {bv : Value} {D : Dk} (h : PL w B q p G bv D) (hl : Lives n 200 D) (hg : Gok G n) (hsz : 1 ≤ G.sz) {A : Option Addr} (hS : SReads w A 1 [[97]]) :
    Calls Try.prog 29 #[.pointer (some ⟨q, 0, none⟩), .slice A 1 1] w fun e w' => e = .returned (.int .i64 0) ∧ ∃ G' bv' D', PL w' B q p G' bv' D' ∧ G'.bs = enc [[97]] ∧ Below B w w' := by
  have hn : need [[97]] = 5 := by decide
  have ham : amissL D.dead 0 [[97]] G.sz = 0 := by
    unfold amissL
    rw [hl.dead, if_neg (by decide), if_neg (by simp), if_neg (by rw [hn]; omega)]
  refine (replace_any B q p G bv D A 1 1 [[97]] w h hS (by decide) (fun s hs => by rcases List.mem_singleton.1 hs with rfl; decide) (by have := hl.wait; omega)).mono ?_
  intro e w' hrp
  rcases hrp with ⟨h0, -⟩ | ⟨-, bb, hse⟩
  · exact absurd ham h0
  obtain ⟨bv', he, hpl, hkl⟩ := se_ds hse
  have hhf := hg.half
  obtain ⟨p1, p2⟩ := raw_put (half := 1 - G.m.half) (there := 0) (b := enc [[97]]) hg hl (by omega) (by rw [enc_length, hn]; omega)
  rw [p1] at he
  refine ⟨he, _, bv', _, hpl, ?_, hkl.below⟩
  rw [p2]
theorem rok_a : Rok [[97]] := fun s hs => by
  rcases List.mem_singleton.1 hs with rfl
  exact ⟨by decide, fun z hz => by rcases List.mem_singleton.1 hz with rfl; decide⟩
theorem sreads_a (w : World) : SReads (w.alloc (.cells #[.string sA] 9)) (some ⟨w.heap.size, 0, none⟩) 1 [[97]] := sreads_one w sA
set_option maxHeartbeats 8000000 in
theorem law_raw (A : Option Addr) (n c : Nat) (l : List Opr) (x y : Int) (w : World) (hR : PReads w w.heap.size A n l) (hx : -9223372036854775808 ≤ x ∧ x ≤ 9223372036854775807) (hy : y ≤ 9223372036854775807) :
    Calls Try.prog 6 #[.slice A n c, .int .i64 x, .int .i64 y] w fun e w' => e = .returned (.bool true) ∧ Below w.heap.size w w' := by
  have HR := Lib.hid hR
  have HN : Hid (Calls Try.prog 27 #[.int .i64 40] w (NwPost w 40)) := Lib.hid (new_any 40 40 w (by decide) (.inr rfl))
  have HX := Lib.hid hx
  have HY := Lib.hid hy
  clear hR hx hy
  by_cases hlong : (200 : Int) < (n : Int)
  · go_enter Try.func6, Try.ntmps6
    go_wp2_with fail
    refine HN.out.mono ?_
    rintro e w1 ⟨p, rfl, hp, hb1⟩
    have HB1 := Lib.hid hb1
    clear hb1 hp
    go_wp2_with fail
    refine (alive_any w1).mono ?_
    rintro e w2 ⟨rfl, hb2⟩
    have HB2 := Lib.hid (HB1.out.trans (hb2.mono HB1.out.size))
    clear hb2
    go_wp2_with fail
    go_ret
    exact ⟨rfl, HB2.out⟩
  have hn200 : n ≤ 200 := by omega
  go_enter Try.func6, Try.ntmps6
  go_wp2_with fail
  refine HN.out.mono ?_
  rintro e w1 ⟨p, rfl, hp, hb1⟩
  have HP1 := Lib.hid hp
  have HK1 := Lib.hid (Kl.of_below hb1 (Nat.le_refl _))
  clear hb1 hp
  go_wp2_with fail
  go_loopw [28] (fun vk wr => ∃ (k : Nat) (D : Dk), k ≤ n ∧ vk = .int .i64 k ∧ Lives 40 k D ∧ PDisk wr w.heap.size p D ∧ Kl w.heap.size w wr) (fun vk _ => n - (intOf vk).toNat)
  case atStart => exact ⟨0, _, Nat.zero_le _, rfl, lives_new 40, HP1.out, HK1.out⟩
  case round =>
    obtain ⟨k, D, hk, rfl, hli, hpd, hkl⟩ := hrel
    have HLI := Lib.hid hli
    have HPD := Lib.hid hpd
    have HKL := Lib.hid hkl
    clear hli hpd hkl
    by_cases hlt : k < n
    · obtain ⟨b, off, rfl, hbw, hc⟩ := (HR.out.kept HKL.out.below).2 (by omega)
      obtain ⟨h0, h1, h2, ⟨A4, l4, c4, h3, hr4, hu4⟩, -⟩ := hc k hlt
      obtain ⟨o, ho⟩ : ∃ o, o = l.getD k op0 := ⟨_, rfl⟩
      rw [← ho] at h0 h1 h2 hr4
      obtain ⟨bo, hbo'⟩ : ∃ bo, bo = wr.heap.size := ⟨_, rfl⟩
      obtain ⟨wo, hwo⟩ : ∃ wo, wo = wr.alloc (.cells #[.int .i64 o.k, .int .i64 o.n, .int .i64 o.t, .slice A4 l4 c4] 59) := ⟨_, rfl⟩
      have hbo : Below wr.heap.size wr wo := by rw [hwo]; exact box_below wr _
      have hbo2 : wo.heap[bo]? = some (.cells #[.int .i64 o.k, .int .i64 o.n, .int .i64 o.t, .slice A4 l4 c4] 59 (0, 0)) := by rw [hwo, hbo']; exact new_block wr _
      have HBO2 := Lib.hid hbo2
      have HPO := Lib.hid (HPD.out.kept hbo)
      have HKO := Lib.hid (HKL.out.trans (Kl.of_below hbo HKL.out.below.size))
      have HWR := Lib.hid (write_any w.heap.size p D o.n A4 l4 c4 o.b wo HPO.out (fun w' hk' => (hr4.kept hbo).keptAt hu4 hk'.below) (by have := HLI.out.wait; omega))
      have HLN := Lib.hid (lives_write HLI.out o.n o.b)
      have HWO := Lib.hid hwo
      have HBE := Lib.hid hbo'
      have hk0 : (0 : Int) ≤ (k : Int) := by omega
      have hk1 : (k : Int) < (n : Int) := by omega
      clear hc ho hbo' hwo hbo hbo2 hr4 hu4 hbw
      go_upto_region 7 with fail
      rw [← HWO.out, ← HBE.out]
      have o0 := cell_of HBO2.out (j := 0) rfl
      have o1 := cell_of HBO2.out (j := 1) rfl
      have o3 := cell_of HBO2.out (j := 3) rfl
      by_cases hk00 : o.k = 0
      · go_wp2_with fail
        refine HWR.out.mono ?_
        rintro e w5 ⟨rfl, hp5, hk5⟩
        have HP5 := Lib.hid hp5
        have HK5 := Lib.hid (HKO.out.trans (Kl.of_kp hk5))
        clear hp5 hk5 o0 o1 o3 h0 h1 h2 h3
        go_wp2_with fail
        go_round
        case rel => exact ⟨k + 1, _, by omega, by go_num, HLN.out, HP5.out, HK5.out⟩
        case measure => simp [intOf]; omega
      · have hb0 : (o.k == 0) = false := by simpa using hk00
        clear h0 h1 h2 h3
        go_wp2_with fail
        go_round
        case rel => exact ⟨k + 1, D, by omega, by go_num, HLI.out.more (by omega), HPO.out, HKO.out⟩
        case measure => simp [intOf]; omega
    · obtain rfl : k = n := by omega
      have hk1 : ¬ (k : Int) < (k : Int) := by omega
      by_cases hbad : x < 0 ∨ y < 4 ∨ 40 < x + y
      · have HOF := Lib.hid (open_form w.heap.size p D x y wr HPD.out HLI.out.dead HX.out HY.out (by rw [HLI.out.len]; decide) (by rw [HLI.out.len]; exact hbad))
        have hcase : x < 0 ∨ (0 ≤ x ∧ y < 4) ∨ (0 ≤ x ∧ 4 ≤ y ∧ 40 < y) ∨ (0 ≤ x ∧ 4 ≤ y ∧ y ≤ 40 ∧ 40 - y < x) := by omega
        clear hbad
        rcases hcase with h1 | ⟨h1, h2⟩ | ⟨h1, h2, h3⟩ | ⟨h1, h2, h3, h4⟩
        all_goals
          go_wp2_with fail
          refine HOF.out.mono ?_
          rintro e w2 ⟨rfl, hb2⟩
          have HK2 := Lib.hid (HKL.out.trans (Kl.of_below hb2 HKL.out.below.size))
          clear hb2
          go_wp2_with fail
          refine (alive_any w2).mono ?_
          rintro e w3 ⟨rfl, hb3⟩
          have HK3 := Lib.hid (HK2.out.trans (Kl.of_below hb3 HK2.out.below.size))
          clear hb3
          go_wp2_with fail
          go_ret
          exact ⟨rfl, HK3.out.below⟩
      · obtain ⟨fr, rfl⟩ : ∃ m : Nat, x = (m : Int) := ⟨x.toNat, by omega⟩
        obtain ⟨many, rfl⟩ : ∃ m : Nat, y = (m : Int) := ⟨y.toNat, by omega⟩
        have h4 : 4 ≤ many := by omega
        have hf : fr + many ≤ 40 := by omega
        have g1 : ¬ (fr : Int) < 0 := by omega
        have g2 : ¬ (many : Int) < 4 := by omega
        have g3 : ¬ (40 : Int) < (many : Int) := by omega
        have g4 : ¬ (40 : Int) - (many : Int) < (fr : Int) := by omega
        obtain ⟨sz, hsz⟩ : ∃ s, s = (many - 2) / 2 := ⟨_, rfl⟩
        have HOP := Lib.hid (open_any w.heap.size p fr many sz D wr HPD.out HKL.out.below.size HLI.out.dead (by rw [HLI.out.len]; decide) h4 (by rw [HLI.out.len]; exact hf) hsz)
        have hsz1 : 1 ≤ sz := by omega
        clear hbad hsz
        go_wp2_with fail
        refine HOP.out.mono ?_
        rintro e w2 ⟨hb2, ⟨q, m, bs, bv, rfl, -, hpl, -⟩ | ⟨rfl, -⟩⟩
        · have HK2 := Lib.hid (HKL.out.trans (Kl.of_below hb2 HKL.out.below.size))
          obtain ⟨w3, hw3⟩ : ∃ w3, w3 = w2.alloc (.cells #[.string sA] 9) := ⟨_, rfl⟩
          have hb3 : Below w2.heap.size w2 w3 := by rw [hw3]; exact box_below w2 _
          have hs3 : SReads w3 (some ⟨w2.heap.size, 0, none⟩) 1 [[97]] := by rw [hw3]; exact sreads_a w2
          have hpl3 := hpl.kept hb3
          have HRP := Lib.hid (raw_replace (n := 40) hpl3 (HLI.out.more (by omega)) (by have := hpl3.gok; rw [HLI.out.len] at this; exact this) hsz1 hs3)
          have HK3 := Lib.hid (HK2.out.trans (Kl.of_below hb3 HK2.out.below.size))
          have HW3 := Lib.hid hw3
          clear hb2 hpl hb3 hs3 hpl3 hw3
          go_wp2_with fail
          rw [HW3.out] at HRP
          refine HRP.out.mono ?_
          rintro e w5 ⟨rfl, G5, bv5, D5, hpl5, hbs5, hb5⟩
          have HB5 := Lib.hid (HK3.out.below.trans (by rw [HW3.out]; exact hb5))
          have HPL5 := Lib.hid hpl5
          have HBS5 := Lib.hid hbs5
          clear hpl5 hbs5 hb5
          go_wp2_with fail
          refine (alive_any w5).mono ?_
          rintro e w6 ⟨rfl, hb6⟩
          have HB6 := Lib.hid (HB5.out.trans (hb6.mono HB5.out.size))
          have HAL := Lib.hid (all_any w.heap.size q p G5 bv5 D5 [[97]] w6 (HPL5.out.kept hb6) HBS5.out rok_a)
          clear hb6
          go_wp2_with fail
          refine HAL.out.mono ?_
          rintro e w7 ⟨v7, rfl, ho7, hb7⟩
          obtain ⟨A7, c7, rfl, hr7, -, -⟩ := own_sreads ho7 (fun s hs => (rok_a s hs).2)
          have HB7 := Lib.hid (HB6.out.trans (hb7.mono HB6.out.size))
          have HR7 := Lib.hid (hr7.kept (box_below w7 (.cells #[.string sA] 9)))
          have HSM := Lib.hid (same_true A7 (some ⟨w7.heap.size, 0, none⟩) 1 1 c7 1 [[97]] _ HR7.out (sreads_a w7) (by decide))
          clear ho7 hb7 hr7
          go_wp2_with fail
          refine HSM.out.mono ?_
          rintro e w8 ⟨rfl, m8, rfl⟩
          go_wp2_with fail
          go_ret
          exact ⟨rfl, below_drewN (HB7.out.trans ((box_below w7 _).mono HB7.out.size)) _⟩
        · have HK2 := Lib.hid (HKL.out.trans (Kl.of_below hb2 HKL.out.below.size))
          clear hb2
          go_wp2_with fail
          refine (alive_any w2).mono ?_
          rintro e w3 ⟨rfl, hb3⟩
          have HK3 := Lib.hid (HK2.out.trans (Kl.of_below hb3 HK2.out.below.size))
          clear hb3
          go_wp2_with fail
          go_ret
          exact ⟨rfl, HK3.out.below⟩
end Go.Proofs.Ytdbpnfceabklkaa
