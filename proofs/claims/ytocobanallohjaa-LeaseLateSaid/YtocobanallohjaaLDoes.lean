/-
  What the laws' own does, plain, alive and plays return and leave. Condition: tables are good.
-/
import Derived.Test.YtocobanallohjaaLDoc3
import Derived.Test.YtocobanallohjaaLOpen
namespace Go.Proofs.Ytocobanallohjaa
set_option maxRecDepth 100000
open Go.ChangeShapes Go.WideShapes Go.ChangeAt Go.RowKit Go.Proofs.Le

theorem kp_trans {a b c : World} {Bs tp : Nat} {v v' : Value} {M : Tb} (h : TK a b tp v) (hv : ∀ g, v'.ownBlock = some g → v.ownBlock = some g ∨ a.heap.size ≤ g) (k : KpPost Bs tp v' M b c) : KpPost Bs tp v M a c := by
  obtain ⟨v2, h1, h2, h3⟩ := k
  refine ⟨v2, h1, h.then h2 hv, fun g hg => ?_⟩
  rcases h3 g hg with h4 | h4
  · exact hv g h4
  · exact .inr (Nat.le_trans h.size h4)
theorem er_pre {a b c : World} {Bs tp : Nat} {v : Value} {x : Tb × Int} {e : Ending} (hb : Below a.heap.size a b) (h : ErPost Bs tp v x b e c) : ErPost Bs tp v x a e c := ⟨h.1, kp_pre hb h.2⟩
set_option maxHeartbeats 8000000 in
theorem does_any {w : World} {Bs tp : Nat} {v : Value} {L : Tb} (ht : TabW w Bs tp v L) (hB : Bs ≤ w.heap.size) (hg : Le.Good L) (o : Cal) : Calls Try.prog 27 #[.pointer (some ⟨tp, 0, none⟩), .agg #[.int .i64 o.k, .int .i64 o.i, .int .i64 o.s, .int .i64 o.n]] w (ErPost Bs tp v (stepE L o) w) := by
  obtain ⟨w1, hw1⟩ : ∃ w1, w1 = w.alloc (.cells #[.int .i64 o.k, .int .i64 o.i, .int .i64 o.s, .int .i64 o.n] 58) := ⟨_, rfl⟩
  obtain ⟨q, eq⟩ : ∃ q, q = w.heap.size := ⟨_, rfl⟩
  have hb1 : Below w.heap.size w w1 := by rw [hw1]; exact box_below w _
  have hq : w1.heap[q]? = some (.cells #[.int .i64 o.k, .int .i64 o.i, .int .i64 o.s, .int .i64 o.n] 58 (0, 0)) := by rw [hw1, eq]; exact new_block w _
  have q0 := cell_of hq (j := 0) rfl
  have q1 := cell_of hq (j := 1) rfl
  have q2 := cell_of hq (j := 2) rfl
  have q3 := cell_of hq (j := 3) rfl
  have HT1 := Lib.hid (ht.below hb1)
  have HT := Lib.hid ht
  have HG := Lib.hid hg
  have HBS : Hid (Bs ≤ w1.heap.size) := Lib.hid (Nat.le_trans hB hb1.size)
  have HW1 := Lib.hid hw1
  have EQ := Lib.hid eq
  have HB1 := Lib.hid hb1
  clear hw1 eq hb1 hq ht hB hg
  by_cases h0 : o.k = 0
  · have HST := Lib.hid (stp_0 (T := L) h0)
    have hk0 : (o.k == 0) = true := by simpa using h0
    have HC := Lib.hid (open_any HT1.out HBS.out HG.out ⟨o.i, o.s, o.n⟩)
    rw [HST.out]
    clear h0
    go_enter Try.func27, Try.ntmps27
    go_upto_region 1 with fail
    rw [← HW1.out, ← EQ.out]
    go_wp2_with fail
    refine HC.out.mono ?_
    intro e w3 h3
    have HE := Lib.hid (er_pre HB1.out h3)
    obtain ⟨rfl, -⟩ := h3
    go_wp2_with fail
    go_ret
    exact HE.out
  have hk0 : (o.k == 0) = false := by simpa using h0
  by_cases h1 : o.k = 1
  · have HST := Lib.hid (stp_1 (T := L) h1)
    have hk1 : (o.k == 1) = true := by simpa using h1
    have HC := Lib.hid (renew_any HT1.out HBS.out HG.out o.i o.n)
    rw [HST.out]
    clear h0 h1
    go_enter Try.func27, Try.ntmps27
    go_upto_region 1 with fail
    rw [← HW1.out, ← EQ.out]
    go_wp2_with fail
    refine HC.out.mono ?_
    intro e w3 h3
    have HE := Lib.hid (er_pre HB1.out h3)
    obtain ⟨rfl, -⟩ := h3
    go_wp2_with fail
    go_ret
    exact HE.out
  have hk1 : (o.k == 1) = false := by simpa using h1
  by_cases h2 : o.k = 2
  · have HST := Lib.hid (stp_2 (T := L) h2)
    have hk2 : (o.k == 2) = true := by simpa using h2
    have HC := Lib.hid (close_any HT1.out HBS.out HG.out o.i)
    rw [HST.out]
    clear h0 h1 h2
    go_enter Try.func27, Try.ntmps27
    go_upto_region 1 with fail
    rw [← HW1.out, ← EQ.out]
    go_wp2_with fail
    refine HC.out.mono ?_
    intro e w3 h3
    have HE := Lib.hid (er_pre HB1.out h3)
    obtain ⟨rfl, -⟩ := h3
    go_wp2_with fail
    go_ret
    exact HE.out
  have hk2 : (o.k == 2) = false := by simpa using h2
  have HE : Hid (ErPost Bs tp v (stepE L o) w (.returned (.int .i64 0)) w1) := Lib.hid (er_same (stp_3 h0 h1 h2) HT.out HB1.out)
  clear h0 h1 h2
  go_enter Try.func27, Try.ntmps27
  go_upto_region 1 with fail
  rw [← HW1.out, ← EQ.out]
  go_wp2_with fail
  go_ret
  exact HE.out
/-! ### plain -/
set_option maxHeartbeats 4000000 in
theorem plain_any {w : World} {A : Option Addr} {n c : Nat} {T : Tb} (hR : Rd lcell 3 w A n T) (hn : n ≤ 2000) : Calls Try.prog 15 #[.slice A n c] w (RlPost w T) := by
  have HR := Lib.hid hR
  have HL := Lib.hid hR.len
  obtain ⟨i0, hi, hz0, hz1, hz2⟩ := info_parts infoD
  clear hR
  go_enter Try.func15, Try.ntmps15
  go_wp2_with fail
  go_loopw [3, 8] (fun u i wr => ∃ k : Nat, k ≤ n ∧ i = .int .i64 k ∧ Hid (wr.ownsRow w.heap.size 33 3 u (T.take k).length (lcells (T.take k))) ∧ Hid (Below w.heap.size w wr)) (fun _ i _ => n - (intOf i).toNat)
  case atStart => exact ⟨0, Nat.zero_le _, rfl, Lib.hid (World.ownsRow_nil _ _ _ _), Lib.hid (Below.refl _ _)⟩
  case round =>
    obtain ⟨k, hk, rfl, HO, HX⟩ := hrel
    by_cases hlt : k < n
    · obtain ⟨b, off, x, rfl, hx, hcc⟩ := (HR.out.below HX.out).at hlt
      have c0 : wr.cell? ⟨b, off + k * 3, none⟩ = some (.int .i64 x.i) := hcc 0 _ rfl
      have c1 : wr.cell? ⟨b, off + k * 3 + 1, none⟩ = some (.int .i64 x.s) := hcc 1 _ rfl
      have c2 : wr.cell? ⟨b, off + k * 3 + 2, none⟩ = some (.int .i64 x.l) := hcc 2 _ rfl
      obtain ⟨w3, hw3⟩ : ∃ w3, w3 = wr.alloc (.cells #[.int .i64 x.i, .int .i64 x.s, .int .i64 x.l] 30) := ⟨_, rfl⟩
      obtain ⟨r, er⟩ : ∃ r, r = wr.heap.size := ⟨_, rfl⟩
      have hb3 : Below wr.heap.size wr w3 := by rw [hw3]; exact box_below wr _
      have hr : w3.heap[r]? = some (.cells #[.int .i64 x.i, .int .i64 x.s, .int .i64 x.l] 30 (0, 0)) := by rw [hw3, er]; exact new_block wr _
      have HTK : Hid (T.take (k + 1) = T.take k ++ [x]) := Lib.hid (take_some hx)
      have HX3 := Lib.hid (HX.out.trans (hb3.mono HX.out.size))
      have HO3 := Lib.hid (own_below HO.out hb3)
      have r0 := cell_of hr (j := 0) rfl
      have r1 := cell_of hr (j := 1) rfl
      have r2 := cell_of hr (j := 2) rfl
      have hk0 : (0 : Int) ≤ (k : Int) := by omega
      have hki : (k : Int) < (n : Int) := by omega
      have hwk : IntKind.i64.wrap ((k : Int) + 1) = (k : Int) + 1 := by rw [IntKind.wrap_i64]; omega
      have HW3 := Lib.hid hw3
      have ER := Lib.hid er
      clear hx hcc hw3 er hb3 hr
      go_upto_region 5 with fail
      rw [← HW3.out, ← ER.out]
      clear c0 c1 c2
      have ho := HO3.out
      have hsz := HX3.out.size
      have htl : (T.take k).length ≤ 2000 := by rw [List.length_take]; omega
      go_wp2_with (at_builtin; refine wpList_append_own _ rfl _ _ 26 rfl w.heap.size 33 i0 _ 3 24 Try.underlying26 hi hz0 hz1 hz2 rfl (by decide) _ _ _ rfl (ho.alloc _) ⟨w3.heap.size, 0, none⟩ 1 1 (lcell x) rfl rfl (World.news_of_block (new_block w3 _)) (lcell_one _) (by unfold maxLen at *; omega) (by omega) (by simp; omega) ?_; intro v' w6 hown' hg6 hnil6)
      have HB6 := Lib.hid ((HX3.out.alloc hsz _).grown hg6 (by simp; omega) (fun j hj => (HO3.out.lt j hj).1))
      have HO6 : Hid (w6.ownsRow w.heap.size 33 3 v' (T.take (k + 1)).length (lcells (T.take (k + 1)))) := Lib.hid (by
        rw [HTK.out]
        rw [lcells_append, List.length_append]
        simpa [lcells] using hown')
      clear hown' hg6 hnil6 ho htl r0 r1 r2
      go_wp2_with fail
      go_roundw
      case rel => exact ⟨k + 1, by omega, by go_num, HO6, HB6⟩
      case measure => simp [intOf]; omega
    · obtain rfl : k = n := by omega
      have hki : ¬ (k : Int) < (k : Int) := by omega
      have ho := HO.out
      rw [List.take_of_length_le (by rw [HL.out]; exact Nat.le_refl _)] at ho
      obtain ⟨A5, c5, he5, -, -, -⟩ := own_form ho
      subst he5
      have HE : Hid (RlPost w T (.returned (.slice A5 T.length c5)) wr) := Lib.hid ⟨A5, c5, rfl, ho, HX.out⟩
      clear ho
      go_wp2_with fail
      go_ret
      exact HE.out
/-! ### alive -/
theorem al_1 : opn [] ⟨3, 10, 5⟩ = ([⟨3, 10, 5⟩], 0) := by decide
theorem al_2 : endd [⟨3, 10, 5⟩] 16 = [3] := by decide
theorem al_3 : endd [⟨3, 10, 5⟩] 15 = [] := by decide
theorem al_4 : ren [⟨3, 10, 5⟩] 3 16 = ([⟨3, 10, 16⟩], 0) := by decide
theorem al_5 : endd [⟨3, 10, 16⟩] 16 = [] := by decide
theorem al_g : Le.Good [⟨3, 10, 5⟩] := by have := opn_good good_nil ⟨3, 10, 5⟩; rwa [al_1] at this
theorem al_h : Le.Good [⟨3, 10, 16⟩] := by have := ren_good al_g 3 16; rwa [al_4] at this
set_option maxHeartbeats 8000000 in
theorem alive_any (w : World) : Calls Try.prog 10 #[] w fun e w' => e = .returned (.bool true) ∧ Below w.heap.size w w' := by
  have HN := Lib.hid (new_any w)
  go_enter Try.func10, Try.ntmps10
  go_wp2_with fail
  refine HN.out.mono ?_
  rintro e w1 ⟨tp, v, rfl, ht1, hb1, -, -⟩
  have HT1 := Lib.hid ht1
  have HB1 := Lib.hid hb1
  have HA := open_any ht1 hb1.size good_nil ⟨3, 10, 5⟩
  rw [al_1] at HA
  have HA := Lib.hid HA
  clear ht1 hb1
  go_wp2_with fail
  refine HA.out.mono ?_
  rintro e w2 ⟨rfl, h2⟩
  have HB2 := Lib.hid (HB1.out.trans (kp_below h2 HT1.out HB1.out.size))
  obtain ⟨v2, ht2, -, -⟩ := h2
  have HT2 := Lib.hid ht2
  have HE2 := ended_any ht2 al_g 16
  rw [al_2] at HE2
  have HE2 := Lib.hid HE2
  clear ht2
  go_wp2_with fail
  refine HE2.out.mono ?_
  rintro e w3 ⟨A, c, rfl, ho, hb3⟩
  obtain ⟨_, _, he, -, -, hA⟩ := own_form ho
  injection he with he1 _ he3
  subst he1; subst he3
  obtain ⟨g, rfl⟩ := hA (by decide)
  have HB3 := Lib.hid (HB2.out.trans (hb3.mono HB2.out.size))
  have HT3 := Lib.hid (HT2.out.below hb3)
  have HG3 := Lib.hid (own_cell ho 0 (.int .i64 3) rfl)
  have HE4 := ended_any HT3.out al_g 15
  rw [al_3] at HE4
  have HE4 := Lib.hid HE4
  have HS : Hid (([3] : List Int).length = 1) := Lib.hid rfl
  rw [HS.out]
  clear ho hb3 hA
  go_wp2_with fail
  refine HE4.out.mono ?_
  rintro e w4 ⟨A4, c4, rfl, ho4, hb4⟩
  have HB4 := Lib.hid (HB3.out.trans (hb4.mono HB3.out.size))
  have HT4 := Lib.hid (HT3.out.below hb4)
  have g0 : w4.cell? ⟨g, 0, none⟩ = some (.int .i64 3) := (hb4.cell (p := ⟨g, 0, none⟩) (cell_lt HG3.out)).trans HG3.out
  have HR5 := renew_any HT4.out HB4.out.size al_g 3 16
  rw [al_4] at HR5
  have HR5 := Lib.hid HR5
  have HS0 : Hid (([] : List Int).length = 0) := Lib.hid rfl
  rw [HS0.out]
  clear ho4 hb4
  go_wp2_with fail
  refine HR5.out.mono ?_
  rintro e w5 ⟨rfl, h5⟩
  have HB5 := Lib.hid (HB4.out.trans (kp_below h5 HT4.out HB4.out.size))
  obtain ⟨v5, ht5, -, -⟩ := h5
  have HE6 := ended_any ht5 al_h 16
  rw [al_5] at HE6
  have HE6 := Lib.hid HE6
  clear ht5 g0
  go_wp2_with fail
  refine HE6.out.mono ?_
  rintro e w6 ⟨A6, c6, rfl, ho6, hb6⟩
  have HB6 := Lib.hid (HB5.out.trans (hb6.mono HB5.out.size))
  rw [HS0.out]
  clear ho6 hb6
  go_wp2_with fail
  go_ret
  exact ⟨rfl, HB6.out⟩
/-! ### plays -/
def PlPost (B Bs tp : Nat) (v : Value) (M : Tb) (w : World) (e : Ending) (w' : World) : Prop := ∃ u', e = .returned (.tuple #[u', .bool true]) ∧ DV w' B u' M ∧ KpPost Bs tp v M w w'
set_option maxHeartbeats 8000000 in
theorem plays_any {w : World} {B Bs tp : Nat} {v u : Value} {T : Tb} (ht : TabW w Bs tp v T) (hB : Bs ≤ w.heap.size) (hBB : B ≤ Bs) (hg : Le.Good T) (hu : DV w B u T) {A : Option Addr} {n c : Nat} {l : List Cal} (hS : ∀ W, Below Bs w W → Rd ocell 4 W A n l) (hn : n ≤ 100000) :
    Calls Try.prog 11 #[.pointer (some ⟨tp, 0, none⟩), u, .slice A n c] w (PlPost B Bs tp v (Le.runT T l) w) := by
  obtain ⟨A0, c0', rfl, hu0⟩ := hu
  have HU : Hid (DV w B (.slice A0 T.length c0') T) := Lib.hid ⟨A0, c0', rfl, hu0⟩
  have HT := Lib.hid ht
  have HB := Lib.hid hB
  have HBB := Lib.hid hBB
  have HG := Lib.hid hg
  have HS := Lib.hid hS
  have HL := Lib.hid (hS w (Below.refl _ _)).len
  have HK0 : Hid (KpPost Bs tp v T w w) := Lib.hid (kp_refl ht (Below.refl _ _))
  clear ht hB hBB hg hu0 hS
  go_enter Try.func11, Try.ntmps11
  go_wp2_with fail
  go_loopw [1, 14] (fun u i wr => ∃ k : Nat, k ≤ n ∧ i = .int .i64 k ∧ Hid (DV wr B u (Le.runT T (l.take k))) ∧ Hid (KpPost Bs tp v (Le.runT T (l.take k)) w wr)) (fun _ i _ => n - (intOf i).toNat)
  case atStart => exact ⟨0, Nat.zero_le _, rfl, HU, HK0⟩
  case round =>
    obtain ⟨k, hk, rfl, HD, HK⟩ := hrel
    obtain ⟨Au, cu, rfl, hdr⟩ := HD.out
    have HDR := Lib.hid hdr
    clear hdr
    by_cases hlt : k < n
    · have HGT : Hid (Le.Good (Le.runT T (l.take k))) := Lib.hid (run_good HG.out _)
      obtain ⟨v1, ht1, hk1, ho1⟩ := HK.out
      have hbw := kp_below HK.out HT.out HB.out
      obtain ⟨b, off, o, rfl, ho, hcc⟩ := (HS.out wr hbw).at hlt
      have c0 : wr.cell? ⟨b, off + k * 4, none⟩ = some (.int .i64 o.k) := hcc 0 _ rfl
      have c1 : wr.cell? ⟨b, off + k * 4 + 1, none⟩ = some (.int .i64 o.i) := hcc 1 _ rfl
      have c2 : wr.cell? ⟨b, off + k * 4 + 2, none⟩ = some (.int .i64 o.s) := hcc 2 _ rfl
      have c3 : wr.cell? ⟨b, off + k * 4 + 3, none⟩ = some (.int .i64 o.n) := hcc 3 _ rfl
      obtain ⟨w3, hw3⟩ : ∃ w3, w3 = wr.alloc (.cells #[.int .i64 o.k, .int .i64 o.i, .int .i64 o.s, .int .i64 o.n] 58) := ⟨_, rfl⟩
      obtain ⟨r, er⟩ : ∃ r, r = wr.heap.size := ⟨_, rfl⟩
      have hb3 : Below wr.heap.size wr w3 := by rw [hw3]; exact box_below wr _
      have hr : w3.heap[r]? = some (.cells #[.int .i64 o.k, .int .i64 o.i, .int .i64 o.s, .int .i64 o.n] 58 (0, 0)) := by rw [hw3, er]; exact new_block wr _
      have HTS : Hid (Le.runT T (l.take (k + 1)) = (stepE (Le.runT T (l.take k)) o).1) := Lib.hid (run_step ho)
      have r0 := cell_of hr (j := 0) rfl
      have r1 := cell_of hr (j := 1) rfl
      have r2 := cell_of hr (j := 2) rfl
      have r3 := cell_of hr (j := 3) rfl
      have HR3 := Lib.hid hr
      have HT3 := Lib.hid (ht1.below hb3)
      have HTK := Lib.hid hk1
      have HOW := Lib.hid ho1
      have HBW : Hid (Bs ≤ w3.heap.size) := Lib.hid (Nat.le_trans (Nat.le_trans HB.out hk1.size) hb3.size)
      have HB3 := Lib.hid hb3
      obtain ⟨S, hSt⟩ : ∃ S, Le.runT T (l.take k) = S := ⟨_, rfl⟩
      rw [hSt] at HDR HGT HT3 HTS
      have HDO := Lib.hid (rdo_any (c := cu) (HDR.out.below hb3) HGT.out o)
      have hk0 : (0 : Int) ≤ (k : Int) := by omega
      have hki : (k : Int) < (n : Int) := by omega
      have hwk : IntKind.i64.wrap ((k : Int) + 1) = (k : Int) + 1 := by rw [IntKind.wrap_i64]; omega
      have HW3 := Lib.hid hw3
      have ER := Lib.hid er
      rw [hSt]
      clear ho hcc hw3 er hb3 hr ht1 hk1 ho1 hbw hSt
      go_upto_region 4 with fail
      rw [← HW3.out, ← ER.out]
      clear c0 c1 c2 c3
      go_wp2_with fail
      refine HDO.out.mono ?_
      rintro e w4 ⟨u4, rfl, hd4, hb4⟩
      have hr4 := blk_below HR3.out hb4
      have r0 := cell_of hr4 (j := 0) rfl
      have r1 := cell_of hr4 (j := 1) rfl
      have r2 := cell_of hr4 (j := 2) rfl
      have r3 := cell_of hr4 (j := 3) rfl
      have HD4 := Lib.hid hd4
      have HT4 := Lib.hid (HT3.out.below hb4)
      have HB4 := Lib.hid (below_step HB3.out hb4)
      have HDS := Lib.hid (does_any HT4.out (Nat.le_trans HBW.out hb4.size) HGT.out o)
      obtain ⟨a, ha⟩ : ∃ a, stepE S o = a := ⟨_, rfl⟩
      rw [ha] at HDS HD4 HTS
      rw [ha]
      have haa : (a.2 != a.2) = false := by simp
      clear hr4 hd4 hb4 ha
      go_wp2_with fail
      refine HDS.out.mono ?_
      rintro e w5 ⟨rfl, h5⟩
      have HD5 : Hid (DV w5 B u4 (Le.runT T (l.take (k + 1)))) := Lib.hid (by rw [HTS.out]; exact HD4.out.kp HT4.out HBB.out h5)
      have HK5 : Hid (KpPost Bs tp v (Le.runT T (l.take (k + 1))) w w5) := Lib.hid (by rw [HTS.out]; exact kp_trans HTK.out HOW.out (kp_pre HB4.out h5))
      clear h5 r0 r1 r2 r3
      go_wp2_with fail
      go_roundw
      case rel => exact ⟨k + 1, by omega, by go_num, HD5, HK5⟩
      case measure => simp [intOf]; omega
    · obtain rfl : k = n := by omega
      have hki : ¬ (k : Int) < (k : Int) := by omega
      have HE : Hid (PlPost B Bs tp v (Le.runT T l) w (.returned (.tuple #[.slice Au (Le.runT T (l.take k)).length cu, .bool true])) wr) := Lib.hid (by
        have h1 := HK.out
        have h2 : DV wr B (.slice Au (Le.runT T (l.take k)).length cu) (Le.runT T (l.take k)) := ⟨Au, cu, rfl, HDR.out⟩
        rw [List.take_of_length_le (by rw [HL.out]; exact Nat.le_refl _)] at h1 h2 ⊢
        exact ⟨_, rfl, h2, h1⟩)
      go_wp2_with fail
      exact bodyPost_ret (v := .tuple #[.slice Au (Le.runT T (l.take k)).length cu, .bool true]) (by simp [results, Try.results11, go_sem]) rfl HE.out
end Go.Proofs.Ytocobanallohjaa
