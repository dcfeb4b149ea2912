/-
  LeaseLoads returns true. Condition: memory holds the list and the script.
-/
import Derived.Test.YtocobanallohjaaLTwo
import Derived.Test.YtocobanallohjaaLLoad
import Derived.Test.YtocobanallohjaaLCheck
namespace Go.Proofs.Ytocobanallohjaa
set_option maxRecDepth 100000
open Go.ChangeShapes Go.WideShapes Go.ChangeAt Go.RowKit Go.Proofs.Le

theorem tab_other {w w' : World} {Bs tp g : Nat} {v : Value} {L : Tb} (h : TabW w Bs tp v L) (hg : g < Bs) (hw : Wr g w w') : TabW w' Bs tp v L :=
  ⟨(hw.rest tp (by have := h.ge; omega)).trans h.here, own_gb h.row hw.gb (fun e => by have := own_ge h.row g e; omega), h.ge⟩
set_option maxHeartbeats 16000000 in
theorem loads_law {w : World} {A A' : Option Addr} {n n' c c' : Nat} {T : Tb} {l : List Cal} (h : Rd lcell 3 w A n T) (h' : Rd ocell 4 w A' n' l) (hap : 0 < n → ∀ a, A = some a → a.block < w.heap.size) :
    Calls Try.prog 4 #[.slice A n c, .slice A' n' c'] w fun e w' => e = .returned (.bool true) ∧ Below w.heap.size w w' := by
  have HR' := Lib.hid h'
  have HR := Lib.hid h
  obtain rfl : T.length = n := h.len
  have HDR : Hid (DR w w.heap.size A T) := Lib.hid ⟨h, fun h0 a e => .inl (hap h0 a e)⟩
  have HAL := Lib.hid (fun W => alive_any W)
  obtain ⟨i0, hi, hz0, hz1, hz2⟩ := info_parts infoL
  clear h h' hap
  go_enter Try.func4, Try.ntmps4
  by_cases hn : 120 < T.length
  · have hn' : decide ((120 : Int) < (T.length : Int)) = true := by rw [decide_eq_true_eq]; omega
    clear hn
    go_wp2_with fail
    refine (HAL.out _).mono ?_
    rintro e w2 ⟨rfl, hb2⟩
    have HB2 := Lib.hid hb2
    clear hb2
    go_wp2_with fail
    go_ret
    exact ⟨rfl, HB2.out⟩
  have hn' : decide ((120 : Int) < (T.length : Int)) = false := by rw [decide_eq_false_iff_not]; omega
  by_cases hm : 200 < n'
  · have hm' : decide ((200 : Int) < (n' : Int)) = true := by rw [decide_eq_true_eq]; omega
    clear hm
    go_wp2_with fail
    refine (HAL.out _).mono ?_
    rintro e w2 ⟨rfl, hb2⟩
    have HB2 := Lib.hid hb2
    clear hb2
    go_wp2_with fail
    go_ret
    exact ⟨rfl, HB2.out⟩
  have hm' : decide ((200 : Int) < (n' : Int)) = false := by rw [decide_eq_false_iff_not]; omega
  have HN : Hid (T.length ≤ 120 ∧ n' ≤ 200) := Lib.hid (by omega)
  go_wp2_with fail
  go_loopw [5, 26] (fun u i wr => ∃ k : Nat, k ≤ T.length ∧ i = .int .i64 k ∧ Hid (wr.ownsRow w.heap.size 30 3 u (T.take k).length (lcells (T.take k))) ∧ Hid (Below w.heap.size w wr)) (fun _ i _ => T.length - (intOf i).toNat)
  case atStart => exact ⟨0, Nat.zero_le _, rfl, Lib.hid (World.ownsRow_nil _ _ _ _), Lib.hid (Below.refl _ _)⟩
  case round =>
    obtain ⟨k, hk, rfl, HO, HX⟩ := hrel
    by_cases hlt : k < T.length
    · obtain ⟨b, off, x, rfl, hx, hcc⟩ := (HR.out.below HX.out).at hlt
      have c0 : wr.cell? ⟨b, off + k * 3, none⟩ = some (.int .i64 x.i) := hcc 0 _ rfl
      have c1 : wr.cell? ⟨b, off + k * 3 + 1, none⟩ = some (.int .i64 x.s) := hcc 1 _ rfl
      have c2 : wr.cell? ⟨b, off + k * 3 + 2, none⟩ = some (.int .i64 x.l) := hcc 2 _ rfl
      obtain ⟨w3, hw3⟩ : ∃ w3, w3 = wr.alloc (.cells #[.int .i64 x.i, .int .i64 x.s, .int .i64 x.l] 33) := ⟨_, rfl⟩
      obtain ⟨r, er⟩ : ∃ r, r = wr.heap.size := ⟨_, rfl⟩
      have hb3 : Below wr.heap.size wr w3 := by rw [hw3]; exact box_below wr _
      have hr : w3.heap[r]? = some (.cells #[.int .i64 x.i, .int .i64 x.s, .int .i64 x.l] 33 (0, 0)) := by rw [hw3, er]; exact new_block wr _
      have HTK : Hid (T.take (k + 1) = T.take k ++ [x]) := Lib.hid (take_some hx)
      have HX3 := Lib.hid (HX.out.trans (hb3.mono HX.out.size))
      have HO3 := Lib.hid (own_below HO.out hb3)
      have r0 := cell_of hr (j := 0) rfl
      have r1 := cell_of hr (j := 1) rfl
      have r2 := cell_of hr (j := 2) rfl
      have hk0 : (0 : Int) ≤ (k : Int) := by omega
      have hki : (k : Int) < (T.length : Int) := by omega
      have hwk : IntKind.i64.wrap ((k : Int) + 1) = (k : Int) + 1 := by rw [IntKind.wrap_i64]; omega
      have HW3 := Lib.hid hw3
      have ER := Lib.hid er
      clear hx hcc hw3 er hb3 hr
      go_upto_region 7 with fail
      rw [← HW3.out, ← ER.out]
      clear c0 c1 c2
      have ho := HO3.out
      have hsz := HX3.out.size
      have htl : (T.take k).length ≤ 2000 := by rw [List.length_take]; omega
      go_wp2_with (at_builtin; refine wpList_append_own _ rfl _ _ 38 rfl w.heap.size 30 i0 _ 3 24 Try.underlying38 hi hz0 hz1 hz2 rfl (by decide) _ _ _ rfl (ho.alloc _) ⟨w3.heap.size, 0, none⟩ 1 1 (lcell x) rfl rfl (World.news_of_block (new_block w3 _)) (lcell_one _) (by unfold maxLen at *; omega) (by omega) (by simp; omega) ?_; intro v' w6 hown' hg6 hnil6)
      have HB6 := Lib.hid ((HX3.out.alloc hsz _).grown hg6 (by simp; omega) (fun j hj => (HO3.out.lt j hj).1))
      have HO6 : Hid (w6.ownsRow w.heap.size 30 3 v' (T.take (k + 1)).length (lcells (T.take (k + 1)))) := Lib.hid (by
        rw [HTK.out]
        rw [lcells_append, List.length_append]
        simpa [lcells] using hown')
      clear hown' hg6 hnil6 ho htl r0 r1 r2
      go_wp2_with fail
      go_roundw
      case rel => exact ⟨k + 1, by omega, by go_num, HO6, HB6⟩
      case measure => simp [intOf]; omega
    · obtain rfl : k = T.length := by omega
      have hki : ¬ (T.length : Int) < (T.length : Int) := by omega
      have ho := HO.out
      rw [List.take_of_length_le (Nat.le_refl _)] at ho
      obtain ⟨Ao, co, heo, -, -, -⟩ := own_form ho
      subst heo
      have HO2 := Lib.hid ho
      have HLD := Lib.hid (load_any (c := co) (Rd.of_own (cell := lcell) (l := T) ho (fun _ _ => rfl) (by omega)) (by have := HN.out; omega))
      clear ho
      go_wp2_with fail
      refine HLD.out.mono ?_
      rintro e w3 (⟨hgd, tp, v, rfl, ht3, hb3⟩ | ⟨hbd, rfl, hb3⟩)
      · have HG := Lib.hid hgd
        have HT3 := Lib.hid ht3
        have HX3 := Lib.hid (HX.out.trans (hb3.mono HX.out.size))
        have HO3 := Lib.hid (own_below HO2.out hb3)
        have HCK := Lib.hid (rcheck_any (c := c) (HR.out.below HX3.out) (by have := HN.out; omega))
        have HBB := Lib.hid hb3
        clear hgd ht3 hb3
        go_wp2_with fail
        refine HCK.out.mono ?_
        rintro e w4 ⟨⟨-, rfl⟩ | ⟨hbad, -⟩, hb4⟩
        · have HX4 := Lib.hid (HX3.out.trans (hb4.mono HX3.out.size))
          have HT4 := Lib.hid (HT3.out.below hb4)
          have HO4 := Lib.hid (own_below HO3.out hb4)
          clear hb4
          obtain ⟨ws, hws⟩ : ∃ z, z = wr.heap.size := ⟨_, rfl⟩
          have HSZ : Hid (∀ g, (Value.slice Ao T.length co).ownBlock = some g → g < ws) := Lib.hid (fun g hg => by rw [hws]; exact (HO2.out.lt g hg).2)
          have HWS : Hid (w.heap.size ≤ ws) := Lib.hid (by rw [hws]; exact HX.out.size)
          have HT4' := HT4.out
          rw [← hws] at HT4'
          have HT5 := Lib.hid HT4'
          clear HT4' hws
          go_wp2_with fail
          go_loopw [56] (fun i wq => ∃ (j : Nat) (xs : List Value), j ≤ T.length ∧ i = .int .i64 j ∧ Hid (wq.ownsRow w.heap.size 30 3 (.slice Ao T.length co) T.length xs) ∧ Hid (TabW wq ws tp v T) ∧ Hid (Below w.heap.size w wq)) (fun i _ => T.length - (intOf i).toNat)
          case atStart => exact ⟨0, _, Nat.zero_le _, rfl, HO4, HT5, HX4⟩
          case round =>
            obtain ⟨j, xs, hj, rfl, HQ, HTQ, HZ⟩ := hrel
            have hT5 : T.length ≤ 120 := HN.out.1
            by_cases hlj : j < T.length
            · obtain ⟨_, _, he, -, -, hA⟩ := own_form HQ.out
              injection he with he1 _ he3
              subst he1; subst he3
              obtain ⟨g, rfl⟩ := hA (by omega)
              have hgw : w.heap.size ≤ g := own_ge HQ.out g rfl
              have hgs : g < ws := HSZ.out g rfl
              obtain ⟨w6, hw6⟩ : ∃ w6, w6 = ((wr.setCell ⟨g, j * 3, none⟩ (.int .i64 0)).setCell ⟨g, j * 3 + 1, none⟩ (.int .i64 0)).setCell ⟨g, j * 3 + 2, none⟩ (.int .i64 0) := ⟨_, rfl⟩
              have hw6' : w6 = wr.setCells g (j * 3) [.int .i64 0, .int .i64 0, .int .i64 0] := hw6
              have HQ6 := Lib.hid (own_set_cells HQ.out (j * 3) [.int .i64 0, .int .i64 0, .int .i64 0] (by simp; omega))
              rw [← hw6'] at HQ6
              have HZ6 : Hid (Below w.heap.size w w6) := Lib.hid (by rw [hw6]; exact ((HZ.out.setCell hgw _).setCell hgw _).setCell hgw _)
              have HTQ6 : Hid (TabW w6 ws tp v T) := Lib.hid (tab_other HTQ.out hgs (by rw [hw6]; exact (((Wr.refl g wr).set _ _).set _ _).set _ _))
              obtain ⟨⟨v0, y0⟩, f0⟩ : (∃ v, wr.cell? ⟨g, j * 3, none⟩ = some v) ∧ wr.frozen? ⟨g, j * 3, none⟩ = false := ⟨Option.isSome_iff_exists.1 (own_cells HQ.out (j * 3) (by omega)).1, (own_cells HQ.out (j * 3) (by omega)).2⟩
              obtain ⟨⟨v1, y1⟩, f1⟩ : (∃ v, wr.cell? ⟨g, j * 3 + 1, none⟩ = some v) ∧ wr.frozen? ⟨g, j * 3 + 1, none⟩ = false := ⟨Option.isSome_iff_exists.1 (own_cells HQ.out (j * 3 + 1) (by omega)).1, (own_cells HQ.out (j * 3 + 1) (by omega)).2⟩
              obtain ⟨⟨v2', y2⟩, f2⟩ : (∃ v, wr.cell? ⟨g, j * 3 + 2, none⟩ = some v) ∧ wr.frozen? ⟨g, j * 3 + 2, none⟩ = false := ⟨Option.isSome_iff_exists.1 (own_cells HQ.out (j * 3 + 2) (by omega)).1, (own_cells HQ.out (j * 3 + 2) (by omega)).2⟩
              have hj0 : (0 : Int) ≤ (j : Int) := by omega
              have hji : (j : Int) < (T.length : Int) := by omega
              have hwj : IntKind.i64.wrap ((j : Int) + 1) = (j : Int) + 1 := by rw [IntKind.wrap_i64]; omega
              have HW6 := Lib.hid hw6
              clear hw6 hw6' hgw hA hgs
              go_upto_region 18 with fail
              rw [← HW6.out]
              clear y0 y1 y2 f0 f1 f2
              go_wp2_with fail
              go_roundw
              case rel => exact ⟨j + 1, _, by omega, by go_num, HQ6, HTQ6, HZ6⟩
              case measure => simp [intOf]; omega
            · obtain rfl : j = T.length := by omega
              have hji : ¬ (T.length : Int) < (T.length : Int) := by omega
              have HPL := Lib.hid (plays_any (B := w.heap.size) (Bs := ws) (c := c') HTQ.out (Nat.le_trans HTQ.out.ge (Nat.le_of_lt (blk_lt HTQ.out.here))) HWS.out HG.out (u := .slice A T.length c) ⟨A, c, rfl, HDR.out.below HZ.out⟩ (fun W hW => HR'.out.below (HZ.out.trans (hW.mono HWS.out))) (by have := HN.out; omega))
              go_wp2_with fail
              refine HPL.out.mono ?_
              rintro e w5 ⟨u5', rfl, hd5, hk5⟩
              have HX5 := Lib.hid (HZ.out.trans ((kp_below hk5 HTQ.out (Nat.le_trans HTQ.out.ge (Nat.le_of_lt (blk_lt HTQ.out.here)))).mono HWS.out))
              obtain ⟨v5, ht5, -, -⟩ := hk5
              obtain ⟨M, hM⟩ : ∃ M, Le.runT T l = M := ⟨_, rfl⟩
              have HGM : Hid (Le.Good M) := Lib.hid (by rw [← hM]; exact run_good HG.out _)
              have HML : Hid (M.length ≤ 100) := Lib.hid HGM.out.len
              rw [hM] at hd5 ht5
              have HT5 := Lib.hid ht5
              obtain ⟨Am, cm, rfl, hdm⟩ := hd5
              have HD5 := Lib.hid hdm
              have HC5 := Lib.hid (all_any ht5 (by have := HML.out; omega))
              clear ht5 hdm hM
              go_wp2_with fail
              refine HC5.out.mono ?_
              rintro e w6 ⟨A6, c6, rfl, ho6, hb6⟩
              have HX6 := Lib.hid (HX5.out.trans (hb6.mono HX5.out.size))
              have HD6 := Lib.hid (HD5.out.below hb6)
              have HC6 := Lib.hid (load_any (c := c6) (Rd.of_own (cell := lcell) (l := M) ho6 (fun _ _ => rfl) (by omega)) (by have := HML.out; omega))
              clear ho6 hb6
              go_wp2_with fail
              refine HC6.out.mono ?_
              rintro e w7 (⟨-, tq, vq, rfl, ht7, hb7⟩ | ⟨hbd, -, -⟩)
              · have HX7 := Lib.hid (HX6.out.trans (hb7.mono HX6.out.size))
                have HD7 := Lib.hid (HD6.out.below hb7)
                have HT7 := Lib.hid ht7
                clear ht7 hb7
                go_wp2_with fail
                refine (HAL.out _).mono ?_
                rintro e w8 ⟨rfl, hb8⟩
                have HX8 := Lib.hid (HX7.out.trans (hb8.mono HX7.out.size))
                have HD8 := Lib.hid (HD7.out.below hb8)
                have HC8 := Lib.hid (all_any (HT7.out.below hb8) (by have := HML.out; omega))
                clear hb8
                go_wp2_with fail
                refine HC8.out.mono ?_
                rintro e w9 ⟨A9, c9, rfl, ho9, hb9⟩
                have HX9 := Lib.hid (HX8.out.trans (hb9.mono HX8.out.size))
                have HD9 := Lib.hid (HD8.out.below hb9)
                have HC9 := Lib.hid (plain_any (c := c9) (Rd.of_own (cell := lcell) (l := M) ho9 (fun _ _ => rfl) (by omega)) (by have := HML.out; omega))
                clear ho9 hb9
                go_wp2_with fail
                refine HC9.out.mono ?_
                rintro e w10 ⟨A10, c10, rfl, ho10, hb10⟩
                have HX10 := Lib.hid (HX9.out.trans (hb10.mono HX9.out.size))
                have HC10 := Lib.hid (same_any (c := c10) (c2 := cm) (Rd.of_own (cell := lcell) (l := M) ho10 (fun _ _ => rfl) (by omega)) (HD9.out.below hb10).rd (by have := HML.out; omega))
                clear ho10 hb10
                go_wp2_with fail
                refine HC10.out.mono ?_
                rintro e w11 ⟨rfl, hb11⟩
                have HX11 := Lib.hid (HX10.out.trans (hb11.mono HX10.out.size))
                clear hb11
                go_wp2_with fail
                go_ret
                exact ⟨rfl, HX11.out⟩
              · exact absurd HGM.out hbd
        · exact absurd HG.out hbad
      · have HBD := Lib.hid hbd
        have HX3 := Lib.hid (HX.out.trans (hb3.mono HX.out.size))
        have HCK := Lib.hid (rcheck_any (c := c) (HR.out.below HX3.out) (by have := HN.out; omega))
        clear hbd hb3
        go_wp2_with fail
        refine HCK.out.mono ?_
        rintro e w4 ⟨⟨hgd, -⟩ | ⟨-, rfl⟩, hb4⟩
        · exact absurd hgd HBD.out
        · have HX4 := Lib.hid (HX3.out.trans (hb4.mono HX3.out.size))
          clear hb4
          go_wp2_with fail
          refine (HAL.out _).mono ?_
          rintro e w5 ⟨rfl, hb5⟩
          have HX5 := Lib.hid (HX4.out.trans (hb5.mono HX4.out.size))
          clear hb5
          go_wp2_with fail
          go_ret
          exact ⟨rfl, HX5.out⟩
end Go.Proofs.Ytocobanallohjaa
