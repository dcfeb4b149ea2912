/-
  What the document's own Add returns. Condition: the table is good, the path has at most 2^21 bytes.
-/
import Derived.Test.YtfejapaoflikhaaDoorWRef2
import Derived.Test.YtfejapaoflikhaaDoorRPart
namespace Go.Proofs.YtfejapaoflikhaaDoor
set_option maxRecDepth 100000
open Go.ChangeShapes Go.WideShapes Go.ChangeAt Go.RowKit Go.Proofs.Zn Go.Proofs.Wa

def RaPost (a : Tb × Bool) (w : World) (e : Ending) (w' : World) : Prop := ∃ v', e = .returned (.tuple #[v', .bool a.2]) ∧ NR w' v' a.1 ∧ Below w.heap.size w w'
theorem ra_same {w w' : World} {v : Value} {T : Tb} {b : Bool} {a : Tb × Bool} (ha : a = (T, b)) (h : NR w v T) (hb : Below w.heap.size w w') : RaPost a w (.returned (.tuple #[v, .bool b])) w' :=
  ⟨v, by rw [ha], by rw [ha]; exact own_below h hb, hb⟩
theorem outA_len (T : Tb) (x : Wt) : (outA T x).length ≤ T.length + 1 := by
  unfold outA
  split
  · rw [ins_len]; exact Nat.le_refl _
  · omega
theorem take_srt {T : Tb} (h : Srt T) (k : Nat) : Srt (T.take k) := h.sublist (List.take_sublist _ _)
set_option maxHeartbeats 16000000 in
theorem radd_any {w : World} {v : Value} {T : Tb} (h : NR w v T) (hg : Wa.Good T) (x : Wt) (hp : x.p.length ≤ 2097152) :
    Calls Tryd.prog 16 #[v, .agg #[.int .i64 x.s, .string (B x.p), .bool x.k]] w (RaPost (add T x) w) := by
  obtain ⟨A, c, rfl, -, -, -⟩ := own_form h
  obtain ⟨w1, hw1⟩ : ∃ w1, w1 = w.alloc (.cells #[.int .i64 x.s, .string (B x.p), .bool x.k] 28) := ⟨_, rfl⟩
  obtain ⟨q, eq⟩ : ∃ q, q = w.heap.size := ⟨_, rfl⟩
  have hb1 : Below w.heap.size w w1 := by rw [hw1]; exact box_below w _
  have hq : w1.heap[q]? = some (.cells #[.int .i64 x.s, .string (B x.p), .bool x.k] 28 (0, 0)) := by rw [hw1, eq]; exact new_block w _
  obtain ⟨a, ha⟩ : ∃ a, add T x = a := ⟨_, rfl⟩
  rw [ha]
  have HA := Lib.hid ha
  have HN := Lib.hid h
  have HG := Lib.hid hg
  have HR := Lib.hid ((Rd.of_own (cell := wcell) (l := T) h (fun _ _ => rfl) (by omega)).below hb1)
  have HB1 := Lib.hid hb1
  have HQ1 := Lib.hid hq
  have HVA := Lib.hid (rvalid_any (B x.p) w1 (by rw [B_size]; omega))
  simp only [LB] at HVA
  obtain ⟨vd, hvd⟩ : ∃ b, valid x.p = b := ⟨_, rfl⟩
  rw [hvd] at HVA
  have HVD := Lib.hid hvd
  have HW1 := Lib.hid hw1
  have EQ := Lib.hid eq
  have hn5 : T.length ≤ 500 := hg.len
  have hn2 : (T.length : Int) ≤ 500 := by omega
  have q0 := cell_of hq (j := 0) rfl
  have q1 := cell_of hq (j := 1) rfl
  have q2 := cell_of hq (j := 2) rfl
  obtain ⟨i0, hi, hz0, hz1, hz2⟩ := info_parts infoN
  have hguN := guard_eqlN
  clear h ha hg hw1 eq hb1 hq hvd hp
  go_enter Tryd.func16, Tryd.ntmps16
  go_upto_region 1 with fail
  rw [← HW1.out, ← EQ.out]
  by_cases hs : x.s < 1
  · have HE : Hid (RaPost a w (.returned (.tuple #[.slice A T.length c, .bool false])) w1) := Lib.hid (ra_same (by rw [← HA.out]; unfold add addOk; rw [if_pos (by simp [hs])]) HN.out HB1.out)
    go_wp2_with fail
    exact bodyPost_ret (v := .tuple #[.slice A T.length c, .bool false]) (by simp [results, Tryd.results16, go_sem]) rfl HE.out
  go_wp2_with fail
  refine HVA.out.mono ?_
  rintro e w2 ⟨rfl, hb2⟩
  have HB2 := Lib.hid (hb2)
  have HBW2 := Lib.hid (HB1.out.trans (hb2.mono HB1.out.size))
  clear hb2 q0 q1 q2
  cases vd with
  | false =>
    have HE : Hid (RaPost a w (.returned (.tuple #[.slice A T.length c, .bool false])) w2) := Lib.hid (ra_same (by rw [← HA.out]; unfold add addOk; rw [if_pos (by rw [HVD.out]; simp)]) HN.out HBW2.out)
    go_wp2_with fail
    exact bodyPost_ret (v := .tuple #[.slice A T.length c, .bool false]) (by simp [results, Tryd.results16, go_sem]) rfl HE.out
  | true =>
    have HOK : Hid (addOk x = true) := Lib.hid (by unfold addOk; rw [HVD.out]; simp only [Bool.and_true, decide_eq_true_eq]; omega)
    go_wp2_with fail
    go_loopw [6, 7, 8] (fun u d i wr => ∃ k : Nat, k ≤ T.length ∧ i = .int .i64 k ∧ d = .bool (dn (T.take k) x) ∧ Hid (x ∉ T.take k) ∧ Hid (wr.ownsRow w1.heap.size 28 3 u (outA (T.take k) x).length (wcells (outA (T.take k) x))) ∧ Hid (Below w1.heap.size w1 wr)) (fun _ _ i _ => T.length - (intOf i).toNat)
    case atStart => exact ⟨0, Nat.zero_le _, rfl, rfl, Lib.hid (by simp), Lib.hid (World.ownsRow_nil _ _ _ _), HB2⟩
    case round =>
      obtain ⟨k, hk, rfl, rfl, HNI, HO, HX⟩ := hrel
      have HUL : Hid ((outA (T.take k) x).length ≤ 501) := Lib.hid (by have h1 := outA_len (T.take k) x; rw [List.length_take] at h1; omega)
      have HBW := Lib.hid (HB1.out.trans (HX.out.mono HB1.out.size))
      obtain ⟨d, hd⟩ : ∃ d, dn (T.take k) x = d := ⟨_, rfl⟩
      rw [hd]
      by_cases hlt : k < T.length
      · obtain ⟨b, off, y, hA, hy, -⟩ := HR.out.at hlt
        subst hA
        have HYC : Hid (∀ W, Below w1.heap.size w1 W → (W.cell? ⟨b, off + k * 3, none⟩ = some (.int .i64 y.s) ∧ W.cell? ⟨b, off + k * 3 + 1, none⟩ = some (.string (B y.p)) ∧ W.cell? ⟨b, off + k * 3 + 2, none⟩ = some (.bool y.k))) := Lib.hid (fun W hW => by
          obtain ⟨b', off', y', hA', hy', hcc⟩ := (HR.out.below hW).at hlt
          injection hA' with hA'
          injection hA' with e1 e2 e3
          subst e1; subst e2
          obtain rfl : y = y' := Option.some.inj (hy.symm.trans hy')
          exact ⟨hcc 0 _ rfl, hcc 1 _ rfl, hcc 2 _ rfl⟩)
        have hk0 : (0 : Int) ≤ (k : Int) := by omega
        have hki : (k : Int) < (T.length : Int) := by omega
        have HY := Lib.hid hy
        have HTK : Hid (T.take (k + 1) = T.take k ++ [y]) := Lib.hid (take_some hy)
        obtain ⟨r, hr⟩ : ∃ r, decide (y = x) = r := ⟨_, rfl⟩
        have hqe := eqlN y x
        rw [hr] at hqe
        have HR1 := Lib.hid hr
        have HDD := Lib.hid hd
        obtain ⟨c0, c1, c2⟩ := HYC.out _ HX.out
        have hqw := blk_below HQ1.out HX.out
        have q0 := cell_of hqw (j := 0) rfl
        have q1 := cell_of hqw (j := 1) rfl
        have q2 := cell_of hqw (j := 2) rfl
        clear hy hr hd hqw
        go_upto_region 8 with fail
        go_quiet (fail)
        obtain ⟨w4, hw4⟩ : ∃ w4, w4 = wr.drewN nq := ⟨_, rfl⟩
        have hb4 : Below wr.heap.size wr w4 := by rw [hw4]; exact below_drewN (Below.refl _ _) _
        have HW4 := Lib.hid hw4
        rw [← HW4.out]
        have HX4 := Lib.hid (HX.out.trans (hb4.mono HX.out.size))
        have HO4 := Lib.hid (own_below HO.out hb4)
        clear hw4 hb4 c0 c1 c2 q0 q1 q2 hqe
        cases r with
        | true =>
          have HE : Hid (RaPost a w (.returned (.tuple #[.slice (some ⟨b, off, none⟩) T.length c, .bool true])) w4) := Lib.hid (ra_same (by
            have hin : x ∈ T := by
              have h1 := HR1.out
              rw [decide_eq_true_eq] at h1
              rw [← h1]
              exact List.mem_of_getElem? HY.out
            rw [← HA.out]; unfold add; rw [if_neg (by rw [HOK.out]; simp), if_pos hin]) HN.out (HB1.out.trans (HX4.out.mono HB1.out.size)))
          go_wp2_with fail
          exact bodyPost_ret (v := .tuple #[.slice (some ⟨b, off, none⟩) T.length c, .bool true]) (by simp [results, Tryd.results16, go_sem]) rfl HE.out
        | false =>
          have HNI2 : Hid (x ∉ T.take (k + 1)) := Lib.hid (by
            rw [HTK.out, List.mem_append, List.mem_singleton]
            rintro (h1 | h1)
            · exact HNI.out h1
            · have h2 := HR1.out
              rw [decide_eq_false_iff_not] at h2
              exact h2 h1.symm)
          have HOS : Hid (outA (T.take (k + 1)) x = (if dn (T.take k) x = false ∧ bef x y = true then outA (T.take k) x ++ [x] else outA (T.take k) x) ++ [y]) := Lib.hid (by
            have h1 := take_srt HG.out.srt (k + 1)
            rw [HTK.out] at h1 ⊢
            exact out_step h1 HNI.out)
          have HDS : Hid (dn (T.take (k + 1)) x = (dn (T.take k) x || bef x y)) := Lib.hid (by rw [HTK.out, dn_snoc])
          obtain ⟨c0, c1, c2⟩ := HYC.out _ HX4.out
          have hqw := blk_below HQ1.out HX4.out
          have q0 := cell_of hqw (j := 0) rfl
          have q1 := cell_of hqw (j := 1) rfl
          have q2 := cell_of hqw (j := 2) rfl
          clear hqw
          cases d with
          | true =>
            have HNX : Hid (outA (T.take (k + 1)) x = outA (T.take k) x ++ [y]) := Lib.hid (by rw [HOS.out, if_neg (by rw [HDD.out]; simp)])
            have HDN : Hid (dn (T.take (k + 1)) x = true) := Lib.hid (by rw [HDS.out, HDD.out]; rfl)
            go_upto_region 10 with fail
            go_quiet (fail)
            obtain ⟨w5, hw5⟩ : ∃ w5, w5 = w4.drewN nq := ⟨_, rfl⟩
            have hb5 : Below w4.heap.size w4 w5 := by rw [hw5]; exact below_drewN (Below.refl _ _) _
            have HW5 := Lib.hid hw5
            rw [← HW5.out]
            have HX5 := Lib.hid (HX4.out.trans (hb5.mono HX4.out.size))
            have HO5 := Lib.hid (own_below HO4.out hb5)
            clear hw5 hb5 c0 c1 c2 q0 q1 q2
            obtain ⟨c0, c1, c2⟩ := HYC.out _ HX5.out
            have ho := HO5.out
            have hsz := HX5.out.size
            have hul := HUL.out
            go_wp2_with (at_builtin; refine wpList_append_own _ rfl _ _ 26 rfl w1.heap.size 28 i0 _ 3 32 Tryd.underlying26 hi hz0 hz1 hz2 rfl (by decide) _ _ _ rfl (ho.alloc _) ⟨w5.heap.size, 0, none⟩ 1 1 (wcell y) rfl rfl (World.news_of_block (new_block w5 _)) (wcell_one _) (by unfold maxLen at *; omega) (by omega) (by simp; omega) ?_; intro v7 w7 hown' hg6 hnil6)
            have HB7 := Lib.hid ((HX5.out.alloc hsz _).grown hg6 (by simp; omega) (fun j hj => (HO5.out.lt j hj).1))
            have HO7 : Hid (w7.ownsRow w1.heap.size 28 3 v7 (outA (T.take (k + 1)) x).length (wcells (outA (T.take (k + 1)) x))) := Lib.hid (by
              rw [HNX.out]
              rw [wcells_append, List.length_append]
              exact hown')
            clear hown' hg6 hnil6 ho hul
            clear c0 c1 c2
            go_wp2_with fail
            go_roundw
            case rel => exact ⟨k + 1, by omega, by go_num, by rw [HDN.out], HNI2, HO7, HB7⟩
            case measure => simp [intOf]; omega
          | false =>
            have HBF := Lib.hid (fun W => before_any x y W)
            have HS : Hid (∀ W, Below w4.heap.size w4 W → (W.cell? ⟨b, off + k * 3, none⟩ = some (.int .i64 y.s) ∧ W.cell? ⟨b, off + k * 3 + 1, none⟩ = some (.string (B y.p)) ∧ W.cell? ⟨b, off + k * 3 + 2, none⟩ = some (.bool y.k) ∧ W.cell? ⟨q, 0, none⟩ = some (.int .i64 x.s) ∧ W.cell? ⟨q, 1, none⟩ = some (.string (B x.p)) ∧ W.cell? ⟨q, 2, none⟩ = some (.bool x.k) ∧ Below w4.heap.size w4 W)) := Lib.hid (fun W hW => by
              have kk : ∀ a j u, w4.cell? ⟨a, j, none⟩ = some u → W.cell? ⟨a, j, none⟩ = some u := fun a j u hu => (hW.cell (p := ⟨a, j, none⟩) (cell_lt hu)).trans hu
              exact ⟨kk _ _ _ c0, kk _ _ _ c1, kk _ _ _ c2, kk _ _ _ q0, kk _ _ _ q1, kk _ _ _ q2, hW⟩)
            obtain ⟨r2, hr2⟩ : ∃ r, bef x y = r := ⟨_, rfl⟩
            rw [hr2] at HBF
            have HR2 := Lib.hid hr2
            clear hr2
            go_upto_region 10 with fail
            go_region_held3 (fun W => W.cell? ⟨b, off + k * 3, none⟩ = some (.int .i64 y.s) ∧ W.cell? ⟨b, off + k * 3 + 1, none⟩ = some (.string (B y.p)) ∧ W.cell? ⟨b, off + k * 3 + 2, none⟩ = some (.bool y.k) ∧ W.cell? ⟨q, 0, none⟩ = some (.int .i64 x.s) ∧ W.cell? ⟨q, 1, none⟩ = some (.string (B x.p)) ∧ W.cell? ⟨q, 2, none⟩ = some (.bool x.k) ∧ Below w4.heap.size w4 W)
              (first
                | assumption
                | (with_reducible exact HS.out _ (Below.refl _ _).drew))
              (first
                | (go_at_call 29; (with_reducible refine (HBF.out _).mono ?_); rintro e w9 ⟨rfl, hb9⟩; have hB9 := below_step (a := w4) (by first | exact (Below.refl _ _).drew | assumption) hb9; have hS9 := HS.out w9 hB9))
            clear c0 c1 c2 q0 q1 q2 hS9
            have HX9 := Lib.hid (HX4.out.trans (hB9.mono HX4.out.size))
            have HO9 := Lib.hid (own_below HO4.out hB9)
            clear hb9 hB9
            cases r2 with
            | false =>
              have HNX : Hid (outA (T.take (k + 1)) x = outA (T.take k) x ++ [y]) := Lib.hid (by rw [HOS.out, if_neg (by rw [HR2.out]; simp)])
              have HDN : Hid (dn (T.take (k + 1)) x = false) := Lib.hid (by rw [HDS.out, HDD.out, HR2.out]; rfl)
              obtain ⟨c0, c1, c2⟩ := HYC.out _ HX9.out
              have ho := HO9.out
              have hsz := HX9.out.size
              have hul := HUL.out
              go_wp2_with (at_builtin; refine wpList_append_own _ rfl _ _ 26 rfl w1.heap.size 28 i0 _ 3 32 Tryd.underlying26 hi hz0 hz1 hz2 rfl (by decide) _ _ _ rfl (ho.alloc _) ⟨w9.heap.size, 0, none⟩ 1 1 (wcell y) rfl rfl (World.news_of_block (new_block w9 _)) (wcell_one _) (by unfold maxLen at *; omega) (by omega) (by simp; omega) ?_; intro v7 w7 hown' hg6 hnil6)
              have HB7 := Lib.hid ((HX9.out.alloc hsz _).grown hg6 (by simp; omega) (fun j hj => (HO9.out.lt j hj).1))
              have HO7 : Hid (w7.ownsRow w1.heap.size 28 3 v7 (outA (T.take (k + 1)) x).length (wcells (outA (T.take (k + 1)) x))) := Lib.hid (by
                rw [HNX.out]
                rw [wcells_append, List.length_append]
                exact hown')
              clear hown' hg6 hnil6 ho hul
              clear c0 c1 c2
              go_wp2_with fail
              go_roundw
              case rel => exact ⟨k + 1, by omega, by go_num, by rw [HDN.out], HNI2, HO7, HB7⟩
              case measure => simp [intOf]; omega
            | true =>
              have HNX : Hid (outA (T.take (k + 1)) x = (outA (T.take k) x ++ [x]) ++ [y]) := Lib.hid (by rw [HOS.out, if_pos ⟨HDD.out, HR2.out⟩])
              have HDN : Hid (dn (T.take (k + 1)) x = true) := Lib.hid (by rw [HDS.out, HDD.out, HR2.out]; rfl)
              have hqw := blk_below HQ1.out HX9.out
              have q0 := cell_of hqw (j := 0) rfl
              have q1 := cell_of hqw (j := 1) rfl
              have q2 := cell_of hqw (j := 2) rfl
              clear hqw
              have ho := HO9.out
              have hsz := HX9.out.size
              have hul := HUL.out
              go_upto_region 12 with (at_builtin; refine wpList_append_own _ rfl _ _ 26 rfl w1.heap.size 28 i0 _ 3 32 Tryd.underlying26 hi hz0 hz1 hz2 rfl (by decide) _ _ _ rfl (ho.alloc _) ⟨w9.heap.size, 0, none⟩ 1 1 (wcell x) rfl rfl (World.news_of_block (new_block w9 _)) (wcell_one _) (by unfold maxLen at *; omega) (by omega) (by simp; omega) ?_; intro v6 w6 hown' hg6 hnil6)
              have HB6 := Lib.hid ((HX9.out.alloc hsz _).grown hg6 (by simp; omega) (fun j hj => (HO9.out.lt j hj).1))
              have HO6 : Hid (w6.ownsRow w1.heap.size 28 3 v6 (outA (T.take k) x ++ [x]).length (wcells (outA (T.take k) x ++ [x]))) := Lib.hid (by
                skip
                rw [wcells_append, List.length_append]
                exact hown')
              clear hown' hg6 hnil6 ho hul
              clear q0 q1 q2
              have HUL2 : Hid ((outA (T.take k) x ++ [x]).length ≤ 502) := Lib.hid (by rw [List.length_append]; have := HUL.out; simp; omega)
              obtain ⟨c0, c1, c2⟩ := HYC.out _ HB6.out
              have ho := HO6.out
              have hsz := HB6.out.size
              have hul := HUL2.out
              go_wp2_with (at_builtin; refine wpList_append_own _ rfl _ _ 26 rfl w1.heap.size 28 i0 _ 3 32 Tryd.underlying26 hi hz0 hz1 hz2 rfl (by decide) _ _ _ rfl (ho.alloc _) ⟨w6.heap.size, 0, none⟩ 1 1 (wcell y) rfl rfl (World.news_of_block (new_block w6 _)) (wcell_one _) (by unfold maxLen at *; omega) (by omega) (by simp; omega) ?_; intro v7 w7 hown' hg6 hnil6)
              have HB7 := Lib.hid ((HB6.out.alloc hsz _).grown hg6 (by simp; omega) (fun j hj => (HO6.out.lt j hj).1))
              have HO7 : Hid (w7.ownsRow w1.heap.size 28 3 v7 (outA (T.take (k + 1)) x).length (wcells (outA (T.take (k + 1)) x))) := Lib.hid (by
                rw [HNX.out]
                rw [wcells_append, List.length_append]
                exact hown')
              clear hown' hg6 hnil6 ho hul
              clear c0 c1 c2
              go_wp2_with fail
              go_roundw
              case rel => exact ⟨k + 1, by omega, by go_num, by rw [HDN.out], HNI2, HO7, HB7⟩
              case measure => simp [intOf]; omega
      · obtain rfl : k = T.length := by omega
        have hki : ¬ (T.length : Int) < (T.length : Int) := by omega
        have HOE := Lib.hid (out_end (T := T) (w := x) (by have h1 := HNI.out; rwa [List.take_of_length_le (Nat.le_refl _)] at h1))
        have HNIT : Hid (x ∉ T) := Lib.hid (by have h1 := HNI.out; rwa [List.take_of_length_le (Nat.le_refl _)] at h1)
        have HDD := Lib.hid hd
        have ho := HO.out
        rw [List.take_of_length_le (Nat.le_refl _)] at ho HDD HUL
        have HOX := Lib.hid ho
        clear ho hd
        have hqw := blk_below HQ1.out HX.out
        have q0 := cell_of hqw (j := 0) rfl
        have q1 := cell_of hqw (j := 1) rfl
        have q2 := cell_of hqw (j := 2) rfl
        clear hqw
        cases d with
        | true =>
          clear q0 q1 q2
          have HME : Hid (outA T x = ins T x) := Lib.hid (by have h1 := HOE.out; rwa [if_neg (by rw [HDD.out]; simp)] at h1)
          by_cases h5 : 500 ≤ T.length
          · have h5' : (500 : Int) ≤ (T.length : Int) := by omega
            have HE : Hid (RaPost a w (.returned (.tuple #[.slice A T.length c, .bool false])) wr) := Lib.hid (ra_same (by rw [← HA.out]; unfold add; rw [if_neg (by rw [HOK.out]; simp), if_neg HNIT.out, if_pos h5]) HN.out HBW.out)
            go_wp2_with fail
            exact bodyPost_ret (v := .tuple #[.slice A T.length c, .bool false]) (by simp [results, Tryd.results16, go_sem]) rfl HE.out
          · have h5' : ¬ (500 : Int) ≤ (T.length : Int) := by omega
            have HE : Hid (RaPost a w (.returned (.tuple #[u6, .bool true])) wr) := Lib.hid (by
              have e : a = (ins T x, true) := by rw [← HA.out]; unfold add; rw [if_neg (by rw [HOK.out]; simp), if_neg HNIT.out, if_neg h5]
              refine ⟨u6, by rw [e], ?_, HBW.out⟩
              rw [e]
              show NR wr u6 (ins T x)
              rw [← HME.out]
              exact own_base HOX.out (Nat.zero_le _))
            go_wp2_with fail
            exact bodyPost_ret (v := .tuple #[u6, .bool true]) (by simp [results, Tryd.results16, go_sem]) rfl HE.out
        | false =>
          have HME : Hid (outA T x ++ [x] = ins T x) := Lib.hid (by have h1 := HOE.out; rwa [if_pos HDD.out] at h1)
          have ho := HOX.out
          have hsz := HX.out.size
          have hul := HUL.out
          go_upto_region 16 with (at_builtin; refine wpList_append_own _ rfl _ _ 26 rfl w1.heap.size 28 i0 _ 3 32 Tryd.underlying26 hi hz0 hz1 hz2 rfl (by decide) _ _ _ rfl (ho.alloc _) ⟨wr.heap.size, 0, none⟩ 1 1 (wcell x) rfl rfl (World.news_of_block (new_block wr _)) (wcell_one _) (by unfold maxLen at *; omega) (by omega) (by simp; omega) ?_; intro v7 w7 hown' hg6 hnil6)
          have HB7 := Lib.hid ((HX.out.alloc hsz _).grown hg6 (by simp; omega) (fun j hj => (HOX.out.lt j hj).1))
          have HO7 : Hid (w7.ownsRow w1.heap.size 28 3 v7 (ins T x).length (wcells (ins T x))) := Lib.hid (by
            rw [← HME.out]
            rw [wcells_append, List.length_append]
            exact hown')
          clear hown' hg6 hnil6 ho hul
          clear q0 q1 q2
          have HBX := Lib.hid (HB1.out.trans (HB7.out.mono HB1.out.size))
          by_cases h5 : 500 ≤ T.length
          · have h5' : (500 : Int) ≤ (T.length : Int) := by omega
            have HE : Hid (RaPost a w (.returned (.tuple #[.slice A T.length c, .bool false])) w7) := Lib.hid (ra_same (by rw [← HA.out]; unfold add; rw [if_neg (by rw [HOK.out]; simp), if_neg HNIT.out, if_pos h5]) HN.out HBX.out)
            go_wp2_with fail
            exact bodyPost_ret (v := .tuple #[.slice A T.length c, .bool false]) (by simp [results, Tryd.results16, go_sem]) rfl HE.out
          · have h5' : ¬ (500 : Int) ≤ (T.length : Int) := by omega
            have HE : Hid (RaPost a w (.returned (.tuple #[v7, .bool true])) w7) := Lib.hid (by
              have e : a = (ins T x, true) := by rw [← HA.out]; unfold add; rw [if_neg (by rw [HOK.out]; simp), if_neg HNIT.out, if_neg h5]
              refine ⟨v7, by rw [e], ?_, HBX.out⟩
              rw [e]
              exact own_base HO7.out (Nat.zero_le _))
            go_wp2_with fail
            exact bodyPost_ret (v := .tuple #[v7, .bool true]) (by simp [results, Tryd.results16, go_sem]) rfl HE.out
end Go.Proofs.YtfejapaoflikhaaDoor
