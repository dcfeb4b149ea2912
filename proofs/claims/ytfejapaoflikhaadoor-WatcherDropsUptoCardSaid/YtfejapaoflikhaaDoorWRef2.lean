/-
  What the document's own Fire returns. Condition: the row is not long.
-/
import Derived.Test.YtfejapaoflikhaaDoorWRef1
import Derived.Deep.AppendLies
import Derived.Deep.RegionLaw
namespace Go.Proofs.YtfejapaoflikhaaDoor
set_option maxRecDepth 100000
open Go.ChangeShapes Go.WideShapes Go.ChangeAt Go.RowKit Go.Proofs.Zn Go.Proofs.Wa

theorem fireT_snoc (T : Tb) (x : Wt) (e : Ev) : fireT (T ++ [x]) e = fireT T e ++ (if hit e x = true then [] else [x]) := by
  unfold fireT
  rw [List.filter_append]
  cases h : hit e x <;> simp [h]
theorem fireE_snoc (T : Tb) (x : Wt) (e : Ev) : fireE (T ++ [x]) e = if hit e x = true then rstep (fireE T e) ⟨x.s, e.k, e.p⟩ else fireE T e := by
  unfold fireE
  rw [told_snoc, List.foldl_append]
  cases h : hit e x <;> simp
theorem fireT_len (T : Tb) (e : Ev) : (fireT T e).length ≤ T.length := List.length_filter_le _ _
theorem rsteps_len : ∀ (l acc : List Ev), (l.foldl rstep acc).length ≤ acc.length + l.length
  | [], acc => by simp
  | x :: l, acc => by
    have h := rsteps_len l (rstep acc x)
    have h2 : (rstep acc x).length ≤ acc.length + 1 := by unfold rstep; split <;> simp
    rw [List.foldl_cons, List.length_cons]; omega
theorem fireE_len (T : Tb) (e : Ev) : (fireE T e).length ≤ T.length := by
  have h1 := rsteps_len (toldA T e) []
  have h2 := told_len T e
  unfold fireE
  simp at h1; omega
def FrPost (T : Tb) (ev : Ev) (w : World) (e : Ending) (w' : World) : Prop :=
  ∃ v A c, e = .returned (.tuple #[v, .slice A (fireE T ev).length c]) ∧ NR w' v (fireT T ev) ∧ w'.ownsRow w.heap.size 30 3 (.slice A (fireE T ev).length c) (fireE T ev).length (ecells (fireE T ev)) ∧ Below w.heap.size w w'
set_option maxHeartbeats 8000000 in
theorem rfire_any {w : World} {v : Value} {T : Tb} (h : NR w v T) (hn : T.length ≤ 2000) (ev : Ev) : Calls Tryd.prog 21 #[v, .agg #[.int .i64 ev.s, .int .i64 ev.k, .string (B ev.p)]] w (FrPost T ev w) := by
  obtain ⟨A, c, rfl, -, -, -⟩ := own_form h
  obtain ⟨w1, hw1⟩ : ∃ w1, w1 = w.alloc (.cells #[.int .i64 ev.s, .int .i64 ev.k, .string (B ev.p)] 30) := ⟨_, rfl⟩
  obtain ⟨q, eq⟩ : ∃ q, q = w.heap.size := ⟨_, rfl⟩
  have hb1 : Below w.heap.size w w1 := by rw [hw1]; exact box_below w _
  have hq : w1.heap[q]? = some (.cells #[.int .i64 ev.s, .int .i64 ev.k, .string (B ev.p)] 30 (0, 0)) := by rw [hw1, eq]; exact new_block w _
  have HR := Lib.hid ((Rd.of_own (cell := wcell) (l := T) h (fun _ _ => rfl) (by omega)).below hb1)
  have HB1 := Lib.hid hb1
  have HQ1 := Lib.hid hq
  have HW1 := Lib.hid hw1
  have EQ := Lib.hid eq
  have hn2 : (T.length : Int) ≤ 2000 := by omega
  obtain ⟨i0, hi, hz0, hz1, hz2⟩ := info_parts infoN
  obtain ⟨i1, hj, hy0, hy1, hy2⟩ := info_parts infoE
  clear h hw1 eq hb1 hq
  go_enter Tryd.func21, Tryd.ntmps21
  go_upto_region 1 with fail
  rw [← HW1.out, ← EQ.out]
  go_wp2_with fail
  go_loopw [6, 7, 8] (fun u v i wr => ∃ k : Nat, k ≤ T.length ∧ i = .int .i64 k ∧ Hid (wr.ownsRow w1.heap.size 28 3 u (fireT (T.take k) ev).length (wcells (fireT (T.take k) ev))) ∧ Hid (wr.ownsRow w1.heap.size 30 3 v (fireE (T.take k) ev).length (ecells (fireE (T.take k) ev))) ∧ Hid (Below w1.heap.size w1 wr)) (fun _ _ i _ => T.length - (intOf i).toNat)
  case atStart => exact ⟨0, Nat.zero_le _, rfl, Lib.hid (World.ownsRow_nil _ _ _ _), Lib.hid (World.ownsRow_nil _ _ _ _), Lib.hid (Below.refl _ _)⟩
  case round =>
    obtain ⟨k, hk, rfl, HO, HV, HX⟩ := hrel
    by_cases hlt : k < T.length
    · obtain ⟨A7, c7, rfl, -, -, -⟩ := own_form HV.out
      obtain ⟨b, off, x, rfl, hx, hcc⟩ := (HR.out.below HX.out).at hlt
      have c0 : wr.cell? ⟨b, off + k * 3, none⟩ = some (.int .i64 x.s) := hcc 0 _ rfl
      have c1 : wr.cell? ⟨b, off + k * 3 + 1, none⟩ = some (.string (B x.p)) := hcc 1 _ rfl
      have c2 : wr.cell? ⟨b, off + k * 3 + 2, none⟩ = some (.bool x.k) := hcc 2 _ rfl
      have hqr := blk_below HQ1.out HX.out
      have q0 := cell_of hqr (j := 0) rfl
      have q1 := cell_of hqr (j := 1) rfl
      have q2 := cell_of hqr (j := 2) rfl
      have HS : Hid (∀ W, Below wr.heap.size wr W → (W.cell? ⟨b, off + k * 3, none⟩ = some (.int .i64 x.s) ∧ W.cell? ⟨b, off + k * 3 + 1, none⟩ = some (.string (B x.p)) ∧ W.cell? ⟨b, off + k * 3 + 2, none⟩ = some (.bool x.k) ∧ W.cell? ⟨q, 0, none⟩ = some (.int .i64 ev.s) ∧ W.cell? ⟨q, 1, none⟩ = some (.int .i64 ev.k) ∧ W.cell? ⟨q, 2, none⟩ = some (.string (B ev.p)) ∧ Below wr.heap.size wr W)) := Lib.hid (fun W hW => by
        have kk : ∀ a j u, wr.cell? ⟨a, j, none⟩ = some u → W.cell? ⟨a, j, none⟩ = some u := fun a j u hu => (hW.cell (p := ⟨a, j, none⟩) (cell_lt hu)).trans hu
        exact ⟨kk _ _ _ c0, kk _ _ _ c1, kk _ _ _ c2, kk _ _ _ q0, kk _ _ _ q1, kk _ _ _ q2, hW⟩)
      have HTC := Lib.hid (fun W => rtouches_any ev x W)
      have HT1 : Hid (fireT (T.take (k + 1)) ev = fireT (T.take k) ev ++ (if hit ev x = true then [] else [x])) := Lib.hid (by rw [take_some hx, fireT_snoc])
      have HT2 : Hid (fireE (T.take (k + 1)) ev = if hit ev x = true then rstep (fireE (T.take k) ev) ⟨x.s, ev.k, ev.p⟩ else fireE (T.take k) ev) := Lib.hid (by rw [take_some hx, fireE_snoc])
      obtain ⟨r, hr⟩ : ∃ r, hit ev x = r := ⟨_, rfl⟩
      rw [hr] at HTC HT1 HT2
      have hk0 : (0 : Int) ≤ (k : Int) := by omega
      have hki : (k : Int) < (T.length : Int) := by omega
      clear hx hcc hqr hr
      go_upto_region 6 with fail
      go_region_held3 (fun W => W.cell? ⟨b, off + k * 3, none⟩ = some (.int .i64 x.s) ∧ W.cell? ⟨b, off + k * 3 + 1, none⟩ = some (.string (B x.p)) ∧ W.cell? ⟨b, off + k * 3 + 2, none⟩ = some (.bool x.k) ∧ W.cell? ⟨q, 0, none⟩ = some (.int .i64 ev.s) ∧ W.cell? ⟨q, 1, none⟩ = some (.int .i64 ev.k) ∧ W.cell? ⟨q, 2, none⟩ = some (.string (B ev.p)) ∧ Below wr.heap.size wr W)
        (first
          | assumption
          | (with_reducible exact HS.out _ (Below.refl _ _).drew))
        (first
          | (go_at_call 35; (with_reducible refine (HTC.out _).mono ?_); rintro e w9 ⟨rfl, hb9⟩; have hB9 := below_step (a := wr) (by first | exact (Below.refl _ _).drew | assumption) hb9; have hS9 := HS.out w9 hB9))
      clear c0 c1 c2 q0 q1 q2
      obtain ⟨c0, c1, c2, q0, q1, q2, -⟩ := hS9
      have HB9 := Lib.hid (HX.out.trans (hB9.mono HX.out.size))
      have HO9 := Lib.hid (own_below HO.out hB9)
      have HV9 := Lib.hid (own_below HV.out hB9)
      clear hb9 hB9
      cases r with
      | false =>
        have ho := HO9.out
        have hsz := HB9.out.size
        have htl := fireT_len (T.take k) ev
        rw [List.length_take, Nat.min_eq_left hk] at htl
        go_wp2_with (at_builtin; refine wpList_append_own _ rfl _ _ 26 rfl w1.heap.size 28 i0 _ 3 32 Tryd.underlying26 hi hz0 hz1 hz2 rfl (by decide) _ _ _ rfl (ho.alloc _) ⟨w9.heap.size, 0, none⟩ 1 1 (wcell x) rfl rfl (World.news_of_block (new_block w9 _)) (wcell_one _) (by unfold maxLen at *; omega) (by omega) (by simp; omega) ?_; intro v' w6 hown' hg6 hnil6)
        have HB6 := Lib.hid ((HB9.out.alloc hsz _).grown hg6 (by simp; omega) (fun j hj => (HO9.out.lt j hj).1))
        have HO6 : Hid (w6.ownsRow w1.heap.size 28 3 v' (fireT (T.take (k + 1)) ev).length (wcells (fireT (T.take (k + 1)) ev))) := Lib.hid (by
          rw [HT1.out]
          simp only [Bool.false_eq_true, if_false]
          rw [wcells_append, List.length_append]
          exact hown')
        have HV6 := Lib.hid (own_gb' (own_below HV9.out (box_below w9 (.cells #[.int .i64 x.s, .string (B x.p), .bool x.k] 28))) hg6 (own_apart (own_below HV9.out (box_below w9 (.cells #[.int .i64 x.s, .string (B x.p), .bool x.k] 28))) (ho.alloc _) (by decide)))
        have HE2 : Hid (fireE (T.take (k + 1)) ev = fireE (T.take k) ev) := Lib.hid (by rw [HT2.out]; simp)
        clear hown' hg6 hnil6 ho c0 c1 c2 q0 q1 q2 htl
        go_wp2_with fail
        go_roundw
        case rel => exact ⟨k + 1, by omega, by go_num, HO6, by rw [HE2.out]; exact HV6, HB6⟩
        case measure => simp [intOf]; omega
      | true =>
        have HT3 : Hid (fireT (T.take (k + 1)) ev = fireT (T.take k) ev) := Lib.hid (by rw [HT1.out]; simp)
        have HE3 : Hid (fireE (T.take (k + 1)) ev = rstep (fireE (T.take k) ev) ⟨x.s, ev.k, ev.p⟩) := Lib.hid (by rw [HT2.out]; simp)
        obtain ⟨V, hV⟩ : ∃ V, fireE (T.take k) ev = V := ⟨_, rfl⟩
        have HVL : Hid (V.length ≤ 2000) := Lib.hid (by rw [← hV]; have := fireE_len (T.take k) ev; rw [List.length_take] at this; omega)
        rw [hV] at HE3 HV9 ⊢
        clear hV
        have hv2 : (V.length : Int) ≤ 2000 := by have := HVL.out; omega
        have HC0 : Hid (∀ W, Below w9.heap.size w9 W → (W.cell? ⟨b, off + k * 3, none⟩ = some (.int .i64 x.s) ∧ W.cell? ⟨q, 1, none⟩ = some (.int .i64 ev.k) ∧ W.cell? ⟨q, 2, none⟩ = some (.string (B ev.p)))) := Lib.hid (fun W hW => by
          have kk : ∀ a j u, w9.cell? ⟨a, j, none⟩ = some u → W.cell? ⟨a, j, none⟩ = some u := fun a j u hu => (hW.cell (p := ⟨a, j, none⟩) (cell_lt hu)).trans hu
          exact ⟨kk _ _ _ c0, kk _ _ _ q1, kk _ _ _ q2⟩)
        have HRV := Lib.hid (Rd.of_own (cell := ecell) (l := V) HV9.out (fun _ _ => rfl) (by omega))
        clear c0 c1 c2 q0 q1 q2
        go_wp2_with fail
        go_loopw [9, 10] (fun kn i2 wz => ∃ m : Nat, m ≤ V.length ∧ i2 = .int .i64 m ∧ kn = .bool ((V.take m).any (fun y => y.s == x.s)) ∧ Hid (Below w9.heap.size w9 wz)) (fun _ i2 _ => V.length - (intOf i2).toNat)
        case atStart => exact ⟨0, Nat.zero_le _, rfl, rfl, Lib.hid (Below.refl _ _)⟩
        case round =>
          obtain ⟨m, hm, rfl, rfl, HZ⟩ := hrel
          by_cases hlm : m < V.length
          · obtain ⟨b7, off7, y, rfl, hy, hdd⟩ := (HRV.out.below HZ.out).at hlm
            have d0 : wr.cell? ⟨b7, off7 + m * 3, none⟩ = some (.int .i64 y.s) := hdd 0 _ rfl
            have d1 : wr.cell? ⟨b7, off7 + m * 3 + 1, none⟩ = some (.int .i64 y.k) := hdd 1 _ rfl
            have d2 : wr.cell? ⟨b7, off7 + m * 3 + 2, none⟩ = some (.string (B y.p)) := hdd 2 _ rfl
            obtain ⟨c0, -, -⟩ := HC0.out _ HZ.out
            obtain ⟨p1, hp1⟩ : ∃ p1, (V.take m).any (fun y => y.s == x.s) = p1 := ⟨_, rfl⟩
            obtain ⟨r2, hr2⟩ : ∃ r2, (y.s == x.s) = r2 := ⟨_, rfl⟩
            have HAN : Hid ((V.take (m + 1)).any (fun y => y.s == x.s) = (p1 || r2)) := Lib.hid (by rw [take_some hy, List.any_append, hp1]; simp [hr2])
            rw [hp1]
            have hm0 : (0 : Int) ≤ (m : Int) := by omega
            have hmi : (m : Int) < (V.length : Int) := by omega
            clear hy hdd hp1
            go_upto_region 12 with fail
            go_quiet (fail)
            have HZ2 := Lib.hid (below_drewN HZ.out nq)
            clear c0 d0 d1 d2 hr2
            cases r2 with
            | true =>
              go_wp2_with fail
              go_roundw
              case rel => exact ⟨m + 1, by omega, by go_num, by rw [HAN.out]; simp, HZ2⟩
              case measure => simp [intOf]; omega
            | false =>
              go_wp2_with fail
              go_roundw
              case rel => exact ⟨m + 1, by omega, by go_num, by rw [HAN.out]; simp, HZ2⟩
              case measure => simp [intOf]; omega
          · obtain rfl : m = V.length := by omega
            have hmi : ¬ (V.length : Int) < (V.length : Int) := by omega
            obtain ⟨p1, hp1⟩ : ∃ p1, (V.take V.length).any (fun y => y.s == x.s) = p1 := ⟨_, rfl⟩
            rw [hp1]
            rw [List.take_of_length_le (Nat.le_refl _)] at hp1
            have HP := Lib.hid hp1
            obtain ⟨c0, q1, q2⟩ := HC0.out _ HZ.out
            have HO4 := Lib.hid (own_below HO9.out HZ.out)
            have HV4 := Lib.hid (own_below HV9.out HZ.out)
            have HB4 := Lib.hid (HB9.out.trans (HZ.out.mono HB9.out.size))
            clear hp1
            cases p1 with
            | true =>
              have HE5 : Hid (fireE (T.take (k + 1)) ev = V) := Lib.hid (by rw [HE3.out]; unfold rstep; rw [if_pos HP.out])
              go_wp2_with fail
              go_roundw
              case rel => exact ⟨k + 1, by omega, by go_num, by rw [HT3.out]; exact HO4, by rw [HE5.out]; exact HV4, HB4⟩
              case measure => simp [intOf]; omega
            | false =>
              have HE5 : Hid (fireE (T.take (k + 1)) ev = V ++ [⟨x.s, ev.k, ev.p⟩]) := Lib.hid (by rw [HE3.out]; unfold rstep; rw [if_neg (by rw [HP.out]; simp)])
              have HX2 : Hid (((wr.alloc (.cells #[.int .i64 x.s, .int .i64 ev.k, .string (B ev.p)] 30)).drew).heap[wr.heap.size]? = some (.cells #[.int .i64 x.s, .int .i64 ev.k, .string (B ev.p)] 30 (0, 0))) := Lib.hid (new_block wr _)
              have HOW : Hid (((wr.alloc (.cells #[.int .i64 x.s, .int .i64 ev.k, .string (B ev.p)] 30)).drew).ownsRow w1.heap.size 30 3 (.slice A7 V.length c7) V.length (ecells V)) := Lib.hid (own_below HV4.out ((Below.refl _ _).alloc (Nat.le_refl _) _).drew)
              have HBX : Hid (Below wr.heap.size wr ((wr.alloc (.cells #[.int .i64 x.s, .int .i64 ev.k, .string (B ev.p)] 30)).drew)) := Lib.hid ((Below.refl _ _).alloc (Nat.le_refl _) _).drew
              have HNS : Hid (w1.heap.size ≤ ((wr.alloc (.cells #[.int .i64 x.s, .int .i64 ev.k, .string (B ev.p)] 30)).drew).heap.size) := Lib.hid (Nat.le_trans HB4.out.size HBX.out.size)
              have HBH : Hid (((wr.alloc (.cells #[.int .i64 x.s, .int .i64 ev.k, .string (B ev.p)] 30)).drew).heap.size = wr.heap.size + 1) := Lib.hid (by simp)
              go_upto_region 15 with fail
              go_region_law (first
                | (refine step_append_lies _ rfl (.tmp 50) (.tmp 61) 40 rfl w1.heap.size 30 i1 _ 3 32 Tryd.underlying40 hj hy0 hy1 hy2 rfl (by decide) (.slice A7 V.length c7) V.length (ecells V) (by simp [Act.eval]) HOW.out ⟨wr.heap.size, 0, none⟩ 1 1 (ecell ⟨x.s, ev.k, ev.p⟩) (by simp [Act.eval]) rfl (World.news_of_block HX2.out) (ecell_one _) (by decide) (by unfold maxLen; have := HVL.out; omega) (by have := HVL.out; omega) HNS.out (wr.heap.size + 1) HBH.out ?_; intro g cap w3 hown hgrow hat hlt; have HOW3 := Lib.hid hown; have HGR := Lib.hid hgrow)
                | fail)
              all_goals
                have HO6 := Lib.hid (own_gb' (own_below HO4.out HBX.out) HGR.out (own_apart (own_below HO4.out HBX.out) HOW.out (by decide)))
                have HB6 := Lib.hid (((HB4.out.trans (HBX.out.mono HB4.out.size))).grown HGR.out HNS.out (fun j hj => (HOW.out.lt j hj).1))
                clear c0 q1 q2
                go_wp2_with fail
                go_roundw
                case rel => exact ⟨k + 1, by omega, by go_num, by rw [HT3.out]; exact HO6, by rw [HE5.out, ecells_append, List.length_append]; exact HOW3, HB6⟩
                case measure => simp [intOf]; omega
    · obtain rfl : k = T.length := by omega
      have hki : ¬ (T.length : Int) < (T.length : Int) := by omega
      have ho := HO.out
      have hv := HV.out
      rw [List.take_of_length_le (Nat.le_refl _)] at ho hv
      obtain ⟨A2, c2, rfl, -, -, -⟩ := own_form hv
      have HE : Hid (FrPost T ev w (.returned (.tuple #[u6, .slice A2 (fireE T ev).length c2])) wr) := Lib.hid ⟨_, _, _, rfl, own_base ho (Nat.zero_le _), own_base hv HB1.out.size, HB1.out.trans (HX.out.mono HB1.out.size)⟩
      clear ho hv
      go_wp2_with fail
      exact bodyPost_ret (v := .tuple #[u6, .slice A2 (fireE T ev).length c2]) (by simp [results, Tryd.results21, go_sem]) rfl HE.out
end Go.Proofs.YtfejapaoflikhaaDoor
