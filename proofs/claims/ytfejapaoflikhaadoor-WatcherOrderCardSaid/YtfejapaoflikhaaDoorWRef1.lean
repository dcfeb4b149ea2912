/-
  What before, touches and Drop of the document and SameEvents return. Condition: the rows are not long.
-/
import Derived.Test.YtfejapaoflikhaaDoorWFireP
namespace Go.Proofs.YtfejapaoflikhaaDoor
set_option maxRecDepth 100000
open Go.ChangeShapes Go.WideShapes Go.ChangeAt Go.RowKit Go.Proofs.Zn Go.Proofs.Wa

set_option maxHeartbeats 1000000 in
theorem before_any (a b : Wt) (w : World) : Calls Tryd.prog 29 #[.agg #[.int .i64 a.s, .string (B a.p), .bool a.k], .agg #[.int .i64 b.s, .string (B b.p), .bool b.k]] w fun e w' => e = .returned (.bool (bef a b)) ∧ Below w.heap.size w w' := by
  obtain ⟨w2, hw2, hB2, hq, hr, hs2⟩ := two_box w (.cells #[.int .i64 a.s, .string (B a.p), .bool a.k] 28) (.cells #[.int .i64 b.s, .string (B b.p), .bool b.k] 28)
  obtain ⟨q, eq⟩ : ∃ q, q = w.heap.size := ⟨_, rfl⟩
  obtain ⟨r, er⟩ : ∃ r, r = w.heap.size + 1 := ⟨_, rfl⟩
  rw [← eq] at hq
  rw [← er] at hr
  obtain ⟨x, hx⟩ : ∃ x, bef a b = x := ⟨_, rfl⟩
  rw [hx]
  have HX := Lib.hid hx
  have HB2 := Lib.hid hB2
  have HW2 := Lib.hid hw2
  have EQ := Lib.hid eq
  have ER := Lib.hid er
  have q0 := cell_of hq (j := 0) rfl
  have q1 := cell_of hq (j := 1) rfl
  have q2 := cell_of hq (j := 2) rfl
  have r0 := cell_of hr (j := 0) rfl
  have r1 := cell_of hr (j := 1) rfl
  have r2 := cell_of hr (j := 2) rfl
  clear hx hw2 hB2 hq hr hs2 eq er
  by_cases h1 : a.s = b.s
  · have t1 : (a.s != b.s) = false := by simpa using h1
    by_cases h2 : a.p = b.p
    · have t2 : (a.p == b.p) = true := by simpa using h2
      have HE : Hid ((!a.k && b.k) = x) := Lib.hid (by rw [← HX.out]; unfold bef; rw [if_pos h1, if_pos h2])
      obtain ⟨ak, hak⟩ : ∃ y, a.k = y := ⟨_, rfl⟩
      obtain ⟨bk, hbk⟩ : ∃ y, b.k = y := ⟨_, rfl⟩
      rw [hak] at q2
      rw [hbk] at r2
      rw [hak, hbk] at HE ⊢
      rw [hak, hbk] at HW2
      clear h1 h2 hak hbk
      go_enter Tryd.func29, Tryd.ntmps29
      go_upto_region 1 with fail
      cases ak <;> cases bk
      all_goals
        rw [← HW2.out, ← ER.out, ← EQ.out]
        go_wp2_with fail
        go_ret
        exact ⟨ret_b HE.out, HB2.out⟩
    · have t2 : (a.p == b.p) = false := by simpa using h2
      obtain ⟨y, hy⟩ : ∃ y, Op.bytesLess a.p b.p = y := ⟨_, rfl⟩
      have HE : Hid (y = x) := Lib.hid (by rw [← HX.out, ← hy, less_dec]; unfold bef; rw [if_pos h1, if_neg h2])
      clear h1 h2
      go_enter Tryd.func29, Tryd.ntmps29
      go_upto_region 1 with fail
      rw [← HW2.out, ← ER.out, ← EQ.out]
      go_wp2_with fail
      go_ret
      exact ⟨ret_b HE.out, HB2.out⟩
  · have t1 : (a.s != b.s) = true := by simpa using h1
    have HE : Hid (decide (a.s < b.s) = x) := Lib.hid (by rw [← HX.out]; unfold bef; rw [if_neg h1])
    have hE := HE.out
    clear h1
    go_enter Tryd.func29, Tryd.ntmps29
    go_upto_region 1 with fail
    rw [← HW2.out, ← ER.out, ← EQ.out]
    go_wp2_with fail
    go_ret
    exact ⟨rfl, HB2.out⟩
set_option maxHeartbeats 2000000 in
theorem rtouches_any (e : Ev) (x : Wt) (w : World) : Calls Tryd.prog 35 #[.agg #[.int .i64 e.s, .int .i64 e.k, .string (B e.p)], .agg #[.int .i64 x.s, .string (B x.p), .bool x.k]] w fun en w' => en = .returned (.bool (hit e x)) ∧ Below w.heap.size w w' := by
  obtain ⟨w2, hw2, hB2, hq, hr, hs2⟩ := two_box w (.cells #[.int .i64 e.s, .int .i64 e.k, .string (B e.p)] 30) (.cells #[.int .i64 x.s, .string (B x.p), .bool x.k] 28)
  obtain ⟨q, eq⟩ : ∃ q, q = w.heap.size := ⟨_, rfl⟩
  obtain ⟨r, er⟩ : ∃ r, r = w.heap.size + 1 := ⟨_, rfl⟩
  rw [← eq] at hq
  rw [← er] at hr
  obtain ⟨y, hy⟩ : ∃ y, hit e x = y := ⟨_, rfl⟩
  rw [hy]
  have HY := Lib.hid hy
  have HB2 := Lib.hid hB2
  have HW2 := Lib.hid hw2
  have EQ := Lib.hid eq
  have ER := Lib.hid er
  have q1 := cell_of hq (j := 1) rfl
  have q2 := cell_of hq (j := 2) rfl
  have r1 := cell_of hr (j := 1) rfl
  have r2 := cell_of hr (j := 2) rfl
  clear hy hw2 hB2 hq hr hs2 eq er
  by_cases h1 : e.p = x.p
  · have t1 : (e.p == x.p) = true := by simpa using h1
    have HP : Hid ((x.p == e.p) = true) := Lib.hid (by simp [h1])
    obtain ⟨xk, hxk⟩ : ∃ y, x.k = y := ⟨_, rfl⟩
    rw [hxk] at r2
    rw [hxk] at HW2 ⊢
    have HXK := Lib.hid hxk
    clear h1 hxk
    cases xk with
    | true =>
      by_cases h4 : e.k = 4
      · have HE : Hid (true = y) := Lib.hid (by rw [← HY.out]; unfold hit touch; rw [HP.out, HXK.out]; simp [h4])
        have t4 : (e.k == 4) = true := by simpa using h4
        clear h4
        go_enter Tryd.func35, Tryd.ntmps35
        go_upto_region 1 with fail
        rw [← HW2.out, ← ER.out, ← EQ.out]
        go_wp2_with fail
        go_ret
        exact ⟨ret_b HE.out, HB2.out⟩
      · have t4 : (e.k == 4) = false := by simpa using h4
        obtain ⟨z, hz⟩ : ∃ z, (e.k == 2) = z := ⟨_, rfl⟩
        have HE : Hid (z = y) := Lib.hid (by rw [← HY.out, ← hz]; unfold hit touch; rw [HP.out, HXK.out]; simp [h4]; rfl)
        clear h4
        go_enter Tryd.func35, Tryd.ntmps35
        go_upto_region 1 with fail
        rw [← HW2.out, ← ER.out, ← EQ.out]
        go_wp2_with fail
        go_ret
        exact ⟨ret_b HE.out, HB2.out⟩
    | false =>
      by_cases h4 : 1 ≤ e.k
      · by_cases h5 : e.k ≤ 3
        · have HE : Hid (true = y) := Lib.hid (by rw [← HY.out]; unfold hit touch; rw [HP.out, HXK.out]; simp [h4, h5])
          go_enter Tryd.func35, Tryd.ntmps35
          go_upto_region 1 with fail
          rw [← HW2.out, ← ER.out, ← EQ.out]
          go_wp2_with fail
          go_ret
          exact ⟨ret_b HE.out, HB2.out⟩
        · have HE : Hid (false = y) := Lib.hid (by rw [← HY.out]; unfold hit touch; rw [HP.out, HXK.out]; simp [h4, h5])
          go_enter Tryd.func35, Tryd.ntmps35
          go_upto_region 1 with fail
          rw [← HW2.out, ← ER.out, ← EQ.out]
          go_wp2_with fail
          go_ret
          exact ⟨ret_b HE.out, HB2.out⟩
      · have HE : Hid (false = y) := Lib.hid (by rw [← HY.out]; unfold hit touch; rw [HP.out, HXK.out]; simp [h4])
        go_enter Tryd.func35, Tryd.ntmps35
        go_upto_region 1 with fail
        rw [← HW2.out, ← ER.out, ← EQ.out]
        go_wp2_with fail
        go_ret
        exact ⟨ret_b HE.out, HB2.out⟩
  · have t1 : (e.p == x.p) = false := by simpa using h1
    have HE : Hid (false = y) := Lib.hid (by rw [← HY.out]; unfold hit; rw [show (x.p == e.p) = false by simpa using (fun h : x.p = e.p => h1 h.symm)]; rfl)
    clear h1
    go_enter Tryd.func35, Tryd.ntmps35
    go_upto_region 1 with fail
    rw [← HW2.out, ← ER.out, ← EQ.out]
    go_wp2_with fail
    go_ret
    exact ⟨ret_b HE.out, HB2.out⟩
/-- The document's row. -/
abbrev NR (w : World) (v : Value) (T : Tb) : Prop := w.ownsRow 0 28 3 v T.length (wcells T)
def RdPost (M : Tb) (w : World) (e : Ending) (w' : World) : Prop := ∃ v, e = .returned v ∧ NR w' v M ∧ Below w.heap.size w w'
theorem drop_snoc (T : Tb) (x : Wt) (s : Int) : drop (T ++ [x]) s = drop T s ++ (if (x.s != s) = true then [x] else []) := by
  unfold drop
  rw [List.filter_append]
  cases h : x.s == s <;> simp [h, bne]
theorem dropl_len (T : Tb) (s : Int) : (drop T s).length ≤ T.length := List.length_filter_le _ _
set_option maxHeartbeats 4000000 in
theorem rdrop_any {w : World} {v : Value} {T : Tb} (h : NR w v T) (hn : T.length ≤ 2000) (s : Int) : Calls Tryd.prog 22 #[v, .int .i64 s] w (RdPost (drop T s) w) := by
  obtain ⟨A, c, rfl, -, -, -⟩ := own_form h
  have HR := Lib.hid (Rd.of_own (cell := wcell) (l := T) h (fun _ _ => rfl) (by omega))
  have hn2 : (T.length : Int) ≤ 2000 := by omega
  obtain ⟨i0, hi, hz0, hz1, hz2⟩ := info_parts infoN
  clear h
  go_enter Tryd.func22, Tryd.ntmps22
  go_wp2_with fail
  go_loopw [5, 6] (fun u i wr => ∃ k : Nat, k ≤ T.length ∧ i = .int .i64 k ∧ Hid (wr.ownsRow w.heap.size 28 3 u (drop (T.take k) s).length (wcells (drop (T.take k) s))) ∧ Hid (Below w.heap.size w wr)) (fun _ i _ => T.length - (intOf i).toNat)
  case atStart => exact ⟨0, Nat.zero_le _, rfl, Lib.hid (World.ownsRow_nil _ _ _ _), Lib.hid (Below.refl _ _)⟩
  case round =>
    obtain ⟨k, hk, rfl, HO, HX⟩ := hrel
    by_cases hlt : k < T.length
    · obtain ⟨b, off, x, rfl, hx, hcc⟩ := (HR.out.below HX.out).at hlt
      have c0 : wr.cell? ⟨b, off + k * 3, none⟩ = some (.int .i64 x.s) := hcc 0 _ rfl
      have c1 : wr.cell? ⟨b, off + k * 3 + 1, none⟩ = some (.string (B x.p)) := hcc 1 _ rfl
      have c2 : wr.cell? ⟨b, off + k * 3 + 2, none⟩ = some (.bool x.k) := hcc 2 _ rfl
      have HTS : Hid (drop (T.take (k + 1)) s = drop (T.take k) s ++ (if (x.s != s) = true then [x] else [])) := Lib.hid (by rw [take_some hx, drop_snoc])
      obtain ⟨r, hr⟩ : ∃ r, (x.s != s) = r := ⟨_, rfl⟩
      rw [hr] at HTS
      have hk0 : (0 : Int) ≤ (k : Int) := by omega
      have hki : (k : Int) < (T.length : Int) := by omega
      clear hx hcc
      cases r with
      | false =>
        go_wp2_with fail
        go_roundw
        case rel => exact ⟨k + 1, by omega, by go_num, Lib.hid (by rw [HTS.out]; simpa using HO.out), HX⟩
        case measure => simp [intOf]; omega
      | true =>
        have ho := HO.out
        have hsz := HX.out.size
        have htl := dropl_len (T.take k) s
        rw [List.length_take, Nat.min_eq_left hk] at htl
        go_wp2_with (at_builtin; refine wpList_append_own _ rfl _ _ 26 rfl w.heap.size 28 i0 _ 3 32 Tryd.underlying26 hi hz0 hz1 hz2 rfl (by decide) _ _ _ rfl (ho.alloc _) ⟨wr.heap.size, 0, none⟩ 1 1 (wcell x) rfl rfl (World.news_of_block (new_block wr _)) (wcell_one _) (by unfold maxLen at *; omega) (by omega) (by simp; omega) ?_; intro v' w6 hown' hg6 hnil6)
        have HB6 := Lib.hid ((HX.out.alloc hsz _).grown hg6 (by simp; omega) (fun j hj => (HO.out.lt j hj).1))
        have HO6 : Hid (w6.ownsRow w.heap.size 28 3 v' (drop (T.take (k + 1)) s).length (wcells (drop (T.take (k + 1)) s))) := Lib.hid (by
          rw [HTS.out]
          simp only [reduceIte]
          rw [wcells_append, List.length_append]
          exact hown')
        clear hown' hg6 hnil6 ho c0 c1 c2 htl hr
        go_wp2_with fail
        go_roundw
        case rel => exact ⟨k + 1, by omega, by go_num, HO6, HB6⟩
        case measure => simp [intOf]; omega
    · obtain rfl : k = T.length := by omega
      have hki : ¬ (T.length : Int) < (T.length : Int) := by omega
      have HE : Hid (RdPost (drop T s) w (.returned u5) wr) := Lib.hid (by
        have ho := HO.out
        rw [List.take_of_length_le (Nat.le_refl _)] at ho
        exact ⟨_, rfl, own_base ho (Nat.zero_le _), HX.out⟩)
      go_wp2_with fail
      go_ret
      exact HE.out
/-! ### SameEvents -/
set_option maxHeartbeats 4000000 in
theorem sameev_any {w : World} {A A2 : Option Addr} {n n2 c c2 : Nat} {l l2 : List Ev} (h : Rd ecell 3 w A n l) (h2 : Rd ecell 3 w A2 n2 l2) (hn : n ≤ 100000) (hn2 : n2 ≤ 100000) :
    Calls Tryd.prog 20 #[.slice A n c, .slice A2 n2 c2] w fun e w' => e = .returned (.bool (decide (l = l2))) ∧ Below w.heap.size w w' := by
  obtain ⟨y, hy⟩ : ∃ y, decide (l = l2) = y := ⟨_, rfl⟩
  rw [hy]
  have HY := Lib.hid hy
  have HL := Lib.hid h.len
  have HL2 := Lib.hid h2.len
  have HR := Lib.hid h
  have HR2 := Lib.hid h2
  clear hy h h2
  have hgu := guard_neqE
  by_cases hne : n = n2
  · subst hne
    go_enter Tryd.func20, Tryd.ntmps20
    go_wp2_with fail
    go_loopw [5] (fun i wr => ∃ k : Nat, k ≤ n ∧ i = .int .i64 k ∧ Hid (l.take k = l2.take k) ∧ Hid (Below w.heap.size w wr)) (fun i _ => n - (intOf i).toNat)
    case atStart => exact ⟨0, Nat.zero_le _, rfl, Lib.hid rfl, Lib.hid (Below.refl _ _)⟩
    case round =>
      obtain ⟨k, hk, rfl, HT, HX⟩ := hrel
      by_cases hlt : k < n
      · obtain ⟨b, off, x, rfl, hx, hcc⟩ := (HR.out.below HX.out).at hlt
        obtain ⟨b2, off2, z, rfl, hz, hdd⟩ := (HR2.out.below HX.out).at hlt
        have c0 : wr.cell? ⟨b, off + k * 3, none⟩ = some (.int .i64 x.s) := hcc 0 _ rfl
        have c1 : wr.cell? ⟨b, off + k * 3 + 1, none⟩ = some (.int .i64 x.k) := hcc 1 _ rfl
        have c2 : wr.cell? ⟨b, off + k * 3 + 2, none⟩ = some (.string (B x.p)) := hcc 2 _ rfl
        have d0 : wr.cell? ⟨b2, off2 + k * 3, none⟩ = some (.int .i64 z.s) := hdd 0 _ rfl
        have d1 : wr.cell? ⟨b2, off2 + k * 3 + 1, none⟩ = some (.int .i64 z.k) := hdd 1 _ rfl
        have d2 : wr.cell? ⟨b2, off2 + k * 3 + 2, none⟩ = some (.string (B z.p)) := hdd 2 _ rfl
        have hqe := neqE x z
        have HXX := Lib.hid hx
        have HZZ := Lib.hid hz
        obtain ⟨r, hr⟩ : ∃ r, (!decide (x = z)) = r := ⟨_, rfl⟩
        rw [hr] at hqe
        have HRR := Lib.hid hr
        have hk0 : (0 : Int) ≤ (k : Int) := by omega
        have hki : (k : Int) < (n : Int) := by omega
        clear hx hz hcc hdd hr
        go_upto_region 6 with fail
        go_quiet (fail)
        have HX2 := Lib.hid (below_drewN HX.out nq)
        clear c0 c1 c2 d0 d1 d2 hqe
        cases r with
        | true =>
          have HE : Hid (false = y) := Lib.hid (by
            rw [← HY.out]
            symm
            rw [decide_eq_false_iff_not]
            rintro rfl
            have h1 := HXX.out
            rw [HZZ.out] at h1
            have h2 := HRR.out
            simp [Option.some.inj h1] at h2)
          go_wp2_with fail
          go_ret
          exact ⟨ret_b HE.out, HX2.out⟩
        | false =>
          have HT2 : Hid (l.take (k + 1) = l2.take (k + 1)) := Lib.hid (by
            have h2 := HRR.out
            simp at h2
            rw [take_some HXX.out, take_some HZZ.out, HT.out, h2])
          go_wp2_with fail
          go_roundw
          case rel => exact ⟨k + 1, by omega, by go_num, HT2, HX2⟩
          case measure => simp [intOf]; omega
      · obtain rfl : k = n := by omega
        have hki : ¬ (k : Int) < (k : Int) := by omega
        have HE : Hid (true = y) := Lib.hid (by
          have ht := HT.out
          rw [List.take_of_length_le (by rw [HL.out]; exact Nat.le_refl _), List.take_of_length_le (by rw [HL2.out]; exact Nat.le_refl _)] at ht
          rw [← HY.out, ht]
          simp)
        go_wp2_with fail
        go_ret
        exact ⟨ret_b HE.out, HX.out⟩
  · have HE : Hid (false = y) := Lib.hid (by
      rw [← HY.out]
      symm
      rw [decide_eq_false_iff_not]
      rintro rfl
      exact hne (HL.out.symm.trans HL2.out))
    have hd : ((n : Int) != (n2 : Int)) = true := by simp; omega
    clear hne
    go_enter Tryd.func20, Tryd.ntmps20
    go_wp2_with fail
    go_ret
    exact ⟨ret_b HE.out, Below.refl _ _⟩
end Go.Proofs.YtfejapaoflikhaaDoor
