/-
  What slices.Compact of events returns and leaves. Condition: the row is not long.
-/
import Derived.Test.YtfejapaoflikhaaDoorWDel
namespace Go.Proofs.YtfejapaoflikhaaDoor
set_option maxRecDepth 100000
open Go.ChangeShapes Go.WideShapes Go.ChangeAt Go.RowKit Go.Proofs.Zn Go.Proofs.Wa

theorem comp_snoc (l : List Ev) (x : Ev) : comp (l ++ [x]) = cstep (comp l) x := by unfold comp; rw [List.foldl_append]; rfl
theorem comp_one (x : Ev) : comp [x] = [x] := by unfold comp; simp [cstep]
theorem comp_last : ∀ (l : List Ev), (comp l).getLast? = l.getLast? := fun l => by
  rcases List.eq_nil_or_concat l with rfl | ⟨m, x, rfl⟩
  · rfl
  · rw [List.concat_eq_append, comp_snoc, List.getLast?_append]
    unfold cstep
    split
    · rename_i h; simpa using h
    · simp
/-- Where nothing stands twice. -/
theorem comp_all {l : List Ev} {k : Nat} (h : ∀ i, 1 ≤ i → i < k → l[i]? ≠ l[i - 1]?) (hk : k ≤ l.length) : comp (l.take k) = l.take k := by
  induction k with
  | zero => rfl
  | succ k ih =>
    have hkl : k < l.length := by omega
    have e := take_some (List.getElem?_eq_getElem hkl)
    have ih' := ih (fun i h1 h2 => h i h1 (by omega)) (by omega)
    rw [e, comp_snoc, ih']
    unfold cstep
    rw [if_neg]
    intro h2
    rcases Nat.eq_zero_or_pos k with h0 | h0
    · subst h0; simp at h2
    · have h3 := h k h0 (by omega)
      apply h3
      rw [List.getElem?_eq_getElem hkl, ← h2, List.getLast?_eq_getElem?, List.length_take, Nat.min_eq_left (by omega), List.getElem?_take, if_pos (by omega)]
/-- The row in the middle of it: j have been looked at, i are kept. -/
structure CpM (l M : List Ev) (i j : Nat) : Prop where
  lt : i < j
  pos : 0 < i
  len : M.length = l.length
  front : M.take i = comp (l.take j)
  back : M.drop j = l.drop j
  last : M[j - 1]? = l[j - 1]?
theorem cpm_get {l M : List Ev} {i j : Nat} (h : CpM l M i j) : M[j]? = l[j]? := by
  have h1 := congrArg (fun l : List Ev => l[0]?) h.back
  simpa [List.getElem?_drop] using h1
theorem cpm_start {l : List Ev} {k : Nat} (h : ∀ i, 1 ≤ i → i < k → l[i]? ≠ l[i - 1]?) (hk : k < l.length) (h0 : 0 < k) (he : l[k]? = l[k - 1]?) : CpM l l k (k + 1) := by
  have hx := List.getElem?_eq_getElem hk
  refine ⟨by omega, h0, rfl, ?_, rfl, rfl⟩
  rw [take_some hx, comp_snoc, comp_all h (by omega)]
  unfold cstep
  rw [if_pos]
  rw [List.getLast?_eq_getElem?, List.length_take, Nat.min_eq_left (by omega), List.getElem?_take, if_pos (by omega), ← he, hx]
theorem last_take {l : List Ev} {j : Nat} (hj : 0 < j) (hl : j ≤ l.length) : (comp (l.take j)).getLast? = l[j - 1]? := by
  rw [comp_last, List.getLast?_eq_getElem?, List.length_take, Nat.min_eq_left hl, List.getElem?_take, if_pos (by omega)]
theorem cpm_skip {l M : List Ev} {i j : Nat} (h : CpM l M i j) {x : Ev} (hx : l[j]? = some x) (he : l[j - 1]? = some x) : CpM l M i (j + 1) := by
  have hl := (List.getElem?_eq_some_iff.1 hx).1
  have := h.lt
  refine ⟨by omega, h.pos, h.len, ?_, ?_, ?_⟩
  · rw [take_some hx, comp_snoc, h.front]
    unfold cstep
    rw [if_pos (by rw [last_take (by omega) (by omega), he])]
  · rw [← List.drop_drop, ← List.drop_drop, h.back]
  · exact cpm_get h
theorem cpm_keep {l M : List Ev} {i j : Nat} (h : CpM l M i j) {x : Ev} (hx : l[j]? = some x) (he : l[j - 1]? ≠ some x) : CpM l (M.set i x) (i + 1) (j + 1) := by
  have hl := (List.getElem?_eq_some_iff.1 hx).1
  have hlt := h.lt
  have hm := h.len
  refine ⟨by omega, by omega, by rw [List.length_set]; exact hm, ?_, ?_, ?_⟩
  · rw [List.take_succ_eq_append_getElem (by rw [List.length_set]; omega), List.getElem_set_self, List.take_set_of_le (Nat.le_refl _), h.front, take_some hx, comp_snoc]
    unfold cstep
    rw [if_neg (by rw [last_take (by omega) (by omega)]; exact he)]
  · rw [List.drop_set_of_lt (by omega), ← List.drop_drop, ← List.drop_drop, h.back]
  · show (M.set i x)[j]? = l[j]?
    rw [List.getElem?_set_ne (by omega)]
    exact cpm_get h
def CmPost (Bs : Nat) (w : World) (A : Option Addr) (n c : Nat) (l : List Ev) (e : Ending) (w' : World) : Prop :=
  e = .returned (.slice A (comp l).length c) ∧ w'.ownsRow Bs 30 3 (.slice A (comp l).length c) (comp l).length (ecells (comp l)) ∧ w.grownBy w' (Value.slice A n c).ownBlock
theorem cp_fin {w w2 : World} {Bs g n c i : Nat} {l M : List Ev} {vs : List Value} (hm : CpM l M i n) (hn : l.length = n) (ho : w2.ownsRow Bs 30 3 (.slice (some ⟨g, 0, none⟩) n c) n (ecells M)) (hg : w.grownBy w2 (some g)) (hv : vs.length = (n - i) * 3) :
    CmPost Bs w (some ⟨g, 0, none⟩) n c l (.returned (.slice (some ⟨g, 0, none⟩) i c)) (w2.setCells g (i * 3) vs) := by
  have hlt := hm.lt
  have hml : M.length = n := by rw [hm.len, hn]
  have hf := hm.front
  rw [List.take_of_length_le (show l.length ≤ n by omega)] at hf
  have hi' : (comp l).length = i := by rw [← hf, List.length_take]; omega
  have h1 := own_short (own_set_cells ho (i * 3) vs (by omega)) (show i ≤ n by omega)
  have e : (splice (ecells M) (i * 3) vs).take (i * 3) = ecells (comp l) := by
    unfold splice
    rw [List.take_append_of_le_length (by rw [List.length_take, ecells_length]; omega), List.take_take, Nat.min_self, ← hf]
    have h2 : M = M.take i ++ M.drop i := (List.take_append_drop _ _).symm
    conv => lhs; rw [h2, ecells_append]
    rw [List.take_append_of_le_length (by rw [ecells_length, List.length_take]; omega), List.take_of_length_le (by rw [ecells_length, List.length_take]; omega)]
  rw [e] at h1
  exact ⟨by rw [hi'], by rw [hi']; exact h1, grown_trans hg (setCells_grown _ _ _)⟩
set_option maxHeartbeats 8000000 in
theorem compact_any (Bs : Nat) (A : Option Addr) (n c : Nat) (l : List Ev) (w : World) (ho : w.ownsRow Bs 30 3 (.slice A n c) n (ecells l)) (hl : l.length = n) (hn : n ≤ 2000) :
    Calls Tryd.prog 27 #[.slice A n c] w (CmPost Bs w A n c l) := by
  have HO := Lib.hid ho
  have HL := Lib.hid hl
  have hn2 : (n : Int) ≤ 2000 := by omega
  have hn0 : (0 : Int) ≤ (n : Int) := by omega
  clear ho hl
  by_cases h2 : n < 2
  · have HE : Hid (CmPost Bs w A n c l (.returned (.slice A n c)) w) := Lib.hid (by
      have e : comp l = l := by
        have := comp_all (l := l) (k := n) (fun i h1 h3 => absurd h3 (by omega)) (by rw [HL.out]; exact Nat.le_refl _)
        rwa [List.take_of_length_le (by rw [HL.out]; exact Nat.le_refl _)] at this
      exact ⟨by rw [e, HL.out], by rw [e, HL.out]; exact HO.out, World.grownBy.refl _ _⟩)
    have hd : (n : Int) < 2 := by omega
    go_enter Tryd.func27, Tryd.ntmps27
    go_wp2_with fail
    go_ret
    exact HE.out
  have hd : ¬ (n : Int) < 2 := by omega
  obtain ⟨A', c', e, hnc, hcm, hA⟩ := own_form HO.out
  injection e with e1 e2 e3
  obtain ⟨g, rfl⟩ := hA (by omega)
  subst e1; subst e3
  have HNC := Lib.hid hnc
  have hguE := guard_eqlE
  clear hnc hcm hA
  go_enter Tryd.func27, Tryd.ntmps27
  go_wp2_with fail
  go_loopw [3] (fun vk wr => ∃ k : Nat, 1 ≤ k ∧ k ≤ n ∧ vk = .int .i64 k ∧ Hid (∀ i, 1 ≤ i → i < k → l[i]? ≠ l[i - 1]?) ∧ Hid (Below w.heap.size w wr)) (fun vk _ => n - (intOf vk).toNat)
  case atStart => exact ⟨1, Nat.le_refl _, by omega, rfl, Lib.hid (fun i h1 h2 => absurd h1 (by omega)), Lib.hid (Below.refl _ _)⟩
  case round =>
    obtain ⟨k, hk1, hkn, rfl, HNO, HBW⟩ := hrel
    by_cases hlt : k < n
    · have hrd := Rd.of_own (cell := ecell) (l := l) (own_below HO.out HBW.out) (fun _ _ => rfl) (by omega)
      obtain ⟨k1, hkk⟩ : ∃ k1, k1 = k - 1 := ⟨_, rfl⟩
      obtain ⟨b, off, x, he, hx, hcc⟩ := hrd.at hlt
      injection he with he
      injection he with he1 he2 he3
      subst he1; subst he2
      obtain ⟨b, off, y, he, hy, hdd⟩ := hrd.at (show k1 < n by omega)
      injection he with he
      injection he with he1 he2 he3
      subst he1; subst he2
      have c0 : wr.cell? ⟨g, k * 3, none⟩ = some (.int .i64 x.s) := by have h := hcc 0 _ rfl; rwa [Nat.zero_add] at h
      have c1 : wr.cell? ⟨g, k * 3 + 1, none⟩ = some (.int .i64 x.k) := by have h := hcc 1 _ rfl; rwa [Nat.zero_add] at h
      have c2 : wr.cell? ⟨g, k * 3 + 2, none⟩ = some (.string (B x.p)) := by have h := hcc 2 _ rfl; rwa [Nat.zero_add] at h
      have d0 : wr.cell? ⟨g, k1 * 3, none⟩ = some (.int .i64 y.s) := by have h := hdd 0 _ rfl; rwa [Nat.zero_add] at h
      have d1 : wr.cell? ⟨g, k1 * 3 + 1, none⟩ = some (.int .i64 y.k) := by have h := hdd 1 _ rfl; rwa [Nat.zero_add] at h
      have d2 : wr.cell? ⟨g, k1 * 3 + 2, none⟩ = some (.string (B y.p)) := by have h := hdd 2 _ rfl; rwa [Nat.zero_add] at h
      have hws : IntKind.i64.wrap ((k : Int) - 1) = (k1 : Int) := by rw [IntKind.wrap_i64]; omega
      have hqe := eqlE x y
      have HX := Lib.hid hx
      have HY : Hid (l[k - 1]? = some y) := Lib.hid (by rw [← hkk]; exact hy)
      have hk0 : (0 : Int) ≤ (k : Int) := by omega
      have hki : (k : Int) < (n : Int) := by omega
      have hk10 : (0 : Int) ≤ (k1 : Int) := by omega
      have hk1i : (k1 : Int) < (n : Int) := by omega
      obtain ⟨r, hr⟩ : ∃ r, decide (x = y) = r := ⟨_, rfl⟩
      rw [hr] at hqe
      have HR := Lib.hid hr
      have HK := Lib.hid hkk
      clear hrd hx hy hcc hdd hr hkk
      go_upto_region 6 with fail
      go_quiet (fail)
      obtain ⟨w4, hw4⟩ : ∃ w4, w4 = wr.drewN nq := ⟨_, rfl⟩
      have hb4 : Below wr.heap.size wr w4 := by rw [hw4]; exact below_drewN (Below.refl _ _) _
      have HW4 := Lib.hid hw4
      rw [← HW4.out]
      have HB4 := Lib.hid (HBW.out.trans (hb4.mono HBW.out.size))
      clear hw4 hb4 c0 c1 c2 d0 d1 d2 hws hqe hk10 hk1i
      cases r with
      | false =>
        have HN2 : Hid (∀ i, 1 ≤ i → i < k + 1 → l[i]? ≠ l[i - 1]?) := Lib.hid (fun i h1 h3 => by
          rcases Nat.lt_or_ge i k with h4 | h4
          · exact HNO.out i h1 h4
          · obtain rfl : i = k := by omega
            rw [HX.out, HY.out]
            intro h5
            have := HR.out
            rw [decide_eq_false_iff_not] at this
            exact this (Option.some.inj h5))
        go_wp2_with fail
        go_roundw
        case rel => exact ⟨k + 1, by omega, by omega, by go_num, HN2, HB4⟩
        case measure => simp [intOf]; omega
      | true =>
        have HM0 : Hid (CpM l l k (k + 1)) := Lib.hid (cpm_start HNO.out (by rw [HL.out]; exact hlt) hk1 (by
          have := HR.out
          rw [decide_eq_true_eq] at this
          rw [HX.out, HY.out, this]))
        have HO4 := Lib.hid (own_below HO.out HB4.out)
        have HG4 : Hid (w.grownBy w4 (some g)) := Lib.hid (gb_below HB4.out _)
        obtain ⟨m, hm⟩ : ∃ m, n - k = m := ⟨_, rfl⟩
        obtain ⟨A2, hs2, hA2⟩ := slice_fromE g n c k (by omega) HNC.out
        have hA2' := hA2 (by have := HNC.out; omega)
        subst hA2'
        rw [hm] at hs2
        have HM := Lib.hid hm
        have hm0 : (0 : Int) ≤ (m : Int) := by omega
        have hm2 : (m : Int) ≤ 2000 := by omega
        clear hA2 hm
        go_wp2_with fail
        clear hs2
        go_loopw [3, 5] (fun vi vq wr => ∃ (i q : Nat) (M : List Ev), 1 ≤ q ∧ q ≤ m ∧ vi = .int .i64 i ∧ vq = .int .i64 q ∧ Hid (CpM l M i (k + q)) ∧ Hid (wr.ownsRow Bs 30 3 (.slice (some ⟨g, 0, none⟩) n c) n (ecells M)) ∧ Hid (w.grownBy wr (some g))) (fun _ vq _ => m - (intOf vq).toNat)
        case atStart => exact ⟨k, 1, l, Nat.le_refl _, by have := HM.out; omega, rfl, rfl, HM0, HO4, HG4⟩
        case round =>
          obtain ⟨i, q, M, hq1, hqm, rfl, rfl, HDM, HOW, HGR⟩ := hrel
          have hij := HDM.out.lt
          have hmm := HM.out
          by_cases hlq : q < m
          · have hml : M.length = n := by rw [HDM.out.len, HL.out]
            have hrd := Rd.of_own (cell := ecell) (l := M) HOW.out (fun _ _ => rfl) (by omega)
            obtain ⟨q1, hqq⟩ : ∃ q1, q1 = q - 1 := ⟨_, rfl⟩
            obtain ⟨b, off, u, he, hx, hcc⟩ := hrd.at (show k + q < n by omega)
            injection he with he
            injection he with he1 he2 he3
            subst he1; subst he2
            obtain ⟨b, off, z, he, hy, hdd⟩ := hrd.at (show k + q1 < n by omega)
            injection he with he
            injection he with he1 he2 he3
            subst he1; subst he2
            have c0 : wr.cell? ⟨g, k * 3 + q * 3, none⟩ = some (.int .i64 u.s) := by have h := hcc 0 _ rfl; rwa [Nat.zero_add, Nat.add_mul] at h
            have c1 : wr.cell? ⟨g, k * 3 + q * 3 + 1, none⟩ = some (.int .i64 u.k) := by have h := hcc 1 _ rfl; rwa [Nat.zero_add, Nat.add_mul] at h
            have c2 : wr.cell? ⟨g, k * 3 + q * 3 + 2, none⟩ = some (.string (B u.p)) := by have h := hcc 2 _ rfl; rwa [Nat.zero_add, Nat.add_mul] at h
            have d0 : wr.cell? ⟨g, k * 3 + q1 * 3, none⟩ = some (.int .i64 z.s) := by have h := hdd 0 _ rfl; rwa [Nat.zero_add, Nat.add_mul] at h
            have d1 : wr.cell? ⟨g, k * 3 + q1 * 3 + 1, none⟩ = some (.int .i64 z.k) := by have h := hdd 1 _ rfl; rwa [Nat.zero_add, Nat.add_mul] at h
            have d2 : wr.cell? ⟨g, k * 3 + q1 * 3 + 2, none⟩ = some (.string (B z.p)) := by have h := hdd 2 _ rfl; rwa [Nat.zero_add, Nat.add_mul] at h
            have hws : IntKind.i64.wrap ((q : Int) - 1) = (q1 : Int) := by rw [IntKind.wrap_i64]; omega
            have hqe := neqE u z
            have HX : Hid (l[k + q]? = some u) := Lib.hid (by rw [← cpm_get HDM.out]; exact hx)
            have HY : Hid (l[k + q - 1]? = some z) := Lib.hid (by rw [← HDM.out.last, show k + q - 1 = k + q1 by omega]; exact hy)
            have hq0 : (0 : Int) ≤ (q : Int) := by omega
            have hqi : (q : Int) < (m : Int) := by omega
            have hq10 : (0 : Int) ≤ (q1 : Int) := by omega
            have hq1i : (q1 : Int) < (m : Int) := by omega
            have hi0 : (0 : Int) ≤ (i : Int) := by omega
            have hi1 : (i : Int) < (n : Int) := by omega
            obtain ⟨r, hr⟩ : ∃ r, (!decide (u = z)) = r := ⟨_, rfl⟩
            rw [hr] at hqe
            have HR := Lib.hid hr
            have HQ := Lib.hid hqq
            clear hrd hx hy hcc hdd hr hqq hml
            go_upto_region 11 with fail
            go_quiet (fail)
            obtain ⟨w5, hw5⟩ : ∃ w5, w5 = wr.drewN nq := ⟨_, rfl⟩
            have hb5 : Below wr.heap.size wr w5 := by rw [hw5]; exact below_drewN (Below.refl _ _) _
            have HW5 := Lib.hid hw5
            rw [← HW5.out]
            have HO5 := Lib.hid (own_below HOW.out hb5)
            have HG5 : Hid (w.grownBy w5 (some g)) := Lib.hid (grown_trans HGR.out (gb_below hb5 _))
            have e0 := (hb5.cell (cell_lt c0)).trans c0
            have e1 := (hb5.cell (cell_lt c1)).trans c1
            have e2 := (hb5.cell (cell_lt c2)).trans c2
            clear hw5 hb5 c0 c1 c2 d0 d1 d2 hws hqe hq10 hq1i
            cases r with
            | false =>
              have HMN := Lib.hid (cpm_skip HDM.out HX.out (by have := HR.out; simp at this; rw [HY.out, this]))
              clear e0 e1 e2
              go_wp2_with fail
              go_roundw
              case rel => exact ⟨i, q + 1, M, by omega, by omega, rfl, by go_num, HMN, HO5, HG5⟩
              case measure => simp [intOf]; omega
            | true =>
              have HMN := Lib.hid (cpm_keep HDM.out HX.out (by have := HR.out; simp at this; rw [HY.out]; intro h; exact this (Option.some.inj h).symm))
              obtain ⟨w6, hw6⟩ : ∃ w6, w6 = ((w5.setCell ⟨g, i * 3, none⟩ (.int .i64 u.s)).setCell ⟨g, i * 3 + 1, none⟩ (.int .i64 u.k)).setCell ⟨g, i * 3 + 2, none⟩ (.string (B u.p)) := ⟨_, rfl⟩
              have hw6' : w6 = w5.setCells g (i * 3) (ecell u) := hw6
              have HO6 : Hid (w6.ownsRow Bs 30 3 (.slice (some ⟨g, 0, none⟩) n c) n (ecells (M.set i u))) := Lib.hid (by
                have h3 := own_set_cells HO5.out (i * 3) (ecell u) (by simp [ecell]; omega)
                have h4 := part_set ecell 3 M i (by rw [HDM.out.len, HL.out]; omega) u (fun _ _ => rfl) rfl
                rw [← hw6'] at h3
                unfold ecells at h3
                rw [h4] at h3
                exact h3)
              have HG6 : Hid (w.grownBy w6 (some g)) := Lib.hid (grown_trans HG5.out (by rw [hw6']; exact setCells_grown _ _ _))
              obtain ⟨⟨v0, y0⟩, f0⟩ : (∃ v, w5.cell? ⟨g, i * 3, none⟩ = some v) ∧ w5.frozen? ⟨g, i * 3, none⟩ = false := ⟨Option.isSome_iff_exists.1 (own_cells HO5.out (i * 3) (by omega)).1, (own_cells HO5.out (i * 3) (by omega)).2⟩
              obtain ⟨⟨v1, y1⟩, f1⟩ : (∃ v, w5.cell? ⟨g, i * 3 + 1, none⟩ = some v) ∧ w5.frozen? ⟨g, i * 3 + 1, none⟩ = false := ⟨Option.isSome_iff_exists.1 (own_cells HO5.out (i * 3 + 1) (by omega)).1, (own_cells HO5.out (i * 3 + 1) (by omega)).2⟩
              obtain ⟨⟨v2, y2⟩, f2⟩ : (∃ v, w5.cell? ⟨g, i * 3 + 2, none⟩ = some v) ∧ w5.frozen? ⟨g, i * 3 + 2, none⟩ = false := ⟨Option.isSome_iff_exists.1 (own_cells HO5.out (i * 3 + 2) (by omega)).1, (own_cells HO5.out (i * 3 + 2) (by omega)).2⟩
              have HW6 := Lib.hid hw6
              clear hw6 hw6'
              go_upto_region 13 with fail
              rw [← HW6.out]
              clear e0 e1 e2 y0 y1 y2 f0 f1 f2
              go_wp2_with fail
              go_roundw
              case rel => exact ⟨i + 1, q + 1, _, by omega, by omega, by go_num, by go_num, HMN, HO6, HG6⟩
              case measure => simp [intOf]; omega
          · obtain rfl : q = m := by omega
            have hqi : ¬ (q : Int) < (q : Int) := by omega
            have hkq : k + q = n := by omega
            obtain ⟨A2, hs2, hA2⟩ := slice_fromE g n c i (by omega) HNC.out
            have hA2' := hA2 (by have := HNC.out; omega)
            subst hA2'
            obtain ⟨vs, hvl, hclr⟩ := run_clear_rowE wr g (i * 3) (n - i) (c - i) (by omega) (fun q hq => own_cells HOW.out _ (by omega))
            have hs3 := slice_toE g n c i (by have := HNC.out; omega)
            have hdm := HDM.out
            rw [hkq] at hdm
            have HE := Lib.hid (cp_fin hdm HL.out HOW.out HGR.out hvl)
            clear hA2 hvl hdm hkq
            go_wp2_with fail
            go_ret
            exact HE.out
    · obtain rfl : k = n := by omega
      have hki : ¬ (k : Int) < (k : Int) := by omega
      have HE : Hid (CmPost Bs w (some ⟨g, 0, none⟩) k c l (.returned (.slice (some ⟨g, 0, none⟩) k c)) wr) := Lib.hid (by
        have e : comp l = l := by
          have := comp_all (l := l) (k := k) HNO.out (by rw [HL.out]; exact Nat.le_refl _)
          rwa [List.take_of_length_le (by rw [HL.out]; exact Nat.le_refl _)] at this
        exact ⟨by rw [e, HL.out], by rw [e, HL.out]; exact own_below HO.out HBW.out, gb_below HBW.out _⟩)
      go_wp2_with fail
      go_ret
      exact HE.out
end Go.Proofs.YtfejapaoflikhaaDoor
