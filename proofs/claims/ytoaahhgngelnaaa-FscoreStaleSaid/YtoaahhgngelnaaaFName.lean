/-
  What isName, valid and named return; what Clone of a text does. Condition: a text's length.
-/
import Derived.Test.YtoaahhgngelnaaaFOpen
import Derived.Test.YtoaahhgngelnaaaTShelf
import Derived.Laws.Strings3
namespace Go.Proofs.Ytoaahhgngelnaaa
set_option maxRecDepth 100000
open Go.ChangeShapes Go.WideShapes Go.ChangeAt Go.RowKit Go.Proofs.Sg Go.Proofs.Fz

set_option maxHeartbeats 1000000 in
theorem sclone_any (s : ByteArray) (w : World) (hs : s.size ≤ 281474976710656) : Calls Try.prog 43 #[.string s] w fun e w' => e = .returned (.string s) ∧ Below w.heap.size w w' := by
  go_enter Try.func43, Try.ntmps43
  go_wp2_with fail
  refine (stringslite_Clone s _ hs).mono ?_
  rintro e w' ⟨rfl, hb⟩
  have HB := Lib.hid hb
  clear hb
  go_wp2
  go_ret
  exact ⟨rfl, HB.out⟩
theorem ix_lt (l : Txt) (c : UInt8) : decide (Lib.indexByte l c < 0) = !l.any (fun b => b == c) := by
  induction l with
  | nil => rfl
  | cons x l ih =>
    unfold Lib.indexByte
    rw [List.any_cons]
    rcases h : (x == c) with _ | _
    · rw [if_neg (by decide), Bool.false_or, ← ih]
      have hge := Lib.indexByte_ge l c
      by_cases h1 : Lib.indexByte l c = -1
      · simp [h1]
      · have h2 : (Lib.indexByte l c == -1) = false := by simpa using h1
        rw [h2, if_neg (by decide), Bool.eq_iff_iff, decide_eq_true_eq, decide_eq_true_eq]
        omega
    · simp
theorem validN_eq (s : ByteArray) : validN (L s) = (!(s.toList.isEmpty) && decide ((s.size : Int) ≤ 60) && !(s.toList == [46]) && !(s.toList == [46, 46]) && decide (Lib.indexByte s.data.toList 47 < 0) && decide (Lib.indexByte s.data.toList 0 < 0)) := by
  rw [ix_lt, ix_lt, toL]
  unfold validN
  have e1 : decide ((s.size : Int) ≤ 60) = decide ((L s).length ≤ 60) := by rw [L_len, Bool.eq_iff_iff, decide_eq_true_eq, decide_eq_true_eq]; omega
  have e2 : decide (1 ≤ (L s).length) = !(L s).isEmpty := by cases L s <;> simp
  have e3 : (L s).any (fun b => b == 47 || b == 0) = ((L s).any (fun b => b == 47) || (L s).any (fun b => b == 0)) := by
    induction L s with
    | nil => rfl
    | cons x l ih => rw [List.any_cons, List.any_cons, List.any_cons, ih]; cases (x == 47) <;> cases (x == 0) <;> cases (l.any (fun b => b == 47)) <;> rfl
  rw [e1, e2, e3]
  have e4 : ∀ y : Txt, decide (L s = y) = (L s == y) := fun y => by rw [Bool.eq_iff_iff, decide_eq_true_eq, beq_iff_eq]
  rw [e4, e4]
  cases (L s).isEmpty <;> cases decide ((L s).length ≤ 60) <;> cases (L s == [46]) <;> cases (L s == [46, 46]) <;> cases ((L s).any (fun b => b == 47)) <;> cases ((L s).any (fun b => b == 0)) <;> rfl
set_option maxHeartbeats 1000000 in
theorem isName_any (s : ByteArray) (w : World) : Calls Try.prog 30 #[.string s] w fun e w' => e = .returned (.bool (validN (L s))) ∧ w = w' := by
  have hv := validN_eq s
  obtain ⟨e0, h0⟩ : ∃ e, s.toList.isEmpty = e := ⟨_, rfl⟩
  obtain ⟨e1, h1⟩ : ∃ e, decide ((s.size : Int) ≤ 60) = e := ⟨_, rfl⟩
  obtain ⟨e2, h2⟩ : ∃ e, (s.toList == [46]) = e := ⟨_, rfl⟩
  obtain ⟨e3, h3⟩ : ∃ e, (s.toList == [46, 46]) = e := ⟨_, rfl⟩
  have hi4 := fun W => strings_IndexByte s 47 W
  have hi5 := fun W => strings_IndexByte s 0 W
  rw [show (47 : Int).toNat.toUInt8 = 47 from rfl] at hi4
  rw [show (0 : Int).toNat.toUInt8 = 0 from rfl] at hi5
  obtain ⟨k4, g4⟩ : ∃ k, Lib.indexByte s.data.toList 47 = k := ⟨_, rfl⟩
  obtain ⟨k5, g5⟩ : ∃ k, Lib.indexByte s.data.toList 0 = k := ⟨_, rfl⟩
  obtain ⟨e4, h4⟩ : ∃ e, decide (k4 < 0) = e := ⟨_, rfl⟩
  obtain ⟨e5, h5⟩ : ∃ e, decide (k5 < 0) = e := ⟨_, rfl⟩
  rw [g4] at hi4
  rw [g5] at hi5
  rw [h0, h1, h2, h3, g4, g5, h4, h5] at hv
  rw [hv]
  have HI4 := Lib.hid hi4
  have HI5 := Lib.hid hi5
  clear hv hi4 hi5 g4 g5
  cases e0 with
  | true =>
    go_enter Try.func30, Try.ntmps30
    go_wp2_with fail
    go_ret
    exact ⟨ret_b (by rfl), rfl⟩
  | false =>
    cases e1 with
    | false =>
      go_enter Try.func30, Try.ntmps30
      go_wp2_with fail
      go_ret
      exact ⟨ret_b (by rfl), rfl⟩
    | true =>
      cases e2 with
      | true =>
        go_enter Try.func30, Try.ntmps30
        go_wp2_with fail
        go_ret
        exact ⟨ret_b (by rfl), rfl⟩
      | false =>
        cases e3 with
        | true =>
          go_enter Try.func30, Try.ntmps30
          go_wp2_with fail
          go_ret
          exact ⟨ret_b (by rfl), rfl⟩
        | false =>
          cases e4 with
          | false =>
            go_enter Try.func30, Try.ntmps30
            go_wp2_with fail
            refine (HI4.out _).mono ?_
            rintro e w' ⟨rfl, rfl⟩
            go_wp2_with fail
            go_ret
            exact ⟨ret_b (by rfl), rfl⟩
          | true =>
            cases e5
            · go_enter Try.func30, Try.ntmps30
              go_wp2_with fail
              refine (HI4.out _).mono ?_
              rintro e w' ⟨rfl, rfl⟩
              go_wp2_with fail
              refine (HI5.out _).mono ?_
              rintro e w'' ⟨rfl, rfl⟩
              go_wp2_with fail
              go_ret
              exact ⟨ret_b (by rfl), rfl⟩
            · go_enter Try.func30, Try.ntmps30
              go_wp2_with fail
              refine (HI4.out _).mono ?_
              rintro e w' ⟨rfl, rfl⟩
              go_wp2_with fail
              refine (HI5.out _).mono ?_
              rintro e w'' ⟨rfl, rfl⟩
              go_wp2_with fail
              go_ret
              exact ⟨ret_b (by rfl), rfl⟩
set_option maxHeartbeats 1000000 in
theorem valid_any (m : Mk) (s : ByteArray) (hs : L s = m.tg) (w : World) : Calls Try.prog 32 #[.agg #[.int .i64 m.kind, .int .i64 m.mode, .int .i64 m.time, .string s]] w fun e w' => e = .returned (.bool (!badM m)) ∧ Below w.heap.size w w' := by
  obtain ⟨w1, hw1⟩ : ∃ w1, w1 = w.alloc (.cells #[.int .i64 m.kind, .int .i64 m.mode, .int .i64 m.time, .string s] 52) := ⟨_, rfl⟩
  obtain ⟨g, hge⟩ : ∃ g, g = w.heap.size := ⟨_, rfl⟩
  have hb1 : Below w.heap.size w w1 := by rw [hw1]; exact box_below w _
  have hbx : w1.heap[g]? = some (.cells #[.int .i64 m.kind, .int .i64 m.mode, .int .i64 m.time, .string s] 52 (0, 0)) := by rw [hw1, hge]; exact new_block w _
  have b0 := cell_of hbx (j := 0) rfl
  have b1 := cell_of hbx (j := 1) rfl
  have b2 := cell_of hbx (j := 2) rfl
  have b3 := cell_of hbx (j := 3) rfl
  have HB1 := Lib.hid hb1
  have HW1 := Lib.hid hw1
  have HGE := Lib.hid hge
  have HIT := Lib.hid (fun W => isTime_any m.time W)
  obtain ⟨e0, h0⟩ : ∃ e, s.toList.isEmpty = e := ⟨_, rfl⟩
  obtain ⟨e1, h1⟩ : ∃ e, decide ((100 : Int) < (s.size : Int)) = e := ⟨_, rfl⟩
  obtain ⟨e2, h2⟩ : ∃ e, decide (1 ≤ m.kind) = e := ⟨_, rfl⟩
  obtain ⟨e3, h3⟩ : ∃ e, decide (m.kind ≤ 3) = e := ⟨_, rfl⟩
  obtain ⟨e4, h4⟩ : ∃ e, decide (0 ≤ m.mode) = e := ⟨_, rfl⟩
  obtain ⟨e5, h5⟩ : ∃ e, decide (m.mode ≤ 4095) = e := ⟨_, rfl⟩
  obtain ⟨e6, h6⟩ : ∃ e, isT m.time = e := ⟨_, rfl⟩
  have h1' : decide (100 < s.size) = e1 := by rw [← h1, Bool.eq_iff_iff, decide_eq_true_eq, decide_eq_true_eq]; omega
  have hlen : decide (m.tg.length ≤ 100) = !e1 := by rw [← h1', ← hs, L_len, Bool.eq_iff_iff]; simp
  have hemp : decide (m.tg = []) = e0 := by rw [← h0, ← hs, toL]; cases L s <;> simp
  have hneq : decide (m.tg ≠ []) = !e0 := by rw [← hemp]; simp
  have hbad : (!badM m) = (e2 && e3 && e4 && e5 && e6 && (if m.kind = 3 then !e0 && !e1 else e0)) := by
    unfold badM
    rw [Bool.not_not, h2, h3, h4, h5, h6, hneq, hlen, hemp]
  rw [hbad]
  rw [h6] at HIT
  clear hb1 hw1 hge hbx h6 hlen hemp hneq hbad hs
  by_cases hk : m.kind = 3
  · have hk2 : decide (m.kind = 3) = true := by simpa using hk
    obtain ⟨r, hr⟩ : ∃ r, (if m.kind = 3 then !e0 && !e1 else e0) = r := ⟨_, rfl⟩
    have hr2 : (!e0 && !e1) = r := by rw [← hr, if_pos hk]
    rw [hr]
    have HE2 : Hid (e2 = true ∧ e3 = true) := Lib.hid ⟨by rw [← h2]; simp; omega, by rw [← h3]; simp; omega⟩
    clear hr
    obtain ⟨kd, hkd⟩ : ∃ kd, m.kind = kd := ⟨_, rfl⟩
    rw [hkd] at b0 hk hk2 h2 h3 HW1 ⊢
    clear hkd
    subst hk
    obtain ⟨rfl, rfl⟩ := HE2.out
    clear h2 h3 HE2 hk2
    cases e0 with
    | true =>
      subst hr2
      go_enter Try.func32, Try.ntmps32
      go_upto_region 1 with fail
      rw [← HW1.out, ← HGE.out]
      go_wp2_with fail
      go_ret
      exact ⟨ret_b (by simp), HB1.out⟩
    | false =>
      cases e1 with
      | true =>
        subst hr2
        go_enter Try.func32, Try.ntmps32
        go_upto_region 1 with fail
        rw [← HW1.out, ← HGE.out]
        go_wp2_with fail
        go_ret
        exact ⟨ret_b (by simp), HB1.out⟩
      | false =>
        subst hr2
        cases e4 with
        | false =>
          go_enter Try.func32, Try.ntmps32
          go_upto_region 1 with fail
          rw [← HW1.out, ← HGE.out]
          go_wp2_with fail
          go_ret
          exact ⟨ret_b (by simp), HB1.out⟩
        | true =>
          cases e5 with
          | false =>
            go_enter Try.func32, Try.ntmps32
            go_upto_region 1 with fail
            rw [← HW1.out, ← HGE.out]
            go_wp2_with fail
            go_ret
            exact ⟨ret_b (by simp), HB1.out⟩
          | true =>
            go_enter Try.func32, Try.ntmps32
            go_upto_region 1 with fail
            rw [← HW1.out, ← HGE.out]
            go_wp2_with fail
            refine (HIT.out _).mono ?_
            rintro e w' ⟨rfl, rfl⟩
            go_wp2_with fail
            go_ret
            exact ⟨ret_b (by simp), HB1.out⟩
  · have hr2 : (if m.kind = 3 then !e0 && !e1 else e0) = e0 := by rw [if_neg hk]
    rw [hr2]
    clear hr2
    cases e0 with
    | false =>
      go_enter Try.func32, Try.ntmps32
      go_upto_region 1 with fail
      rw [← HW1.out, ← HGE.out]
      go_wp2_with fail
      go_ret
      exact ⟨ret_b (by simp), HB1.out⟩
    | true =>
      cases e2 with
      | false =>
        go_enter Try.func32, Try.ntmps32
        go_upto_region 1 with fail
        rw [← HW1.out, ← HGE.out]
        go_wp2_with fail
        go_ret
        exact ⟨ret_b (by simp), HB1.out⟩
      | true =>
        cases e3 with
        | false =>
          go_enter Try.func32, Try.ntmps32
          go_upto_region 1 with fail
          rw [← HW1.out, ← HGE.out]
          go_wp2_with fail
          go_ret
          exact ⟨ret_b (by simp), HB1.out⟩
        | true =>
          cases e4 with
          | false =>
            go_enter Try.func32, Try.ntmps32
            go_upto_region 1 with fail
            rw [← HW1.out, ← HGE.out]
            go_wp2_with fail
            go_ret
            exact ⟨ret_b (by simp), HB1.out⟩
          | true =>
            cases e5 with
            | false =>
              go_enter Try.func32, Try.ntmps32
              go_upto_region 1 with fail
              rw [← HW1.out, ← HGE.out]
              go_wp2_with fail
              go_ret
              exact ⟨ret_b (by simp), HB1.out⟩
            | true =>
              go_enter Try.func32, Try.ntmps32
              go_upto_region 1 with fail
              rw [← HW1.out, ← HGE.out]
              go_wp2_with fail
              refine (HIT.out _).mono ?_
              rintro e w' ⟨rfl, rfl⟩
              go_wp2_with fail
              go_ret
              exact ⟨ret_b (by simp), HB1.out⟩
end Go.Proofs.Ytoaahhgngelnaaa
