/-
  What Renew and Close return and leave. Condition: the table is good.
-/
import Derived.Test.YtflgemlhocjipaaGreatDoorLGet
import Derived.Test.YtflgemlhocjipaaGreatDoorLIns
namespace Go.Proofs.YtflgemlhocjipaaGreatDoor.Lq
set_option maxRecDepth 100000
open Go.ChangeShapes Go.WideShapes Go.ChangeAt Go.RowKit Go.Proofs.Le

theorem splice_two {xs : List Value} {o : Nat} {a b m : Value} (h1 : xs[o]? = some a) (h2 : xs[o + 1]? = some b) : splice xs (o + 2) [m] = splice xs o [a, b, m] := by
  unfold splice
  rw [List.take_add_one, List.take_add_one, h1, h2]
  simp
/-- The table's own row is written into. -/
theorem kp_in {w w3 w4 : World} {Bs tp g c : Nat} {L M : Tb} (ht : TabW w Bs tp (.slice (some ⟨g, 0, none⟩) L.length c) L) (hb : Below w.heap.size w w3) (hgt : g ≠ tp) (hwr : Wr g w3 w4) (hM : M.length = L.length) (hrow : w4.ownsRow Bs 100 3 (.slice (some ⟨g, 0, none⟩) L.length c) L.length (lcells M)) :
    KpPost Bs tp (.slice (some ⟨g, 0, none⟩) L.length c) M w w4.drew :=
  ⟨_, ⟨(hwr.rest tp (Ne.symm hgt)).trans (ht.below hb).here, by rw [hM]; exact hrow, ht.ge⟩, ⟨hwr.below.os.trans hb.os, hwr.below.tape.trans hb.tape, hwr.below.output.trans hb.output, Nat.le_trans hb.size hwr.below.size, fun k hk _ hv => (hwr.rest k (fun e => hv (by rw [e]; rfl))).trans (hb.block k hk)⟩, fun g hg => .inl hg⟩
def ErPost (Bs tp : Nat) (v : Value) (a : Tb × Int) (w : World) (e : Ending) (w' : World) : Prop := e = .returned (.int .i64 a.2) ∧ KpPost Bs tp v a.1 w w'
theorem er_same {w w' : World} {Bs tp : Nat} {v : Value} {L : Tb} {n : Int} {a : Tb × Int} (ha : a = (L, n)) (ht : TabW w Bs tp v L) (hb : Below w.heap.size w w') : ErPost Bs tp v a w (.returned (.int .i64 n)) w' := by
  rw [ha]; exact ⟨rfl, kp_refl ht hb⟩
set_option maxHeartbeats 4000000 in
theorem renew_any {w : World} {Bs tp : Nat} {v : Value} {L : Tb} (ht : TabW w Bs tp v L) (hB : Bs ≤ w.heap.size) (hg : Le.Good L) (id now : Int) : Calls Tryz.prog 43 #[.pointer (some ⟨tp, 0, none⟩), .int .i64 id, .int .i64 now] w (ErPost Bs tp v (ren L id now) w) := by
  obtain ⟨a, ha⟩ : ∃ a, ren L id now = a := ⟨_, rfl⟩
  rw [ha]
  have HA := Lib.hid ha
  have HTM := Lib.hid (istime_any now w)
  obtain ⟨t, hr⟩ : ∃ t, okT now = t := ⟨_, rfl⟩
  rw [hr] at HTM
  have HOK := Lib.hid hr
  have HT := Lib.hid ht
  have HG := Lib.hid hg
  have HB := Lib.hid hB
  have HFI := Lib.hid (find_any ht hg id)
  unfold FiPost at HFI
  have HPL := Lib.hid (pos_le L id)
  obtain ⟨p, hp⟩ : ∃ p, pos L id = p := ⟨_, rfl⟩
  rw [hp] at HFI HPL
  have HP := Lib.hid hp
  clear ha hr ht hg hB hp
  go_enter Tryz.func43, Tryz.ntmps43
  go_wp2_with fail
  refine HTM.out.mono ?_
  rintro e w1 ⟨rfl, rfl⟩
  cases t with
  | false =>
    have HE : Hid (ErPost Bs tp v a w (.returned (.int .i64 1)) w) := Lib.hid (er_same (by rw [← HA.out]; unfold ren; rw [if_pos HOK.out]) HT.out (Below.refl _ _))
    go_wp2_with fail
    go_ret
    exact HE.out
  | true =>
    cases hh : has L id with
    | none =>
      have HF : Hid (fnd L id = z0) := Lib.hid (fnd_none hh)
      have HAD : Hid (a = (L, 100)) := Lib.hid (by rw [← HA.out]; unfold ren; rw [if_neg (by rw [HOK.out]; simp), hh])
      rw [HF.out] at HFI
      have hqe : ∀ W, (binOp .eql 100 (.agg #[.int .i64 0, .int .i64 0, .int .i64 0]) (.agg #[.int .i64 0, .int .i64 0, .int .i64 0])).run Tryz.prog W = .ok (.bool true) W := fun W => by
        have h := eqlL z0 z0 W
        rw [show decide (z0 = z0) = true by simp] at h
        exact h
      have hgu := guard_eqlL
      clear hh
      go_wp2_with fail
      refine HFI.out.mono ?_
      rintro e w2 ⟨rfl, hb2⟩
      obtain ⟨f, hf⟩ : ∃ f, f = z0 := ⟨_, rfl⟩
      rw [← hf]
      have hfi : f.i = 0 := by rw [hf]; rfl
      have hfs : f.s = 0 := by rw [hf]; rfl
      have hfl : f.l = 0 := by rw [hf]; rfl
      rw [hfi, hfs, hfl]
      obtain ⟨w3, hw3⟩ : ∃ w3, w3 = w2.alloc (.cells #[.int .i64 0, .int .i64 0, .int .i64 0] 100) := ⟨_, rfl⟩
      obtain ⟨r, er⟩ : ∃ r, r = w2.heap.size := ⟨_, rfl⟩
      have hb3 : Below w2.heap.size w2 w3 := by rw [hw3]; exact box_below w2 _
      have hr : w3.heap[r]? = some (.cells #[.int .i64 0, .int .i64 0, .int .i64 0] 100 (0, 0)) := by rw [hw3, er]; exact new_block w2 _
      have HE : Hid (ErPost Bs tp v a w (.returned (.int .i64 100)) w3) := Lib.hid (er_same HAD.out HT.out (hb2.trans (hb3.mono hb2.size)))
      have r0 := cell_of hr (j := 0) rfl
      have r1 := cell_of hr (j := 1) rfl
      have r2 := cell_of hr (j := 2) rfl
      have HW3 := Lib.hid hw3
      have ER := Lib.hid er
      clear hw3 er hb3 hr hb2 hf hfi hfs hfl
      go_upto_region 4 with fail
      rw [← HW3.out, ← ER.out]
      go_wp2_with fail
      go_ret
      exact HE.out
    | some f =>
      have HF : Hid (fnd L id = f) := Lib.hid (fnd_some hh)
      obtain ⟨m, hm⟩ : ∃ m, max f.l now = m := ⟨_, rfl⟩
      have HAD : Hid (a = (upd L ⟨id, f.s, m⟩, 0)) := Lib.hid (by rw [← HA.out, ← hm]; unfold ren; rw [if_neg (by rw [HOK.out]; simp), hh])
      have HID : Hid (f.i = id) := Lib.hid (has_mem hh).2
      have HAT : Hid (L[p]? = some f) := Lib.hid (by rw [← HP.out]; exact has_pos HG.out.srt hh)
      rw [HF.out] at HFI
      have hqe : ∀ W, (binOp .eql 100 (.agg #[.int .i64 f.i, .int .i64 f.s, .int .i64 f.l]) (.agg #[.int .i64 0, .int .i64 0, .int .i64 0])).run Tryz.prog W = .ok (.bool false) W := fun W => by
        have h := eqlL f z0 W
        rw [show decide (f = z0) = false by simpa using okL_ne (HG.out.each f (has_mem hh).1)] at h
        exact h
      have hgu := guard_eqlL
      clear hh
      go_wp2_with fail
      refine HFI.out.mono ?_
      rintro e w2 ⟨rfl, hb2⟩
      obtain ⟨w3, hw3⟩ : ∃ w3, w3 = w2.alloc (.cells #[.int .i64 f.i, .int .i64 f.s, .int .i64 f.l] 100) := ⟨_, rfl⟩
      obtain ⟨r, er⟩ : ∃ r, r = w2.heap.size := ⟨_, rfl⟩
      have hb3 : Below w2.heap.size w2 w3 := by rw [hw3]; exact box_below w2 _
      have hr : w3.heap[r]? = some (.cells #[.int .i64 f.i, .int .i64 f.s, .int .i64 f.l] 100 (0, 0)) := by rw [hw3, er]; exact new_block w2 _
      have HB3 := Lib.hid (hb2.trans (hb3.mono hb2.size))
      have HT3 := Lib.hid (HT.out.below HB3.out)
      have r0 := cell_of hr (j := 0) rfl
      have r1 := cell_of hr (j := 1) rfl
      have r2 := cell_of hr (j := 2) rfl
      have hplt := (List.getElem?_eq_some_iff.1 HAT.out).1
      obtain ⟨A, c, rfl, -, -, -⟩ := own_form HT3.out.row
      obtain ⟨_, _, e0, -, -, hAg⟩ := own_form HT3.out.row
      injection e0 with e1 _ e2
      subst e1; subst e2
      obtain ⟨g, rfl⟩ := hAg (by omega)
      have hown := HT3.out.row
      have t0 := cell_of HT3.out.here (j := 0) rfl
      have hgr : g ≠ r := fun e => by have := (hown.lt g rfl).2; have := blk_lt HT3.out.here; have := (own_below (HT.out.below hb2).row (Below.refl _ _)).lt g rfl; omega
      have hgt : g ≠ tp := fun e => own_ne hown HT3.out.here (by decide) (by rw [← e]; rfl)
      obtain ⟨⟨v2, y2⟩, f2⟩ : (∃ v, w3.cell? ⟨g, p * 3 + 2, none⟩ = some v) ∧ w3.frozen? ⟨g, p * 3 + 2, none⟩ = false := ⟨Option.isSome_iff_exists.1 (own_cells hown (p * 3 + 2) (by omega)).1, (own_cells hown (p * 3 + 2) (by omega)).2⟩
      obtain ⟨w4, hw4⟩ : ∃ w4, w4 = w3.setCell ⟨g, p * 3 + 2, none⟩ (.int .i64 m) := ⟨_, rfl⟩
      have HE : Hid (ErPost Bs tp (.slice (some ⟨g, 0, none⟩) L.length c) a w (.returned (.int .i64 0)) w4.drew) := Lib.hid (by
        have hs := own_set_cells hown (p * 3 + 2) [.int .i64 m] (by simp; omega)
        have hwr : Wr g w3 w4 := by rw [hw4]; exact (Wr.refl g w3).set _ _
        have e : splice (lcells L) (p * 3 + 2) [.int .i64 m] = lcells (upd L ⟨id, f.s, m⟩) := by
          have h1 := part_set lcell 3 L p hplt ⟨id, f.s, m⟩ (fun _ _ => rfl) rfl
          have h3 : L[p] = f := Option.some.inj ((List.getElem?_eq_getElem hplt).symm.trans HAT.out)
          have g0 := part_get lcell 3 L p hplt (fun _ _ => rfl) 0 (by omega)
          have g1 := part_get lcell 3 L p hplt (fun _ _ => rfl) 1 (by omega)
          rw [h3] at g0 g1
          show splice (L.flatMap lcell) (p * 3 + 2) [.int .i64 m] = (L.set (pos L id) ⟨id, f.s, m⟩).flatMap lcell
          rw [splice_two (o := p * 3) (a := .int .i64 f.i) (b := .int .i64 f.s) g0 g1, HP.out, ← h1, ← HID.out]
          rfl
        rw [e] at hs
        have hul : (upd L ⟨id, f.s, m⟩).length = L.length := by unfold upd; rw [List.length_set]
        rw [HAD.out]
        exact ⟨rfl, kp_in HT.out HB3.out hgt hwr hul (by rw [hw4]; exact hs)⟩)
      have hp0 : (0 : Int) ≤ (p : Int) := by omega
      have hpi : (p : Int) < (L.length : Int) := by omega
      have HW3 := Lib.hid hw3
      have HW4 := Lib.hid hw4
      have ER := Lib.hid er
      clear hw3 er hb3 hr hb2 hown hw4 hplt
      go_upto_region 4 with fail
      rw [← HW3.out, ← ER.out]
      go_upto_region 6 with fail
      go_region
      all_goals
        rw [← HW4.out]
        go_wp2_with fail
        go_ret
        exact HE.out
set_option maxHeartbeats 4000000 in
theorem close_any {w : World} {Bs tp : Nat} {v : Value} {L : Tb} (ht : TabW w Bs tp v L) (hB : Bs ≤ w.heap.size) (hg : Le.Good L) (id : Int) : Calls Tryz.prog 128 #[.pointer (some ⟨tp, 0, none⟩), .int .i64 id] w (ErPost Bs tp v (cls L id) w) := by
  obtain ⟨a, ha⟩ : ∃ a, cls L id = a := ⟨_, rfl⟩
  rw [ha]
  have HA := Lib.hid ha
  have HT := Lib.hid ht
  have HG := Lib.hid hg
  have HB := Lib.hid hB
  have HFI := Lib.hid (find_any ht hg id)
  unfold FiPost at HFI
  have HPL := Lib.hid (pos_le L id)
  obtain ⟨p, hp⟩ : ∃ p, pos L id = p := ⟨_, rfl⟩
  rw [hp] at HFI HPL
  have HP := Lib.hid hp
  clear ha ht hg hB hp
  cases hh : has L id with
  | none =>
    have HF : Hid (fnd L id = z0) := Lib.hid (fnd_none hh)
    have HAD : Hid (a = (L, 100)) := Lib.hid (by rw [← HA.out]; unfold cls; rw [hh])
    rw [HF.out] at HFI
    have hqe : ∀ W, (binOp .eql 100 (.agg #[.int .i64 0, .int .i64 0, .int .i64 0]) (.agg #[.int .i64 0, .int .i64 0, .int .i64 0])).run Tryz.prog W = .ok (.bool true) W := fun W => by
      have h := eqlL z0 z0 W
      rw [show decide (z0 = z0) = true by simp] at h
      exact h
    have hgu := guard_eqlL
    clear hh
    go_enter Tryz.func128, Tryz.ntmps128
    go_wp2_with fail
    refine HFI.out.mono ?_
    rintro e w2 ⟨rfl, hb2⟩
    obtain ⟨f, hf⟩ : ∃ f, f = z0 := ⟨_, rfl⟩
    rw [← hf]
    have hfi : f.i = 0 := by rw [hf]; rfl
    have hfs : f.s = 0 := by rw [hf]; rfl
    have hfl : f.l = 0 := by rw [hf]; rfl
    rw [hfi, hfs, hfl]
    obtain ⟨w3, hw3⟩ : ∃ w3, w3 = w2.alloc (.cells #[.int .i64 0, .int .i64 0, .int .i64 0] 100) := ⟨_, rfl⟩
    obtain ⟨r, er⟩ : ∃ r, r = w2.heap.size := ⟨_, rfl⟩
    have hb3 : Below w2.heap.size w2 w3 := by rw [hw3]; exact box_below w2 _
    have hr : w3.heap[r]? = some (.cells #[.int .i64 0, .int .i64 0, .int .i64 0] 100 (0, 0)) := by rw [hw3, er]; exact new_block w2 _
    have HE : Hid (ErPost Bs tp v a w (.returned (.int .i64 100)) w3) := Lib.hid (er_same HAD.out HT.out (hb2.trans (hb3.mono hb2.size)))
    have r0 := cell_of hr (j := 0) rfl
    have r1 := cell_of hr (j := 1) rfl
    have r2 := cell_of hr (j := 2) rfl
    have HW3 := Lib.hid hw3
    have ER := Lib.hid er
    clear hw3 er hb3 hr hb2 hf hfi hfs hfl
    go_upto_region 2 with fail
    rw [← HW3.out, ← ER.out]
    go_wp2_with fail
    go_ret
    exact HE.out
  | some f =>
    have HF : Hid (fnd L id = f) := Lib.hid (fnd_some hh)
    have HAD : Hid (a = (del L id, 0)) := Lib.hid (by rw [← HA.out]; unfold cls; rw [hh])
    have HAT : Hid (L[p]? = some f) := Lib.hid (by rw [← HP.out]; exact has_pos HG.out.srt hh)
    rw [HF.out] at HFI
    have hqe : ∀ W, (binOp .eql 100 (.agg #[.int .i64 f.i, .int .i64 f.s, .int .i64 f.l]) (.agg #[.int .i64 0, .int .i64 0, .int .i64 0])).run Tryz.prog W = .ok (.bool false) W := fun W => by
      have h := eqlL f z0 W
      rw [show decide (f = z0) = false by simpa using okL_ne (HG.out.each f (has_mem hh).1)] at h
      exact h
    have hgu := guard_eqlL
    clear hh
    go_enter Tryz.func128, Tryz.ntmps128
    go_wp2_with fail
    refine HFI.out.mono ?_
    rintro e w2 ⟨rfl, hb2⟩
    obtain ⟨w3, hw3⟩ : ∃ w3, w3 = w2.alloc (.cells #[.int .i64 f.i, .int .i64 f.s, .int .i64 f.l] 100) := ⟨_, rfl⟩
    obtain ⟨r, er⟩ : ∃ r, r = w2.heap.size := ⟨_, rfl⟩
    have hb3 : Below w2.heap.size w2 w3 := by rw [hw3]; exact box_below w2 _
    have hr : w3.heap[r]? = some (.cells #[.int .i64 f.i, .int .i64 f.s, .int .i64 f.l] 100 (0, 0)) := by rw [hw3, er]; exact new_block w2 _
    have HB3 := Lib.hid (hb2.trans (hb3.mono hb2.size))
    have HT3 := Lib.hid (HT.out.below HB3.out)
    have r0 := cell_of hr (j := 0) rfl
    have r1 := cell_of hr (j := 1) rfl
    have r2 := cell_of hr (j := 2) rfl
    have hplt := (List.getElem?_eq_some_iff.1 HAT.out).1
    obtain ⟨A, c, rfl, -, -, -⟩ := own_form HT3.out.row
    obtain ⟨_, _, e0, -, -, hAg⟩ := own_form HT3.out.row
    injection e0 with e1 _ e2
    subst e1; subst e2
    obtain ⟨g, rfl⟩ := hAg (by omega)
    have hown := HT3.out.row
    have t0 := cell_of HT3.out.here (j := 0) rfl
    have hL100 := HG.out.len
    have HDE := Lib.hid (del_any hown p hplt (by omega))
    have hwp : IntKind.i64.wrap ((p : Int) + 1) = (p : Int) + 1 := by rw [IntKind.wrap_i64]; omega
    have HW3 := Lib.hid hw3
    have ER := Lib.hid er
    obtain ⟨n', hn'⟩ : ∃ n, L.length - 1 = n := ⟨_, rfl⟩
    rw [hn'] at HDE
    have HN := Lib.hid (show (del L id).length = n' by unfold del; rw [HP.out, List.length_eraseIdx_of_lt hplt]; exact hn')
    have HDL : Hid (L.eraseIdx p = del L id) := Lib.hid (by unfold del; rw [HP.out])
    clear hw3 er hb3 hr hb2 hown hplt hL100 hn'
    go_upto_region 2 with fail
    rw [← HW3.out, ← ER.out]
    go_wp2_with fail
    refine HDE.out.mono ?_
    rintro e w4 ⟨rfl, ho4, hg4⟩
    have hh4 := gb_blk (v := .slice (some ⟨g, 0, none⟩) L.length c) hg4 HT3.out
    have y0 := cell_of hh4 (j := 0) rfl
    have y1 := frozen_of_row w4 tp 0 _ _ hh4
    have HE : Hid (ErPost Bs tp (.slice (some ⟨g, 0, none⟩) L.length c) a w (.returned (.int .i64 0)) (w4.setCell ⟨tp, 0, none⟩ (.slice (some ⟨g, 0, none⟩) n' c))) := Lib.hid (by
      rw [HAD.out]
      refine ⟨rfl, kp_end (B0 := w.heap.size) HT.out HB3.out HT3.out ?_ hg4 (fun g' h' => .inl (by simpa [Value.ownBlock] using h')) (Nat.le_refl _)⟩
      have h := ho4
      rw [HDL.out] at h
      show (w4.ownsRow Bs 100 3 (.slice (some ⟨g, 0, none⟩) n' c) (del L id).length (lcells (del L id)))
      rw [HN.out]
      exact h)
    clear ho4 hg4 hh4 t0 r0 r1 r2
    go_wp2_with fail
    go_ret
    exact HE.out
end Go.Proofs.YtflgemlhocjipaaGreatDoor.Lq
