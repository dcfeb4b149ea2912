/-
  What New, Clone and Get return and leave. Condition: the table is good.
  What Renew and Close return and leave. Condition: the table is good.
  What Open returns and leaves. Condition: the table is good.
-/
import Derived.Test.YtflgemlhocjipaaGreatDoorLAll
import Derived.Test.YtflgemlhocjipaaGreatDoorLIns
namespace Go.Proofs.YtflgemlhocjipaaGreatDoor.Lq
set_option maxRecDepth 100000
open Go.ChangeShapes Go.WideShapes Go.ChangeAt Go.RowKit Go.Proofs.Le

/-- A table that is new. -/
def NwPost (w : World) (L : Tb) (e : Ending) (w' : World) : Prop := ∃ tp v, e = .returned (.pointer (some ⟨tp, 0, none⟩)) ∧ TabW w' w.heap.size tp v L ∧ Below w.heap.size w w' ∧ tp < w'.heap.size ∧ v.ownBlock ≠ some tp
theorem nw_of {w w1 : World} {L : Tb} {v : Value} (ho : w1.ownsRow w.heap.size 100 3 v L.length (lcells L)) (hb : Below w.heap.size w w1) : NwPost w L (.returned (.pointer (some ⟨w1.heap.size, 0, none⟩))) (w1.alloc (.cells #[v] 160)) := by
  have h1 := new_block w1 (.cells #[v] 160)
  have h2 := box_below w1 (.cells #[v] 160)
  have h3 := own_below ho h2
  exact ⟨w1.heap.size, v, rfl, ⟨h1, h3, hb.size⟩, hb.trans (h2.mono hb.size), blk_lt h1, own_ne h3 h1 (by decide)⟩
theorem clone_any {w : World} {Bs tp : Nat} {v : Value} {L : Tb} (ht : TabW w Bs tp v L) (hn : L.length ≤ 100000) : Calls Tryz.prog 76 #[.pointer (some ⟨tp, 0, none⟩)] w (NwPost w L) := by
  have HA := Lib.hid (all_any ht hn)
  clear ht
  go_enter Tryz.func76, Tryz.ntmps76
  go_wp2_with fail
  refine HA.out.mono ?_
  rintro e w1 ⟨A1, c1, rfl, h1, h2⟩
  have HE := Lib.hid (nw_of h1 h2)
  clear h1 h2
  go_wp2_with fail
  go_ret
  exact HE.out
theorem new_any (w : World) : Calls Tryz.prog 39 #[] w (NwPost w []) := by
  have HE := Lib.hid (nw_of (w1 := w) (L := []) (by simpa [lcells] using World.ownsRow_nil w w.heap.size 100 3) (Below.refl _ _))
  go_enter Tryz.func39, Tryz.ntmps39
  go_wp2_with fail
  go_ret
  exact HE.out
theorem fnd_some {L : Tb} {id : Int} {x : Ls} (h : has L id = some x) : fnd L id = x := by unfold fnd; rw [h]; rfl
theorem fnd_none {L : Tb} {id : Int} (h : has L id = none) : fnd L id = z0 := by unfold fnd; rw [h]; rfl
theorem fnd_bool {L : Tb} (hg : Le.Good L) (id : Int) : decide (fnd L id = z0) = !(has L id).isSome := by
  cases h : has L id with
  | none => rw [fnd_none h]; simp
  | some x =>
    rw [fnd_some h]
    have := okL_ne (hg.each x (has_mem h).1)
    simp [this]
def GePost (w : World) (L : Tb) (id : Int) (e : Ending) (w' : World) : Prop :=
  e = .returned (.tuple #[.agg #[.int .i64 (fnd L id).i, .int .i64 (fnd L id).s, .int .i64 (fnd L id).l], .bool (has L id).isSome]) ∧ Below w.heap.size w w'
set_option maxHeartbeats 2000000 in
theorem get_any {w : World} {Bs tp : Nat} {v : Value} {L : Tb} (ht : TabW w Bs tp v L) (hg : Le.Good L) (id : Int) : Calls Tryz.prog 85 #[.pointer (some ⟨tp, 0, none⟩), .int .i64 id] w (GePost w L id) := by
  obtain ⟨w1, hw1⟩ : ∃ w1, w1 = w.alloc (.cells #[.int .i64 0, .int .i64 0, .int .i64 0] 100) := ⟨_, rfl⟩
  obtain ⟨q, eq⟩ : ∃ q, q = w.heap.size := ⟨_, rfl⟩
  have hb1 : Below w.heap.size w w1 := by rw [hw1]; exact box_below w _
  have hq : w1.heap[q]? = some (.cells #[.int .i64 0, .int .i64 0, .int .i64 0] 100 (0, 0)) := by rw [hw1, eq]; exact new_block w _
  obtain ⟨f, hf⟩ : ∃ f, fnd L id = f := ⟨_, rfl⟩
  obtain ⟨b, hb⟩ : ∃ b, (has L id).isSome = b := ⟨_, rfl⟩
  have hqe : ∀ W, (binOp .neq 100 (.agg #[.int .i64 f.i, .int .i64 f.s, .int .i64 f.l]) (.agg #[.int .i64 0, .int .i64 0, .int .i64 0])).run Tryz.prog W = .ok (.bool b) W := fun W => by
    have h := neqL f z0 W
    rw [← hf, fnd_bool hg id, hb, hf, Bool.not_not] at h
    exact h
  have hgu := guard_neqL
  have HFI := Lib.hid (find_any (ht.below hb1) hg id)
  unfold FiPost at HFI
  rw [hf] at HFI
  unfold GePost
  rw [hf, hb]
  have HW1 := Lib.hid hw1
  have EQ := Lib.hid eq
  have HB1 := Lib.hid hb1
  have HQ := Lib.hid hq
  clear hw1 eq hb1 hq hf hb ht hg
  go_enter Tryz.func85, Tryz.ntmps85
  go_upto_region 1 with fail
  rw [← HW1.out, ← EQ.out]
  go_wp2_with fail
  refine HFI.out.mono ?_
  rintro e w2 ⟨rfl, hb2⟩
  obtain ⟨w3, hw3⟩ : ∃ w3, w3 = w2.alloc (.cells #[.int .i64 f.i, .int .i64 f.s, .int .i64 f.l] 100) := ⟨_, rfl⟩
  obtain ⟨r, er⟩ : ∃ r, r = w2.heap.size := ⟨_, rfl⟩
  have hb3 : Below w2.heap.size w2 w3 := by rw [hw3]; exact box_below w2 _
  have hr : w3.heap[r]? = some (.cells #[.int .i64 f.i, .int .i64 f.s, .int .i64 f.l] 100 (0, 0)) := by rw [hw3, er]; exact new_block w2 _
  have hq3 := blk_below (blk_below HQ.out hb2) hb3
  have HB3 := Lib.hid (HB1.out.trans ((hb2.trans (hb3.mono hb2.size)).mono HB1.out.size))
  have hne : r ≠ q := by have := blk_lt (blk_below HQ.out hb2); omega
  have r0 := cell_of hr (j := 0) rfl
  have r1 := cell_of hr (j := 1) rfl
  have r2 := cell_of hr (j := 2) rfl
  have q0 := cell_of hq3 (j := 0) rfl
  have q1 := cell_of hq3 (j := 1) rfl
  have q2 := cell_of hq3 (j := 2) rfl
  have f0 := frozen_of_row w3 q 0 _ _ hq3
  have f1 := frozen_of_row w3 q 1 _ _ hq3
  have f2 := frozen_of_row w3 q 2 _ _ hq3
  have HQ3 := Lib.hid hq3
  have HW3 := Lib.hid hw3
  have ER := Lib.hid er
  clear hw3 er hb3 hr hq3 hb2
  go_upto_region 2 with fail
  rw [← HW3.out, ← ER.out]
  have hsq : w.heap.size ≤ q := by rw [EQ.out]; exact Nat.le_refl _
  obtain ⟨w4, hw4⟩ : ∃ w4, w4 = (((w3.setCell ⟨q, 0, none⟩ (.int .i64 f.i)).setCell ⟨q, 1, none⟩ (.int .i64 f.s)).setCell ⟨q, 2, none⟩ (.int .i64 f.l)) := ⟨_, rfl⟩
  have hq4 : w4.heap[q]? = some (.cells #[.int .i64 f.i, .int .i64 f.s, .int .i64 f.l] 100 (0, 0)) := by
    have h := heap_setCell_same _ q 2 _ 100 (.int .i64 f.l) (heap_setCell_same _ q 1 _ 100 (.int .i64 f.s) (heap_setCell_same w3 q 0 _ 100 (.int .i64 f.i) HQ3.out))
    rw [hw4]; exact h
  have hb4 : Below w.heap.size w w4 := by rw [hw4]; exact ((HB3.out.setCell hsq _).setCell hsq _).setCell hsq _
  have z0' := cell_of hq4 (j := 0) rfl
  have z1' := cell_of hq4 (j := 1) rfl
  have z2' := cell_of hq4 (j := 2) rfl
  have HB4 := Lib.hid hb4
  have HW4 := Lib.hid hw4
  clear hw4 hq4 hb4
  go_region
  all_goals
    rw [← HW4.out]
    go_wp2_with fail
    exact bodyPost_ret (v := .tuple #[.agg #[.int .i64 f.i, .int .i64 f.s, .int .i64 f.l], .bool b]) (by simp [results, Tryz.results85, go_sem, z0', z1', z2']) rfl ⟨rfl, HB4.out.drew⟩
end Go.Proofs.YtflgemlhocjipaaGreatDoor.Lq
namespace Go.Proofs.YtflgemlhocjipaaGreatDoor.Lq
set_option maxRecDepth 100000
open Go.ChangeShapes Go.WideShapes Go.ChangeAt Go.RowKit Go.Proofs.Le

theorem splice_two {xs : List Value} {o : Nat} {a b m : Value} (h1 : xs[o]? = some a) (h2 : xs[o + 1]? = some b) : splice xs (o + 2) [m] = splice xs o [a, b, m] := by
  unfold splice
  rw [List.take_add_one, List.take_add_one, h1, h2]
  simp
/-- The table's own row is written into. -/
theorem kp_in {w w3 w4 : World} {Bs tp g c : Nat} {L M : Tb} (ht : TabW w Bs tp (.slice (some ⟨g, 0, none⟩) L.length c) L) (hb : Below w.heap.size w w3) (hgt : g ≠ tp) (hwr : Wr g w3 w4) (hM : M.length = L.length) (hrow : w4.ownsRow Bs 100 3 (.slice (some ⟨g, 0, none⟩) L.length c) L.length (lcells M)) :
    KpPost Bs tp (.slice (some ⟨g, 0, none⟩) L.length c) M w w4.drew :=
  ⟨_, ⟨(hwr.rest tp (Ne.symm hgt)).trans (ht.below hb).here, by rw [hM]; exact hrow, ht.ge⟩, ⟨hwr.below.os.trans hb.os, hwr.below.tape.trans hb.tape, hwr.below.output.trans hb.output, Nat.le_trans hb.size hwr.below.size, fun k hk _ hv => (hwr.rest k (fun e => hv (by rw [e]; rfl))).trans (hb.block k hk)⟩, fun g hg => .inl hg⟩
def ErPost (Bs tp : Nat) (v : Value) (a : Tb × Int) (w : World) (e : Ending) (w' : World) : Prop := e = .returned (.int .i64 a.2) ∧ KpPost Bs tp v a.1 w w'
theorem er_same {w w' : World} {Bs tp : Nat} {v : Value} {L : Tb} {n : Int} {a : Tb × Int} (ha : a = (L, n)) (ht : TabW w Bs tp v L) (hb : Below w.heap.size w w') : ErPost Bs tp v a w (.returned (.int .i64 n)) w' := by
  rw [ha]; exact ⟨rfl, kp_refl ht hb⟩
set_option maxHeartbeats 4000000 in
theorem renew_any {w : World} {Bs tp : Nat} {v : Value} {L : Tb} (ht : TabW w Bs tp v L) (hB : Bs ≤ w.heap.size) (hg : Le.Good L) (id now : Int) : Calls Tryz.prog 43 #[.pointer (some ⟨tp, 0, none⟩), .int .i64 id, .int .i64 now] w (ErPost Bs tp v (ren L id now) w) := by
  obtain ⟨a, ha⟩ : ∃ a, ren L id now = a := ⟨_, rfl⟩
  rw [ha]
  have HA := Lib.hid ha
  have HTM := Lib.hid (istime_any now w)
  obtain ⟨t, hr⟩ : ∃ t, okT now = t := ⟨_, rfl⟩
  rw [hr] at HTM
  have HOK := Lib.hid hr
  have HT := Lib.hid ht
  have HG := Lib.hid hg
  have HB := Lib.hid hB
  have HFI := Lib.hid (find_any ht hg id)
  unfold FiPost at HFI
  have HPL := Lib.hid (pos_le L id)
  obtain ⟨p, hp⟩ : ∃ p, pos L id = p := ⟨_, rfl⟩
  rw [hp] at HFI HPL
  have HP := Lib.hid hp
  clear ha hr ht hg hB hp
  go_enter Tryz.func43, Tryz.ntmps43
  go_wp2_with fail
  refine HTM.out.mono ?_
  rintro e w1 ⟨rfl, rfl⟩
  cases t with
  | false =>
    have HE : Hid (ErPost Bs tp v a w (.returned (.int .i64 1)) w) := Lib.hid (er_same (by rw [← HA.out]; unfold ren; rw [if_pos HOK.out]) HT.out (Below.refl _ _))
    go_wp2_with fail
    go_ret
    exact HE.out
  | true =>
    cases hh : has L id with
    | none =>
      have HF : Hid (fnd L id = z0) := Lib.hid (fnd_none hh)
      have HAD : Hid (a = (L, 100)) := Lib.hid (by rw [← HA.out]; unfold ren; rw [if_neg (by rw [HOK.out]; simp), hh])
      rw [HF.out] at HFI
      have hqe : ∀ W, (binOp .eql 100 (.agg #[.int .i64 0, .int .i64 0, .int .i64 0]) (.agg #[.int .i64 0, .int .i64 0, .int .i64 0])).run Tryz.prog W = .ok (.bool true) W := fun W => by
        have h := eqlL z0 z0 W
        rw [show decide (z0 = z0) = true by simp] at h
        exact h
      have hgu := guard_eqlL
      clear hh
      go_wp2_with fail
      refine HFI.out.mono ?_
      rintro e w2 ⟨rfl, hb2⟩
      obtain ⟨f, hf⟩ : ∃ f, f = z0 := ⟨_, rfl⟩
      rw [← hf]
      have hfi : f.i = 0 := by rw [hf]; rfl
      have hfs : f.s = 0 := by rw [hf]; rfl
      have hfl : f.l = 0 := by rw [hf]; rfl
      rw [hfi, hfs, hfl]
      obtain ⟨w3, hw3⟩ : ∃ w3, w3 = w2.alloc (.cells #[.int .i64 0, .int .i64 0, .int .i64 0] 100) := ⟨_, rfl⟩
      obtain ⟨r, er⟩ : ∃ r, r = w2.heap.size := ⟨_, rfl⟩
      have hb3 : Below w2.heap.size w2 w3 := by rw [hw3]; exact box_below w2 _
      have hr : w3.heap[r]? = some (.cells #[.int .i64 0, .int .i64 0, .int .i64 0] 100 (0, 0)) := by rw [hw3, er]; exact new_block w2 _
      have HE : Hid (ErPost Bs tp v a w (.returned (.int .i64 100)) w3) := Lib.hid (er_same HAD.out HT.out (hb2.trans (hb3.mono hb2.size)))
      have r0 := cell_of hr (j := 0) rfl
      have r1 := cell_of hr (j := 1) rfl
      have r2 := cell_of hr (j := 2) rfl
      have HW3 := Lib.hid hw3
      have ER := Lib.hid er
      clear hw3 er hb3 hr hb2 hf hfi hfs hfl
      go_upto_region 4 with fail
      rw [← HW3.out, ← ER.out]
      go_wp2_with fail
      go_ret
      exact HE.out
    | some f =>
      have HF : Hid (fnd L id = f) := Lib.hid (fnd_some hh)
      obtain ⟨m, hm⟩ : ∃ m, max f.l now = m := ⟨_, rfl⟩
      have HAD : Hid (a = (upd L ⟨id, f.s, m⟩, 0)) := Lib.hid (by rw [← HA.out, ← hm]; unfold ren; rw [if_neg (by rw [HOK.out]; simp), hh])
      have HID : Hid (f.i = id) := Lib.hid (has_mem hh).2
      have HAT : Hid (L[p]? = some f) := Lib.hid (by rw [← HP.out]; exact has_pos HG.out.srt hh)
      rw [HF.out] at HFI
      have hqe : ∀ W, (binOp .eql 100 (.agg #[.int .i64 f.i, .int .i64 f.s, .int .i64 f.l]) (.agg #[.int .i64 0, .int .i64 0, .int .i64 0])).run Tryz.prog W = .ok (.bool false) W := fun W => by
        have h := eqlL f z0 W
        rw [show decide (f = z0) = false by simpa using okL_ne (HG.out.each f (has_mem hh).1)] at h
        exact h
      have hgu := guard_eqlL
      clear hh
      go_wp2_with fail
      refine HFI.out.mono ?_
      rintro e w2 ⟨rfl, hb2⟩
      obtain ⟨w3, hw3⟩ : ∃ w3, w3 = w2.alloc (.cells #[.int .i64 f.i, .int .i64 f.s, .int .i64 f.l] 100) := ⟨_, rfl⟩
      obtain ⟨r, er⟩ : ∃ r, r = w2.heap.size := ⟨_, rfl⟩
      have hb3 : Below w2.heap.size w2 w3 := by rw [hw3]; exact box_below w2 _
      have hr : w3.heap[r]? = some (.cells #[.int .i64 f.i, .int .i64 f.s, .int .i64 f.l] 100 (0, 0)) := by rw [hw3, er]; exact new_block w2 _
      have HB3 := Lib.hid (hb2.trans (hb3.mono hb2.size))
      have HT3 := Lib.hid (HT.out.below HB3.out)
      have r0 := cell_of hr (j := 0) rfl
      have r1 := cell_of hr (j := 1) rfl
      have r2 := cell_of hr (j := 2) rfl
      have hplt := (List.getElem?_eq_some_iff.1 HAT.out).1
      obtain ⟨A, c, rfl, -, -, -⟩ := own_form HT3.out.row
      obtain ⟨_, _, e0, -, -, hAg⟩ := own_form HT3.out.row
      injection e0 with e1 _ e2
      subst e1; subst e2
      obtain ⟨g, rfl⟩ := hAg (by omega)
      have hown := HT3.out.row
      have t0 := cell_of HT3.out.here (j := 0) rfl
      have hgr : g ≠ r := fun e => by have := (hown.lt g rfl).2; have := blk_lt HT3.out.here; have := (own_below (HT.out.below hb2).row (Below.refl _ _)).lt g rfl; omega
      have hgt : g ≠ tp := fun e => own_ne hown HT3.out.here (by decide) (by rw [← e]; rfl)
      obtain ⟨⟨v2, y2⟩, f2⟩ : (∃ v, w3.cell? ⟨g, p * 3 + 2, none⟩ = some v) ∧ w3.frozen? ⟨g, p * 3 + 2, none⟩ = false := ⟨Option.isSome_iff_exists.1 (own_cells hown (p * 3 + 2) (by omega)).1, (own_cells hown (p * 3 + 2) (by omega)).2⟩
      obtain ⟨w4, hw4⟩ : ∃ w4, w4 = w3.setCell ⟨g, p * 3 + 2, none⟩ (.int .i64 m) := ⟨_, rfl⟩
      have HE : Hid (ErPost Bs tp (.slice (some ⟨g, 0, none⟩) L.length c) a w (.returned (.int .i64 0)) w4.drew) := Lib.hid (by
        have hs := own_set_cells hown (p * 3 + 2) [.int .i64 m] (by simp; omega)
        have hwr : Wr g w3 w4 := by rw [hw4]; exact (Wr.refl g w3).set _ _
        have e : splice (lcells L) (p * 3 + 2) [.int .i64 m] = lcells (upd L ⟨id, f.s, m⟩) := by
          have h1 := part_set lcell 3 L p hplt ⟨id, f.s, m⟩ (fun _ _ => rfl) rfl
          have h3 : L[p] = f := Option.some.inj ((List.getElem?_eq_getElem hplt).symm.trans HAT.out)
          have g0 := part_get lcell 3 L p hplt (fun _ _ => rfl) 0 (by omega)
          have g1 := part_get lcell 3 L p hplt (fun _ _ => rfl) 1 (by omega)
          rw [h3] at g0 g1
          show splice (L.flatMap lcell) (p * 3 + 2) [.int .i64 m] = (L.set (pos L id) ⟨id, f.s, m⟩).flatMap lcell
          rw [splice_two (o := p * 3) (a := .int .i64 f.i) (b := .int .i64 f.s) g0 g1, HP.out, ← h1, ← HID.out]
          rfl
        rw [e] at hs
        have hul : (upd L ⟨id, f.s, m⟩).length = L.length := by unfold upd; rw [List.length_set]
        rw [HAD.out]
        exact ⟨rfl, kp_in HT.out HB3.out hgt hwr hul (by rw [hw4]; exact hs)⟩)
      have hp0 : (0 : Int) ≤ (p : Int) := by omega
      have hpi : (p : Int) < (L.length : Int) := by omega
      have HW3 := Lib.hid hw3
      have HW4 := Lib.hid hw4
      have ER := Lib.hid er
      clear hw3 er hb3 hr hb2 hown hw4 hplt
      go_upto_region 4 with fail
      rw [← HW3.out, ← ER.out]
      go_upto_region 6 with fail
      go_region
      all_goals
        rw [← HW4.out]
        go_wp2_with fail
        go_ret
        exact HE.out
set_option maxHeartbeats 4000000 in
theorem close_any {w : World} {Bs tp : Nat} {v : Value} {L : Tb} (ht : TabW w Bs tp v L) (hB : Bs ≤ w.heap.size) (hg : Le.Good L) (id : Int) : Calls Tryz.prog 128 #[.pointer (some ⟨tp, 0, none⟩), .int .i64 id] w (ErPost Bs tp v (cls L id) w) := by
  obtain ⟨a, ha⟩ : ∃ a, cls L id = a := ⟨_, rfl⟩
  rw [ha]
  have HA := Lib.hid ha
  have HT := Lib.hid ht
  have HG := Lib.hid hg
  have HB := Lib.hid hB
  have HFI := Lib.hid (find_any ht hg id)
  unfold FiPost at HFI
  have HPL := Lib.hid (pos_le L id)
  obtain ⟨p, hp⟩ : ∃ p, pos L id = p := ⟨_, rfl⟩
  rw [hp] at HFI HPL
  have HP := Lib.hid hp
  clear ha ht hg hB hp
  cases hh : has L id with
  | none =>
    have HF : Hid (fnd L id = z0) := Lib.hid (fnd_none hh)
    have HAD : Hid (a = (L, 100)) := Lib.hid (by rw [← HA.out]; unfold cls; rw [hh])
    rw [HF.out] at HFI
    have hqe : ∀ W, (binOp .eql 100 (.agg #[.int .i64 0, .int .i64 0, .int .i64 0]) (.agg #[.int .i64 0, .int .i64 0, .int .i64 0])).run Tryz.prog W = .ok (.bool true) W := fun W => by
      have h := eqlL z0 z0 W
      rw [show decide (z0 = z0) = true by simp] at h
      exact h
    have hgu := guard_eqlL
    clear hh
    go_enter Tryz.func128, Tryz.ntmps128
    go_wp2_with fail
    refine HFI.out.mono ?_
    rintro e w2 ⟨rfl, hb2⟩
    obtain ⟨f, hf⟩ : ∃ f, f = z0 := ⟨_, rfl⟩
    rw [← hf]
    have hfi : f.i = 0 := by rw [hf]; rfl
    have hfs : f.s = 0 := by rw [hf]; rfl
    have hfl : f.l = 0 := by rw [hf]; rfl
    rw [hfi, hfs, hfl]
    obtain ⟨w3, hw3⟩ : ∃ w3, w3 = w2.alloc (.cells #[.int .i64 0, .int .i64 0, .int .i64 0] 100) := ⟨_, rfl⟩
    obtain ⟨r, er⟩ : ∃ r, r = w2.heap.size := ⟨_, rfl⟩
    have hb3 : Below w2.heap.size w2 w3 := by rw [hw3]; exact box_below w2 _
    have hr : w3.heap[r]? = some (.cells #[.int .i64 0, .int .i64 0, .int .i64 0] 100 (0, 0)) := by rw [hw3, er]; exact new_block w2 _
    have HE : Hid (ErPost Bs tp v a w (.returned (.int .i64 100)) w3) := Lib.hid (er_same HAD.out HT.out (hb2.trans (hb3.mono hb2.size)))
    have r0 := cell_of hr (j := 0) rfl
    have r1 := cell_of hr (j := 1) rfl
    have r2 := cell_of hr (j := 2) rfl
    have HW3 := Lib.hid hw3
    have ER := Lib.hid er
    clear hw3 er hb3 hr hb2 hf hfi hfs hfl
    go_upto_region 2 with fail
    rw [← HW3.out, ← ER.out]
    go_wp2_with fail
    go_ret
    exact HE.out
  | some f =>
    have HF : Hid (fnd L id = f) := Lib.hid (fnd_some hh)
    have HAD : Hid (a = (del L id, 0)) := Lib.hid (by rw [← HA.out]; unfold cls; rw [hh])
    have HAT : Hid (L[p]? = some f) := Lib.hid (by rw [← HP.out]; exact has_pos HG.out.srt hh)
    rw [HF.out] at HFI
    have hqe : ∀ W, (binOp .eql 100 (.agg #[.int .i64 f.i, .int .i64 f.s, .int .i64 f.l]) (.agg #[.int .i64 0, .int .i64 0, .int .i64 0])).run Tryz.prog W = .ok (.bool false) W := fun W => by
      have h := eqlL f z0 W
      rw [show decide (f = z0) = false by simpa using okL_ne (HG.out.each f (has_mem hh).1)] at h
      exact h
    have hgu := guard_eqlL
    clear hh
    go_enter Tryz.func128, Tryz.ntmps128
    go_wp2_with fail
    refine HFI.out.mono ?_
    rintro e w2 ⟨rfl, hb2⟩
    obtain ⟨w3, hw3⟩ : ∃ w3, w3 = w2.alloc (.cells #[.int .i64 f.i, .int .i64 f.s, .int .i64 f.l] 100) := ⟨_, rfl⟩
    obtain ⟨r, er⟩ : ∃ r, r = w2.heap.size := ⟨_, rfl⟩
    have hb3 : Below w2.heap.size w2 w3 := by rw [hw3]; exact box_below w2 _
    have hr : w3.heap[r]? = some (.cells #[.int .i64 f.i, .int .i64 f.s, .int .i64 f.l] 100 (0, 0)) := by rw [hw3, er]; exact new_block w2 _
    have HB3 := Lib.hid (hb2.trans (hb3.mono hb2.size))
    have HT3 := Lib.hid (HT.out.below HB3.out)
    have r0 := cell_of hr (j := 0) rfl
    have r1 := cell_of hr (j := 1) rfl
    have r2 := cell_of hr (j := 2) rfl
    have hplt := (List.getElem?_eq_some_iff.1 HAT.out).1
    obtain ⟨A, c, rfl, -, -, -⟩ := own_form HT3.out.row
    obtain ⟨_, _, e0, -, -, hAg⟩ := own_form HT3.out.row
    injection e0 with e1 _ e2
    subst e1; subst e2
    obtain ⟨g, rfl⟩ := hAg (by omega)
    have hown := HT3.out.row
    have t0 := cell_of HT3.out.here (j := 0) rfl
    have hL100 := HG.out.len
    have HDE := Lib.hid (del_any hown p hplt (by omega))
    have hwp : IntKind.i64.wrap ((p : Int) + 1) = (p : Int) + 1 := by rw [IntKind.wrap_i64]; omega
    have HW3 := Lib.hid hw3
    have ER := Lib.hid er
    obtain ⟨n', hn'⟩ : ∃ n, L.length - 1 = n := ⟨_, rfl⟩
    rw [hn'] at HDE
    have HN := Lib.hid (show (del L id).length = n' by unfold del; rw [HP.out, List.length_eraseIdx_of_lt hplt]; exact hn')
    have HDL : Hid (L.eraseIdx p = del L id) := Lib.hid (by unfold del; rw [HP.out])
    clear hw3 er hb3 hr hb2 hown hplt hL100 hn'
    go_upto_region 2 with fail
    rw [← HW3.out, ← ER.out]
    go_wp2_with fail
    refine HDE.out.mono ?_
    rintro e w4 ⟨rfl, ho4, hg4⟩
    have hh4 := gb_blk (v := .slice (some ⟨g, 0, none⟩) L.length c) hg4 HT3.out
    have y0 := cell_of hh4 (j := 0) rfl
    have y1 := frozen_of_row w4 tp 0 _ _ hh4
    have HE : Hid (ErPost Bs tp (.slice (some ⟨g, 0, none⟩) L.length c) a w (.returned (.int .i64 0)) (w4.setCell ⟨tp, 0, none⟩ (.slice (some ⟨g, 0, none⟩) n' c))) := Lib.hid (by
      rw [HAD.out]
      refine ⟨rfl, kp_end (B0 := w.heap.size) HT.out HB3.out HT3.out ?_ hg4 (fun g' h' => .inl (by simpa [Value.ownBlock] using h')) (Nat.le_refl _)⟩
      have h := ho4
      rw [HDL.out] at h
      show (w4.ownsRow Bs 100 3 (.slice (some ⟨g, 0, none⟩) n' c) (del L id).length (lcells (del L id)))
      rw [HN.out]
      exact h)
    clear ho4 hg4 hh4 t0 r0 r1 r2
    go_wp2_with fail
    go_ret
    exact HE.out
end Go.Proofs.YtflgemlhocjipaaGreatDoor.Lq
namespace Go.Proofs.YtflgemlhocjipaaGreatDoor.Lq
set_option maxRecDepth 100000
open Go.ChangeShapes Go.WideShapes Go.ChangeAt Go.RowKit Go.Proofs.Le

set_option maxHeartbeats 8000000 in
theorem open_any {w : World} {Bs tp : Nat} {v : Value} {L : Tb} (ht : TabW w Bs tp v L) (hB : Bs ≤ w.heap.size) (hg : Le.Good L) (x : Ls) : Calls Tryz.prog 35 #[.pointer (some ⟨tp, 0, none⟩), .int .i64 x.i, .int .i64 x.s, .int .i64 x.l] w (ErPost Bs tp v (opn L x) w) := by
  obtain ⟨a, ha⟩ : ∃ a, opn L x = a := ⟨_, rfl⟩
  rw [ha]
  obtain ⟨w1, hw1⟩ : ∃ w1, w1 = w.alloc (.cells #[.int .i64 x.i, .int .i64 x.s, .int .i64 x.l] 100) := ⟨_, rfl⟩
  obtain ⟨q, eq⟩ : ∃ q, q = w.heap.size := ⟨_, rfl⟩
  have hb1 : Below w.heap.size w w1 := by rw [hw1]; exact box_below w _
  have hq : w1.heap[q]? = some (.cells #[.int .i64 x.i, .int .i64 x.s, .int .i64 x.l] 100 (0, 0)) := by rw [hw1, eq]; exact new_block w _
  have HA := Lib.hid ha
  have HT := Lib.hid ht
  have HB := Lib.hid hB
  have HLL : Hid (L.length ≤ 100) := Lib.hid hg.len
  have HG := Lib.hid hg
  have HFI := Lib.hid (find_any (ht.below hb1) hg x.i)
  unfold FiPost at HFI
  have HPL := Lib.hid (pos_le L x.i)
  obtain ⟨p, hp⟩ : ∃ p, pos L x.i = p := ⟨_, rfl⟩
  obtain ⟨f, hf⟩ : ∃ f, fnd L x.i = f := ⟨_, rfl⟩
  obtain ⟨fb, hfb⟩ : ∃ b, (has L x.i).isSome = b := ⟨_, rfl⟩
  rw [hp] at HFI HPL
  rw [hf] at HFI
  have HP := Lib.hid hp
  have HFB := Lib.hid hfb
  have hqe : ∀ W, (binOp .neq 100 (.agg #[.int .i64 f.i, .int .i64 f.s, .int .i64 f.l]) (.agg #[.int .i64 0, .int .i64 0, .int .i64 0])).run Tryz.prog W = .ok (.bool fb) W := fun W => by
    have h := neqL f z0 W
    rw [← hf, fnd_bool hg x.i, hfb, hf, Bool.not_not] at h
    exact h
  have hgu := guard_neqL
  have HVA := Lib.hid (fun W => valid_any x W)
  obtain ⟨vd, hvd⟩ : ∃ b, okL x = b := ⟨_, rfl⟩
  rw [hvd] at HVA
  have HOK := Lib.hid hvd
  have HW1 := Lib.hid hw1
  have EQ := Lib.hid eq
  have HB1 := Lib.hid hb1
  have HQ := Lib.hid hq
  clear hw1 eq hb1 hq ha ht hB hg hp hf hfb hvd
  go_enter Tryz.func35, Tryz.ntmps35
  go_upto_region 2 with fail
  rw [← HW1.out, ← EQ.out]
  go_wp2_with fail
  refine HFI.out.mono ?_
  rintro e w2 ⟨rfl, hb2⟩
  obtain ⟨w3, hw3⟩ : ∃ w3, w3 = w2.alloc (.cells #[.int .i64 f.i, .int .i64 f.s, .int .i64 f.l] 100) := ⟨_, rfl⟩
  obtain ⟨r, er⟩ : ∃ r, r = w2.heap.size := ⟨_, rfl⟩
  have hb3 : Below w2.heap.size w2 w3 := by rw [hw3]; exact box_below w2 _
  have hr : w3.heap[r]? = some (.cells #[.int .i64 f.i, .int .i64 f.s, .int .i64 f.l] 100 (0, 0)) := by rw [hw3, er]; exact new_block w2 _
  have HB3 := Lib.hid (HB1.out.trans ((hb2.trans (hb3.mono hb2.size)).mono HB1.out.size))
  have hq3 := blk_below (blk_below HQ.out hb2) hb3
  have HR3 := Lib.hid hr
  have HQ3 := Lib.hid hq3
  have q0 := cell_of hq3 (j := 0) rfl
  have q1 := cell_of hq3 (j := 1) rfl
  have q2 := cell_of hq3 (j := 2) rfl
  have HW3 := Lib.hid hw3
  have ER := Lib.hid er
  clear hw3 er hb3 hr hq3 hb2
  go_upto_region 3 with fail
  rw [← HW3.out, ← ER.out]
  go_wp2_with fail
  refine (HVA.out _).mono ?_
  rintro e w4 ⟨rfl, hb4⟩
  have HB4 := Lib.hid (HB3.out.trans (hb4.mono HB3.out.size))
  have hr4 := blk_below HR3.out hb4
  have HQ4 := Lib.hid (blk_below HQ3.out hb4)
  have HT4 := Lib.hid (HT.out.below HB4.out)
  have r0 := cell_of hr4 (j := 0) rfl
  have r1 := cell_of hr4 (j := 1) rfl
  have r2 := cell_of hr4 (j := 2) rfl
  clear hr4 hb4 q0 q1 q2
  cases vd with
  | false =>
    have HE : Hid (ErPost Bs tp v a w (.returned (.int .i64 1)) w4) := Lib.hid (er_same (by rw [← HA.out]; unfold opn; rw [if_pos HOK.out]) HT.out HB4.out)
    go_wp2_with fail
    go_ret
    exact HE.out
  | true =>
    cases fb with
    | true =>
      have HE : Hid (ErPost Bs tp v a w (.returned (.int .i64 1)) w4) := Lib.hid (er_same (by rw [← HA.out]; unfold opn; rw [if_neg (by rw [HOK.out]; simp), if_pos HFB.out]) HT.out HB4.out)
      go_wp2_with fail
      go_ret
      exact HE.out
    | false =>
      have hqe2 := hqe
      obtain ⟨A, c, rfl, -, -, -⟩ := own_form HT.out.row
      have t0 := cell_of HT4.out.here (j := 0) rfl
      by_cases h5 : 100 ≤ L.length
      · have h5' : decide ((100 : Int) ≤ (L.length : Int)) = true := by rw [decide_eq_true_eq]; omega
        have HE : Hid (ErPost Bs tp (.slice A L.length c) a w (.returned (.int .i64 1)) w4) := Lib.hid (er_same (by rw [← HA.out]; unfold opn; rw [if_neg (by rw [HOK.out]; simp), if_neg (by rw [HFB.out]; simp), if_pos h5]) HT.out HB4.out)
        clear h5
        go_wp2_with fail
        go_ret
        exact HE.out
      · have h5' : decide ((100 : Int) ≤ (L.length : Int)) = false := by rw [decide_eq_false_iff_not]; omega
        have HAD : Hid (a = (L.take p ++ x :: L.drop p, 0)) := Lib.hid (by rw [← HA.out]; unfold opn; rw [if_neg (by rw [HOK.out]; simp), if_neg (by rw [HFB.out]; simp), if_neg h5]; unfold ins; rw [HP.out])
        obtain ⟨M, hM⟩ : ∃ M, L.take p ++ x :: L.drop p = M := ⟨_, rfl⟩
        rw [hM] at HAD
        have HIN := Lib.hid (insert_any (w := (w4.alloc (.cells #[.int .i64 x.i, .int .i64 x.s, .int .i64 x.l] 100)).drew) (Bs := Bs) (vb := w4.heap.size) (A := A) (c := c) (own_below HT4.out.row ((Below.refl _ _).alloc (Nat.le_refl _) _).drew) rfl (by have := HLL.out; omega) (Nat.le_trans HB.out (Nat.le_trans HB4.out.size ((Below.refl _ _).alloc (Nat.le_refl _) (.cells #[.int .i64 x.i, .int .i64 x.s, .int .i64 x.l] 100)).drew.size)) x (new_block w4 _) (own_long_ne HT4.out.row (Nat.le_refl _)) p HPL.out)
        rw [hM] at HIN
        unfold InPost at HIN
        clear hM h5
        go_upto_region 5 with fail
        clear r0 r1 r2 t0
        have hq4 := HQ4.out
        have q0 := cell_of hq4 (j := 0) rfl
        have q1 := cell_of hq4 (j := 1) rfl
        have q2 := cell_of hq4 (j := 2) rfl
        have t0 := cell_of HT4.out.here (j := 0) rfl
        have hqs : q < w4.heap.size := blk_lt hq4
        have hts : tp < w4.heap.size := blk_lt HT4.out.here
        clear hq4
        go_region_with (first
          | (go_at_call 82; (with_reducible refine HIN.out.mono ?_); rintro e w8 ⟨v8, rfl, h1, h2, h3⟩; obtain ⟨A8, c8, rfl, -, -, -⟩ := own_form h1; have h2' := gb_trans' ((Below.refl w4.heap.size w4).alloc (Nat.le_refl _) (.cells #[.int .i64 x.i, .int .i64 x.s, .int .i64 x.l] 100)).drew h2; have hh8 := gb_blk h2' HT4.out; have y0 := cell_of hh8 (j := 0) rfl; have y1 := frozen_of_row w8 tp 0 _ _ hh8))
        all_goals
          have HE : Hid (ErPost Bs tp (.slice A L.length c) a w (.returned (.int .i64 0)) (w8.setCell ⟨tp, 0, none⟩ (.slice A8 M.length c8))) := Lib.hid (by
            rw [HAD.out]
            exact ⟨rfl, kp_end (B0 := (w4.alloc (.cells #[.int .i64 x.i, .int .i64 x.s, .int .i64 x.l] 100)).drew.heap.size) HT.out HB4.out HT4.out h1 h2' h3 (Nat.le_trans HB4.out.size ((Below.refl _ _).alloc (Nat.le_refl _) (.cells #[.int .i64 x.i, .int .i64 x.s, .int .i64 x.l] 100)).drew.size)⟩)
          clear h1 h2 h2' h3 hh8
          go_wp2_with fail
          go_ret
          exact HE.out
end Go.Proofs.YtflgemlhocjipaaGreatDoor.Lq
