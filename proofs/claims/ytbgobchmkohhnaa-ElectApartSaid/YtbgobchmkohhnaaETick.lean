/-
  What Tick returns and leaves. Condition: the timer is a good one.
-/
import Derived.Test.YtbgobchmkohhnaaENew
namespace Go.Proofs.Ytbgobchmkohhnaa
set_option maxRecDepth 100000
open Go.ChangeShapes Go.WideShapes Go.ChangeAt Go.RowKit Go.Proofs.Rk Go.Proofs.El

/-- A scope in which the run jumps once, forward, to one label. -/
theorem wp_scope_once {P : Program} {a : Act} {w : World} {Q : Exit → Act → World → Prop} {c rest : Code} (l : Nat) (hf : findLabel c l = some rest)
    (h : c.wp P (Exit.jump l (fun a w => rest.wp P (Exit.noGoto Q) a w) Q) a w) : (Code.scope c).wp P Q a w :=
  wp_scope_jumps l (fun a w => rest.wp P (Exit.noGoto Q) a w) (fun _ _ => 0) hf h fun a w hj => Code.wp_mono (fun e a w he => by
    cases e with
    | goto l' => exact he.elim
    | normal => exact he
    | exit id => exact he
    | ret => exact he
    | panic ch => exact he
    | outgrown => exact he) hj
/-- What Tick returns and leaves. -/
def TkPost (w : World) (p : Nat) (t : Tm) (b : Bool) (e : Ending) (w' : World) : Prop :=
  e = .returned (.tuple #[.bool (leadT t b), .bool (nudgeT t b)]) ∧ TimW w' p (tickT t b) ∧ Wr p w w'
theorem tk_of {w w' : World} {p : Nat} {t : Tm} {b l n : Bool} {T : Tm} (h1 : leadT t b = l) (h2 : nudgeT t b = n) (h3 : tickT t b = T) (h4 : TimW w' p T) (h5 : Wr p w w') : TkPost w p t b (.returned (.tuple #[.bool l, .bool n])) w' := by
  unfold TkPost; rw [h1, h2, h3]; exact ⟨rfl, h4, h5⟩
set_option maxHeartbeats 2000000 in
theorem tick_true_yes {w : World} {p : Nat} {t : Tm} (h : TimW w p t) (hg : El.Good t) (hc : t.sp ≤ t.wt + 1) : Calls Try.prog 14 #[.pointer (some ⟨p, 0, none⟩), .bool true] w (TkPost w p t true) := by
  have c2 : w.cell? ⟨p, 2, none⟩ = some (.int .i64 t.wt) := cell_of h rfl
  have f2 := frozen_of_row w p 2 _ _ h
  have hw : IntKind.i64.wrap (t.wt + 1) = t.wt + 1 := by rw [IntKind.wrap_i64]; have := hg.wt1; have := hg.wt2; have := hg.lm2; omega
  have H1 : Hid (TimW (w.setCell ⟨p, 2, none⟩ (.int .i64 (t.wt + 1))) p ⟨t.sp, t.gr, t.wt + 1, t.lm⟩ ∧ Wr p w (w.setCell ⟨p, 2, none⟩ (.int .i64 (t.wt + 1)))) := Lib.hid ⟨h.wait (t.wt + 1), (Wr.refl p w).set 2 _⟩
  have HL : Hid (leadT t true = false) := Lib.hid (by unfold leadT; simp; try omega)
  have HN : Hid (nudgeT t true = true) := Lib.hid (by unfold nudgeT; simp; try omega)
  have HT : Hid (tickT t true = ⟨t.sp, t.gr, 0, t.lm⟩) := Lib.hid (by unfold tickT; simp; try omega)
  have HG := Lib.hid hg
  have gd : decide (t.sp ≤ t.wt + 1) = true := by simp; omega
  clear h hg hc
  go_enter Try.func14, Try.ntmps14
  go_wp2
  refine wp_scope_once 0 rfl ?_
  go_upto_region 3 with fail
  obtain ⟨w1, hw1⟩ : ∃ W, W = w.setCell ⟨p, 2, none⟩ (.int .i64 (t.wt + 1)) := ⟨_, rfl⟩
  rw [← hw1] at H1
  rw [← hw1]
  clear hw1 c2 f2
  have c2 : w1.cell? ⟨p, 2, none⟩ = some (.int .i64 (t.wt + 1)) := cell_of H1.out.1 rfl
  have c0 : w1.cell? ⟨p, 0, none⟩ = some (.int .i64 t.sp) := cell_of H1.out.1 rfl
  go_quiet (fail)
  obtain ⟨w2, hw2⟩ : ∃ W, W = w1.drewN nq := ⟨_, rfl⟩
  have H2 : Hid (TimW w2 p ⟨t.sp, t.gr, t.wt + 1, t.lm⟩ ∧ Wr p w w2) := Lib.hid (by rw [hw2]; exact ⟨H1.out.1.drewN nq, H1.out.2.trans (Wr.drewN p w1 nq)⟩)
  rw [← hw2]
  clear hw2 c2 c0
  have f2 := frozen_of_row w2 p 2 _ _ H2.out.1
  have c2 : w2.cell? ⟨p, 2, none⟩ = some (.int .i64 (t.wt + 1)) := cell_of H2.out.1 rfl
  have HE := Lib.hid (tk_of HL.out HN.out HT.out (H2.out.1.wait 0) (H2.out.2.set 2 _))
  go_wp2
  go_step3
  refine ⟨rfl, ?_⟩
  go_wp2_with fail
  rw [Exit.noGoto_ret]
  exact bodyPost_ret (v := .tuple #[.bool false, .bool true]) (by simp [results, Try.results14, go_sem]) rfl HE.out
set_option maxHeartbeats 2000000 in
theorem tick_true_no {w : World} {p : Nat} {t : Tm} (h : TimW w p t) (hg : El.Good t) (hc : t.wt + 1 < t.sp) : Calls Try.prog 14 #[.pointer (some ⟨p, 0, none⟩), .bool true] w (TkPost w p t true) := by
  have c2 : w.cell? ⟨p, 2, none⟩ = some (.int .i64 t.wt) := cell_of h rfl
  have f2 := frozen_of_row w p 2 _ _ h
  have hw : IntKind.i64.wrap (t.wt + 1) = t.wt + 1 := by rw [IntKind.wrap_i64]; have := hg.wt1; have := hg.wt2; have := hg.lm2; omega
  have H1 : Hid (TimW (w.setCell ⟨p, 2, none⟩ (.int .i64 (t.wt + 1))) p ⟨t.sp, t.gr, t.wt + 1, t.lm⟩ ∧ Wr p w (w.setCell ⟨p, 2, none⟩ (.int .i64 (t.wt + 1)))) := Lib.hid ⟨h.wait (t.wt + 1), (Wr.refl p w).set 2 _⟩
  have HL : Hid (leadT t true = false) := Lib.hid (by unfold leadT; simp; try omega)
  have HN : Hid (nudgeT t true = false) := Lib.hid (by unfold nudgeT; simp; try omega)
  have HT : Hid (tickT t true = ⟨t.sp, t.gr, t.wt + 1, t.lm⟩) := Lib.hid (by unfold tickT; simp; try omega)
  have HG := Lib.hid hg
  have gd : decide (t.sp ≤ t.wt + 1) = false := by simp; omega
  clear h hg hc
  go_enter Try.func14, Try.ntmps14
  go_wp2
  refine wp_scope_once 0 rfl ?_
  go_upto_region 3 with fail
  obtain ⟨w1, hw1⟩ : ∃ W, W = w.setCell ⟨p, 2, none⟩ (.int .i64 (t.wt + 1)) := ⟨_, rfl⟩
  rw [← hw1] at H1
  rw [← hw1]
  clear hw1 c2 f2
  have c2 : w1.cell? ⟨p, 2, none⟩ = some (.int .i64 (t.wt + 1)) := cell_of H1.out.1 rfl
  have c0 : w1.cell? ⟨p, 0, none⟩ = some (.int .i64 t.sp) := cell_of H1.out.1 rfl
  go_quiet (fail)
  obtain ⟨w2, hw2⟩ : ∃ W, W = w1.drewN nq := ⟨_, rfl⟩
  have H2 : Hid (TimW w2 p ⟨t.sp, t.gr, t.wt + 1, t.lm⟩ ∧ Wr p w w2) := Lib.hid (by rw [hw2]; exact ⟨H1.out.1.drewN nq, H1.out.2.trans (Wr.drewN p w1 nq)⟩)
  rw [← hw2]
  clear hw2 c2 c0
  have HE := Lib.hid (tk_of HL.out HN.out HT.out H2.out.1 H2.out.2)
  go_wp2
  go_step3
  refine ⟨rfl, ?_⟩
  go_wp2_with fail
  rw [Exit.noGoto_ret]
  exact bodyPost_ret (v := .tuple #[.bool false, .bool false]) (by simp [results, Try.results14, go_sem]) rfl HE.out
set_option maxHeartbeats 2000000 in
theorem tick_false_yes {w : World} {p : Nat} {t : Tm} (h : TimW w p t) (hg : El.Good t) (hc : t.lm ≤ t.wt + 1) : Calls Try.prog 14 #[.pointer (some ⟨p, 0, none⟩), .bool false] w (TkPost w p t false) := by
  have c2 : w.cell? ⟨p, 2, none⟩ = some (.int .i64 t.wt) := cell_of h rfl
  have f2 := frozen_of_row w p 2 _ _ h
  have hw : IntKind.i64.wrap (t.wt + 1) = t.wt + 1 := by rw [IntKind.wrap_i64]; have := hg.wt1; have := hg.wt2; have := hg.lm2; omega
  have H1 : Hid (TimW (w.setCell ⟨p, 2, none⟩ (.int .i64 (t.wt + 1))) p ⟨t.sp, t.gr, t.wt + 1, t.lm⟩ ∧ Wr p w (w.setCell ⟨p, 2, none⟩ (.int .i64 (t.wt + 1)))) := Lib.hid ⟨h.wait (t.wt + 1), (Wr.refl p w).set 2 _⟩
  have HL : Hid (leadT t false = true) := Lib.hid (by unfold leadT; simp; try omega)
  have HN : Hid (nudgeT t false = false) := Lib.hid (by unfold nudgeT; simp; try omega)
  have HT : Hid (tickT t false = ⟨t.sp, t.gr, 0, more t⟩) := Lib.hid (by unfold tickT; simp; try omega)
  have HG := Lib.hid hg
  have gd : decide (t.lm ≤ t.wt + 1) = true := by simp; omega
  clear h hg hc
  go_enter Try.func14, Try.ntmps14
  go_wp2
  refine wp_scope_once 0 rfl ?_
  go_upto_region 4 with fail
  obtain ⟨w1, hw1⟩ : ∃ W, W = w.setCell ⟨p, 2, none⟩ (.int .i64 (t.wt + 1)) := ⟨_, rfl⟩
  rw [← hw1] at H1
  rw [← hw1]
  clear hw1 c2 f2
  have c2 : w1.cell? ⟨p, 2, none⟩ = some (.int .i64 (t.wt + 1)) := cell_of H1.out.1 rfl
  have c0 : w1.cell? ⟨p, 3, none⟩ = some (.int .i64 t.lm) := cell_of H1.out.1 rfl
  go_quiet (fail)
  obtain ⟨w2, hw2⟩ : ∃ W, W = w1.drewN nq := ⟨_, rfl⟩
  have H2 : Hid (TimW w2 p ⟨t.sp, t.gr, t.wt + 1, t.lm⟩ ∧ Wr p w w2) := Lib.hid (by rw [hw2]; exact ⟨H1.out.1.drewN nq, H1.out.2.trans (Wr.drewN p w1 nq)⟩)
  rw [← hw2]
  clear hw2 c2 c0
  go_wp2_with fail
  refine (grow_any H2.out.1 HG.out.gr1 HG.out.gr2 (by have := HG.out.wt1; have := HG.out.wt2; show 0 ≤ t.lm; omega) HG.out.lm2).mono ?_
  rintro e w3 ⟨rfl, h3, h4⟩
  have H3 : Hid (TimW w3 p ⟨t.sp, t.gr, t.wt + 1, more t⟩ ∧ Wr p w w3) := Lib.hid ⟨h3, H2.out.2.trans h4⟩
  clear h3 h4
  have f2 := frozen_of_row w3 p 2 _ _ H3.out.1
  have c2 : w3.cell? ⟨p, 2, none⟩ = some (.int .i64 (t.wt + 1)) := cell_of H3.out.1 rfl
  have HE := Lib.hid (tk_of HL.out HN.out HT.out (H3.out.1.wait 0) (H3.out.2.set 2 _))
  go_wp2_with fail
  go_step3
  go_wp2_with fail
  exact bodyPost_ret (v := .tuple #[.bool true, .bool false]) (by simp [results, Try.results14, go_sem]) rfl HE.out
set_option maxHeartbeats 2000000 in
theorem tick_false_no {w : World} {p : Nat} {t : Tm} (h : TimW w p t) (hg : El.Good t) (hc : t.wt + 1 < t.lm) : Calls Try.prog 14 #[.pointer (some ⟨p, 0, none⟩), .bool false] w (TkPost w p t false) := by
  have c2 : w.cell? ⟨p, 2, none⟩ = some (.int .i64 t.wt) := cell_of h rfl
  have f2 := frozen_of_row w p 2 _ _ h
  have hw : IntKind.i64.wrap (t.wt + 1) = t.wt + 1 := by rw [IntKind.wrap_i64]; have := hg.wt1; have := hg.wt2; have := hg.lm2; omega
  have H1 : Hid (TimW (w.setCell ⟨p, 2, none⟩ (.int .i64 (t.wt + 1))) p ⟨t.sp, t.gr, t.wt + 1, t.lm⟩ ∧ Wr p w (w.setCell ⟨p, 2, none⟩ (.int .i64 (t.wt + 1)))) := Lib.hid ⟨h.wait (t.wt + 1), (Wr.refl p w).set 2 _⟩
  have HL : Hid (leadT t false = false) := Lib.hid (by unfold leadT; simp; try omega)
  have HN : Hid (nudgeT t false = false) := Lib.hid (by unfold nudgeT; simp; try omega)
  have HT : Hid (tickT t false = ⟨t.sp, t.gr, t.wt + 1, t.lm⟩) := Lib.hid (by unfold tickT; simp; try omega)
  have HG := Lib.hid hg
  have gd : decide (t.lm ≤ t.wt + 1) = false := by simp; omega
  clear h hg hc
  go_enter Try.func14, Try.ntmps14
  go_wp2
  refine wp_scope_once 0 rfl ?_
  go_upto_region 4 with fail
  obtain ⟨w1, hw1⟩ : ∃ W, W = w.setCell ⟨p, 2, none⟩ (.int .i64 (t.wt + 1)) := ⟨_, rfl⟩
  rw [← hw1] at H1
  rw [← hw1]
  clear hw1 c2 f2
  have c2 : w1.cell? ⟨p, 2, none⟩ = some (.int .i64 (t.wt + 1)) := cell_of H1.out.1 rfl
  have c0 : w1.cell? ⟨p, 3, none⟩ = some (.int .i64 t.lm) := cell_of H1.out.1 rfl
  go_quiet (fail)
  obtain ⟨w2, hw2⟩ : ∃ W, W = w1.drewN nq := ⟨_, rfl⟩
  have H2 : Hid (TimW w2 p ⟨t.sp, t.gr, t.wt + 1, t.lm⟩ ∧ Wr p w w2) := Lib.hid (by rw [hw2]; exact ⟨H1.out.1.drewN nq, H1.out.2.trans (Wr.drewN p w1 nq)⟩)
  rw [← hw2]
  clear hw2 c2 c0
  have HE := Lib.hid (tk_of HL.out HN.out HT.out H2.out.1 H2.out.2)
  go_wp2_with fail
  go_step3
  go_wp2_with fail
  exact bodyPost_ret (v := .tuple #[.bool false, .bool false]) (by simp [results, Try.results14, go_sem]) rfl HE.out
theorem tick_any {w : World} {p : Nat} {t : Tm} (h : TimW w p t) (hg : El.Good t) (b : Bool) : Calls Try.prog 14 #[.pointer (some ⟨p, 0, none⟩), .bool b] w (TkPost w p t b) := by
  cases b with
  | true =>
    by_cases hc : t.wt + 1 < t.sp
    · exact tick_true_no h hg hc
    · exact tick_true_yes h hg (by omega)
  | false =>
    by_cases hc : t.wt + 1 < t.lm
    · exact tick_false_no h hg hc
    · exact tick_false_yes h hg (by omega)
end Go.Proofs.Ytbgobchmkohhnaa
