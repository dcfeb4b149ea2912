/-
  A timer in memory: what Wait, Limit, Heard and grow return and leave. No condition.
-/
import Derived.Test.YtbgobchmkohhnaaEMath
import Derived.Test.YtbgobchmkohhnaaKNext
namespace Go.Proofs.Ytbgobchmkohhnaa
set_option maxRecDepth 100000
open Go.ChangeShapes Go.WideShapes Go.ChangeAt Go.RowKit Go.Proofs.Rk Go.Proofs.El

def tcells (t : Tm) : Array Value := #[.int .i64 t.sp, .int .i64 t.gr, .int .i64 t.wt, .int .i64 t.lm]
def TimW (w : World) (p : Nat) (t : Tm) : Prop := w.heap[p]? = some (.cells (tcells t) 46 (0, 0))
theorem TimW.wait {w : World} {p : Nat} {t : Tm} (h : TimW w p t) (x : Int) : TimW (w.setCell ⟨p, 2, none⟩ (.int .i64 x)) p ⟨t.sp, t.gr, x, t.lm⟩ := heap_setCell_same w p 2 _ _ _ h
theorem TimW.limit {w : World} {p : Nat} {t : Tm} (h : TimW w p t) (x : Int) : TimW (w.setCell ⟨p, 3, none⟩ (.int .i64 x)) p ⟨t.sp, t.gr, t.wt, x⟩ := heap_setCell_same w p 3 _ _ _ h
theorem TimW.below {w w' : World} {p : Nat} {t : Tm} (h : TimW w p t) (hb : Below w.heap.size w w') : TimW w' p t := blk_below h hb
theorem TimW.other {w w' : World} {p q : Nat} {t : Tm} (h : TimW w p t) (hq : Wr q w w') (hn : p ≠ q) : TimW w' p t := (hq.rest p hn).trans h
theorem Wr.trans {r : Nat} {a b c : World} (h : Wr r a b) (k : Wr r b c) : Wr r a c := ⟨h.below.trans k.below, fun j hj => (k.rest j hj).trans (h.rest j hj)⟩
theorem wait_any {w : World} {p : Nat} {t : Tm} (h : TimW w p t) : Calls Try.prog 15 #[.pointer (some ⟨p, 0, none⟩)] w fun e w' => e = .returned (.int .i64 t.wt) ∧ w = w' := by
  have c2 : w.cell? ⟨p, 2, none⟩ = some (.int .i64 t.wt) := cell_of h rfl
  clear h
  go_enter Try.func15, Try.ntmps15
  go_wp2_with fail
  go_ret
  exact ⟨rfl, rfl⟩
theorem limit_any {w : World} {p : Nat} {t : Tm} (h : TimW w p t) : Calls Try.prog 16 #[.pointer (some ⟨p, 0, none⟩)] w fun e w' => e = .returned (.int .i64 t.lm) ∧ w = w' := by
  have c3 : w.cell? ⟨p, 3, none⟩ = some (.int .i64 t.lm) := cell_of h rfl
  clear h
  go_enter Try.func16, Try.ntmps16
  go_wp2_with fail
  go_ret
  exact ⟨rfl, rfl⟩
theorem heard_any {w : World} {p : Nat} {t : Tm} (h : TimW w p t) : Calls Try.prog 12 #[.pointer (some ⟨p, 0, none⟩)] w fun e w' => e = .returned (.tuple #[]) ∧ TimW w' p (heard t) ∧ Wr p w w' := by
  have c2 : w.cell? ⟨p, 2, none⟩ = some (.int .i64 t.wt) := cell_of h rfl
  have f2 := frozen_of_row w p 2 _ _ h
  have HE : Hid (TimW (w.setCell ⟨p, 2, none⟩ (.int .i64 0)) p (heard t) ∧ Wr p w (w.setCell ⟨p, 2, none⟩ (.int .i64 0))) := Lib.hid ⟨h.wait 0, (Wr.refl p w).set 2 _⟩
  clear h
  go_enter Try.func12, Try.ntmps12
  go_wp2_with fail
  go_end0
  exact ⟨rfl, HE.out⟩
theorem Wr.drewN (r : Nat) (w : World) (n : Nat) : Wr r w (w.drewN n) := ⟨below_drewN (Below.refl _ _) _, fun _ _ => rfl⟩
theorem TimW.drewN {w : World} {p : Nat} {t : Tm} (h : TimW w p t) (n : Nat) : TimW (w.drewN n) p t := h
theorem grow_any {w : World} {p : Nat} {t : Tm} (h : TimW w p t) (h1 : 1 ≤ t.gr) (h2 : t.gr ≤ 9000) (h3 : 0 ≤ t.lm) (h4 : t.lm ≤ 1000000) : Calls Try.prog 21 #[.pointer (some ⟨p, 0, none⟩)] w fun e w' => e = .returned (.tuple #[]) ∧ TimW w' p (longer t) ∧ Wr p w w' := by
  have c3 : w.cell? ⟨p, 3, none⟩ = some (.int .i64 t.lm) := cell_of h rfl
  have c1 : w.cell? ⟨p, 1, none⟩ = some (.int .i64 t.gr) := cell_of h rfl
  have hw : IntKind.i64.wrap (t.lm + t.gr) = t.lm + t.gr := by rw [IntKind.wrap_i64]; omega
  have HT := Lib.hid h
  clear h h1 h2 h3 h4
  by_cases hle : t.lm + t.gr ≤ 1000000
  · go_enter Try.func21, Try.ntmps21
    go_upto_region 0 with fail
    go_quiet (fail)
    obtain ⟨w1, hw1⟩ : ∃ W, W = w.drewN nq := ⟨_, rfl⟩
    have HT1 : Hid (TimW w1 p t ∧ Wr p w w1) := Lib.hid (by rw [hw1]; exact ⟨HT.out.drewN nq, Wr.drewN p w nq⟩)
    have f3 := frozen_of_row w1 p 3 _ _ HT1.out.1
    have d3 : w1.cell? ⟨p, 3, none⟩ = some (.int .i64 t.lm) := cell_of HT1.out.1 rfl
    rw [← hw1]
    clear hw1 c1 c3
    have HE : Hid (TimW (w1.setCell ⟨p, 3, none⟩ (.int .i64 (t.lm + t.gr))) p (longer t) ∧ Wr p w (w1.setCell ⟨p, 3, none⟩ (.int .i64 (t.lm + t.gr)))) := Lib.hid ⟨by
      have := HT1.out.1.limit (t.lm + t.gr)
      unfold longer more
      rw [if_pos hle]
      exact this, HT1.out.2.set 3 _⟩
    go_wp2_with fail
    go_end0
    exact ⟨rfl, HE.out⟩
  · go_enter Try.func21, Try.ntmps21
    go_upto_region 0 with fail
    go_quiet (fail)
    obtain ⟨w1, hw1⟩ : ∃ W, W = w.drewN nq := ⟨_, rfl⟩
    have HT1 : Hid (TimW w1 p t ∧ Wr p w w1) := Lib.hid (by rw [hw1]; exact ⟨HT.out.drewN nq, Wr.drewN p w nq⟩)
    rw [← hw1]
    clear hw1 c1 c3
    have HE : Hid (TimW w1 p (longer t)) := Lib.hid (by
      unfold longer more
      rw [if_neg hle]
      exact HT1.out.1)
    go_wp2_with fail
    go_end0
    exact ⟨rfl, HE.out, HT1.out.2⟩
end Go.Proofs.Ytbgobchmkohhnaa
