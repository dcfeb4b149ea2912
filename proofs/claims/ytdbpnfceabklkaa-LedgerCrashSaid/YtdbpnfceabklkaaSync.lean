/-
  What Sync leaves of the program's disk: nothing waits; or it dies; or it is told that it is dead. No condition.
-/
import Derived.Test.YtdbpnfceabklkaaLay
namespace Go.Proofs.Ytdbpnfceabklkaa
open Go.ChangeShapes Go.WideShapes Go.ChangeAt Go.RowKit

/-- What Sync leaves. -/
def SyPost (w : World) (B p : Nat) (D : Dk) (e : Ending) (w' : World) : Prop :=
  e = .returned (.int .i64 (doD D 2 0 0 []).2.2) ∧ PDisk w' B p (doD D 2 0 0 []).1 ∧ Kp B w w'
theorem do_sync_dead {D : Dk} (hd : D.dead = true) : doD D 2 0 0 [] = (D, [], 40) := by
  unfold doD
  rw [if_neg (by decide), if_neg (by decide), if_neg (by decide), if_pos hd]
theorem do_sync {D : Dk} (hd : D.dead = false) : doD D 2 0 0 [] = if (dies D).dead = true then (dies D, [], 40) else (syncD (dies D), [], 0) := by
  unfold doD
  rw [if_neg (by decide), if_neg (by decide), if_neg (by decide), if_neg (by simp [hd]), if_pos rfl]
/-- A disk behind a call that counts. -/
theorem spent_pd {w w6 : World} {B p : Nat} {D : Dk} {sv wv : Value} {left : Int} {e : Ending} (h : PD w B p D sv wv left) (hd : D.dead = false) (h6 : SpendPost w p sv wv left D.dead e w6) :
    PD w6 B p (dies D) sv wv (if 1 < left then left - 1 else left) ∧ Kp B w w6 ∧ (dies D).dead = (if left = 1 then true else false) := by
  obtain ⟨_, ⟨v, j, hw⟩, hst⟩ := h6
  have hlife := spend_life hd (h.life hd)
  have hk : Kp B w w6 ∧ w6.ownsRow B 87 64 sv D.firm.length (flat (cur D)) ∧ w6.ownsRow B 91 65 wv D.wait.length (wcells (was D.firm D.wait)) := by
    rcases hw with rfl | rfl
    · exact ⟨struct_kp h.base h.here j v, struct_row h.secs h.here (by decide) rfl _ _, struct_row h.wrs h.here (by decide) rfl _ _⟩
    · exact ⟨Kp.refl _ _, h.secs, h.wrs⟩
  refine ⟨⟨dies_dok h.ok, h.base, ?_, ?_, ?_, ?_, hlife.2⟩, hk.1, hlife.1⟩
  · rw [hlife.1]; rw [hd] at hst; exact hst
  · unfold cur; rw [dies_firm, dies_wait]; exact hk.2.1
  · rw [dies_firm, dies_wait]; exact hk.2.2
  · have := h.left_hi
    split <;> omega
theorem sync_set {w : World} {B p : Nat} {D : Dk} {sv wv : Value} {left : Int} (h : PD w B p D sv wv left) : PDisk (w.setCell ⟨p, 1, none⟩ (.slice none 0 0)) B p (syncD D) ∧ Kp B w (w.setCell ⟨p, 1, none⟩ (.slice none 0 0)) := by
  refine ⟨⟨sv, .slice none 0 0, left, sync_dok h.ok, h.base, struct_wait h.here _, ?_, World.ownsRow_nil _ _ _ _, h.left_hi, h.life⟩, struct_kp h.base h.here _ _⟩
  show (w.setCell _ _).ownsRow B 87 64 sv (cur D).length (flat (ups (cur D) []))
  rw [cur_len]
  exact struct_row h.secs h.here (by decide) rfl _ _
theorem sync_any (B p : Nat) (D : Dk) (w : World) (h : PDisk w B p D) : Calls Try.prog 50 #[.pointer (some ⟨p, 0, none⟩)] w (SyPost w B p D) := by
  obtain ⟨sv, wv, left, h⟩ := h
  have H := Lib.hid h
  obtain ⟨c0, c1, c2, c3⟩ := h.cell
  cases hd : D.dead with
  | true =>
    have HX := Lib.hid (do_sync_dead hd)
    rw [hd] at c3
    clear h hd
    go_enter Try.func50, Try.ntmps50
    go_wp2_with fail
    go_ret
    exact ⟨by rw [HX.out]; rfl, by rw [HX.out]; exact ⟨_, _, _, H.out⟩, Kp.refl _ _⟩
  | false =>
    have HD := Lib.hid hd
    have HX := Lib.hid (do_sync hd)
    have HS := Lib.hid (spend_any p sv wv left D.dead w h.here h.left_hi)
    rw [hd] at c3
    clear h hd
    go_enter Try.func50, Try.ntmps50
    go_wp2_with fail
    refine HS.out.mono ?_
    intro e w6 hs6
    have HP := Lib.hid (spent_pd H.out HD.out hs6)
    obtain ⟨rfl, -⟩ := hs6
    have d1 := HP.out.1.cell.2.1
    have g1 := HP.out.1.free 1
    by_cases h1 : left = 1
    · have HE : Hid (doD D 2 0 0 [] = (dies D, [], 40)) := Lib.hid (by rw [HX.out, if_pos (by rw [HP.out.2.2, if_pos h1])])
      rw [if_pos h1]
      clear h1
      go_wp2
      go_ret
      exact ⟨by rw [HE.out]; rfl, by rw [HE.out]; exact ⟨_, _, _, HP.out.1⟩, HP.out.2.1⟩
    · have HE : Hid (doD D 2 0 0 [] = (syncD (dies D), [], 0)) := Lib.hid (by rw [HX.out, if_neg (by rw [HP.out.2.2, if_neg h1]; decide)])
      have HY := Lib.hid (sync_set HP.out.1)
      rw [if_neg h1]
      clear h1
      go_wp2
      go_ret
      exact ⟨by rw [HE.out]; rfl, by rw [HE.out]; exact HY.out.1, HP.out.2.1.trans HY.out.2⟩
end Go.Proofs.Ytdbpnfceabklkaa
