/-
  What Len, All, Clone and New of a table return and leave. No condition but the row's length.
-/
import Derived.Test.YtfejapaoflikhaaDoorWAdd
namespace Go.Proofs.YtfejapaoflikhaaDoor
set_option maxRecDepth 100000
open Go.ChangeShapes Go.WideShapes Go.ChangeAt Go.RowKit Go.Proofs.Zn Go.Proofs.Wa

theorem nil_yes (W : World) : (binOp .eql 37 (.slice none 0 0) (.slice none 0 0)).run Tryd.prog W = .ok (.bool true) W := by
  kernel_rfl
theorem nil_no (W : World) (a : Addr) (n c : Nat) : (binOp .eql 37 (.slice (some a) n c) (.slice none 0 0)).run Tryd.prog W = .ok (.bool false) W := by
  kernel_rfl
def AlPost (w : World) (L : Tb) (e : Ending) (w' : World) : Prop := ∃ A c, e = .returned (.slice A L.length c) ∧ w'.ownsRow w.heap.size 45 3 (.slice A L.length c) L.length (wcells L) ∧ Below w.heap.size w w'
set_option maxHeartbeats 2000000 in
theorem slclone_any {w : World} {Bs : Nat} {A : Option Addr} {n c : Nat} {L : Tb} (ho : w.ownsRow Bs 45 3 (.slice A n c) n (wcells L)) (hl : L.length = n) (hn : n ≤ 100000) :
    Calls Tryd.prog 23 #[.slice A n c] w (AlPost w L) := by
  have HL := Lib.hid hl
  rcases A with _ | ad
  · have hn0 : n = 0 ∧ c = 0 := by
      rcases ho.2 with ⟨e1, rfl⟩ | ⟨g, cap, cur, e1, _⟩
      · injection e1 with _ _ e3; exact ⟨rfl, e3⟩
      · injection e1 with e1; cases e1
    obtain ⟨rfl, rfl⟩ := hn0
    have HE : Hid (AlPost w L (.returned (.slice none 0 0)) w) := Lib.hid (by
      have : L = [] := List.eq_nil_of_length_eq_zero HL.out
      subst this
      exact ⟨none, 0, rfl, World.ownsRow_nil _ _ _ _, Below.refl _ _⟩)
    have hnil := nil_yes
    clear ho hl
    go_enter Tryd.func23, Tryd.ntmps23
    go_wp2_with fail
    go_ret
    exact HE.out
  · have hr := Rd.of_own (cell := wcell) (l := L) ho (fun _ _ => rfl) (by omega)
    have HO := Lib.hid ho
    obtain ⟨w1, hw1⟩ : ∃ w1, w1 = w.alloc (.cells #[] 45) := ⟨_, rfl⟩
    have hb1 : Below w.heap.size w w1 := by rw [hw1]; exact box_below w _
    obtain ⟨q, eq⟩ : ∃ q, q = w.heap.size := ⟨_, rfl⟩
    have hq : w1.heap[q]? = some (.cells #[] 45 (0, 0)) := by rw [hw1, eq]; exact new_block w _
    have ho1 : w1.ownsRow w.heap.size 45 3 (.slice (some ⟨q, 0, none⟩) 0 0) 0 [] := own_new hq (by omega) (by unfold maxLen; omega) rfl
    have hr1 := hr.below hb1
    obtain ⟨i0, hi, hz0, hz1, hz2⟩ := info_parts infoW
    have HW1 := Lib.hid hw1
    have EQ := Lib.hid eq
    have HB1 := Lib.hid hb1
    have hsz := hb1.size
    have hnil := fun W => nil_no W ad n c
    clear ho hw1 eq hr hb1 hq hl
    go_enter Tryd.func23, Tryd.ntmps23
    go_wp2_with (at_builtin; rw [← HW1.out, ← EQ.out]; refine wpList_append_rd rfl _ _ 37 rfl w.heap.size 45 i0 _ 3 32 Tryd.underlying37 hi hz0 hz1 hz2 rfl (by decide) _ _ _ rfl ho1 _ _ c L rfl hr1 (fun _ _ => rfl) wcell_one (fun h => by cases h) (by unfold maxLen; omega) (by omega) (by omega) ?_; intro v2 w2 hown2 hg2)
    have HE : Hid (AlPost w L (.returned v2) w2) := Lib.hid (by
      rw [Nat.zero_add, List.nil_append] at hown2
      obtain ⟨A2, c2, rfl, -, -, -⟩ := own_form hown2
      rw [← HL.out] at hown2 ⊢
      exact ⟨A2, c2, rfl, hown2, HB1.out.trans (gb_own ho1 hg2 (Nat.le_refl _) hsz)⟩)
    clear hown2 hg2 hr1 ho1
    go_wp2_with fail
    go_ret
    exact HE.out
theorem len_any {w : World} {Bs tp : Nat} {v : Value} {L : Tb} (ht : TabW w Bs tp v L) : Calls Tryd.prog 12 #[.pointer (some ⟨tp, 0, none⟩)] w fun e w' => e = .returned (.int .i64 (L.length : Nat)) ∧ w = w' := by
  obtain ⟨A, c, rfl, -, -, -⟩ := ht.rd
  have t0 := cell_of ht.here (j := 0) rfl
  clear ht
  go_enter Tryd.func12, Tryd.ntmps12
  go_wp2_with fail
  go_ret
  exact ⟨rfl, rfl⟩
theorem all_any {w : World} {Bs tp : Nat} {v : Value} {L : Tb} (ht : TabW w Bs tp v L) (hn : L.length ≤ 100000) : Calls Tryd.prog 14 #[.pointer (some ⟨tp, 0, none⟩)] w (AlPost w L) := by
  obtain ⟨A, c, rfl, -, -, -⟩ := ht.rd
  have HC := Lib.hid (slclone_any ht.row rfl hn)
  have t0 := cell_of ht.here (j := 0) rfl
  clear ht
  go_enter Tryd.func14, Tryd.ntmps14
  go_wp2_with fail
  refine HC.out.mono ?_
  intro e w1 h1
  have HE := Lib.hid h1
  obtain ⟨A1, c1, rfl, -⟩ := h1
  go_wp2_with fail
  go_ret
  exact HE.out
/-- A table that is new. -/
def NwPost (w : World) (L : Tb) (e : Ending) (w' : World) : Prop := ∃ tp v, e = .returned (.pointer (some ⟨tp, 0, none⟩)) ∧ TabW w' w.heap.size tp v L ∧ Below w.heap.size w w' ∧ tp < w'.heap.size ∧ v.ownBlock ≠ some tp
theorem nw_of {w w1 : World} {L : Tb} {v : Value} (ho : w1.ownsRow w.heap.size 45 3 v L.length (wcells L)) (hb : Below w.heap.size w w1) : NwPost w L (.returned (.pointer (some ⟨w1.heap.size, 0, none⟩))) (w1.alloc (.cells #[v] 53)) := by
  have h1 := new_block w1 (.cells #[v] 53)
  have h2 := box_below w1 (.cells #[v] 53)
  have h3 := own_below ho h2
  exact ⟨w1.heap.size, v, rfl, ⟨h1, h3, hb.size⟩, hb.trans (h2.mono hb.size), blk_lt h1, own_ne h3 h1 (by decide)⟩
theorem wclone_any {w : World} {Bs tp : Nat} {v : Value} {L : Tb} (ht : TabW w Bs tp v L) (hn : L.length ≤ 100000) : Calls Tryd.prog 18 #[.pointer (some ⟨tp, 0, none⟩)] w (NwPost w L) := by
  have HA := Lib.hid (all_any ht hn)
  clear ht
  go_enter Tryd.func18, Tryd.ntmps18
  go_wp2_with fail
  refine HA.out.mono ?_
  rintro e w1 ⟨A1, c1, rfl, h1, h2⟩
  have HE := Lib.hid (nw_of h1 h2)
  clear h1 h2
  go_wp2_with fail
  go_ret
  exact HE.out
theorem new_any (w : World) : Calls Tryd.prog 9 #[] w (NwPost w []) := by
  have HE := Lib.hid (nw_of (w1 := w) (L := []) (World.ownsRow_nil _ _ _ _) (Below.refl _ _))
  go_enter Tryd.func9, Tryd.ntmps9
  go_wp2_with fail
  go_ret
  exact HE.out
end Go.Proofs.YtfejapaoflikhaaDoor
