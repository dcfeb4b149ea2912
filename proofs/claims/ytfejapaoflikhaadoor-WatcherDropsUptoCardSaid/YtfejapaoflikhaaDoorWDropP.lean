/-
  What Drop of a table returns and leaves. Condition: the table is good.
-/
import Derived.Test.YtfejapaoflikhaaDoorWDel
namespace Go.Proofs.YtfejapaoflikhaaDoor
set_option maxRecDepth 100000
open Go.ChangeShapes Go.WideShapes Go.ChangeAt Go.RowKit Go.Proofs.Zn Go.Proofs.Wa

/-- What a call leaves of a table. -/
def KpPost (Bs tp : Nat) (v : Value) (M : Tb) (w w' : World) : Prop := ∃ v', TabW w' Bs tp v' M ∧ TK w w' tp v ∧ ∀ g, v'.ownBlock = some g → v.ownBlock = some g ∨ w.heap.size ≤ g
theorem kp_end {w w6 w8 : World} {Bs tp : Nat} {v v8 : Value} {L M : Tb} (ht : TabW w Bs tp v L) (hb : Below w.heap.size w w6) (h1 : w8.ownsRow Bs 45 3 v8 M.length (wcells M)) (h2 : w6.grownBy w8 v.ownBlock) (h3 : v8.ownBlock = v.ownBlock) :
    KpPost Bs tp v M w (w8.setCell ⟨tp, 0, none⟩ v8) := by
  obtain ⟨v', -, h⟩ := ad_end (H' := .cells #[] 0) ht hb (ht.below hb) h1 h2 (fun g hg => .inl (by rw [← h3]; exact hg))
  exact ⟨v', h⟩
set_option maxHeartbeats 4000000 in
theorem drop_any {w : World} {Bs tp : Nat} {v : Value} {L : Tb} (ht : TabW w Bs tp v L) (hn : L.length ≤ 2000) (s : Int) :
    Calls Tryd.prog 19 #[.pointer (some ⟨tp, 0, none⟩), .int .i64 s] w fun e w' => e = .returned (.tuple #[]) ∧ KpPost Bs tp v (drop L s) w w' := by
  obtain ⟨w1, hw1⟩ : ∃ w1, w1 = w.alloc (.cells #[.int .i64 s] 3) := ⟨_, rfl⟩
  obtain ⟨q, eq⟩ : ∃ q, q = w.heap.size := ⟨_, rfl⟩
  have hb1 : Below w.heap.size w w1 := by rw [hw1]; exact box_below w _
  have hq : w1.heap[q]? = some (.cells #[.int .i64 s] 3 (0, 0)) := by rw [hw1, eq]; exact new_block w _
  have ht1 := ht.below hb1
  obtain ⟨A, c, rfl, -, -, -⟩ := ht.rd
  have HD := Lib.hid (fun W (h : Below w1.heap.size w1 W) => dfuncD_any Bs A L.length c L W q #[.int .i64 s] 3 (fun x => x.s == s) (own_below ht1.row h) rfl (blk_below hq h) (by decide) ⟨fun W x h => dclo_any W q s x h⟩ hn)
  have HT := Lib.hid ht
  have HB1 := Lib.hid hb1
  have HW1 := Lib.hid hw1
  have EQ := Lib.hid eq
  have t0 := cell_of ht1.here (j := 0) rfl
  clear ht hw1 eq hb1 hq ht1
  go_enter Tryd.func19, Tryd.ntmps19
  go_upto_region 1 with fail
  rw [← HW1.out, ← EQ.out]
  go_wp2_with fail
  refine (HD.out _ (Below.refl _ _)).mono ?_
  rintro e w8 ⟨rfl, h1, h2⟩
  have hh8 := gb_blk h2 (HT.out.below HB1.out)
  have y0 := cell_of hh8 (j := 0) rfl
  have y1 := frozen_of_row w8 tp 0 _ _ hh8
  have HE := Lib.hid (kp_end HT.out HB1.out h1 h2 (by cases A <;> rfl))
  clear h1 h2 hh8 t0
  go_wp2_with fail
  go_end0
  exact ⟨rfl, HE.out⟩
end Go.Proofs.YtfejapaoflikhaaDoor
