/-
  What the functions that make one field return, the program's and the document's. No condition.
  What ofTxn and ofChange return: the fields of a transaction, of a change. No condition.
  Plain mathematics of how a transaction is written and read. Condition: versions fit.
-/
import Derived.Test.YtflgemlhocjipaaGreatDoorSMem
import Derived.Test.YtflgemlhocjipaaGreatDoorQDec
import Derived.Test.YtflgemlhocjipaaGreatDoorSMath
import Derived.Test.YtflgemlhocjipaaGreatDoorDepth
namespace Go.Proofs.YtflgemlhocjipaaGreatDoor
set_option maxRecDepth 100000
open Go.ChangeShapes Go.WideShapes Go.ChangeAt Go.RowKit Go.Proofs.Zn Go.Proofs.Zt
open Go.Proofs.Zs (St Lst Rep Tx)
open Pq (Fld FReads Reads fcs errL bytL)

theorem infoF : (Tryz.prog.info? 112).map (fun i => (i.zero, i.size, i.bytes)) = some (some (.agg #[.int .i64 0, .int .i64 0, .string ⟨#[]⟩]), 3, 32) := by kernel_rfl
def FPost (w : World) (f : Fld) (e : Ending) (w' : World) : Prop := e = .returned (.agg #[.int .i64 f.k, .int .i64 f.n, .string f.s]) ∧ Below w.heap.size w w'
theorem set3f {w : World} {r : Nat} {cs : Array Value} {t : TypeId} (h : w.heap[r]? = some (.cells cs t (0, 0))) (hs : cs.size = 3) (a b c : Value) :
    (((w.setCell ⟨r, 0, none⟩ a).setCell ⟨r, 1, none⟩ b).setCell ⟨r, 2, none⟩ c).heap[r]? = some (.cells #[a, b, c] t (0, 0)) := by
  have h1 := heap_setCell_same w r 0 _ t a h
  have h2 := heap_setCell_same _ r 1 _ t b h1
  have h3 := heap_setCell_same _ r 2 _ t c h2
  rw [h3]
  congr 2
  obtain ⟨l⟩ := cs
  match l, hs with
  | [x, y, z], _ => rfl
theorem res_field {fn : Func} {p : Tmp} (h : fn.results = #[.cell p 112]) (tmps : Array Value) (w : World) (b : Nat) (x y : Int) (s : ByteArray) (hp : tmps.getD p undef = .pointer (some ⟨b, 0, none⟩))
    (h4 : w.heap[b]? = some (.cells #[.int .i64 x, .int .i64 y, .string s] 112 (0, 0))) :
    (results fn tmps).run Tryz.prog w = .ok (.agg #[.int .i64 x, .int .i64 y, .string s]) w := by
  have hp' : tmps[p]?.getD undef = .pointer (some ⟨b, 0, none⟩) := by simpa using hp
  have c0 := cell_of h4 (j := 0) rfl
  have c1 := cell_of h4 (j := 1) rfl
  have c2 := cell_of h4 (j := 2) rfl
  simp [results, h, hp', asAddr, go_sem, c0, c1, c2]
theorem small_any (n : Int) (w : World) : Calls Tryz.prog 91 #[.int .i64 n] w (FPost w ⟨1, n, ⟨#[]⟩⟩) := by
  obtain ⟨w2, hw2⟩ : ∃ w2, w2 = w.alloc (.cells #[.int .i64 0, .int .i64 0, .string ⟨#[]⟩] 112) := ⟨_, rfl⟩
  obtain ⟨q, eq⟩ : ∃ q, q = w.heap.size := ⟨_, rfl⟩
  have hb2 : Below w.heap.size w w2 := by rw [hw2]; exact box_below w _
  have hq : w2.heap[q]? = some (.cells #[.int .i64 0, .int .i64 0, .string ⟨#[]⟩] 112 (0, 0)) := by rw [hw2, eq]; exact new_block w _
  have q0 := cell_of hq (j := 0) rfl
  have q1 := cell_of hq (j := 1) rfl
  have q2 := cell_of hq (j := 2) rfl
  have f0 := frozen_of_row w2 q 0 _ _ hq
  have f1 := frozen_of_row w2 q 1 _ _ hq
  have f2 := frozen_of_row w2 q 2 _ _ hq
  obtain ⟨w4, hw4⟩ : ∃ w4, w4 = ((w2.setCell ⟨q, 0, none⟩ (.int .i64 1)).setCell ⟨q, 1, none⟩ (.int .i64 n)).setCell ⟨q, 2, none⟩ (.string ⟨#[]⟩) := ⟨_, rfl⟩
  have h4 : w4.heap[q]? = some (.cells #[.int .i64 1, .int .i64 n, .string ⟨#[]⟩] 112 (0, 0)) := by rw [hw4]; exact set3f hq rfl _ _ _
  have HB4 : Hid (Below w.heap.size w w4) := Lib.hid (by rw [hw4]; exact ((hb2.setCell (Nat.le_of_eq eq.symm) _).setCell (Nat.le_of_eq eq.symm) _).setCell (Nat.le_of_eq eq.symm) _)
  have H4 := Lib.hid h4
  have HW2 := Lib.hid hw2
  have HW4 := Lib.hid hw4
  have EQ := Lib.hid eq
  clear hw2 hw4 eq hb2 hq h4
  go_enter Tryz.func91, Tryz.ntmps91
  go_upto_region 1 with fail
  rw [← HW2.out, ← EQ.out]
  go_wp2_with fail
  rw [← HW4.out]
  exact bodyPost_ret (res_field Tryz.results91 _ _ q _ _ _ (by simp) H4.out) rfl ⟨rfl, HB4.out⟩
theorem whole_any (n : Int) (w : World) : Calls Tryz.prog 92 #[.int .i64 n] w (FPost w ⟨2, n, ⟨#[]⟩⟩) := by
  obtain ⟨w2, hw2⟩ : ∃ w2, w2 = w.alloc (.cells #[.int .i64 0, .int .i64 0, .string ⟨#[]⟩] 112) := ⟨_, rfl⟩
  obtain ⟨q, eq⟩ : ∃ q, q = w.heap.size := ⟨_, rfl⟩
  have hb2 : Below w.heap.size w w2 := by rw [hw2]; exact box_below w _
  have hq : w2.heap[q]? = some (.cells #[.int .i64 0, .int .i64 0, .string ⟨#[]⟩] 112 (0, 0)) := by rw [hw2, eq]; exact new_block w _
  have q0 := cell_of hq (j := 0) rfl
  have q1 := cell_of hq (j := 1) rfl
  have q2 := cell_of hq (j := 2) rfl
  have f0 := frozen_of_row w2 q 0 _ _ hq
  have f1 := frozen_of_row w2 q 1 _ _ hq
  have f2 := frozen_of_row w2 q 2 _ _ hq
  obtain ⟨w4, hw4⟩ : ∃ w4, w4 = ((w2.setCell ⟨q, 0, none⟩ (.int .i64 2)).setCell ⟨q, 1, none⟩ (.int .i64 n)).setCell ⟨q, 2, none⟩ (.string ⟨#[]⟩) := ⟨_, rfl⟩
  have h4 : w4.heap[q]? = some (.cells #[.int .i64 2, .int .i64 n, .string ⟨#[]⟩] 112 (0, 0)) := by rw [hw4]; exact set3f hq rfl _ _ _
  have HB4 : Hid (Below w.heap.size w w4) := Lib.hid (by rw [hw4]; exact ((hb2.setCell (Nat.le_of_eq eq.symm) _).setCell (Nat.le_of_eq eq.symm) _).setCell (Nat.le_of_eq eq.symm) _)
  have H4 := Lib.hid h4
  have HW2 := Lib.hid hw2
  have HW4 := Lib.hid hw4
  have EQ := Lib.hid eq
  clear hw2 hw4 eq hb2 hq h4
  go_enter Tryz.func92, Tryz.ntmps92
  go_upto_region 1 with fail
  rw [← HW2.out, ← EQ.out]
  go_wp2_with fail
  rw [← HW4.out]
  exact bodyPost_ret (res_field Tryz.results92 _ _ q _ _ _ (by simp) H4.out) rfl ⟨rfl, HB4.out⟩
theorem text_any (s : ByteArray) (w : World) : Calls Tryz.prog 93 #[.string s] w (FPost w ⟨3, 0, s⟩) := by
  obtain ⟨w2, hw2⟩ : ∃ w2, w2 = w.alloc (.cells #[.int .i64 0, .int .i64 0, .string ⟨#[]⟩] 112) := ⟨_, rfl⟩
  obtain ⟨q, eq⟩ : ∃ q, q = w.heap.size := ⟨_, rfl⟩
  have hb2 : Below w.heap.size w w2 := by rw [hw2]; exact box_below w _
  have hq : w2.heap[q]? = some (.cells #[.int .i64 0, .int .i64 0, .string ⟨#[]⟩] 112 (0, 0)) := by rw [hw2, eq]; exact new_block w _
  have q0 := cell_of hq (j := 0) rfl
  have q1 := cell_of hq (j := 1) rfl
  have q2 := cell_of hq (j := 2) rfl
  have f0 := frozen_of_row w2 q 0 _ _ hq
  have f1 := frozen_of_row w2 q 1 _ _ hq
  have f2 := frozen_of_row w2 q 2 _ _ hq
  obtain ⟨w4, hw4⟩ : ∃ w4, w4 = ((w2.setCell ⟨q, 0, none⟩ (.int .i64 3)).setCell ⟨q, 1, none⟩ (.int .i64 0)).setCell ⟨q, 2, none⟩ (.string s) := ⟨_, rfl⟩
  have h4 : w4.heap[q]? = some (.cells #[.int .i64 3, .int .i64 0, .string s] 112 (0, 0)) := by rw [hw4]; exact set3f hq rfl _ _ _
  have HB4 : Hid (Below w.heap.size w w4) := Lib.hid (by rw [hw4]; exact ((hb2.setCell (Nat.le_of_eq eq.symm) _).setCell (Nat.le_of_eq eq.symm) _).setCell (Nat.le_of_eq eq.symm) _)
  have H4 := Lib.hid h4
  have HW2 := Lib.hid hw2
  have HW4 := Lib.hid hw4
  have EQ := Lib.hid eq
  clear hw2 hw4 eq hb2 hq h4
  go_enter Tryz.func93, Tryz.ntmps93
  go_upto_region 1 with fail
  rw [← HW2.out, ← EQ.out]
  go_wp2_with fail
  rw [← HW4.out]
  exact bodyPost_ret (res_field Tryz.results93 _ _ q _ _ _ (by simp) H4.out) rfl ⟨rfl, HB4.out⟩
theorem field_any (k n : Int) (s : ByteArray) (w : World) : Calls Tryz.prog 54 #[.int .i64 k, .int .i64 n, .string s] w (FPost w ⟨k, n, s⟩) := by
  obtain ⟨w2, hw2⟩ : ∃ w2, w2 = w.alloc (.cells #[.int .i64 0, .int .i64 0, .string ⟨#[]⟩] 112) := ⟨_, rfl⟩
  obtain ⟨q, eq⟩ : ∃ q, q = w.heap.size := ⟨_, rfl⟩
  have hb2 : Below w.heap.size w w2 := by rw [hw2]; exact box_below w _
  have hq : w2.heap[q]? = some (.cells #[.int .i64 0, .int .i64 0, .string ⟨#[]⟩] 112 (0, 0)) := by rw [hw2, eq]; exact new_block w _
  have q0 := cell_of hq (j := 0) rfl
  have q1 := cell_of hq (j := 1) rfl
  have q2 := cell_of hq (j := 2) rfl
  have f0 := frozen_of_row w2 q 0 _ _ hq
  have f1 := frozen_of_row w2 q 1 _ _ hq
  have f2 := frozen_of_row w2 q 2 _ _ hq
  obtain ⟨w4, hw4⟩ : ∃ w4, w4 = ((w2.setCell ⟨q, 0, none⟩ (.int .i64 k)).setCell ⟨q, 1, none⟩ (.int .i64 n)).setCell ⟨q, 2, none⟩ (.string s) := ⟨_, rfl⟩
  have h4 : w4.heap[q]? = some (.cells #[.int .i64 k, .int .i64 n, .string s] 112 (0, 0)) := by rw [hw4]; exact set3f hq rfl _ _ _
  have HB4 : Hid (Below w.heap.size w w4) := Lib.hid (by rw [hw4]; exact ((hb2.setCell (Nat.le_of_eq eq.symm) _).setCell (Nat.le_of_eq eq.symm) _).setCell (Nat.le_of_eq eq.symm) _)
  have H4 := Lib.hid h4
  have HW2 := Lib.hid hw2
  have HW4 := Lib.hid hw4
  have EQ := Lib.hid eq
  clear hw2 hw4 eq hb2 hq h4
  go_enter Tryz.func54, Tryz.ntmps54
  go_upto_region 1 with fail
  rw [← HW2.out, ← EQ.out]
  go_wp2_with fail
  rw [← HW4.out]
  exact bodyPost_ret (res_field Tryz.results54 _ _ q _ _ _ (by simp) H4.out) rfl ⟨rfl, HB4.out⟩
def b2i (b : Bool) : Int := if b then 1 else 0
theorem vnum_any (b : Bool) (w : World) : Calls Tryz.prog 55 #[.bool b] w fun e w' => e = .returned (.int .i64 (b2i b)) ∧ w = w' := by
  cases b with
  | true =>
    go_enter Tryz.func55, Tryz.ntmps55
    go_wp2_with fail
    go_ret
    exact ⟨rfl, rfl⟩
  | false =>
    go_enter Tryz.func55, Tryz.ntmps55
    go_wp2_with fail
    go_ret
    exact ⟨rfl, rfl⟩
theorem flag_any (b : Bool) (w : World) : Calls Tryz.prog 94 #[.bool b] w (FPost w ⟨4, b2i b, ⟨#[]⟩⟩) := by
  obtain ⟨w2, hw2⟩ : ∃ w2, w2 = w.alloc (.cells #[.int .i64 0, .int .i64 0, .string ⟨#[]⟩] 112) := ⟨_, rfl⟩
  obtain ⟨q, eq⟩ : ∃ q, q = w.heap.size := ⟨_, rfl⟩
  have hb2 : Below w.heap.size w w2 := by rw [hw2]; exact box_below w _
  have hq : w2.heap[q]? = some (.cells #[.int .i64 0, .int .i64 0, .string ⟨#[]⟩] 112 (0, 0)) := by rw [hw2, eq]; exact new_block w _
  cases b with
  | true =>
    obtain ⟨w3, hw3⟩ : ∃ w3, w3 = w2.alloc (.cells #[.int .i64 4, .int .i64 0, .string ⟨#[]⟩] 112) := ⟨_, rfl⟩
    obtain ⟨r, er⟩ : ∃ r, r = w2.heap.size := ⟨_, rfl⟩
    have hb3 : Below w2.heap.size w2 w3 := by rw [hw3]; exact box_below w2 _
    have hr : w3.heap[r]? = some (.cells #[.int .i64 4, .int .i64 0, .string ⟨#[]⟩] 112 (0, 0)) := by rw [hw3, er]; exact new_block w2 _
    have hq3 := blk_below hq hb3
    have hne : q ≠ r := by have := blk_lt hq; omega
    obtain ⟨w5, hw5⟩ : ∃ w5, w5 = w3.setCell ⟨r, 1, none⟩ (.int .i64 1) := ⟨_, rfl⟩
    have hr5 : w5.heap[r]? = some (.cells #[.int .i64 4, .int .i64 1, .string ⟨#[]⟩] 112 (0, 0)) := by rw [hw5]; exact heap_setCell_same w3 r 1 _ 112 _ hr
    have hq5 : w5.heap[q]? = some (.cells #[.int .i64 0, .int .i64 0, .string ⟨#[]⟩] 112 (0, 0)) := by rw [hw5]; exact (Go.Deep.blk_setCell_other w3 _ _ q hne).trans hq3
    have hb5 : Below w.heap.size w w5 := by rw [hw5]; exact (hb2.trans (hb3.mono hb2.size)).setCell (by show w.heap.size ≤ r; rw [er]; exact hb2.size) _
    have r1 := cell_of hr (j := 1) rfl
    have g1 := frozen_of_row w3 r 1 _ _ hr
    have s0 := cell_of hr5 (j := 0) rfl
    have s1 := cell_of hr5 (j := 1) rfl
    have s2 := cell_of hr5 (j := 2) rfl
    have q0 := cell_of hq5 (j := 0) rfl
    have q1 := cell_of hq5 (j := 1) rfl
    have q2 := cell_of hq5 (j := 2) rfl
    have f0 := frozen_of_row w5 q 0 _ _ hq5
    have f1 := frozen_of_row w5 q 1 _ _ hq5
    have f2 := frozen_of_row w5 q 2 _ _ hq5
    obtain ⟨w6, hw6⟩ : ∃ w6, w6 = ((w5.setCell ⟨q, 0, none⟩ (.int .i64 4)).setCell ⟨q, 1, none⟩ (.int .i64 1)).setCell ⟨q, 2, none⟩ (.string ⟨#[]⟩) := ⟨_, rfl⟩
    have h6 : w6.heap[q]? = some (.cells #[.int .i64 4, .int .i64 1, .string ⟨#[]⟩] 112 (0, 0)) := by rw [hw6]; exact set3f hq5 rfl _ _ _
    have HB6 : Hid (Below w.heap.size w w6) := Lib.hid (by rw [hw6]; exact ((hb5.setCell (Nat.le_of_eq eq.symm) _).setCell (Nat.le_of_eq eq.symm) _).setCell (Nat.le_of_eq eq.symm) _)
    have H6 := Lib.hid h6
    have HW2 := Lib.hid hw2
    have HW3 := Lib.hid hw3
    have HW5 := Lib.hid hw5
    have HW6 := Lib.hid hw6
    have EQ := Lib.hid eq
    have ER := Lib.hid er
    clear hw2 hw3 hw5 hw6 eq er hb2 hb3 hb5 hq hq3 hq5 hr hr5 h6 hne
    go_enter Tryz.func94, Tryz.ntmps94
    go_upto_region 1 with fail
    rw [← HW2.out, ← EQ.out]
    go_upto_region 2 with fail
    rw [← HW3.out, ← ER.out]
    go_upto_region 4 with fail
    rw [← HW5.out]
    go_wp2_with fail
    rw [← HW6.out]
    exact bodyPost_ret (res_field Tryz.results94 _ _ q _ _ _ (by simp) H6.out) rfl ⟨rfl, HB6.out⟩
  | false =>
    obtain ⟨w3, hw3⟩ : ∃ w3, w3 = w2.alloc (.cells #[.int .i64 4, .int .i64 0, .string ⟨#[]⟩] 112) := ⟨_, rfl⟩
    obtain ⟨r, er⟩ : ∃ r, r = w2.heap.size := ⟨_, rfl⟩
    have hb3 : Below w2.heap.size w2 w3 := by rw [hw3]; exact box_below w2 _
    have hr : w3.heap[r]? = some (.cells #[.int .i64 4, .int .i64 0, .string ⟨#[]⟩] 112 (0, 0)) := by rw [hw3, er]; exact new_block w2 _
    have hq3 := blk_below hq hb3
    have hne : q ≠ r := by have := blk_lt hq; omega
    obtain ⟨w5, hw5⟩ : ∃ w5, w5 = w3 := ⟨_, rfl⟩
    have hr5 : w5.heap[r]? = some (.cells #[.int .i64 4, .int .i64 0, .string ⟨#[]⟩] 112 (0, 0)) := by rw [hw5]; exact hr
    have hq5 : w5.heap[q]? = some (.cells #[.int .i64 0, .int .i64 0, .string ⟨#[]⟩] 112 (0, 0)) := by rw [hw5]; exact hq3
    have hb5 : Below w.heap.size w w5 := by rw [hw5]; exact hb2.trans (hb3.mono hb2.size)
    have s0 := cell_of hr5 (j := 0) rfl
    have s1 := cell_of hr5 (j := 1) rfl
    have s2 := cell_of hr5 (j := 2) rfl
    have q0 := cell_of hq5 (j := 0) rfl
    have q1 := cell_of hq5 (j := 1) rfl
    have q2 := cell_of hq5 (j := 2) rfl
    have f0 := frozen_of_row w5 q 0 _ _ hq5
    have f1 := frozen_of_row w5 q 1 _ _ hq5
    have f2 := frozen_of_row w5 q 2 _ _ hq5
    obtain ⟨w6, hw6⟩ : ∃ w6, w6 = ((w5.setCell ⟨q, 0, none⟩ (.int .i64 4)).setCell ⟨q, 1, none⟩ (.int .i64 0)).setCell ⟨q, 2, none⟩ (.string ⟨#[]⟩) := ⟨_, rfl⟩
    have h6 : w6.heap[q]? = some (.cells #[.int .i64 4, .int .i64 0, .string ⟨#[]⟩] 112 (0, 0)) := by rw [hw6]; exact set3f hq5 rfl _ _ _
    have HB6 : Hid (Below w.heap.size w w6) := Lib.hid (by rw [hw6]; exact ((hb5.setCell (Nat.le_of_eq eq.symm) _).setCell (Nat.le_of_eq eq.symm) _).setCell (Nat.le_of_eq eq.symm) _)
    have H6 := Lib.hid h6
    have HW2 := Lib.hid hw2
    have HW3 := Lib.hid hw3
    have HW5 := Lib.hid hw5
    have HW6 := Lib.hid hw6
    have EQ := Lib.hid eq
    have ER := Lib.hid er
    clear hw2 hw3 hw5 hw6 eq er hb2 hb3 hb5 hq hq3 hq5 hr hr5 h6 hne
    go_enter Tryz.func94, Tryz.ntmps94
    go_upto_region 1 with fail
    rw [← HW2.out, ← EQ.out]
    go_upto_region 2 with fail
    rw [← HW3.out, ← ER.out]
    go_upto_region 4 with fail
    rw [← HW5.out]
    go_wp2_with fail
    rw [← HW6.out]
    exact bodyPost_ret (res_field Tryz.results94 _ _ q _ _ _ (by simp) H6.out) rfl ⟨rfl, HB6.out⟩
end Go.Proofs.YtflgemlhocjipaaGreatDoor
namespace Go.Proofs.YtflgemlhocjipaaGreatDoor
set_option maxRecDepth 100000
open Go.ChangeShapes Go.WideShapes Go.ChangeAt Go.RowKit Go.Proofs.Zn Go.Proofs.Zt
open Go.Proofs.Zs (St Lst Rep Tx)
open Pq (Fld FReads Reads fcs errL bytL)

/-- The fields of a transaction's head, of a change. -/
def hdF (k s n sp now : Int) (m : Nat) : List Fld := [⟨1, k, ⟨#[]⟩⟩, ⟨2, s, ⟨#[]⟩⟩, ⟨2, n, ⟨#[]⟩⟩, ⟨2, sp, ⟨#[]⟩⟩, ⟨2, now, ⟨#[]⟩⟩, ⟨1, (m : Int), ⟨#[]⟩⟩]
def chF (c : Chg) : List Fld := [⟨1, c.kind, ⟨#[]⟩⟩, ⟨3, 0, B c.path⟩, ⟨3, 0, B c.data⟩, ⟨2, IntKind.i64.wrap (c.ver + 1), ⟨#[]⟩⟩, ⟨4, b2i c.eph, ⟨#[]⟩⟩, ⟨4, b2i c.sq, ⟨#[]⟩⟩]
def OfPost (w : World) (l : List Fld) (e : Ending) (w' : World) : Prop := ∃ b, e = .returned (.slice (some ⟨b, 0, none⟩) l.length l.length) ∧ w'.heap[b]? = some (.cells (fcs l).toArray 112 (0, 0)) ∧ w.heap.size ≤ b ∧ Below w.heap.size w w'
set_option maxHeartbeats 8000000 in
theorem oftxn_any (k s n sp now : Int) (A : Option Addr) (m c : Nat) (w : World) : Calls Tryz.prog 51 #[.agg #[.int .i64 k, .int .i64 s, .int .i64 n, .int .i64 sp, .int .i64 now, .slice A m c]] w (OfPost w (hdF k s n sp now m)) := by
  obtain ⟨w1, hw1⟩ : ∃ w1, w1 = w.alloc (.cells #[.int .i64 k, .int .i64 s, .int .i64 n, .int .i64 sp, .int .i64 now, .slice A m c] 46) := ⟨_, rfl⟩
  obtain ⟨q, eq⟩ : ∃ q, q = w.heap.size := ⟨_, rfl⟩
  have hb1 : Below w.heap.size w w1 := by rw [hw1]; exact box_below w _
  have hq : w1.heap[q]? = some (.cells #[.int .i64 k, .int .i64 s, .int .i64 n, .int .i64 sp, .int .i64 now, .slice A m c] 46 (0, 0)) := by rw [hw1, eq]; exact new_block w _
  have HS : Hid (∀ W, Below w1.heap.size w1 W → W.cell? ⟨q, 0, none⟩ = some (.int .i64 k) ∧ W.cell? ⟨q, 1, none⟩ = some (.int .i64 s) ∧ W.cell? ⟨q, 2, none⟩ = some (.int .i64 n) ∧ W.cell? ⟨q, 3, none⟩ = some (.int .i64 sp) ∧ W.cell? ⟨q, 4, none⟩ = some (.int .i64 now) ∧ W.cell? ⟨q, 5, none⟩ = some (.slice A m c) ∧ Below w1.heap.size w1 W) := Lib.hid (fun W hW => by
    have h := blk_below hq hW
    exact ⟨cell_of h (j := 0) rfl, cell_of h (j := 1) rfl, cell_of h (j := 2) rfl, cell_of h (j := 3) rfl, cell_of h (j := 4) rfl, cell_of h (j := 5) rfl, hW⟩)
  obtain ⟨q0, q1, q2, q3, q4, q5, -⟩ := HS.out w1 (Below.refl _ _)
  have HSA : Hid (∀ W o, (W.cell? ⟨q, 0, none⟩ = some (.int .i64 k) ∧ W.cell? ⟨q, 1, none⟩ = some (.int .i64 s) ∧ W.cell? ⟨q, 2, none⟩ = some (.int .i64 n) ∧ W.cell? ⟨q, 3, none⟩ = some (.int .i64 sp) ∧ W.cell? ⟨q, 4, none⟩ = some (.int .i64 now) ∧ W.cell? ⟨q, 5, none⟩ = some (.slice A m c) ∧ Below w1.heap.size w1 W) → (W.alloc o).cell? ⟨q, 0, none⟩ = some (.int .i64 k) ∧ (W.alloc o).cell? ⟨q, 1, none⟩ = some (.int .i64 s) ∧ (W.alloc o).cell? ⟨q, 2, none⟩ = some (.int .i64 n) ∧ (W.alloc o).cell? ⟨q, 3, none⟩ = some (.int .i64 sp) ∧ (W.alloc o).cell? ⟨q, 4, none⟩ = some (.int .i64 now) ∧ (W.alloc o).cell? ⟨q, 5, none⟩ = some (.slice A m c) ∧ Below w1.heap.size w1 (W.alloc o)) := Lib.hid (fun W o hS => by
    obtain ⟨-, -, -, -, -, -, hW⟩ := hS
    exact HS.out _ (hW.trans ((box_below W o).mono hW.size)))
  have HC1 : Hid (∀ (z : Int) W, (W.cell? ⟨q, 0, none⟩ = some (.int .i64 k) ∧ W.cell? ⟨q, 1, none⟩ = some (.int .i64 s) ∧ W.cell? ⟨q, 2, none⟩ = some (.int .i64 n) ∧ W.cell? ⟨q, 3, none⟩ = some (.int .i64 sp) ∧ W.cell? ⟨q, 4, none⟩ = some (.int .i64 now) ∧ W.cell? ⟨q, 5, none⟩ = some (.slice A m c) ∧ Below w1.heap.size w1 W) → Calls Tryz.prog 91 #[.int .i64 z] W fun e w' => e = .returned (.agg #[.int .i64 1, .int .i64 z, .string ⟨#[]⟩]) ∧ (w'.cell? ⟨q, 0, none⟩ = some (.int .i64 k) ∧ w'.cell? ⟨q, 1, none⟩ = some (.int .i64 s) ∧ w'.cell? ⟨q, 2, none⟩ = some (.int .i64 n) ∧ w'.cell? ⟨q, 3, none⟩ = some (.int .i64 sp) ∧ w'.cell? ⟨q, 4, none⟩ = some (.int .i64 now) ∧ w'.cell? ⟨q, 5, none⟩ = some (.slice A m c) ∧ Below w1.heap.size w1 w')) := Lib.hid (fun z W hS => by
    obtain ⟨-, -, -, -, -, -, hW⟩ := hS
    refine (small_any z W).mono ?_
    rintro e w' ⟨rfl, hb⟩
    exact ⟨rfl, HS.out _ (hW.trans (hb.mono hW.size))⟩)
  have HC2 : Hid (∀ (z : Int) W, (W.cell? ⟨q, 0, none⟩ = some (.int .i64 k) ∧ W.cell? ⟨q, 1, none⟩ = some (.int .i64 s) ∧ W.cell? ⟨q, 2, none⟩ = some (.int .i64 n) ∧ W.cell? ⟨q, 3, none⟩ = some (.int .i64 sp) ∧ W.cell? ⟨q, 4, none⟩ = some (.int .i64 now) ∧ W.cell? ⟨q, 5, none⟩ = some (.slice A m c) ∧ Below w1.heap.size w1 W) → Calls Tryz.prog 92 #[.int .i64 z] W fun e w' => e = .returned (.agg #[.int .i64 2, .int .i64 z, .string ⟨#[]⟩]) ∧ (w'.cell? ⟨q, 0, none⟩ = some (.int .i64 k) ∧ w'.cell? ⟨q, 1, none⟩ = some (.int .i64 s) ∧ w'.cell? ⟨q, 2, none⟩ = some (.int .i64 n) ∧ w'.cell? ⟨q, 3, none⟩ = some (.int .i64 sp) ∧ w'.cell? ⟨q, 4, none⟩ = some (.int .i64 now) ∧ w'.cell? ⟨q, 5, none⟩ = some (.slice A m c) ∧ Below w1.heap.size w1 w')) := Lib.hid (fun z W hS => by
    obtain ⟨-, -, -, -, -, -, hW⟩ := hS
    refine (whole_any z W).mono ?_
    rintro e w' ⟨rfl, hb⟩
    exact ⟨rfl, HS.out _ (hW.trans (hb.mono hW.size))⟩)
  have HW1 := Lib.hid hw1
  have EQ := Lib.hid eq
  have HB1 := Lib.hid hb1
  clear hw1 eq hb1 hq
  go_enter Tryz.func51, Tryz.ntmps51
  go_upto_region 1 with fail
  rw [← HW1.out, ← EQ.out]
  go_region_held3 (fun W => W.cell? ⟨q, 0, none⟩ = some (.int .i64 k) ∧ W.cell? ⟨q, 1, none⟩ = some (.int .i64 s) ∧ W.cell? ⟨q, 2, none⟩ = some (.int .i64 n) ∧ W.cell? ⟨q, 3, none⟩ = some (.int .i64 sp) ∧ W.cell? ⟨q, 4, none⟩ = some (.int .i64 now) ∧ W.cell? ⟨q, 5, none⟩ = some (.slice A m c) ∧ Below w1.heap.size w1 W)
    (first
      | exact HS.out _ (Below.refl _ _).drew
      | (with_reducible assumption)
      | (with_reducible exact HSA.out _ _ (by with_reducible assumption)))
    (first
      | (go_at_call 91; (with_reducible refine (HC1.out _ _ (by with_reducible assumption)).mono ?_); rintro e w3 ⟨rfl, hS3⟩)
      | (go_at_call 92; (with_reducible refine (HC2.out _ _ (by with_reducible assumption)).mono ?_); rintro e w3 ⟨rfl, hS3⟩))
  obtain ⟨-, -, -, -, -, -, hW3⟩ := hS3
  have HE : Hid (OfPost w (hdF k s n sp now m) (.returned (.slice (some ⟨w3.heap.size, 0, none⟩) 6 6)) (w3.alloc (.cells (fcs (hdF k s n sp now m)).toArray 112))) := Lib.hid
    ⟨_, rfl, new_block w3 _, Nat.le_trans HB1.out.size hW3.size, HB1.out.trans ((hW3.trans ((box_below w3 _).mono hW3.size)).mono HB1.out.size)⟩
  clear hW3
  go_wp2_with fail
  go_ret
  exact HE.out
set_option maxHeartbeats 8000000 in
theorem ofchange_any (x : Chg) (w : World) : Calls Tryz.prog 52 #[.agg #[.int .i64 x.kind, .string (B x.path), .string (B x.data), .int .i64 x.ver, .bool x.eph, .bool x.sq]] w (OfPost w (chF x)) := by
  obtain ⟨w1, hw1⟩ : ∃ w1, w1 = w.alloc (.cells #[.int .i64 x.kind, .string (B x.path), .string (B x.data), .int .i64 x.ver, .bool x.eph, .bool x.sq] 79) := ⟨_, rfl⟩
  obtain ⟨q, eq⟩ : ∃ q, q = w.heap.size := ⟨_, rfl⟩
  have hb1 : Below w.heap.size w w1 := by rw [hw1]; exact box_below w _
  have hq : w1.heap[q]? = some (.cells #[.int .i64 x.kind, .string (B x.path), .string (B x.data), .int .i64 x.ver, .bool x.eph, .bool x.sq] 79 (0, 0)) := by rw [hw1, eq]; exact new_block w _
  have HS : Hid (∀ W, Below w1.heap.size w1 W → W.cell? ⟨q, 0, none⟩ = some (.int .i64 x.kind) ∧ W.cell? ⟨q, 1, none⟩ = some (.string (B x.path)) ∧ W.cell? ⟨q, 2, none⟩ = some (.string (B x.data)) ∧ W.cell? ⟨q, 3, none⟩ = some (.int .i64 x.ver) ∧ W.cell? ⟨q, 4, none⟩ = some (.bool x.eph) ∧ W.cell? ⟨q, 5, none⟩ = some (.bool x.sq) ∧ Below w1.heap.size w1 W) := Lib.hid (fun W hW => by
    have h := blk_below hq hW
    exact ⟨cell_of h (j := 0) rfl, cell_of h (j := 1) rfl, cell_of h (j := 2) rfl, cell_of h (j := 3) rfl, cell_of h (j := 4) rfl, cell_of h (j := 5) rfl, hW⟩)
  obtain ⟨q0, q1, q2, q3, q4, q5, -⟩ := HS.out w1 (Below.refl _ _)
  have HSA : Hid (∀ W o, (W.cell? ⟨q, 0, none⟩ = some (.int .i64 x.kind) ∧ W.cell? ⟨q, 1, none⟩ = some (.string (B x.path)) ∧ W.cell? ⟨q, 2, none⟩ = some (.string (B x.data)) ∧ W.cell? ⟨q, 3, none⟩ = some (.int .i64 x.ver) ∧ W.cell? ⟨q, 4, none⟩ = some (.bool x.eph) ∧ W.cell? ⟨q, 5, none⟩ = some (.bool x.sq) ∧ Below w1.heap.size w1 W) → (W.alloc o).cell? ⟨q, 0, none⟩ = some (.int .i64 x.kind) ∧ (W.alloc o).cell? ⟨q, 1, none⟩ = some (.string (B x.path)) ∧ (W.alloc o).cell? ⟨q, 2, none⟩ = some (.string (B x.data)) ∧ (W.alloc o).cell? ⟨q, 3, none⟩ = some (.int .i64 x.ver) ∧ (W.alloc o).cell? ⟨q, 4, none⟩ = some (.bool x.eph) ∧ (W.alloc o).cell? ⟨q, 5, none⟩ = some (.bool x.sq) ∧ Below w1.heap.size w1 (W.alloc o)) := Lib.hid (fun W o hS => by
    obtain ⟨-, -, -, -, -, -, hW⟩ := hS
    exact HS.out _ (hW.trans ((box_below W o).mono hW.size)))
  have HC1 : Hid (∀ (z : Int) W, (W.cell? ⟨q, 0, none⟩ = some (.int .i64 x.kind) ∧ W.cell? ⟨q, 1, none⟩ = some (.string (B x.path)) ∧ W.cell? ⟨q, 2, none⟩ = some (.string (B x.data)) ∧ W.cell? ⟨q, 3, none⟩ = some (.int .i64 x.ver) ∧ W.cell? ⟨q, 4, none⟩ = some (.bool x.eph) ∧ W.cell? ⟨q, 5, none⟩ = some (.bool x.sq) ∧ Below w1.heap.size w1 W) → Calls Tryz.prog 91 #[.int .i64 z] W fun e w' => e = .returned (.agg #[.int .i64 1, .int .i64 z, .string ⟨#[]⟩]) ∧ (w'.cell? ⟨q, 0, none⟩ = some (.int .i64 x.kind) ∧ w'.cell? ⟨q, 1, none⟩ = some (.string (B x.path)) ∧ w'.cell? ⟨q, 2, none⟩ = some (.string (B x.data)) ∧ w'.cell? ⟨q, 3, none⟩ = some (.int .i64 x.ver) ∧ w'.cell? ⟨q, 4, none⟩ = some (.bool x.eph) ∧ w'.cell? ⟨q, 5, none⟩ = some (.bool x.sq) ∧ Below w1.heap.size w1 w')) := Lib.hid (fun z W hS => by
    obtain ⟨-, -, -, -, -, -, hW⟩ := hS
    refine (small_any z W).mono ?_
    rintro e w' ⟨rfl, hb⟩
    exact ⟨rfl, HS.out _ (hW.trans (hb.mono hW.size))⟩)
  have HC2 : Hid (∀ (z : Int) W, (W.cell? ⟨q, 0, none⟩ = some (.int .i64 x.kind) ∧ W.cell? ⟨q, 1, none⟩ = some (.string (B x.path)) ∧ W.cell? ⟨q, 2, none⟩ = some (.string (B x.data)) ∧ W.cell? ⟨q, 3, none⟩ = some (.int .i64 x.ver) ∧ W.cell? ⟨q, 4, none⟩ = some (.bool x.eph) ∧ W.cell? ⟨q, 5, none⟩ = some (.bool x.sq) ∧ Below w1.heap.size w1 W) → Calls Tryz.prog 92 #[.int .i64 z] W fun e w' => e = .returned (.agg #[.int .i64 2, .int .i64 z, .string ⟨#[]⟩]) ∧ (w'.cell? ⟨q, 0, none⟩ = some (.int .i64 x.kind) ∧ w'.cell? ⟨q, 1, none⟩ = some (.string (B x.path)) ∧ w'.cell? ⟨q, 2, none⟩ = some (.string (B x.data)) ∧ w'.cell? ⟨q, 3, none⟩ = some (.int .i64 x.ver) ∧ w'.cell? ⟨q, 4, none⟩ = some (.bool x.eph) ∧ w'.cell? ⟨q, 5, none⟩ = some (.bool x.sq) ∧ Below w1.heap.size w1 w')) := Lib.hid (fun z W hS => by
    obtain ⟨-, -, -, -, -, -, hW⟩ := hS
    refine (whole_any z W).mono ?_
    rintro e w' ⟨rfl, hb⟩
    exact ⟨rfl, HS.out _ (hW.trans (hb.mono hW.size))⟩)
  have HC3 : Hid (∀ (z : ByteArray) W, (W.cell? ⟨q, 0, none⟩ = some (.int .i64 x.kind) ∧ W.cell? ⟨q, 1, none⟩ = some (.string (B x.path)) ∧ W.cell? ⟨q, 2, none⟩ = some (.string (B x.data)) ∧ W.cell? ⟨q, 3, none⟩ = some (.int .i64 x.ver) ∧ W.cell? ⟨q, 4, none⟩ = some (.bool x.eph) ∧ W.cell? ⟨q, 5, none⟩ = some (.bool x.sq) ∧ Below w1.heap.size w1 W) → Calls Tryz.prog 93 #[.string z] W fun e w' => e = .returned (.agg #[.int .i64 3, .int .i64 0, .string z]) ∧ (w'.cell? ⟨q, 0, none⟩ = some (.int .i64 x.kind) ∧ w'.cell? ⟨q, 1, none⟩ = some (.string (B x.path)) ∧ w'.cell? ⟨q, 2, none⟩ = some (.string (B x.data)) ∧ w'.cell? ⟨q, 3, none⟩ = some (.int .i64 x.ver) ∧ w'.cell? ⟨q, 4, none⟩ = some (.bool x.eph) ∧ w'.cell? ⟨q, 5, none⟩ = some (.bool x.sq) ∧ Below w1.heap.size w1 w')) := Lib.hid (fun z W hS => by
    obtain ⟨-, -, -, -, -, -, hW⟩ := hS
    refine (text_any z W).mono ?_
    rintro e w' ⟨rfl, hb⟩
    exact ⟨rfl, HS.out _ (hW.trans (hb.mono hW.size))⟩)
  have HC4 : Hid (∀ (b : Bool) W, (W.cell? ⟨q, 0, none⟩ = some (.int .i64 x.kind) ∧ W.cell? ⟨q, 1, none⟩ = some (.string (B x.path)) ∧ W.cell? ⟨q, 2, none⟩ = some (.string (B x.data)) ∧ W.cell? ⟨q, 3, none⟩ = some (.int .i64 x.ver) ∧ W.cell? ⟨q, 4, none⟩ = some (.bool x.eph) ∧ W.cell? ⟨q, 5, none⟩ = some (.bool x.sq) ∧ Below w1.heap.size w1 W) → Calls Tryz.prog 94 #[.bool b] W fun e w' => e = .returned (.agg #[.int .i64 4, .int .i64 (b2i b), .string ⟨#[]⟩]) ∧ (w'.cell? ⟨q, 0, none⟩ = some (.int .i64 x.kind) ∧ w'.cell? ⟨q, 1, none⟩ = some (.string (B x.path)) ∧ w'.cell? ⟨q, 2, none⟩ = some (.string (B x.data)) ∧ w'.cell? ⟨q, 3, none⟩ = some (.int .i64 x.ver) ∧ w'.cell? ⟨q, 4, none⟩ = some (.bool x.eph) ∧ w'.cell? ⟨q, 5, none⟩ = some (.bool x.sq) ∧ Below w1.heap.size w1 w')) := Lib.hid (fun b W hS => by
    obtain ⟨-, -, -, -, -, -, hW⟩ := hS
    refine (flag_any b W).mono ?_
    rintro e w' ⟨rfl, hb⟩
    exact ⟨rfl, HS.out _ (hW.trans (hb.mono hW.size))⟩)
  have HW1 := Lib.hid hw1
  have EQ := Lib.hid eq
  have HB1 := Lib.hid hb1
  clear hw1 eq hb1 hq
  go_enter Tryz.func52, Tryz.ntmps52
  go_upto_region 1 with fail
  rw [← HW1.out, ← EQ.out]
  go_region_held3 (fun W => W.cell? ⟨q, 0, none⟩ = some (.int .i64 x.kind) ∧ W.cell? ⟨q, 1, none⟩ = some (.string (B x.path)) ∧ W.cell? ⟨q, 2, none⟩ = some (.string (B x.data)) ∧ W.cell? ⟨q, 3, none⟩ = some (.int .i64 x.ver) ∧ W.cell? ⟨q, 4, none⟩ = some (.bool x.eph) ∧ W.cell? ⟨q, 5, none⟩ = some (.bool x.sq) ∧ Below w1.heap.size w1 W)
    (first
      | exact HS.out _ (Below.refl _ _).drew
      | (with_reducible assumption)
      | (with_reducible exact HSA.out _ _ (by with_reducible assumption)))
    (first
      | (go_at_call 91; (with_reducible refine (HC1.out _ _ (by with_reducible assumption)).mono ?_); rintro e w3 ⟨rfl, hS3⟩)
      | (go_at_call 92; (with_reducible refine (HC2.out _ _ (by with_reducible assumption)).mono ?_); rintro e w3 ⟨rfl, hS3⟩)
      | (go_at_call 93; (with_reducible refine (HC3.out _ _ (by with_reducible assumption)).mono ?_); rintro e w3 ⟨rfl, hS3⟩)
      | (go_at_call 94; (with_reducible refine (HC4.out _ _ (by with_reducible assumption)).mono ?_); rintro e w3 ⟨rfl, hS3⟩))
  obtain ⟨-, -, -, -, -, -, hW3⟩ := hS3
  have HE : Hid (OfPost w (chF x) (.returned (.slice (some ⟨w3.heap.size, 0, none⟩) 6 6)) (w3.alloc (.cells (fcs (chF x)).toArray 112))) := Lib.hid
    ⟨_, rfl, new_block w3 _, Nat.le_trans HB1.out.size hW3.size, HB1.out.trans ((hW3.trans ((box_below w3 _).mono hW3.size)).mono HB1.out.size)⟩
  clear hW3
  go_wp2_with fail
  go_ret
  exact HE.out
end Go.Proofs.YtflgemlhocjipaaGreatDoor
namespace Go.Proofs.YtflgemlhocjipaaGreatDoor
set_option maxRecDepth 100000
open Go.ChangeShapes Go.WideShapes Go.ChangeAt Go.RowKit Go.Proofs.Zn Go.Proofs.Zt
open Go.Proofs.Zs (St Lst Rep Tx)
open Pq (Fld FReads Reads fcs ams errL bytL sm dc Sm Bys byts)

def flds (t : Tx) : List Fld := hdF t.k t.s t.n t.sp t.now t.l.length ++ t.l.flatMap chF
def encS (t : Tx) : Option (List Int) := if t.l.length ≤ 6 ∧ errL (flds t) = 0 ∧ (bytL (flds t)).length ≤ 4096 then some (bytL (flds t)) else none
def chs : List Fld → List Chg
  | a :: b :: c :: d :: e :: f :: r => ⟨a.n, L b.s, L c.s, d.n - 1, e.n == 1, f.n == 1⟩ :: chs r
  | _ => []
def hk : List Int := [1, 2, 2, 2, 2, 1]
def pk : List Int := [1, 3, 3, 2, 4, 4]
def lastN (f : List Fld) : Int := (f.getD (f.length - 1) Pq.z0).n
def rep (m : Nat) (l : List Int) : List Int := (List.replicate m l).flatten
/-- A record's head and parts. -/
def apS (hk pk b : List Int) : Option (List Fld × List Fld) := match sm hk b with
  | .bad _ => none
  | .good f n => if 4096 < b.length then none else if 6 < lastN f then none else match dc (rep (lastN f).toNat pk) (b.drop n) with
    | .bad _ => none
    | .good g _ => some (f, g)
def txOf (f g : List Fld) : Tx := ⟨(f.getD 0 Pq.z0).n, (f.getD 1 Pq.z0).n, (f.getD 2 Pq.z0).n, (f.getD 3 Pq.z0).n, (f.getD 4 Pq.z0).n, chs g⟩
def decS (b : List Int) : Option Tx := (apS hk pk b).map fun p => txOf p.1 p.2
def VerOk (l : List Chg) : Prop := ∀ c ∈ l, -9223372036854775808 ≤ c.ver ∧ c.ver ≤ 9223372036854775807

theorem errL_two {a b : List Fld} (h : errL (a ++ b) = 0) : errL a = 0 ∧ errL b = 0 := by
  rw [Pq.errL_append] at h
  by_cases e : errL a = 0
  · rw [if_pos e] at h; exact ⟨e, h⟩
  · rw [if_neg e] at h; exact absurd h e
theorem errL_join {a b : List Fld} (h : errL a = 0) (k : errL b = 0) : errL (a ++ b) = 0 := by rw [Pq.errL_append, if_pos h]; exact k
theorem errL_mem : ∀ {l : List Fld}, errL l = 0 → ∀ f ∈ l, ams f = 0
  | [], _, _, h => by cases h
  | x :: l, h, f, hf => by
    obtain ⟨h1, h2⟩ := Pq.errL_cons h
    rcases List.mem_cons.1 hf with rfl | hf
    · exact h1
    · exact errL_mem h2 f hf
theorem errL_of : ∀ {l : List Fld}, (∀ f ∈ l, ams f = 0) → errL l = 0
  | [], _ => rfl
  | x :: l, h => by unfold errL; rw [if_pos (h x (by simp))]; exact errL_of (fun f hf => h f (by simp [hf]))
theorem rep_succ (m : Nat) (l : List Int) : rep (m + 1) l = l ++ rep m l := by simp [rep, List.replicate_succ]
theorem rep_length (m : Nat) (l : List Int) : (rep m l).length = m * l.length := by
  induction m with
  | zero => simp [rep]
  | succ m ih => rw [rep_succ, List.length_append, ih, Nat.succ_mul]; omega
theorem kinds_ch (l : List Chg) : (l.flatMap chF).map (·.k) = rep l.length pk := by
  induction l with
  | nil => rfl
  | cons c l ih => rw [List.flatMap_cons, List.map_append, ih, List.length_cons, rep_succ]; rfl
theorem wrap_back {v : Int} (h0 : -9223372036854775808 ≤ v) (h1 : v ≤ 9223372036854775807) (h2 : 0 ≤ IntKind.i64.wrap (v + 1)) : IntKind.i64.wrap (v + 1) = v + 1 := by
  rw [IntKind.wrap_i64] at h2 ⊢; omega
theorem ch_back {c : Chg} (hv : -9223372036854775808 ≤ c.ver ∧ c.ver ≤ 9223372036854775807) (h : errL (chF c) = 0) (r : List Fld) : chs (chF c ++ r) = c :: chs r := by
  have h3 := errL_mem h ⟨2, IntKind.i64.wrap (c.ver + 1), ⟨#[]⟩⟩ (by simp [chF])
  have h4 : 0 ≤ IntKind.i64.wrap (c.ver + 1) := by
    rcases Pq.ams_zero h3 with ⟨e, _⟩ | ⟨_, e, _⟩ | ⟨e, _⟩ | ⟨e, _⟩
    · exact absurd (show (2 : Int) = 1 from e) (by decide)
    · exact e
    · exact absurd (show (2 : Int) = 3 from e) (by decide)
    · exact absurd (show (2 : Int) = 4 from e) (by decide)
  have h5 := wrap_back hv.1 hv.2 h4
  obtain ⟨ki, pa, da, ve, ep, sq⟩ := c
  simp only at h5
  show (⟨ki, L (B pa), L (B da), IntKind.i64.wrap (ve + 1) - 1, b2i ep == 1, b2i sq == 1⟩ : Chg) :: chs r = _
  rw [h5, LB, LB]
  have e1 : (b2i ep == 1) = ep := by cases ep <;> rfl
  have e2 : (b2i sq == 1) = sq := by cases sq <;> rfl
  rw [e1, e2]
  congr 2
  omega
theorem chs_back : ∀ {l : List Chg}, VerOk l → errL (l.flatMap chF) = 0 → chs (l.flatMap chF) = l
  | [], _, _ => rfl
  | c :: l, hv, h => by
    rw [List.flatMap_cons] at h ⊢
    obtain ⟨h1, h2⟩ := errL_two h
    rw [ch_back (hv c (by simp)) h1, chs_back (fun x hx => hv x (by simp [hx])) h2]
theorem dec_enc {t : Tx} {b : List Int} (hv : VerOk t.l) (h : encS t = some b) : decS b = some t := by
  unfold encS at h
  split at h
  · rename_i hc
    obtain ⟨h6, he, h4⟩ := hc
    injection h with h
    obtain ⟨e1, e2⟩ := errL_two he
    have hb : b = bytL (hdF t.k t.s t.n t.sp t.now t.l.length) ++ bytL (t.l.flatMap chF) := by rw [← h]; exact Pq.bytL_append _ _
    have hs := Pq.sm_back e1 (bytL (t.l.flatMap chF))
    have hd := Pq.dc_back e2
    rw [kinds_ch] at hd
    have hl : lastN (hdF t.k t.s t.n t.sp t.now t.l.length) = (t.l.length : Int) := rfl
    unfold decS apS
    rw [hb]
    rw [show hk = (hdF t.k t.s t.n t.sp t.now t.l.length).map (·.k) from rfl, hs]
    simp only
    rw [if_neg (by rw [← hb, ← h]; omega), hl, if_neg (by omega), List.drop_left, Int.toNat_natCast, hd]
    simp only [Option.map_some]
    congr 1
    show (⟨t.k, t.s, t.n, t.sp, t.now, chs (t.l.flatMap chF)⟩ : Tx) = t
    rw [chs_back hv e2]
  · cases h
theorem sm_kinds : ∀ {ks b : List Int} {l : List Fld} {n : Nat}, Bys b → sm ks b = .good l n → l.map (·.k) = ks
  | [], b, l, n, _, h => by simp only [sm] at h; injection h with h1 h2; subst h1; rfl
  | k :: ks, b, l, n, hb, h => by
    simp only [sm] at h
    cases hr : Pq.rd k b with
    | bad e => rw [hr] at h; cases h
    | good f m =>
      rw [hr] at h
      simp only at h
      cases hs : sm ks (b.drop m) with
      | bad e => rw [hs] at h; cases h
      | good l2 n2 =>
        rw [hs] at h
        simp only [Sm.put] at h
        injection h with h1 h2
        subst h1
        have := sm_kinds (Pq.bys_drop m hb) hs
        have hk := (Pq.rd_good hb hr).2.1
        simp [this, hk]
theorem dc_sm {ks b : List Int} {l : List Fld} {n : Nat} (h : dc ks b = .good l n) : sm ks b = .good l n := by
  unfold dc at h
  cases hs : sm ks b with
  | bad e => rw [hs] at h; cases h
  | good l2 n2 =>
    rw [hs] at h
    simp only at h
    split at h
    · cases h
    · exact h
theorem k1 {f : Fld} (h : ams f = 0) (k : f.k = 1) : f = ⟨1, f.n, ⟨#[]⟩⟩ := by
  rcases Pq.ams_zero h with ⟨e, _, _, e2⟩ | ⟨e, _⟩ | ⟨e, _⟩ | ⟨e, _⟩
  · obtain ⟨a, b, c⟩ := f; simp only at e e2 ⊢; rw [e, e2]
  all_goals omega
theorem k2 {f : Fld} (h : ams f = 0) (k : f.k = 2) : f = ⟨2, f.n, ⟨#[]⟩⟩ ∧ 0 ≤ f.n ∧ f.n ≤ 4611686018427387904 := by
  rcases Pq.ams_zero h with ⟨e, _⟩ | ⟨e, e3, e4, e2⟩ | ⟨e, _⟩ | ⟨e, _⟩
  · omega
  · refine ⟨?_, e3, e4⟩; obtain ⟨a, b, c⟩ := f; simp only at e e2 ⊢; rw [e, e2]
  all_goals omega
theorem k3 {f : Fld} (h : ams f = 0) (k : f.k = 3) : f = ⟨3, 0, f.s⟩ := by
  rcases Pq.ams_zero h with ⟨e, _⟩ | ⟨e, _⟩ | ⟨e, e2, _⟩ | ⟨e, _⟩
  · omega
  · omega
  · obtain ⟨a, b, c⟩ := f; simp only at e e2 ⊢; rw [e, e2]
  · omega
theorem k4 {f : Fld} (h : ams f = 0) (k : f.k = 4) : f = ⟨4, b2i (f.n == 1), ⟨#[]⟩⟩ := by
  rcases Pq.ams_zero h with ⟨e, _⟩ | ⟨e, _⟩ | ⟨e, _⟩ | ⟨e, e3, e4, e2⟩
  · omega
  · omega
  · omega
  · obtain ⟨a, b, c⟩ := f
    simp only at e e2 e3 e4 ⊢
    have : b = 0 ∨ b = 1 := by omega
    rcases this with rfl | rfl <;> rw [e, e2] <;> rfl
theorem six {g : List Fld} {x0 x1 x2 x3 x4 x5 : Int} {t : List Int} (h : g.map (·.k) = x0 :: x1 :: x2 :: x3 :: x4 :: x5 :: t) : ∃ a b c d e f r, g = a :: b :: c :: d :: e :: f :: r ∧ a.k = x0 ∧ b.k = x1 ∧ c.k = x2 ∧ d.k = x3 ∧ e.k = x4 ∧ f.k = x5 ∧ r.map (·.k) = t := by
  obtain ⟨a, g1, rfl, h0, h⟩ := List.map_eq_cons_iff.1 h
  obtain ⟨b, g2, rfl, h1, h⟩ := List.map_eq_cons_iff.1 h
  obtain ⟨c, g3, rfl, h2, h⟩ := List.map_eq_cons_iff.1 h
  obtain ⟨d, g4, rfl, h3, h⟩ := List.map_eq_cons_iff.1 h
  obtain ⟨e, g5, rfl, h4, h⟩ := List.map_eq_cons_iff.1 h
  obtain ⟨f, g6, rfl, h5, h⟩ := List.map_eq_cons_iff.1 h
  exact ⟨a, b, c, d, e, f, g6, rfl, h0, h1, h2, h3, h4, h5, h⟩
theorem chs_fields : ∀ (m : Nat) {g : List Fld}, errL g = 0 → g.map (·.k) = rep m pk → (chs g).flatMap chF = g ∧ (chs g).length = m
  | 0, g, _, h => by
    have : g = [] := by
      cases g with
      | nil => rfl
      | cons a l => simp [rep] at h
    subst this; exact ⟨rfl, rfl⟩
  | m + 1, g, he, h => by
    rw [rep_succ] at h
    · obtain ⟨a, b, c, d, e, f, r, rfl, ha, hb, hc, hd, he', hf, hr⟩ := six h
      have ma := errL_mem he
      have ih := chs_fields m (g := r) (errL_of (fun x hx => ma x (by simp [hx]))) (by rw [hr]; rfl)
      have e1 := k1 (ma a (by simp)) ha
      have e2 := k3 (ma b (by simp)) hb
      have e3 := k3 (ma c (by simp)) hc
      obtain ⟨e4, d0, d1⟩ := k2 (ma d (by simp)) hd
      have e5 := k4 (ma e (by simp)) he'
      have e6 := k4 (ma f (by simp)) hf
      refine ⟨?_, by show (chs r).length + 1 = m + 1; rw [ih.2]⟩
      show chF ⟨a.n, L b.s, L c.s, d.n - 1, e.n == 1, f.n == 1⟩ ++ (chs r).flatMap chF = _
      rw [ih.1]
      have hw : IntKind.i64.wrap (d.n - 1 + 1) = d.n := by rw [IntKind.wrap_i64]; omega
      show [(⟨1, a.n, ⟨#[]⟩⟩ : Fld), ⟨3, 0, B (L b.s)⟩, ⟨3, 0, B (L c.s)⟩, ⟨2, IntKind.i64.wrap (d.n - 1 + 1), ⟨#[]⟩⟩, ⟨4, b2i (e.n == 1), ⟨#[]⟩⟩, ⟨4, b2i (f.n == 1), ⟨#[]⟩⟩] ++ r = _
      rw [hw, BL, BL, ← e1, ← e2, ← e3, ← e4, ← e5, ← e6]
      rfl
theorem apS_some {hk pk b : List Int} {f g : List Fld} (hb : Bys b) (h : apS hk pk b = some (f, g)) :
    errL f = 0 ∧ errL g = 0 ∧ bytL f ++ bytL g = b ∧ f.map (·.k) = hk ∧ g.map (·.k) = rep (lastN f).toNat pk ∧ b.length ≤ 4096 ∧ lastN f ≤ 6 := by
  unfold apS at h
  cases hs : sm hk b with
  | bad e => rw [hs] at h; cases h
  | good f2 n =>
    rw [hs] at h
    simp only at h
    split at h
    · cases h
    · rename_i h1
      split at h
      · cases h
      · rename_i h2
        cases hd : dc (rep (lastN f2).toNat pk) (b.drop n) with
        | bad e => rw [hd] at h; cases h
        | good g2 n2 =>
          rw [hd] at h
          simp only [Option.some.injEq, Prod.mk.injEq] at h
          obtain ⟨rfl, rfl⟩ := h
          obtain ⟨s1, s2, s3, s4⟩ := Pq.sm_good hb hs
          obtain ⟨d1, d2, d3⟩ := Pq.dc_good (Pq.bys_drop n hb) hd
          exact ⟨s2, d1, by rw [s3, d2, List.take_append_drop], sm_kinds hb hs, sm_kinds (Pq.bys_drop n hb) (dc_sm hd), by omega, by omega⟩
theorem enc_dec {t : Tx} {b : List Int} (hb : Bys b) (h : decS b = some t) : encS t = some b := by
  unfold decS at h
  cases ha : apS hk pk b with
  | none => rw [ha] at h; cases h
  | some p =>
    obtain ⟨f, g⟩ := p
    rw [ha] at h
    simp only [Option.map_some, Option.some.injEq] at h
    obtain ⟨e1, e2, e3, e4, e5, e6, e7⟩ := apS_some hb ha
    · obtain ⟨a0, a1, a2, a3, a4, a5, r0, rfl, x0, x1, x2, x3, x4, x5, xr⟩ := six e4
      obtain rfl : r0 = [] := List.map_eq_nil_iff.1 xr
      have ma := errL_mem e1
      have y0 := k1 (ma a0 (by simp)) x0
      have y1 := (k2 (ma a1 (by simp)) x1).1
      have y2 := (k2 (ma a2 (by simp)) x2).1
      have y3 := (k2 (ma a3 (by simp)) x3).1
      have y4 := (k2 (ma a4 (by simp)) x4).1
      have y5 := k1 (ma a5 (by simp)) x5
      have hn5 : 0 ≤ a5.n := by
        rcases Pq.ams_zero (ma a5 (by simp)) with ⟨_, e, _⟩ | ⟨e, _⟩ | ⟨e, _⟩ | ⟨e, _⟩
        · exact e
        all_goals omega
      have hl : lastN [a0, a1, a2, a3, a4, a5] = a5.n := rfl
      rw [hl] at e5 e7
      obtain ⟨c1, c2⟩ := chs_fields _ e2 e5
      have hf : flds t = [a0, a1, a2, a3, a4, a5] ++ g := by
        rw [← h]
        show [(⟨1, a0.n, ⟨#[]⟩⟩ : Fld), ⟨2, a1.n, ⟨#[]⟩⟩, ⟨2, a2.n, ⟨#[]⟩⟩, ⟨2, a3.n, ⟨#[]⟩⟩, ⟨2, a4.n, ⟨#[]⟩⟩, ⟨1, ((chs g).length : Int), ⟨#[]⟩⟩] ++ (chs g).flatMap chF = _
        rw [c1, c2, show ((a5.n.toNat : Nat) : Int) = a5.n by omega, ← y0, ← y1, ← y2, ← y3, ← y4, ← y5]
      have hb2 : bytL (flds t) = b := by rw [hf, Pq.bytL_append]; exact e3
      unfold encS
      rw [if_pos ⟨by rw [← h]; show (chs g).length ≤ 6; rw [c2]; omega, by rw [hf]; exact errL_join e1 e2, by rw [hb2]; exact e6⟩, hb2]
/-- A version that the document refuses has a field with which something is amiss. -/
theorem enc_ver {t : Tx} {c : Chg} (hv : VerOk t.l) (hc : c ∈ t.l) (h : c.ver < -1 ∨ 4611686018427387904 ≤ c.ver) : encS t = none := by
  unfold encS
  rw [if_neg]
  rintro ⟨-, he, -⟩
  have h3 := errL_mem he ⟨2, IntKind.i64.wrap (c.ver + 1), ⟨#[]⟩⟩ (by
    unfold flds
    exact List.mem_append.2 (.inr (List.mem_flatMap.2 ⟨c, hc, by simp [chF]⟩)))
  obtain ⟨-, h4, h5⟩ := k2 h3 rfl
  simp only at h4 h5
  have hr := hv c hc
  rw [IntKind.wrap_i64] at h4 h5
  omega
end Go.Proofs.YtflgemlhocjipaaGreatDoor
