/-
  What the functions that make one field return, the program's and the document's. No condition.
  What ofTxn and ofChange return: the fields of a transaction, of a change. No condition.
  What ofState, ofZnode, ofPath return, ofLease of a lease without paths, and possible. No condition.
  Plain mathematics of how a transaction is written and read. Condition: versions fit.
-/
import Derived.Test.YtflgemlhocjipaaGreatDoorSMem
import Derived.Test.YtflgemlhocjipaaGreatDoorQDec
import Derived.Test.YtflgemlhocjipaaGreatDoorSMath
import Derived.Test.YtflgemlhocjipaaGreatDoorLEq
import Derived.Test.YtflgemlhocjipaaGreatDoorIter
namespace Go.Proofs.YtflgemlhocjipaaGreatDoor
set_option maxRecDepth 100000
open Go.ChangeShapes Go.WideShapes Go.ChangeAt Go.RowKit Go.Proofs.Zn Go.Proofs.Zt
open Go.Proofs.Zs (St Lst Rep Tx)
open Pq (Fld FReads Reads fcs errL bytL)

theorem infoF : (Tryz.prog.info? 112).map (fun i => (i.zero, i.size, i.bytes)) = some (some (.agg #[.int .i64 0, .int .i64 0, .string ⟨#[]⟩]), 3, 32) := by kernel_rfl
def FPost (w : World) (f : Fld) (e : Ending) (w' : World) : Prop := e = .returned (.agg #[.int .i64 f.k, .int .i64 f.n, .string f.s]) ∧ Below w.heap.size w w'
theorem set3f {w : World} {r : Nat} {cs : Array Value} {t : TypeId} (h : w.heap[r]? = some (.cells cs t (0, 0))) (hs : cs.size = 3) (a b c : Value) :
    (((w.setCell ⟨r, 0, none⟩ a).setCell ⟨r, 1, none⟩ b).setCell ⟨r, 2, none⟩ c).heap[r]? = some (.cells #[a, b, c] t (0, 0)) := by
  have h1 := heap_setCell_same w r 0 _ t a h
  have h2 := heap_setCell_same _ r 1 _ t b h1
  have h3 := heap_setCell_same _ r 2 _ t c h2
  rw [h3]
  congr 2
  obtain ⟨l⟩ := cs
  match l, hs with
  | [x, y, z], _ => rfl
theorem res_field {fn : Func} {p : Tmp} (h : fn.results = #[.cell p 112]) (tmps : Array Value) (w : World) (b : Nat) (x y : Int) (s : ByteArray) (hp : tmps.getD p undef = .pointer (some ⟨b, 0, none⟩))
    (h4 : w.heap[b]? = some (.cells #[.int .i64 x, .int .i64 y, .string s] 112 (0, 0))) :
    (results fn tmps).run Tryz.prog w = .ok (.agg #[.int .i64 x, .int .i64 y, .string s]) w := by
  have hp' : tmps[p]?.getD undef = .pointer (some ⟨b, 0, none⟩) := by simpa using hp
  have c0 := cell_of h4 (j := 0) rfl
  have c1 := cell_of h4 (j := 1) rfl
  have c2 := cell_of h4 (j := 2) rfl
  simp [results, h, hp', asAddr, go_sem, c0, c1, c2]
theorem small_any (n : Int) (w : World) : Calls Tryz.prog 91 #[.int .i64 n] w (FPost w ⟨1, n, ⟨#[]⟩⟩) := by
  obtain ⟨w2, hw2⟩ : ∃ w2, w2 = w.alloc (.cells #[.int .i64 0, .int .i64 0, .string ⟨#[]⟩] 112) := ⟨_, rfl⟩
  obtain ⟨q, eq⟩ : ∃ q, q = w.heap.size := ⟨_, rfl⟩
  have hb2 : Below w.heap.size w w2 := by rw [hw2]; exact box_below w _
  have hq : w2.heap[q]? = some (.cells #[.int .i64 0, .int .i64 0, .string ⟨#[]⟩] 112 (0, 0)) := by rw [hw2, eq]; exact new_block w _
  have q0 := cell_of hq (j := 0) rfl
  have q1 := cell_of hq (j := 1) rfl
  have q2 := cell_of hq (j := 2) rfl
  have f0 := frozen_of_row w2 q 0 _ _ hq
  have f1 := frozen_of_row w2 q 1 _ _ hq
  have f2 := frozen_of_row w2 q 2 _ _ hq
  obtain ⟨w4, hw4⟩ : ∃ w4, w4 = ((w2.setCell ⟨q, 0, none⟩ (.int .i64 1)).setCell ⟨q, 1, none⟩ (.int .i64 n)).setCell ⟨q, 2, none⟩ (.string ⟨#[]⟩) := ⟨_, rfl⟩
  have h4 : w4.heap[q]? = some (.cells #[.int .i64 1, .int .i64 n, .string ⟨#[]⟩] 112 (0, 0)) := by rw [hw4]; exact set3f hq rfl _ _ _
  have HB4 : Hid (Below w.heap.size w w4) := Lib.hid (by rw [hw4]; exact ((hb2.setCell (Nat.le_of_eq eq.symm) _).setCell (Nat.le_of_eq eq.symm) _).setCell (Nat.le_of_eq eq.symm) _)
  have H4 := Lib.hid h4
  have HW2 := Lib.hid hw2
  have HW4 := Lib.hid hw4
  have EQ := Lib.hid eq
  clear hw2 hw4 eq hb2 hq h4
  go_enter Tryz.func91, Tryz.ntmps91
  go_upto_region 1 with fail
  rw [← HW2.out, ← EQ.out]
  go_wp2_with fail
  rw [← HW4.out]
  exact bodyPost_ret (res_field Tryz.results91 _ _ q _ _ _ (by simp) H4.out) rfl ⟨rfl, HB4.out⟩
theorem whole_any (n : Int) (w : World) : Calls Tryz.prog 92 #[.int .i64 n] w (FPost w ⟨2, n, ⟨#[]⟩⟩) := by
  obtain ⟨w2, hw2⟩ : ∃ w2, w2 = w.alloc (.cells #[.int .i64 0, .int .i64 0, .string ⟨#[]⟩] 112) := ⟨_, rfl⟩
  obtain ⟨q, eq⟩ : ∃ q, q = w.heap.size := ⟨_, rfl⟩
  have hb2 : Below w.heap.size w w2 := by rw [hw2]; exact box_below w _
  have hq : w2.heap[q]? = some (.cells #[.int .i64 0, .int .i64 0, .string ⟨#[]⟩] 112 (0, 0)) := by rw [hw2, eq]; exact new_block w _
  have q0 := cell_of hq (j := 0) rfl
  have q1 := cell_of hq (j := 1) rfl
  have q2 := cell_of hq (j := 2) rfl
  have f0 := frozen_of_row w2 q 0 _ _ hq
  have f1 := frozen_of_row w2 q 1 _ _ hq
  have f2 := frozen_of_row w2 q 2 _ _ hq
  obtain ⟨w4, hw4⟩ : ∃ w4, w4 = ((w2.setCell ⟨q, 0, none⟩ (.int .i64 2)).setCell ⟨q, 1, none⟩ (.int .i64 n)).setCell ⟨q, 2, none⟩ (.string ⟨#[]⟩) := ⟨_, rfl⟩
  have h4 : w4.heap[q]? = some (.cells #[.int .i64 2, .int .i64 n, .string ⟨#[]⟩] 112 (0, 0)) := by rw [hw4]; exact set3f hq rfl _ _ _
  have HB4 : Hid (Below w.heap.size w w4) := Lib.hid (by rw [hw4]; exact ((hb2.setCell (Nat.le_of_eq eq.symm) _).setCell (Nat.le_of_eq eq.symm) _).setCell (Nat.le_of_eq eq.symm) _)
  have H4 := Lib.hid h4
  have HW2 := Lib.hid hw2
  have HW4 := Lib.hid hw4
  have EQ := Lib.hid eq
  clear hw2 hw4 eq hb2 hq h4
  go_enter Tryz.func92, Tryz.ntmps92
  go_upto_region 1 with fail
  rw [← HW2.out, ← EQ.out]
  go_wp2_with fail
  rw [← HW4.out]
  exact bodyPost_ret (res_field Tryz.results92 _ _ q _ _ _ (by simp) H4.out) rfl ⟨rfl, HB4.out⟩
theorem text_any (s : ByteArray) (w : World) : Calls Tryz.prog 93 #[.string s] w (FPost w ⟨3, 0, s⟩) := by
  obtain ⟨w2, hw2⟩ : ∃ w2, w2 = w.alloc (.cells #[.int .i64 0, .int .i64 0, .string ⟨#[]⟩] 112) := ⟨_, rfl⟩
  obtain ⟨q, eq⟩ : ∃ q, q = w.heap.size := ⟨_, rfl⟩
  have hb2 : Below w.heap.size w w2 := by rw [hw2]; exact box_below w _
  have hq : w2.heap[q]? = some (.cells #[.int .i64 0, .int .i64 0, .string ⟨#[]⟩] 112 (0, 0)) := by rw [hw2, eq]; exact new_block w _
  have q0 := cell_of hq (j := 0) rfl
  have q1 := cell_of hq (j := 1) rfl
  have q2 := cell_of hq (j := 2) rfl
  have f0 := frozen_of_row w2 q 0 _ _ hq
  have f1 := frozen_of_row w2 q 1 _ _ hq
  have f2 := frozen_of_row w2 q 2 _ _ hq
  obtain ⟨w4, hw4⟩ : ∃ w4, w4 = ((w2.setCell ⟨q, 0, none⟩ (.int .i64 3)).setCell ⟨q, 1, none⟩ (.int .i64 0)).setCell ⟨q, 2, none⟩ (.string s) := ⟨_, rfl⟩
  have h4 : w4.heap[q]? = some (.cells #[.int .i64 3, .int .i64 0, .string s] 112 (0, 0)) := by rw [hw4]; exact set3f hq rfl _ _ _
  have HB4 : Hid (Below w.heap.size w w4) := Lib.hid (by rw [hw4]; exact ((hb2.setCell (Nat.le_of_eq eq.symm) _).setCell (Nat.le_of_eq eq.symm) _).setCell (Nat.le_of_eq eq.symm) _)
  have H4 := Lib.hid h4
  have HW2 := Lib.hid hw2
  have HW4 := Lib.hid hw4
  have EQ := Lib.hid eq
  clear hw2 hw4 eq hb2 hq h4
  go_enter Tryz.func93, Tryz.ntmps93
  go_upto_region 1 with fail
  rw [← HW2.out, ← EQ.out]
  go_wp2_with fail
  rw [← HW4.out]
  exact bodyPost_ret (res_field Tryz.results93 _ _ q _ _ _ (by simp) H4.out) rfl ⟨rfl, HB4.out⟩
def b2i (b : Bool) : Int := if b then 1 else 0
end Go.Proofs.YtflgemlhocjipaaGreatDoor
namespace Go.Proofs.YtflgemlhocjipaaGreatDoor
set_option maxRecDepth 100000
open Go.ChangeShapes Go.WideShapes Go.ChangeAt Go.RowKit Go.Proofs.Zn Go.Proofs.Zt
open Go.Proofs.Zs (St Lst Rep Tx)
open Pq (Fld FReads Reads fcs errL bytL)

def OfPost (w : World) (l : List Fld) (e : Ending) (w' : World) : Prop := ∃ b, e = .returned (.slice (some ⟨b, 0, none⟩) l.length l.length) ∧ w'.heap[b]? = some (.cells (fcs l).toArray 112 (0, 0)) ∧ w.heap.size ≤ b ∧ Below w.heap.size w w'
end Go.Proofs.YtflgemlhocjipaaGreatDoor
namespace Go.Proofs.YtflgemlhocjipaaGreatDoor
set_option maxRecDepth 100000
open Go.ChangeShapes Go.WideShapes Go.ChangeAt Go.RowKit Go.Proofs.Zn Go.Proofs.Zt
open Go.Proofs.Zs (St Lst Rep Tx)
open Pq (Fld FReads Reads fcs errL bytL)

theorem gbo_blk2 {w w' : World} {base e sz n : Nat} {v : Value} {xs : List Value} (ho : w.ownsRow base e sz v n xs) (hg : w.grownBy w' v.ownBlock) {q : Nat} {cs : Array Value} {t : TypeId} {fr : Nat × Nat} (hq : w.heap[q]? = some (.cells cs t fr)) (hne : t ≠ e) : w'.heap[q]? = some (.cells cs t fr) :=
  (hg.block q (blk_lt hq) (fun e' => own_ne ho hq hne e'.symm)).trans hq
theorem of_fields2 {w : World} {b : Nat} {l : List Fld} (hk : w.heap[b]? = some (.cells (fcs l).toArray 112 (0, 0))) (hl : l.length ≤ 1000) : FReads w (some ⟨b, 0, none⟩) l.length l := by
  have h := Lq.own_new (n := l.length) (sz := 3) hk (Nat.zero_le _) (by unfold maxLen; omega) (by simp [Pq.fcs_length])
  obtain ⟨A, c, e, hf⟩ := Pq.fields_own (l := l) h
  injection e with e1 e2 e3
  rw [e1]
  exact hf
def stF (z a b : Int) : List Fld := [⟨2, z, ⟨#[]⟩⟩, ⟨1, a, ⟨#[]⟩⟩, ⟨1, b, ⟨#[]⟩⟩]
def ndF (p d : ByteArray) (a1 a2 a3 a4 a5 a6 nx : Int) : List Fld := [⟨3, 0, p⟩, ⟨3, 0, d⟩, ⟨2, a1, ⟨#[]⟩⟩, ⟨2, a2, ⟨#[]⟩⟩, ⟨2, a3, ⟨#[]⟩⟩, ⟨2, a4, ⟨#[]⟩⟩, ⟨2, a5, ⟨#[]⟩⟩, ⟨2, a6, ⟨#[]⟩⟩, ⟨2, nx, ⟨#[]⟩⟩]
def lsF (i sp la n c : Int) : List Fld := [⟨2, i, ⟨#[]⟩⟩, ⟨2, sp, ⟨#[]⟩⟩, ⟨2, la, ⟨#[]⟩⟩, ⟨2, n, ⟨#[]⟩⟩, ⟨1, c, ⟨#[]⟩⟩, ⟨1, 0, ⟨#[]⟩⟩]
def paF (p : ByteArray) : List Fld := [⟨3, 0, p⟩]
set_option maxHeartbeats 4000000 in
theorem ofstate_any (z a b : Int) (w : World) : Calls Tryz.prog 62 #[.int .i64 z, .int .i64 a, .int .i64 b] w (OfPost w (stF z a b)) := by
  go_enter Tryz.func62, Tryz.ntmps62
  go_wp2_with fail
  refine (whole_any z _).mono ?_
  rintro e w1 ⟨rfl, hb⟩
  have HB1 : Hid (Below w.heap.size w w1) := Lib.hid (hb)
  clear hb
  go_wp2_with fail
  refine (small_any a _).mono ?_
  rintro e w2 ⟨rfl, hb⟩
  have HB2 : Hid (Below w.heap.size w w2) := Lib.hid (HB1.out.trans (hb.mono HB1.out.size))
  clear hb
  go_wp2_with fail
  refine (small_any b _).mono ?_
  rintro e w3 ⟨rfl, hb⟩
  have HB3 : Hid (Below w.heap.size w w3) := Lib.hid (HB2.out.trans (hb.mono HB2.out.size))
  clear hb
  have HE : Hid (OfPost w (stF z a b) (.returned (.slice (some ⟨w3.heap.size, 0, none⟩) 3 3)) (w3.alloc (.cells (fcs (stF z a b)).toArray 112))) := Lib.hid
    ⟨_, rfl, new_block w3 _, HB3.out.size, HB3.out.trans ((box_below w3 _).mono HB3.out.size)⟩
  go_wp2_with fail
  go_ret
  exact HE.out
set_option maxHeartbeats 4000000 in
theorem ofpath_any (p : ByteArray) (w : World) : Calls Tryz.prog 106 #[.string p] w (OfPost w (paF p)) := by
  go_enter Tryz.func106, Tryz.ntmps106
  go_wp2_with fail
  refine (text_any p _).mono ?_
  rintro e w1 ⟨rfl, hb⟩
  have HB1 : Hid (Below w.heap.size w w1) := Lib.hid (hb)
  clear hb
  have HE : Hid (OfPost w (paF p) (.returned (.slice (some ⟨w1.heap.size, 0, none⟩) 1 1)) (w1.alloc (.cells (fcs (paF p)).toArray 112))) := Lib.hid
    ⟨_, rfl, new_block w1 _, HB1.out.size, HB1.out.trans ((box_below w1 _).mono HB1.out.size)⟩
  go_wp2_with fail
  go_ret
  exact HE.out
set_option maxHeartbeats 8000000 in
theorem ofznode_any (p d : ByteArray) (a1 a2 a3 a4 a5 a6 nx : Int) (w : World) : Calls Tryz.prog 103 #[.agg #[.string p, .string d, .int .i64 a1, .int .i64 a2, .int .i64 a3, .int .i64 a4, .int .i64 a5, .int .i64 a6, .int .i64 nx]] w (OfPost w (ndF p d a1 a2 a3 a4 a5 a6 nx)) := by
  obtain ⟨w1, hw1⟩ : ∃ xx, xx = w.alloc (.cells #[.string p, .string d, .int .i64 a1, .int .i64 a2, .int .i64 a3, .int .i64 a4, .int .i64 a5, .int .i64 a6, .int .i64 nx] 132) := ⟨_, rfl⟩
  obtain ⟨q, eq⟩ : ∃ xx, xx = w.heap.size := ⟨_, rfl⟩
  have hbw1 : Below w.heap.size w w1 := by rw [hw1]; exact box_below w _
  have hkq : w1.heap[q]? = some (.cells #[.string p, .string d, .int .i64 a1, .int .i64 a2, .int .i64 a3, .int .i64 a4, .int .i64 a5, .int .i64 a6, .int .i64 nx] 132 (0, 0)) := by rw [hw1, eq]; exact new_block w _
  obtain ⟨w3, hw3⟩ : ∃ xx, xx = w1.alloc (.cells #[.int .i64 a1, .int .i64 a2, .int .i64 a3, .int .i64 a4, .int .i64 a5, .int .i64 a6] 130) := ⟨_, rfl⟩
  obtain ⟨r, er⟩ : ∃ xx, xx = w1.heap.size := ⟨_, rfl⟩
  have hbw3 : Below w1.heap.size w1 w3 := by rw [hw3]; exact box_below w1 _
  have hkr : w3.heap[r]? = some (.cells #[.int .i64 a1, .int .i64 a2, .int .i64 a3, .int .i64 a4, .int .i64 a5, .int .i64 a6] 130 (0, 0)) := by rw [hw3, er]; exact new_block w1 _
  have hkq3 := blk_below hkq hbw3
  have hb13 : Below w.heap.size w w3 := hbw1.trans (hbw3.mono hbw1.size)
  have HS : Hid (∀ W, Below w3.heap.size w3 W → W.cell? ⟨q, 0, none⟩ = some (.string p) ∧ W.cell? ⟨q, 1, none⟩ = some (.string d) ∧ W.cell? ⟨q, 8, none⟩ = some (.int .i64 nx) ∧ W.cell? ⟨r, 0, none⟩ = some (.int .i64 a1) ∧ W.cell? ⟨r, 1, none⟩ = some (.int .i64 a2) ∧ W.cell? ⟨r, 2, none⟩ = some (.int .i64 a3) ∧ W.cell? ⟨r, 3, none⟩ = some (.int .i64 a4) ∧ W.cell? ⟨r, 4, none⟩ = some (.int .i64 a5) ∧ W.cell? ⟨r, 5, none⟩ = some (.int .i64 a6) ∧ Below w3.heap.size w3 W) := Lib.hid (fun W hW => by
    have h := blk_below hkq3 hW
    have k := blk_below hkr hW
    exact ⟨cell_of h (j := 0) rfl, cell_of h (j := 1) rfl, cell_of h (j := 8) rfl, cell_of k (j := 0) rfl, cell_of k (j := 1) rfl, cell_of k (j := 2) rfl, cell_of k (j := 3) rfl, cell_of k (j := 4) rfl, cell_of k (j := 5) rfl, hW⟩)
  have HSA : Hid (∀ W o, (W.cell? ⟨q, 0, none⟩ = some (.string p) ∧ W.cell? ⟨q, 1, none⟩ = some (.string d) ∧ W.cell? ⟨q, 8, none⟩ = some (.int .i64 nx) ∧ W.cell? ⟨r, 0, none⟩ = some (.int .i64 a1) ∧ W.cell? ⟨r, 1, none⟩ = some (.int .i64 a2) ∧ W.cell? ⟨r, 2, none⟩ = some (.int .i64 a3) ∧ W.cell? ⟨r, 3, none⟩ = some (.int .i64 a4) ∧ W.cell? ⟨r, 4, none⟩ = some (.int .i64 a5) ∧ W.cell? ⟨r, 5, none⟩ = some (.int .i64 a6) ∧ Below w3.heap.size w3 W) → ((W.alloc o).cell? ⟨q, 0, none⟩ = some (.string p) ∧ (W.alloc o).cell? ⟨q, 1, none⟩ = some (.string d) ∧ (W.alloc o).cell? ⟨q, 8, none⟩ = some (.int .i64 nx) ∧ (W.alloc o).cell? ⟨r, 0, none⟩ = some (.int .i64 a1) ∧ (W.alloc o).cell? ⟨r, 1, none⟩ = some (.int .i64 a2) ∧ (W.alloc o).cell? ⟨r, 2, none⟩ = some (.int .i64 a3) ∧ (W.alloc o).cell? ⟨r, 3, none⟩ = some (.int .i64 a4) ∧ (W.alloc o).cell? ⟨r, 4, none⟩ = some (.int .i64 a5) ∧ (W.alloc o).cell? ⟨r, 5, none⟩ = some (.int .i64 a6) ∧ Below w3.heap.size w3 (W.alloc o))) := Lib.hid (fun W o hS => by
    obtain ⟨-, -, -, -, -, -, -, -, -, hW⟩ := hS
    exact HS.out _ (hW.trans ((box_below W o).mono hW.size)))
  have HC2 : Hid (∀ (z : Int) W, (W.cell? ⟨q, 0, none⟩ = some (.string p) ∧ W.cell? ⟨q, 1, none⟩ = some (.string d) ∧ W.cell? ⟨q, 8, none⟩ = some (.int .i64 nx) ∧ W.cell? ⟨r, 0, none⟩ = some (.int .i64 a1) ∧ W.cell? ⟨r, 1, none⟩ = some (.int .i64 a2) ∧ W.cell? ⟨r, 2, none⟩ = some (.int .i64 a3) ∧ W.cell? ⟨r, 3, none⟩ = some (.int .i64 a4) ∧ W.cell? ⟨r, 4, none⟩ = some (.int .i64 a5) ∧ W.cell? ⟨r, 5, none⟩ = some (.int .i64 a6) ∧ Below w3.heap.size w3 W) → Calls Tryz.prog 92 #[.int .i64 z] W fun e w' => e = .returned (.agg #[.int .i64 2, .int .i64 z, .string ⟨#[]⟩]) ∧ (w'.cell? ⟨q, 0, none⟩ = some (.string p) ∧ w'.cell? ⟨q, 1, none⟩ = some (.string d) ∧ w'.cell? ⟨q, 8, none⟩ = some (.int .i64 nx) ∧ w'.cell? ⟨r, 0, none⟩ = some (.int .i64 a1) ∧ w'.cell? ⟨r, 1, none⟩ = some (.int .i64 a2) ∧ w'.cell? ⟨r, 2, none⟩ = some (.int .i64 a3) ∧ w'.cell? ⟨r, 3, none⟩ = some (.int .i64 a4) ∧ w'.cell? ⟨r, 4, none⟩ = some (.int .i64 a5) ∧ w'.cell? ⟨r, 5, none⟩ = some (.int .i64 a6) ∧ Below w3.heap.size w3 w')) := Lib.hid (fun z W hS => by
    obtain ⟨-, -, -, -, -, -, -, -, -, hW⟩ := hS
    refine (whole_any z W).mono ?_
    rintro e w' ⟨rfl, hb⟩
    exact ⟨rfl, HS.out _ (hW.trans (hb.mono hW.size))⟩)
  have HC3 : Hid (∀ (z : ByteArray) W, (W.cell? ⟨q, 0, none⟩ = some (.string p) ∧ W.cell? ⟨q, 1, none⟩ = some (.string d) ∧ W.cell? ⟨q, 8, none⟩ = some (.int .i64 nx) ∧ W.cell? ⟨r, 0, none⟩ = some (.int .i64 a1) ∧ W.cell? ⟨r, 1, none⟩ = some (.int .i64 a2) ∧ W.cell? ⟨r, 2, none⟩ = some (.int .i64 a3) ∧ W.cell? ⟨r, 3, none⟩ = some (.int .i64 a4) ∧ W.cell? ⟨r, 4, none⟩ = some (.int .i64 a5) ∧ W.cell? ⟨r, 5, none⟩ = some (.int .i64 a6) ∧ Below w3.heap.size w3 W) → Calls Tryz.prog 93 #[.string z] W fun e w' => e = .returned (.agg #[.int .i64 3, .int .i64 0, .string z]) ∧ (w'.cell? ⟨q, 0, none⟩ = some (.string p) ∧ w'.cell? ⟨q, 1, none⟩ = some (.string d) ∧ w'.cell? ⟨q, 8, none⟩ = some (.int .i64 nx) ∧ w'.cell? ⟨r, 0, none⟩ = some (.int .i64 a1) ∧ w'.cell? ⟨r, 1, none⟩ = some (.int .i64 a2) ∧ w'.cell? ⟨r, 2, none⟩ = some (.int .i64 a3) ∧ w'.cell? ⟨r, 3, none⟩ = some (.int .i64 a4) ∧ w'.cell? ⟨r, 4, none⟩ = some (.int .i64 a5) ∧ w'.cell? ⟨r, 5, none⟩ = some (.int .i64 a6) ∧ Below w3.heap.size w3 w')) := Lib.hid (fun z W hS => by
    obtain ⟨-, -, -, -, -, -, -, -, -, hW⟩ := hS
    refine (text_any z W).mono ?_
    rintro e w' ⟨rfl, hb⟩
    exact ⟨rfl, HS.out _ (hW.trans (hb.mono hW.size))⟩)
  obtain ⟨c0, c1, c2, c3, c4, c5, c6, c7, c8⟩ : w1.cell? ⟨q, 0, none⟩ = some (.string p) ∧ w1.cell? ⟨q, 1, none⟩ = some (.string d) ∧ w1.cell? ⟨q, 2, none⟩ = some (.int .i64 a1) ∧ w1.cell? ⟨q, 3, none⟩ = some (.int .i64 a2) ∧ w1.cell? ⟨q, 4, none⟩ = some (.int .i64 a3) ∧ w1.cell? ⟨q, 5, none⟩ = some (.int .i64 a4) ∧ w1.cell? ⟨q, 6, none⟩ = some (.int .i64 a5) ∧ w1.cell? ⟨q, 7, none⟩ = some (.int .i64 a6) ∧ w1.cell? ⟨q, 8, none⟩ = some (.int .i64 nx) := by
    exact ⟨cell_of hkq (j := 0) rfl, cell_of hkq (j := 1) rfl, cell_of hkq (j := 2) rfl, cell_of hkq (j := 3) rfl, cell_of hkq (j := 4) rfl, cell_of hkq (j := 5) rfl, cell_of hkq (j := 6) rfl, cell_of hkq (j := 7) rfl, cell_of hkq (j := 8) rfl⟩
  have HW1 := Lib.hid hw1
  have HW3 := Lib.hid hw3
  have EQ := Lib.hid eq
  have ER := Lib.hid er
  have HB := Lib.hid hb13
  clear hw1 hw3 eq er hb13 hbw1 hbw3 hkq hkq3 hkr
  go_enter Tryz.func103, Tryz.ntmps103
  go_upto_region 1 with fail
  rw [← HW1.out, ← EQ.out]
  go_wp2_with fail
  rw [← HW3.out, ← ER.out]
  clear c0 c1 c2 c3 c4 c5 c6 c7 c8
  obtain ⟨d0, d1, d2, d3, d4, d5, d6, d7, d8, -⟩ := HS.out w3 (Below.refl _ _)
  go_region_held3 (fun W => W.cell? ⟨q, 0, none⟩ = some (.string p) ∧ W.cell? ⟨q, 1, none⟩ = some (.string d) ∧ W.cell? ⟨q, 8, none⟩ = some (.int .i64 nx) ∧ W.cell? ⟨r, 0, none⟩ = some (.int .i64 a1) ∧ W.cell? ⟨r, 1, none⟩ = some (.int .i64 a2) ∧ W.cell? ⟨r, 2, none⟩ = some (.int .i64 a3) ∧ W.cell? ⟨r, 3, none⟩ = some (.int .i64 a4) ∧ W.cell? ⟨r, 4, none⟩ = some (.int .i64 a5) ∧ W.cell? ⟨r, 5, none⟩ = some (.int .i64 a6) ∧ Below w3.heap.size w3 W)
    (first
      | exact HS.out _ (Below.refl _ _).drew
      | (with_reducible assumption)
      | (with_reducible exact HSA.out _ _ (by with_reducible assumption)))
    (first
      | (go_at_call 92; (with_reducible refine (HC2.out _ _ (by with_reducible assumption)).mono ?_); rintro e w4 ⟨rfl, hS3⟩)
      | (go_at_call 93; (with_reducible refine (HC3.out _ _ (by with_reducible assumption)).mono ?_); rintro e w4 ⟨rfl, hS3⟩))
  obtain ⟨-, -, -, -, -, -, -, -, -, hW3⟩ := hS3
  have HE : Hid (OfPost w (ndF p d a1 a2 a3 a4 a5 a6 nx) (.returned (.slice (some ⟨w4.heap.size, 0, none⟩) 9 9)) (w4.alloc (.cells (fcs (ndF p d a1 a2 a3 a4 a5 a6 nx)).toArray 112))) := Lib.hid
    ⟨_, rfl, new_block w4 _, Nat.le_trans HB.out.size hW3.size, HB.out.trans ((hW3.trans ((box_below w4 _).mono hW3.size)).mono HB.out.size)⟩
  clear hW3
  go_wp2_with fail
  go_ret
  exact HE.out
set_option maxHeartbeats 8000000 in
theorem oflease_any (i sp la n c rs : Int) (w : World) : Calls Tryz.prog 105 #[.agg #[.int .i64 i, .int .i64 sp, .int .i64 la], .agg #[.int .i64 n, .int .i64 c, .int .i64 rs, .slice none 0 0]] w (OfPost w (lsF i sp la n c)) := by
  obtain ⟨w1, hw1⟩ : ∃ xx, xx = w.alloc (.cells #[.int .i64 i, .int .i64 sp, .int .i64 la] 100) := ⟨_, rfl⟩
  obtain ⟨q, eq⟩ : ∃ xx, xx = w.heap.size := ⟨_, rfl⟩
  have hbw1 : Below w.heap.size w w1 := by rw [hw1]; exact box_below w _
  have hkq : w1.heap[q]? = some (.cells #[.int .i64 i, .int .i64 sp, .int .i64 la] 100 (0, 0)) := by rw [hw1, eq]; exact new_block w _
  obtain ⟨w3, hw3⟩ : ∃ xx, xx = w1.alloc (.cells #[.int .i64 n, .int .i64 c, .int .i64 rs, .slice none 0 0] 149) := ⟨_, rfl⟩
  obtain ⟨r, er⟩ : ∃ xx, xx = w1.heap.size := ⟨_, rfl⟩
  have hbw3 : Below w1.heap.size w1 w3 := by rw [hw3]; exact box_below w1 _
  have hkr : w3.heap[r]? = some (.cells #[.int .i64 n, .int .i64 c, .int .i64 rs, .slice none 0 0] 149 (0, 0)) := by rw [hw3, er]; exact new_block w1 _
  have hkq3 := blk_below hkq hbw3
  have hb13 : Below w.heap.size w w3 := hbw1.trans (hbw3.mono hbw1.size)
  have HS : Hid (∀ W, Below w3.heap.size w3 W → W.cell? ⟨q, 0, none⟩ = some (.int .i64 i) ∧ W.cell? ⟨q, 1, none⟩ = some (.int .i64 sp) ∧ W.cell? ⟨q, 2, none⟩ = some (.int .i64 la) ∧ W.cell? ⟨r, 0, none⟩ = some (.int .i64 n) ∧ W.cell? ⟨r, 1, none⟩ = some (.int .i64 c) ∧ W.cell? ⟨r, 2, none⟩ = some (.int .i64 rs) ∧ W.cell? ⟨r, 3, none⟩ = some (.slice none 0 0) ∧ Below w3.heap.size w3 W) := Lib.hid (fun W hW => by
    have h := blk_below hkq3 hW
    have k := blk_below hkr hW
    exact ⟨cell_of h (j := 0) rfl, cell_of h (j := 1) rfl, cell_of h (j := 2) rfl, cell_of k (j := 0) rfl, cell_of k (j := 1) rfl, cell_of k (j := 2) rfl, cell_of k (j := 3) rfl, hW⟩)
  have HSA : Hid (∀ W o, (W.cell? ⟨q, 0, none⟩ = some (.int .i64 i) ∧ W.cell? ⟨q, 1, none⟩ = some (.int .i64 sp) ∧ W.cell? ⟨q, 2, none⟩ = some (.int .i64 la) ∧ W.cell? ⟨r, 0, none⟩ = some (.int .i64 n) ∧ W.cell? ⟨r, 1, none⟩ = some (.int .i64 c) ∧ W.cell? ⟨r, 2, none⟩ = some (.int .i64 rs) ∧ W.cell? ⟨r, 3, none⟩ = some (.slice none 0 0) ∧ Below w3.heap.size w3 W) → ((W.alloc o).cell? ⟨q, 0, none⟩ = some (.int .i64 i) ∧ (W.alloc o).cell? ⟨q, 1, none⟩ = some (.int .i64 sp) ∧ (W.alloc o).cell? ⟨q, 2, none⟩ = some (.int .i64 la) ∧ (W.alloc o).cell? ⟨r, 0, none⟩ = some (.int .i64 n) ∧ (W.alloc o).cell? ⟨r, 1, none⟩ = some (.int .i64 c) ∧ (W.alloc o).cell? ⟨r, 2, none⟩ = some (.int .i64 rs) ∧ (W.alloc o).cell? ⟨r, 3, none⟩ = some (.slice none 0 0) ∧ Below w3.heap.size w3 (W.alloc o))) := Lib.hid (fun W o hS => by
    obtain ⟨-, -, -, -, -, -, -, hW⟩ := hS
    exact HS.out _ (hW.trans ((box_below W o).mono hW.size)))
  have HC2 : Hid (∀ (z : Int) W, (W.cell? ⟨q, 0, none⟩ = some (.int .i64 i) ∧ W.cell? ⟨q, 1, none⟩ = some (.int .i64 sp) ∧ W.cell? ⟨q, 2, none⟩ = some (.int .i64 la) ∧ W.cell? ⟨r, 0, none⟩ = some (.int .i64 n) ∧ W.cell? ⟨r, 1, none⟩ = some (.int .i64 c) ∧ W.cell? ⟨r, 2, none⟩ = some (.int .i64 rs) ∧ W.cell? ⟨r, 3, none⟩ = some (.slice none 0 0) ∧ Below w3.heap.size w3 W) → Calls Tryz.prog 92 #[.int .i64 z] W fun e w' => e = .returned (.agg #[.int .i64 2, .int .i64 z, .string ⟨#[]⟩]) ∧ (w'.cell? ⟨q, 0, none⟩ = some (.int .i64 i) ∧ w'.cell? ⟨q, 1, none⟩ = some (.int .i64 sp) ∧ w'.cell? ⟨q, 2, none⟩ = some (.int .i64 la) ∧ w'.cell? ⟨r, 0, none⟩ = some (.int .i64 n) ∧ w'.cell? ⟨r, 1, none⟩ = some (.int .i64 c) ∧ w'.cell? ⟨r, 2, none⟩ = some (.int .i64 rs) ∧ w'.cell? ⟨r, 3, none⟩ = some (.slice none 0 0) ∧ Below w3.heap.size w3 w')) := Lib.hid (fun z W hS => by
    obtain ⟨-, -, -, -, -, -, -, hW⟩ := hS
    refine (whole_any z W).mono ?_
    rintro e w' ⟨rfl, hb⟩
    exact ⟨rfl, HS.out _ (hW.trans (hb.mono hW.size))⟩)
  have HC3 : Hid (∀ (z : Int) W, (W.cell? ⟨q, 0, none⟩ = some (.int .i64 i) ∧ W.cell? ⟨q, 1, none⟩ = some (.int .i64 sp) ∧ W.cell? ⟨q, 2, none⟩ = some (.int .i64 la) ∧ W.cell? ⟨r, 0, none⟩ = some (.int .i64 n) ∧ W.cell? ⟨r, 1, none⟩ = some (.int .i64 c) ∧ W.cell? ⟨r, 2, none⟩ = some (.int .i64 rs) ∧ W.cell? ⟨r, 3, none⟩ = some (.slice none 0 0) ∧ Below w3.heap.size w3 W) → Calls Tryz.prog 91 #[.int .i64 z] W fun e w' => e = .returned (.agg #[.int .i64 1, .int .i64 z, .string ⟨#[]⟩]) ∧ (w'.cell? ⟨q, 0, none⟩ = some (.int .i64 i) ∧ w'.cell? ⟨q, 1, none⟩ = some (.int .i64 sp) ∧ w'.cell? ⟨q, 2, none⟩ = some (.int .i64 la) ∧ w'.cell? ⟨r, 0, none⟩ = some (.int .i64 n) ∧ w'.cell? ⟨r, 1, none⟩ = some (.int .i64 c) ∧ w'.cell? ⟨r, 2, none⟩ = some (.int .i64 rs) ∧ w'.cell? ⟨r, 3, none⟩ = some (.slice none 0 0) ∧ Below w3.heap.size w3 w')) := Lib.hid (fun z W hS => by
    obtain ⟨-, -, -, -, -, -, -, hW⟩ := hS
    refine (small_any z W).mono ?_
    rintro e w' ⟨rfl, hb⟩
    exact ⟨rfl, HS.out _ (hW.trans (hb.mono hW.size))⟩)
  have HW1 := Lib.hid hw1
  have HW3 := Lib.hid hw3
  have EQ := Lib.hid eq
  have ER2 : Hid (q + 1 = r) := Lib.hid (by rw [er, hw1, eq]; simp)
  have HB := Lib.hid hb13
  clear hw1 hw3 eq er hb13 hbw1 hbw3 hkq hkq3 hkr
  go_enter Tryz.func105, Tryz.ntmps105
  go_upto_region 1 with fail
  rw [← HW1.out, ← EQ.out, ← HW3.out, ER2.out]
  obtain ⟨d0, d1, d2, d3, d4, d5, d6, -⟩ := HS.out w3 (Below.refl _ _)
  go_region_held3 (fun W => W.cell? ⟨q, 0, none⟩ = some (.int .i64 i) ∧ W.cell? ⟨q, 1, none⟩ = some (.int .i64 sp) ∧ W.cell? ⟨q, 2, none⟩ = some (.int .i64 la) ∧ W.cell? ⟨r, 0, none⟩ = some (.int .i64 n) ∧ W.cell? ⟨r, 1, none⟩ = some (.int .i64 c) ∧ W.cell? ⟨r, 2, none⟩ = some (.int .i64 rs) ∧ W.cell? ⟨r, 3, none⟩ = some (.slice none 0 0) ∧ Below w3.heap.size w3 W)
    (first
      | exact HS.out _ (Below.refl _ _).drew
      | (with_reducible assumption)
      | (with_reducible exact HSA.out _ _ (by with_reducible assumption)))
    (first
      | (go_at_call 92; (with_reducible refine (HC2.out _ _ (by with_reducible assumption)).mono ?_); rintro e w4 ⟨rfl, hS3⟩)
      | (go_at_call 91; (with_reducible refine (HC3.out _ _ (by with_reducible assumption)).mono ?_); rintro e w4 ⟨rfl, hS3⟩))
  obtain ⟨-, -, -, -, -, -, -, hW3⟩ := hS3
  obtain ⟨w5, hw5⟩ : ∃ w5, w5 = w4.alloc (.cells (fcs (lsF i sp la n c)).toArray 112) := ⟨_, rfl⟩
  have hb5 : Below w3.heap.size w3 w5 := by rw [hw5]; exact hW3.trans ((box_below w4 _).mono hW3.size)
  obtain ⟨e0, e1, e2, e3, e4, e5, e6, -⟩ := HS.out w5 hb5
  have HE : Hid (OfPost w (lsF i sp la n c) (.returned (.slice (some ⟨w4.heap.size, 0, none⟩) 6 6)) w5) := Lib.hid
    (by rw [hw5] at hb5 ⊢; exact ⟨_, rfl, new_block w4 _, Nat.le_trans HB.out.size hW3.size, HB.out.trans (hb5.mono HB.out.size)⟩)
  have HW5 : Hid (w5 = w4.alloc (.cells #[.int .i64 2, .int .i64 i, .string ⟨#[]⟩, .int .i64 2, .int .i64 sp, .string ⟨#[]⟩, .int .i64 2, .int .i64 la, .string ⟨#[]⟩, .int .i64 2, .int .i64 n, .string ⟨#[]⟩, .int .i64 1, .int .i64 c, .string ⟨#[]⟩, .int .i64 1, .int .i64 0, .string ⟨#[]⟩] 112)) := Lib.hid hw5
  obtain ⟨b4, hb4⟩ : ∃ b4, b4 = w4.heap.size := ⟨_, rfl⟩
  have B4 := Lib.hid hb4
  rw [← hb4] at HE
  clear hW3 hw5 hb5 hb4
  go_upto_region 2 with fail
  rw [← HW5.out, ← B4.out]
  have h00 : decide ((0 : Int) < 0) = false := rfl
  go_wp2_with fail
  go_loopw [5, 34] (fun u i wr => u = .slice (some ⟨b4, 0, none⟩) 6 6 ∧ i = .int .i64 0 ∧ Hid (wr = w5)) (fun _ _ _ => 0)
  case atStart => exact ⟨rfl, rfl, Lib.hid rfl⟩
  case round =>
    obtain ⟨rfl, rfl, hwr⟩ := hrel
    obtain rfl := hwr.out
    go_wp2_with fail
    go_ret
    exact HE.out
def psb (n c : Int) (m : Nat) : Bool := if n = 0 then (c == 0 && m == 0) else (c == 0 || m == 0)
set_option maxHeartbeats 4000000 in
theorem possible_any (n c rs : Int) (A : Option Addr) (m k : Nat) (w : World) : Calls Tryz.prog 107 #[.agg #[.int .i64 n, .int .i64 c, .int .i64 rs, .slice A m k]] w fun e w' => e = .returned (.bool (psb n c m)) ∧ Below w.heap.size w w' := by
  obtain ⟨w1, hw1⟩ : ∃ xx, xx = w.alloc (.cells #[.int .i64 n, .int .i64 c, .int .i64 rs, .slice A m k] 149) := ⟨_, rfl⟩
  obtain ⟨q, eq⟩ : ∃ xx, xx = w.heap.size := ⟨_, rfl⟩
  have hbw1 : Below w.heap.size w w1 := by rw [hw1]; exact box_below w _
  have hkq : w1.heap[q]? = some (.cells #[.int .i64 n, .int .i64 c, .int .i64 rs, .slice A m k] 149 (0, 0)) := by rw [hw1, eq]; exact new_block w _
  have d0 := cell_of hkq (j := 0) rfl
  have d1 := cell_of hkq (j := 1) rfl
  have d3 := cell_of hkq (j := 3) rfl
  have HB := Lib.hid hbw1
  have HW1 := Lib.hid hw1
  have EQ := Lib.hid eq
  obtain ⟨R, hR⟩ : ∃ R, psb n c m = R := ⟨_, rfl⟩
  rw [hR]
  have HR := Lib.hid hR
  clear hw1 eq hkq hbw1 hR
  go_enter Tryz.func107, Tryz.ntmps107
  go_upto_region 1 with fail
  rw [← HW1.out, ← EQ.out]
  obtain ⟨bc, hbc⟩ : ∃ b, (c != 0) = b := ⟨_, rfl⟩
  obtain ⟨bm, hbm⟩ : ∃ b, decide ((0 : Int) < (m : Int)) = b := ⟨_, rfl⟩
  obtain ⟨bn, hbn⟩ : ∃ b, (n == 0) = b := ⟨_, rfl⟩
  have hbm2 : decide (0 < m) = bm := by rw [← hbm]; simp
  have HR2 : Hid (R = if bn = true then (!bc && !bm) else (!bc || !bm)) := Lib.hid (by
    rw [← HR.out, ← hbc, ← hbm2, ← hbn]
    have e1 : decide (0 < m) = !(m == 0) := by cases m <;> simp
    rw [e1, bne]
    unfold psb
    by_cases h1 : n = 0 <;> simp [h1])
  cases bc <;> cases bm <;> cases bn
  all_goals
    go_region
    all_goals
      go_wp2_with fail
      go_ret
      exact ⟨by rw [HR2.out]; rfl, HB.out.drew⟩
end Go.Proofs.YtflgemlhocjipaaGreatDoor
namespace Go.Proofs.YtflgemlhocjipaaGreatDoor
set_option maxRecDepth 100000
open Go.ChangeShapes Go.WideShapes Go.ChangeAt Go.RowKit Go.Proofs.Zn Go.Proofs.Zt
open Go.Proofs.Zs (St Lst Rep Tx)
open Pq (Fld FReads Reads fcs ams errL bytL sm dc Sm Bys byts)

def hk : List Int := [1, 2, 2, 2, 2, 1]
def pk : List Int := [1, 3, 3, 2, 4, 4]
def lastN (f : List Fld) : Int := (f.getD (f.length - 1) Pq.z0).n
def rep (m : Nat) (l : List Int) : List Int := (List.replicate m l).flatten
/-- A record's head and parts. -/
def apS (hk pk b : List Int) : Option (List Fld × List Fld) := match sm hk b with
  | .bad _ => none
  | .good f n => if 4096 < b.length then none else if 6 < lastN f then none else match dc (rep (lastN f).toNat pk) (b.drop n) with
    | .bad _ => none
    | .good g _ => some (f, g)
theorem errL_mem : ∀ {l : List Fld}, errL l = 0 → ∀ f ∈ l, ams f = 0
  | [], _, _, h => by cases h
  | x :: l, h, f, hf => by
    obtain ⟨h1, h2⟩ := Pq.errL_cons h
    rcases List.mem_cons.1 hf with rfl | hf
    · exact h1
    · exact errL_mem h2 f hf
theorem rep_succ (m : Nat) (l : List Int) : rep (m + 1) l = l ++ rep m l := by simp [rep, List.replicate_succ]
theorem rep_length (m : Nat) (l : List Int) : (rep m l).length = m * l.length := by
  induction m with
  | zero => simp [rep]
  | succ m ih => rw [rep_succ, List.length_append, ih, Nat.succ_mul]; omega
theorem sm_kinds : ∀ {ks b : List Int} {l : List Fld} {n : Nat}, Bys b → sm ks b = .good l n → l.map (·.k) = ks
  | [], b, l, n, _, h => by simp only [sm] at h; injection h with h1 h2; subst h1; rfl
  | k :: ks, b, l, n, hb, h => by
    simp only [sm] at h
    cases hr : Pq.rd k b with
    | bad e => rw [hr] at h; cases h
    | good f m =>
      rw [hr] at h
      simp only at h
      cases hs : sm ks (b.drop m) with
      | bad e => rw [hs] at h; cases h
      | good l2 n2 =>
        rw [hs] at h
        simp only [Sm.put] at h
        injection h with h1 h2
        subst h1
        have := sm_kinds (Pq.bys_drop m hb) hs
        have hk := (Pq.rd_good hb hr).2.1
        simp [this, hk]
theorem dc_sm {ks b : List Int} {l : List Fld} {n : Nat} (h : dc ks b = .good l n) : sm ks b = .good l n := by
  unfold dc at h
  cases hs : sm ks b with
  | bad e => rw [hs] at h; cases h
  | good l2 n2 =>
    rw [hs] at h
    simp only at h
    split at h
    · cases h
    · exact h
theorem k1 {f : Fld} (h : ams f = 0) (k : f.k = 1) : f = ⟨1, f.n, ⟨#[]⟩⟩ := by
  rcases Pq.ams_zero h with ⟨e, _, _, e2⟩ | ⟨e, _⟩ | ⟨e, _⟩ | ⟨e, _⟩
  · obtain ⟨a, b, c⟩ := f; simp only at e e2 ⊢; rw [e, e2]
  all_goals omega
theorem k2 {f : Fld} (h : ams f = 0) (k : f.k = 2) : f = ⟨2, f.n, ⟨#[]⟩⟩ ∧ 0 ≤ f.n ∧ f.n ≤ 4611686018427387904 := by
  rcases Pq.ams_zero h with ⟨e, _⟩ | ⟨e, e3, e4, e2⟩ | ⟨e, _⟩ | ⟨e, _⟩
  · omega
  · refine ⟨?_, e3, e4⟩; obtain ⟨a, b, c⟩ := f; simp only at e e2 ⊢; rw [e, e2]
  all_goals omega
theorem k3 {f : Fld} (h : ams f = 0) (k : f.k = 3) : f = ⟨3, 0, f.s⟩ := by
  rcases Pq.ams_zero h with ⟨e, _⟩ | ⟨e, _⟩ | ⟨e, e2, _⟩ | ⟨e, _⟩
  · omega
  · omega
  · obtain ⟨a, b, c⟩ := f; simp only at e e2 ⊢; rw [e, e2]
  · omega
theorem k4 {f : Fld} (h : ams f = 0) (k : f.k = 4) : f = ⟨4, b2i (f.n == 1), ⟨#[]⟩⟩ := by
  rcases Pq.ams_zero h with ⟨e, _⟩ | ⟨e, _⟩ | ⟨e, _⟩ | ⟨e, e3, e4, e2⟩
  · omega
  · omega
  · omega
  · obtain ⟨a, b, c⟩ := f
    simp only at e e2 e3 e4 ⊢
    have : b = 0 ∨ b = 1 := by omega
    rcases this with rfl | rfl <;> rw [e, e2] <;> rfl
theorem six {g : List Fld} {x0 x1 x2 x3 x4 x5 : Int} {t : List Int} (h : g.map (·.k) = x0 :: x1 :: x2 :: x3 :: x4 :: x5 :: t) : ∃ a b c d e f r, g = a :: b :: c :: d :: e :: f :: r ∧ a.k = x0 ∧ b.k = x1 ∧ c.k = x2 ∧ d.k = x3 ∧ e.k = x4 ∧ f.k = x5 ∧ r.map (·.k) = t := by
  obtain ⟨a, g1, rfl, h0, h⟩ := List.map_eq_cons_iff.1 h
  obtain ⟨b, g2, rfl, h1, h⟩ := List.map_eq_cons_iff.1 h
  obtain ⟨c, g3, rfl, h2, h⟩ := List.map_eq_cons_iff.1 h
  obtain ⟨d, g4, rfl, h3, h⟩ := List.map_eq_cons_iff.1 h
  obtain ⟨e, g5, rfl, h4, h⟩ := List.map_eq_cons_iff.1 h
  obtain ⟨f, g6, rfl, h5, h⟩ := List.map_eq_cons_iff.1 h
  exact ⟨a, b, c, d, e, f, g6, rfl, h0, h1, h2, h3, h4, h5, h⟩
theorem apS_some {hk pk b : List Int} {f g : List Fld} (hb : Bys b) (h : apS hk pk b = some (f, g)) :
    errL f = 0 ∧ errL g = 0 ∧ bytL f ++ bytL g = b ∧ f.map (·.k) = hk ∧ g.map (·.k) = rep (lastN f).toNat pk ∧ b.length ≤ 4096 ∧ lastN f ≤ 6 := by
  unfold apS at h
  cases hs : sm hk b with
  | bad e => rw [hs] at h; cases h
  | good f2 n =>
    rw [hs] at h
    simp only at h
    split at h
    · cases h
    · rename_i h1
      split at h
      · cases h
      · rename_i h2
        cases hd : dc (rep (lastN f2).toNat pk) (b.drop n) with
        | bad e => rw [hd] at h; cases h
        | good g2 n2 =>
          rw [hd] at h
          simp only [Option.some.injEq, Prod.mk.injEq] at h
          obtain ⟨rfl, rfl⟩ := h
          obtain ⟨s1, s2, s3, s4⟩ := Pq.sm_good hb hs
          obtain ⟨d1, d2, d3⟩ := Pq.dc_good (Pq.bys_drop n hb) hd
          exact ⟨s2, d1, by rw [s3, d2, List.take_append_drop], sm_kinds hb hs, sm_kinds (Pq.bys_drop n hb) (dc_sm hd), by omega, by omega⟩
end Go.Proofs.YtflgemlhocjipaaGreatDoor
