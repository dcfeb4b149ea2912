/-
  What Take and Double return and leave. No condition.
-/
import Derived.Test.YtdlhjpcofldfnaaDel
namespace Go.Proofs.Ytdlhjpcofldfnaa
set_option maxRecDepth 100000
open Go.ChangeShapes Go.WideShapes Go.ChangeAt Go.RowKit

/-- One block alone was written into. -/
structure Wr (r : Nat) (w w' : World) : Prop where
  below : Below r w w'
  rest : ∀ k, k ≠ r → w'.heap[k]? = w.heap[k]?
theorem Wr.refl (r : Nat) (w : World) : Wr r w w := ⟨Below.refl _ _, fun _ _ => rfl⟩
theorem Wr.set {r : Nat} {w w' : World} (h : Wr r w w') (j : Nat) (v : Value) : Wr r w (w'.setCell ⟨r, j, none⟩ v) :=
  ⟨h.below.setCell (Nat.le_refl r) v, fun k hk => (Go.Deep.blk_setCell_other w' _ _ k hk).trans (h.rest k hk)⟩
theorem Kn.wr {B np mb r : Nat} {r1 r2 : Value} {w w5 w6 : World} (h : Kn B np mb r1 r2 w w5) (hw : Wr r w5 w6) (hr : w.heap.size ≤ r) (hB : B ≤ r) : Kn B np mb r1 r2 w w6 :=
  ⟨h.below.trans (hw.below.mono hB), fun k hk h1 h2 h3 => (hw.rest k (by omega)).trans (h.kept k hk h1 h2 h3), h.row⟩
theorem NetW.wr {w w' : World} {B np mb r : Nat} {rv : Value} {L : List Pk} {ap : List (Int × Int)} {o : Obj} (h : NetW w B np mb rv L ap) (hw : Wr r w w') (hb : Bx np mb rv w r o) : NetW w' B np mb rv L ap := h.other hb.n hb.m hb.r hw.rest
theorem Bx.wr {np mb r b : Nat} {rv : Value} {w w' : World} {o : Obj} (h : Bx np mb rv w b o) (hw : Wr r w w') (hne : b ≠ r) : Bx np mb rv w' b o := ⟨(hw.rest b hne).trans h.here, h.n, h.m, h.r⟩
/-- A message is laid into a box. -/
theorem set_pk {w : World} {r : Nat} {a b c : Value} (h : w.heap[r]? = some (.cells #[a, b, c] 31 (0, 0))) (x : Pk) :
    Wr r w (((w.setCell ⟨r, 0, none⟩ (.int .i64 x.f)).setCell ⟨r, 1, none⟩ (.int .i64 x.t)).setCell ⟨r, 2, none⟩ (.string x.b)) ∧
    (((w.setCell ⟨r, 0, none⟩ (.int .i64 x.f)).setCell ⟨r, 1, none⟩ (.int .i64 x.t)).setCell ⟨r, 2, none⟩ (.string x.b)).heap[r]? = some (.cells #[.int .i64 x.f, .int .i64 x.t, .string x.b] 31 (0, 0)) := by
  have h1 := heap_setCell_same w r 0 _ 31 (.int .i64 x.f) h
  have h2 := heap_setCell_same _ r 1 _ 31 (.int .i64 x.t) h1
  have h3 := heap_setCell_same _ r 2 _ 31 (.string x.b) h2
  exact ⟨((Wr.refl r w).set 0 _ |>.set 1 _).set 2 _, h3⟩
def tkL (L : List Pk) (k : Int) : List Pk := if (atL L k).2 = true then L.eraseIdx k.toNat else L
def TkPost (B np mb : Nat) (rv : Value) (L : List Pk) (ap : List (Int × Int)) (k : Int) (w : World) (e : Ending) (w' : World) : Prop :=
  e = .returned (.tuple #[pv (atL L k).1, .bool (atL L k).2]) ∧ ∃ rv', NetW w' B np mb rv' (tkL L k) ap ∧ Kn B np mb rv rv' w w'
theorem at_true {L : List Pk} {k : Int} (h : (atL L k).2 = true) : ∃ n : Nat, k = (n : Int) ∧ n < L.length := by
  unfold atL at h
  by_cases hk : 0 ≤ k ∧ k < (L.length : Int)
  · exact ⟨k.toNat, by omega, by omega⟩
  · rw [if_neg hk] at h; cases h
set_option maxHeartbeats 2000000 in
theorem take_any {w : World} {B np mb : Nat} {rv : Value} {L : List Pk} {ap : List (Int × Int)} (h : NetW w B np mb rv L ap) (k : Int) :
    Calls Try.prog 20 #[.pointer (some ⟨np, 0, none⟩), .int .i64 k] w (TkPost B np mb rv L ap k w) := by
  obtain ⟨r, hr⟩ : ∃ r, r = w.heap.size := ⟨_, rfl⟩
  obtain ⟨w1, hw1⟩ : ∃ w1, w1 = w.alloc (.cells #[.int .i64 0, .int .i64 0, .string ⟨#[]⟩] 31) := ⟨_, rfl⟩
  have hb1 : Below w.heap.size w w1 := by rw [hw1]; exact box_below w _
  have hx1 : Bx np mb rv w1 r (.cells #[.int .i64 0, .int .i64 0, .string ⟨#[]⟩] 31) := by rw [hw1, hr]; exact Bx.new h _
  have h1 := h.kept hb1
  have HAT := Lib.hid (at_any h1 k)
  have HW1 := Lib.hid hw1
  have HR := Lib.hid hr
  have HB1 := Lib.hid hb1
  have HX1 := Lib.hid hx1
  have HN1 := Lib.hid h1
  have HN := Lib.hid h
  obtain ⟨x, hx⟩ : ∃ x, x = (atL L k).1 := ⟨_, rfl⟩
  obtain ⟨b, hb⟩ : ∃ b, b = (atL L k).2 := ⟨_, rfl⟩
  have HX := Lib.hid hx
  have HB := Lib.hid hb
  clear h hw1 hr hb1 hx1 h1 hx hb
  go_enter Try.func20, Try.ntmps20
  go_upto_region 1 with fail
  rw [← HW1.out, ← HR.out]
  go_wp2_with fail
  refine HAT.out.mono ?_
  rintro e w2 ⟨rfl, hb2⟩
  rw [← HX.out, ← HB.out]
  have HN2 := Lib.hid (HN1.out.kept hb2)
  have hk12 : Kn B np mb rv rv w1 w2 := Kn.of_below hb2 HN1.out.size
  have HX2 := Lib.hid (HX1.out.kn hk12)
  have HB2 := Lib.hid (HB1.out.trans (hb2.mono HB1.out.size))
  obtain ⟨q, hq⟩ : ∃ q, q = w2.heap.size := ⟨_, rfl⟩
  obtain ⟨w3, hw3⟩ : ∃ w3, w3 = w2.alloc (.cells #[.int .i64 x.f, .int .i64 x.t, .string x.b] 31) := ⟨_, rfl⟩
  have hb3 : Below w2.heap.size w2 w3 := by rw [hw3]; exact box_below w2 _
  have HN3 := Lib.hid (HN2.out.kept hb3)
  have HX3 := Lib.hid (HX2.out.kn (Kn.of_below hb3 HN2.out.size))
  have HQ3 : Hid (Bx np mb rv w3 q (.cells #[.int .i64 x.f, .int .i64 x.t, .string x.b] 31)) := Lib.hid (by rw [hw3, hq]; exact Bx.new HN2.out _)
  have HB3 := Lib.hid (HB2.out.trans (hb3.mono HB2.out.size))
  have HRQ : Hid (r ≠ q) := Lib.hid (by have := (Array.getElem?_eq_some_iff.1 HX2.out.here).1; omega)
  have HW3 := Lib.hid hw3
  have HQ := Lib.hid hq
  clear hb2 hk12 hq hw3 hb3
  unfold pv
  go_upto_region 2 with fail
  rw [← HW3.out, ← HQ.out]
  cases b with
  | false =>
    have HT : Hid (tkL L k = L) := Lib.hid (by unfold tkL; rw [← HB.out]; rfl)
    have HNT : Hid (NetW w3 B np mb rv (tkL L k) ap) := Lib.hid (by rw [HT.out]; exact HN3.out)
    obtain ⟨w6, hw6⟩ : ∃ w6, w6 = ((w3.setCell ⟨r, 0, none⟩ (.int .i64 x.f)).setCell ⟨r, 1, none⟩ (.int .i64 x.t)).setCell ⟨r, 2, none⟩ (.string x.b) := ⟨_, rfl⟩
    obtain ⟨hwr, hx6⟩ := set_pk HX3.out.here x
    rw [← hw6] at hwr hx6
    have HE : Hid (TkPost B np mb rv L ap k w (.returned (.tuple #[.agg #[.int .i64 x.f, .int .i64 x.t, .string x.b], .bool false])) w6) := Lib.hid ⟨by rw [← HX.out, ← HB.out]; rfl, _, HNT.out.wr hwr HX3.out, Kn.wr (Kn.of_below HB3.out HN.out.size) hwr (by rw [HR.out]; exact Nat.le_refl _) (by rw [HR.out]; exact HN.out.size)⟩
    have r0 := cell_of HX3.out.here (j := 0) rfl
    have r1 := cell_of HX3.out.here (j := 1) rfl
    have r2 := cell_of HX3.out.here (j := 2) rfl
    have f0 := frozen_of_row w3 r 0 _ _ HX3.out.here
    have f1 := frozen_of_row w3 r 1 _ _ HX3.out.here
    have f2 := frozen_of_row w3 r 2 _ _ HX3.out.here
    have q0 := cell_of HQ3.out.here (j := 0) rfl
    have q1 := cell_of HQ3.out.here (j := 1) rfl
    have q2 := cell_of HQ3.out.here (j := 2) rfl
    have t0 := cell_of hx6 (j := 0) rfl
    have t1 := cell_of hx6 (j := 1) rfl
    have t2 := cell_of hx6 (j := 2) rfl
    have HW6 := Lib.hid hw6
    clear hwr hx6 hw6
    go_wp2_with fail
    rw [← HW6.out]
    exact bodyPost_ret (v := .tuple #[.agg #[.int .i64 x.f, .int .i64 x.t, .string x.b], .bool false]) (by simp [results, Try.results20, go_sem, t0, t1, t2]) rfl HE.out
  | true =>
    obtain ⟨n, rfl, hn⟩ := at_true HB.out.symm
    have HT : Hid (tkL L (n : Int) = L.eraseIdx n) := Lib.hid (by unfold tkL; rw [← HB.out, if_pos rfl, Int.toNat_natCast])
    obtain ⟨A, c, rfl, -, -, hA⟩ := own_form HN.out.row
    obtain ⟨g, rfl⟩ := hA (by omega)
    have HDL := Lib.hid (del_any HN3.out.row n hn HN.out.small.1)
    have e1 : IntKind.i64.wrap ((n : Int) + 1) = (n : Int) + 1 := by have := HN.out.small.1; rw [IntKind.wrap_i64]; omega
    have c0 := cell_of HN3.out.here (j := 0) rfl
    have HNL := Lib.hid hn
    clear hA hn
    go_wp2_with fail
    refine HDL.out.mono ?_
    rintro e w4 ⟨rfl, hown, hgr⟩
    obtain ⟨hnet, hkn⟩ := net_row (rv' := .slice (some ⟨g, 0, none⟩) (L.length - 1) c) (L' := L.eraseIdx n) HN3.out (by rw [List.length_eraseIdx_of_lt HNL.out]; exact hown) hgr (fun k hk => .inl hk) (fun y hy => HN.out.ok y (List.mem_of_mem_eraseIdx hy)) (by rw [List.length_eraseIdx_of_lt HNL.out]; have := HN.out.small.1; omega)
    have hh4 := (hgr.block np HN3.out.lt.1 (fun e => own_ne HN3.out.row HN3.out.here (by decide) e.symm)).trans HN3.out.here
    obtain ⟨w5, hw5⟩ : ∃ w5, w5 = w4.setCell ⟨np, 0, none⟩ (.slice (some ⟨g, 0, none⟩) (L.length - 1) c) := ⟨_, rfl⟩
    rw [← hw5] at hnet hkn
    have HN5 : Hid (NetW w5 B np mb (.slice (some ⟨g, 0, none⟩) (L.length - 1) c) (tkL L (n : Int)) ap) := Lib.hid (by rw [HT.out]; exact hnet)
    have HK5 := Lib.hid ((Kn.of_below HB3.out HN.out.size).trans hkn)
    have HX5 := Lib.hid (HX3.out.kn hkn)
    have HQ5 := Lib.hid (HQ3.out.kn hkn)
    have d0 := cell_of hh4 (j := 0) rfl
    have df := frozen_of_row w4 np 0 _ _ hh4
    have HW5 := Lib.hid hw5
    clear c0 hown hgr hnet hkn hh4 hw5 e1
    go_upto_region 4 with fail
    rw [← HW5.out]
    clear d0 df
    obtain ⟨w6, hw6⟩ : ∃ w6, w6 = ((w5.setCell ⟨r, 0, none⟩ (.int .i64 x.f)).setCell ⟨r, 1, none⟩ (.int .i64 x.t)).setCell ⟨r, 2, none⟩ (.string x.b) := ⟨_, rfl⟩
    obtain ⟨hwr, hx6⟩ := set_pk HX5.out.here x
    rw [← hw6] at hwr hx6
    have HE : Hid (TkPost B np mb (.slice (some ⟨g, 0, none⟩) L.length c) L ap (n : Int) w (.returned (.tuple #[.agg #[.int .i64 x.f, .int .i64 x.t, .string x.b], .bool true])) w6) := Lib.hid ⟨by rw [← HX.out, ← HB.out]; rfl, _, HN5.out.wr hwr HX5.out, Kn.wr HK5.out hwr (by rw [HR.out]; exact Nat.le_refl _) (by rw [HR.out]; exact HN.out.size)⟩
    have r0 := cell_of HX5.out.here (j := 0) rfl
    have r1 := cell_of HX5.out.here (j := 1) rfl
    have r2 := cell_of HX5.out.here (j := 2) rfl
    have f0 := frozen_of_row w5 r 0 _ _ HX5.out.here
    have f1 := frozen_of_row w5 r 1 _ _ HX5.out.here
    have f2 := frozen_of_row w5 r 2 _ _ HX5.out.here
    have q0 := cell_of HQ5.out.here (j := 0) rfl
    have q1 := cell_of HQ5.out.here (j := 1) rfl
    have q2 := cell_of HQ5.out.here (j := 2) rfl
    have t0 := cell_of hx6 (j := 0) rfl
    have t1 := cell_of hx6 (j := 1) rfl
    have t2 := cell_of hx6 (j := 2) rfl
    have HW6 := Lib.hid hw6
    clear hwr hx6 hw6
    go_wp2_with fail
    rw [← HW6.out]
    exact bodyPost_ret (v := .tuple #[.agg #[.int .i64 x.f, .int .i64 x.t, .string x.b], .bool true]) (by simp [results, Try.results20, go_sem, t0, t1, t2]) rfl HE.out
theorem at_ok {w : World} {B np mb : Nat} {rv : Value} {L : List Pk} {ap : List (Int × Int)} (h : NetW w B np mb rv L ap) (k : Int) : POk (atL L k).1 := by
  unfold atL
  by_cases hk : 0 ≤ k ∧ k < (L.length : Int)
  · rw [if_pos hk]
    have hlt : k.toNat < L.length := by omega
    show POk (L.getD k.toNat pk0)
    rw [getD_eq pk0 hlt]
    exact h.ok _ (List.getElem_mem _)
  · rw [if_neg hk]
    exact ⟨⟨by decide, by decide⟩, ⟨by decide, by decide⟩⟩
def canDouble (L : List Pk) (ap : List (Int × Int)) (k : Int) : Bool := (atL L k).2 && canSend L ap (atL L k).1
def DbPost (B np mb : Nat) (rv : Value) (L : List Pk) (ap : List (Int × Int)) (k : Int) (w : World) (e : Ending) (w' : World) : Prop :=
  e = .returned (.bool (canDouble L ap k)) ∧ ∃ rv', NetW w' B np mb rv' (if canDouble L ap k = true then L ++ [(atL L k).1] else L) ap ∧ Kn B np mb rv rv' w w'
set_option maxHeartbeats 2000000 in
theorem double_any {w : World} {B np mb : Nat} {rv : Value} {L : List Pk} {ap : List (Int × Int)} (h : NetW w B np mb rv L ap) (k : Int) :
    Calls Try.prog 16 #[.pointer (some ⟨np, 0, none⟩), .int .i64 k] w (DbPost B np mb rv L ap k w) := by
  have HAT := Lib.hid (at_any h k)
  have HOK := Lib.hid (at_ok h k)
  have HN := Lib.hid h
  have HCD : Hid (canDouble L ap k = ((atL L k).2 && canSend L ap (atL L k).1)) := Lib.hid rfl
  obtain ⟨x, hx⟩ : ∃ x, x = (atL L k).1 := ⟨_, rfl⟩
  obtain ⟨b, hb⟩ : ∃ b, b = (atL L k).2 := ⟨_, rfl⟩
  rw [← hx] at HOK
  rw [← hx, ← hb] at HCD
  have HX := Lib.hid hx
  have HB := Lib.hid hb
  clear h hx hb
  go_enter Try.func16, Try.ntmps16
  go_wp2_with fail
  refine HAT.out.mono ?_
  rintro e w2 ⟨rfl, hb2⟩
  rw [← HX.out, ← HB.out]
  have HN2 := Lib.hid (HN.out.kept hb2)
  obtain ⟨q, hq⟩ : ∃ q, q = w2.heap.size := ⟨_, rfl⟩
  obtain ⟨w3, hw3⟩ : ∃ w3, w3 = w2.alloc (.cells #[.int .i64 x.f, .int .i64 x.t, .string x.b] 31) := ⟨_, rfl⟩
  have hb3 : Below w2.heap.size w2 w3 := by rw [hw3]; exact box_below w2 _
  have HN3 := Lib.hid (HN2.out.kept hb3)
  have hq3 : Bx np mb rv w3 q (.cells #[.int .i64 x.f, .int .i64 x.t, .string x.b] 31) := by rw [hw3, hq]; exact Bx.new HN2.out _
  have HB3 := Lib.hid (hb2.trans (hb3.mono hb2.size))
  have HW3 := Lib.hid hw3
  have HQ := Lib.hid hq
  have q0 := cell_of hq3.here (j := 0) rfl
  have q1 := cell_of hq3.here (j := 1) rfl
  have q2 := cell_of hq3.here (j := 2) rfl
  have HSD := Lib.hid (send_any HN3.out x HOK.out)
  clear hb2 hb3 hq hw3 hq3
  unfold pv
  go_upto_region 2 with fail
  rw [← HW3.out, ← HQ.out]
  cases b with
  | false =>
    have HE : Hid (DbPost B np mb rv L ap k w (.returned (.bool false)) w3) := Lib.hid ⟨by rw [HCD.out]; rfl, rv, by rw [HCD.out]; exact HN3.out, Kn.of_below HB3.out HN.out.size⟩
    go_wp2_with fail
    go_ret
    exact HE.out
  | true =>
    go_wp2_with fail
    refine HSD.out.mono ?_
    rintro e w4 ⟨rfl, rv', hn, hk⟩
    have HE : Hid (DbPost B np mb rv L ap k w (.returned (.bool (canSend L ap x))) w4) := Lib.hid ⟨by rw [HCD.out]; rfl, rv', by rw [HCD.out, ← HX.out]; exact hn, (Kn.of_below HB3.out HN.out.size).trans hk⟩
    obtain ⟨cs, hcs⟩ : ∃ cs, cs = canSend L ap x := ⟨_, rfl⟩
    rw [← hcs] at HE ⊢
    clear hn hk hcs q0 q1 q2
    go_wp2_with fail
    go_ret
    exact HE.out
end Go.Proofs.Ytdlhjpcofldfnaa
