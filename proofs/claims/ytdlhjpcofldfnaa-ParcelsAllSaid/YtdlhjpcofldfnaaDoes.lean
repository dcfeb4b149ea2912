/-
  What the laws' does returns and leaves. Conditions: the ends are ints; not too many pairs are apart.
-/
import Derived.Test.YtdlhjpcofldfnaaHeal
import Derived.Test.YtdlhjpcofldfnaaScript
namespace Go.Proofs.Ytdlhjpcofldfnaa
set_option maxRecDepth 100000
open Go.ChangeShapes Go.WideShapes Go.ChangeAt Go.RowKit

/-- What a call makes. -/
structure St where
  L : List Pk
  ap : List (Int × Int)
  x : Pk
  is : Bool
def doL (L : List Pk) (ap : List (Int × Int)) (o : Po) : St :=
  if o.k = 0 then ⟨if canSend L ap o.p = true then L ++ [o.p] else L, ap, pk0, canSend L ap o.p⟩
  else if o.k = 1 then ⟨tkL L o.K, ap, (atL L o.K).1, (atL L o.K).2⟩
  else if o.k = 2 then ⟨if canDouble L ap o.K = true then L ++ [(atL L o.K).1] else L, ap, pk0, canDouble L ap o.K⟩
  else if o.k = 3 then ⟨keepF (min o.K o.J) (max o.K o.J) L, (min o.K o.J, max o.K o.J) :: ap, pk0, false⟩
  else if o.k = 4 then ⟨L, [], pk0, false⟩
  else ⟨L, ap, pk0, false⟩
def opv (o : Po) : Value := .agg #[.int .i64 o.k, .int .i64 o.K, .int .i64 o.J, .int .i64 o.p.f, .int .i64 o.p.t, .string o.p.b]
def DsPost (B np mb : Nat) (rv : Value) (L : List Pk) (ap : List (Int × Int)) (o : Po) (w : World) (e : Ending) (w' : World) : Prop :=
  e = .returned (.tuple #[pv (doL L ap o).x, .bool (doL L ap o).is]) ∧ ∃ rv', NetW w' B np mb rv' (doL L ap o).L (doL L ap o).ap ∧ Kn B np mb rv rv' w w'
theorem set_zero {w : World} {r : Nat} {a b c : Value} (h : w.heap[r]? = some (.cells #[a, b, c] 31 (0, 0))) :
    Wr r w (((w.setCell ⟨r, 0, none⟩ (.int .i64 0)).setCell ⟨r, 1, none⟩ (.int .i64 0)).setCell ⟨r, 2, none⟩ (.string ⟨#[]⟩)) ∧
    (((w.setCell ⟨r, 0, none⟩ (.int .i64 0)).setCell ⟨r, 1, none⟩ (.int .i64 0)).setCell ⟨r, 2, none⟩ (.string ⟨#[]⟩)).heap[r]? = some (.cells #[.int .i64 0, .int .i64 0, .string ⟨#[]⟩] 31 (0, 0)) := set_pk h pk0
set_option maxHeartbeats 4000000 in
theorem does_any {w : World} {B np mb : Nat} {rv : Value} {L : List Pk} {ap : List (Int × Int)} (h : NetW w B np mb rv L ap) (o : Po) (ho : PoOk o) (hap : ap.length < 1000000) :
    Calls Try.prog 11 #[.pointer (some ⟨np, 0, none⟩), .agg #[.int .i64 o.k, .int .i64 o.K, .int .i64 o.J, .int .i64 o.p.f, .int .i64 o.p.t, .string o.p.b]] w (DsPost B np mb rv L ap o w) := by
  obtain ⟨bo, hbo⟩ : ∃ b, b = w.heap.size := ⟨_, rfl⟩
  obtain ⟨w1, hw1⟩ : ∃ w1, w1 = w.alloc (.cells #[.int .i64 o.k, .int .i64 o.K, .int .i64 o.J, .int .i64 o.p.f, .int .i64 o.p.t, .string o.p.b] 33) := ⟨_, rfl⟩
  have hb1 : Below w.heap.size w w1 := by rw [hw1]; exact box_below w _
  have hx1 : w1.heap[bo]? = some (.cells #[.int .i64 o.k, .int .i64 o.K, .int .i64 o.J, .int .i64 o.p.f, .int .i64 o.p.t, .string o.p.b] 33 (0, 0)) := by rw [hw1, hbo]; exact new_block w _
  obtain ⟨r, hr⟩ : ∃ b, b = w.heap.size + 1 := ⟨_, rfl⟩
  obtain ⟨w2, hw2⟩ : ∃ w2, w2 = w1.alloc (.cells #[.int .i64 0, .int .i64 0, .string ⟨#[]⟩] 31) := ⟨_, rfl⟩
  have hr1 : r = w1.heap.size := by rw [hr, hw1]; simp
  have hb2 : Below w1.heap.size w1 w2 := by rw [hw2]; exact box_below w1 _
  have HXO : Hid (w2.heap[bo]? = some (.cells #[.int .i64 o.k, .int .i64 o.K, .int .i64 o.J, .int .i64 o.p.f, .int .i64 o.p.t, .string o.p.b] 33 (0, 0))) := Lib.hid ((hb2.block _ (Array.getElem?_eq_some_iff.1 hx1).1).trans hx1)
  have HX2 : Hid (Bx np mb rv w2 r (.cells #[.int .i64 0, .int .i64 0, .string ⟨#[]⟩] 31)) := Lib.hid (by rw [hw2, hr1]; exact Bx.new (h.kept hb1) _)
  have HN2 := Lib.hid ((h.kept hb1).kept hb2)
  have HB2 := Lib.hid (hb1.trans (hb2.mono hb1.size))
  have HR : Hid (w.heap.size ≤ r ∧ B ≤ r) := Lib.hid ⟨by rw [hr1]; exact hb1.size, by rw [hr1]; exact Nat.le_trans h.size hb1.size⟩
  have HN := Lib.hid h
  have HO := Lib.hid ho
  have HAP := Lib.hid hap
  have HW1 := Lib.hid hw1
  have HW2 := Lib.hid hw2
  have HBO := Lib.hid hbo
  have HRE := Lib.hid hr
  clear h ho hap hbo hw1 hx1 hr hr1 hw2 hb2
  have HK2 : Hid (Kn B np mb rv rv w w2) := Lib.hid (Kn.of_below HB2.out HN.out.size)
  clear hb1
  by_cases k0 : o.k = 0
  · have HDL : Hid (doL L ap o = ⟨if canSend L ap o.p = true then L ++ [o.p] else L, ap, pk0, canSend L ap o.p⟩) := Lib.hid (by unfold doL; rw [if_pos k0])
    have HSD := Lib.hid (send_any HN2.out o.p HO.out.2.2)
    obtain ⟨cs, hcs⟩ : ∃ cs, cs = canSend L ap o.p := ⟨_, rfl⟩
    have HCS := Lib.hid hcs
    have HK := Lib.hid k0
    clear hcs k0
    go_enter Try.func11, Try.ntmps11
    go_upto_region 1 with fail
    rw [← HW1.out, ← HW2.out, ← HRE.out, ← HBO.out]
    have o0 := cell_of HXO.out (j := 0) rfl
    have o3 := cell_of HXO.out (j := 3) rfl
    have o4 := cell_of HXO.out (j := 4) rfl
    have o5 := cell_of HXO.out (j := 5) rfl
    rw [HK.out] at o0
    go_wp2_with fail
    refine HSD.out.mono ?_
    rintro e w5 ⟨rfl, rv5, hn5, hk5⟩
    have HN5 : Hid (NetW w5 B np mb rv5 (doL L ap o).L (doL L ap o).ap) := Lib.hid (by rw [HDL.out]; exact hn5)
    have HX5 := Lib.hid (HX2.out.kn hk5)
    have HK5 := Lib.hid (HK2.out.trans hk5)
    rw [← HCS.out]
    clear hn5 hk5 o0 o3 o4 o5
    obtain ⟨w6, hw6⟩ : ∃ w6, w6 = ((w5.setCell ⟨r, 0, none⟩ (.int .i64 0)).setCell ⟨r, 1, none⟩ (.int .i64 0)).setCell ⟨r, 2, none⟩ (.string ⟨#[]⟩) := ⟨_, rfl⟩
    obtain ⟨hwr, hx6⟩ := set_zero HX5.out.here
    rw [← hw6] at hwr hx6
    have HE : Hid (DsPost B np mb rv L ap o w (.returned (.tuple #[.agg #[.int .i64 0, .int .i64 0, .string ⟨#[]⟩], .bool cs])) w6) := Lib.hid ⟨by rw [HDL.out, HCS.out]; rfl, _, HN5.out.wr hwr HX5.out, Kn.wr HK5.out hwr HR.out.1 HR.out.2⟩
    have r0 := cell_of HX5.out.here (j := 0) rfl
    have r1 := cell_of HX5.out.here (j := 1) rfl
    have r2 := cell_of HX5.out.here (j := 2) rfl
    have f0 := frozen_of_row w5 r 0 _ _ HX5.out.here
    have f1 := frozen_of_row w5 r 1 _ _ HX5.out.here
    have f2 := frozen_of_row w5 r 2 _ _ HX5.out.here
    have t0 := cell_of hx6 (j := 0) rfl
    have t1 := cell_of hx6 (j := 1) rfl
    have t2 := cell_of hx6 (j := 2) rfl
    have HW6 := Lib.hid hw6
    clear hwr hx6 hw6
    go_wp2_with fail
    rw [← HW6.out]
    exact bodyPost_ret (v := .tuple #[.agg #[.int .i64 0, .int .i64 0, .string ⟨#[]⟩], .bool cs]) (by simp [results, Try.results11, go_sem, t0, t1, t2]) rfl HE.out
  by_cases k1 : o.k = 1
  · have HDL : Hid (doL L ap o = ⟨tkL L o.K, ap, (atL L o.K).1, (atL L o.K).2⟩) := Lib.hid (by unfold doL; rw [if_neg k0, if_pos k1])
    have HTK := Lib.hid (take_any HN2.out o.K)
    obtain ⟨x, hx⟩ : ∃ x, x = (atL L o.K).1 := ⟨_, rfl⟩
    obtain ⟨bb, hbb⟩ : ∃ b, b = (atL L o.K).2 := ⟨_, rfl⟩
    have HX := Lib.hid hx
    have HBB := Lib.hid hbb
    have HK := Lib.hid k1
    clear hx hbb k0 k1
    go_enter Try.func11, Try.ntmps11
    go_upto_region 1 with fail
    rw [← HW1.out, ← HW2.out, ← HRE.out, ← HBO.out]
    have o0 := cell_of HXO.out (j := 0) rfl
    have o1 := cell_of HXO.out (j := 1) rfl
    rw [HK.out] at o0
    go_wp2_with fail
    refine HTK.out.mono ?_
    rintro e w5 ⟨rfl, rv5, hn5, hk5⟩
    have HN5 : Hid (NetW w5 B np mb rv5 (doL L ap o).L (doL L ap o).ap) := Lib.hid (by rw [HDL.out]; exact hn5)
    have HX5 := Lib.hid (HX2.out.kn hk5)
    have HK5 := Lib.hid (HK2.out.trans hk5)
    rw [← HX.out, ← HBB.out]
    unfold pv
    clear hn5 hk5 o0 o1
    obtain ⟨w6, hw6⟩ : ∃ w6, w6 = ((w5.setCell ⟨r, 0, none⟩ (.int .i64 x.f)).setCell ⟨r, 1, none⟩ (.int .i64 x.t)).setCell ⟨r, 2, none⟩ (.string x.b) := ⟨_, rfl⟩
    obtain ⟨hwr, hx6⟩ := set_pk HX5.out.here x
    rw [← hw6] at hwr hx6
    have HE : Hid (DsPost B np mb rv L ap o w (.returned (.tuple #[.agg #[.int .i64 x.f, .int .i64 x.t, .string x.b], .bool bb])) w6) := Lib.hid ⟨by rw [HDL.out, HX.out, HBB.out]; rfl, _, HN5.out.wr hwr HX5.out, Kn.wr HK5.out hwr HR.out.1 HR.out.2⟩
    have r0 := cell_of HX5.out.here (j := 0) rfl
    have r1 := cell_of HX5.out.here (j := 1) rfl
    have r2 := cell_of HX5.out.here (j := 2) rfl
    have f0 := frozen_of_row w5 r 0 _ _ HX5.out.here
    have f1 := frozen_of_row w5 r 1 _ _ HX5.out.here
    have f2 := frozen_of_row w5 r 2 _ _ HX5.out.here
    have t0 := cell_of hx6 (j := 0) rfl
    have t1 := cell_of hx6 (j := 1) rfl
    have t2 := cell_of hx6 (j := 2) rfl
    have HW6 := Lib.hid hw6
    clear hwr hx6 hw6
    go_wp2_with fail
    rw [← HW6.out]
    exact bodyPost_ret (v := .tuple #[.agg #[.int .i64 x.f, .int .i64 x.t, .string x.b], .bool bb]) (by simp [results, Try.results11, go_sem, t0, t1, t2]) rfl HE.out
  by_cases k2 : o.k = 2
  · have HDL : Hid (doL L ap o = ⟨if canDouble L ap o.K = true then L ++ [(atL L o.K).1] else L, ap, pk0, canDouble L ap o.K⟩) := Lib.hid (by unfold doL; rw [if_neg k0, if_neg k1, if_pos k2])
    have HDB := Lib.hid (double_any HN2.out o.K)
    obtain ⟨cs, hcs⟩ : ∃ cs, cs = canDouble L ap o.K := ⟨_, rfl⟩
    have HCS := Lib.hid hcs
    have HK := Lib.hid k2
    clear hcs k0 k1 k2
    go_enter Try.func11, Try.ntmps11
    go_upto_region 1 with fail
    rw [← HW1.out, ← HW2.out, ← HRE.out, ← HBO.out]
    have o0 := cell_of HXO.out (j := 0) rfl
    have o1 := cell_of HXO.out (j := 1) rfl
    rw [HK.out] at o0
    go_wp2_with fail
    refine HDB.out.mono ?_
    rintro e w5 ⟨rfl, rv5, hn5, hk5⟩
    have HN5 : Hid (NetW w5 B np mb rv5 (doL L ap o).L (doL L ap o).ap) := Lib.hid (by rw [HDL.out]; exact hn5)
    have HX5 := Lib.hid (HX2.out.kn hk5)
    have HK5 := Lib.hid (HK2.out.trans hk5)
    rw [← HCS.out]
    clear hn5 hk5 o0 o1
    obtain ⟨w6, hw6⟩ : ∃ w6, w6 = ((w5.setCell ⟨r, 0, none⟩ (.int .i64 0)).setCell ⟨r, 1, none⟩ (.int .i64 0)).setCell ⟨r, 2, none⟩ (.string ⟨#[]⟩) := ⟨_, rfl⟩
    obtain ⟨hwr, hx6⟩ := set_zero HX5.out.here
    rw [← hw6] at hwr hx6
    have HE : Hid (DsPost B np mb rv L ap o w (.returned (.tuple #[.agg #[.int .i64 0, .int .i64 0, .string ⟨#[]⟩], .bool cs])) w6) := Lib.hid ⟨by rw [HDL.out, HCS.out]; rfl, _, HN5.out.wr hwr HX5.out, Kn.wr HK5.out hwr HR.out.1 HR.out.2⟩
    have r0 := cell_of HX5.out.here (j := 0) rfl
    have r1 := cell_of HX5.out.here (j := 1) rfl
    have r2 := cell_of HX5.out.here (j := 2) rfl
    have f0 := frozen_of_row w5 r 0 _ _ HX5.out.here
    have f1 := frozen_of_row w5 r 1 _ _ HX5.out.here
    have f2 := frozen_of_row w5 r 2 _ _ HX5.out.here
    have t0 := cell_of hx6 (j := 0) rfl
    have t1 := cell_of hx6 (j := 1) rfl
    have t2 := cell_of hx6 (j := 2) rfl
    have HW6 := Lib.hid hw6
    clear hwr hx6 hw6
    go_wp2_with fail
    rw [← HW6.out]
    exact bodyPost_ret (v := .tuple #[.agg #[.int .i64 0, .int .i64 0, .string ⟨#[]⟩], .bool cs]) (by simp [results, Try.results11, go_sem, t0, t1, t2]) rfl HE.out
  by_cases k3 : o.k = 3
  · have HDL : Hid (doL L ap o = ⟨keepF (min o.K o.J) (max o.K o.J) L, (min o.K o.J, max o.K o.J) :: ap, pk0, false⟩) := Lib.hid (by unfold doL; rw [if_neg k0, if_neg k1, if_neg k2, if_pos k3])
    have HPT := Lib.hid (part_any HN2.out HO.out.1 HO.out.2.1 HAP.out)
    have HK := Lib.hid k3
    clear k0 k1 k2 k3
    go_enter Try.func11, Try.ntmps11
    go_upto_region 1 with fail
    rw [← HW1.out, ← HW2.out, ← HRE.out, ← HBO.out]
    have o0 := cell_of HXO.out (j := 0) rfl
    have o1 := cell_of HXO.out (j := 1) rfl
    have o2 := cell_of HXO.out (j := 2) rfl
    rw [HK.out] at o0
    go_wp2_with fail
    refine HPT.out.mono ?_
    rintro e w5 ⟨rfl, rv5, hn5, hk5⟩
    have HN5 : Hid (NetW w5 B np mb rv5 (doL L ap o).L (doL L ap o).ap) := Lib.hid (by rw [HDL.out]; exact hn5)
    have HX5 := Lib.hid (HX2.out.kn hk5)
    have HK5 := Lib.hid (HK2.out.trans hk5)
    clear hn5 hk5 o0 o1 o2
    obtain ⟨w6, hw6⟩ : ∃ w6, w6 = ((w5.setCell ⟨r, 0, none⟩ (.int .i64 0)).setCell ⟨r, 1, none⟩ (.int .i64 0)).setCell ⟨r, 2, none⟩ (.string ⟨#[]⟩) := ⟨_, rfl⟩
    obtain ⟨hwr, hx6⟩ := set_zero HX5.out.here
    rw [← hw6] at hwr hx6
    have HE : Hid (DsPost B np mb rv L ap o w (.returned (.tuple #[.agg #[.int .i64 0, .int .i64 0, .string ⟨#[]⟩], .bool false])) w6) := Lib.hid ⟨by rw [HDL.out]; rfl, _, HN5.out.wr hwr HX5.out, Kn.wr HK5.out hwr HR.out.1 HR.out.2⟩
    have r0 := cell_of HX5.out.here (j := 0) rfl
    have r1 := cell_of HX5.out.here (j := 1) rfl
    have r2 := cell_of HX5.out.here (j := 2) rfl
    have f0 := frozen_of_row w5 r 0 _ _ HX5.out.here
    have f1 := frozen_of_row w5 r 1 _ _ HX5.out.here
    have f2 := frozen_of_row w5 r 2 _ _ HX5.out.here
    have t0 := cell_of hx6 (j := 0) rfl
    have t1 := cell_of hx6 (j := 1) rfl
    have t2 := cell_of hx6 (j := 2) rfl
    have HW6 := Lib.hid hw6
    clear hwr hx6 hw6
    go_wp2_with fail
    rw [← HW6.out]
    exact bodyPost_ret (v := .tuple #[.agg #[.int .i64 0, .int .i64 0, .string ⟨#[]⟩], .bool false]) (by simp [results, Try.results11, go_sem, t0, t1, t2]) rfl HE.out
  by_cases k4 : o.k = 4
  · have HDL : Hid (doL L ap o = ⟨L, [], pk0, false⟩) := Lib.hid (by unfold doL; rw [if_neg k0, if_neg k1, if_neg k2, if_neg k3, if_pos k4])
    have HHL := Lib.hid (heal_any HN2.out)
    have HK := Lib.hid k4
    clear k0 k1 k2 k3 k4
    go_enter Try.func11, Try.ntmps11
    go_upto_region 1 with fail
    rw [← HW1.out, ← HW2.out, ← HRE.out, ← HBO.out]
    have o0 := cell_of HXO.out (j := 0) rfl
    rw [HK.out] at o0
    go_wp2_with fail
    refine HHL.out.mono ?_
    rintro e w5 ⟨rfl, hn5, hk5⟩
    have HN5 : Hid (NetW w5 B np mb rv (doL L ap o).L (doL L ap o).ap) := Lib.hid (by rw [HDL.out]; exact hn5)
    have HX5 := Lib.hid (HX2.out.kn hk5)
    have HK5 := Lib.hid (HK2.out.trans hk5)
    clear hn5 hk5 o0
    obtain ⟨w6, hw6⟩ : ∃ w6, w6 = ((w5.setCell ⟨r, 0, none⟩ (.int .i64 0)).setCell ⟨r, 1, none⟩ (.int .i64 0)).setCell ⟨r, 2, none⟩ (.string ⟨#[]⟩) := ⟨_, rfl⟩
    obtain ⟨hwr, hx6⟩ := set_zero HX5.out.here
    rw [← hw6] at hwr hx6
    have HE : Hid (DsPost B np mb rv L ap o w (.returned (.tuple #[.agg #[.int .i64 0, .int .i64 0, .string ⟨#[]⟩], .bool false])) w6) := Lib.hid ⟨by rw [HDL.out]; rfl, _, HN5.out.wr hwr HX5.out, Kn.wr HK5.out hwr HR.out.1 HR.out.2⟩
    have r0 := cell_of HX5.out.here (j := 0) rfl
    have r1 := cell_of HX5.out.here (j := 1) rfl
    have r2 := cell_of HX5.out.here (j := 2) rfl
    have f0 := frozen_of_row w5 r 0 _ _ HX5.out.here
    have f1 := frozen_of_row w5 r 1 _ _ HX5.out.here
    have f2 := frozen_of_row w5 r 2 _ _ HX5.out.here
    have t0 := cell_of hx6 (j := 0) rfl
    have t1 := cell_of hx6 (j := 1) rfl
    have t2 := cell_of hx6 (j := 2) rfl
    have HW6 := Lib.hid hw6
    clear hwr hx6 hw6
    go_wp2_with fail
    rw [← HW6.out]
    exact bodyPost_ret (v := .tuple #[.agg #[.int .i64 0, .int .i64 0, .string ⟨#[]⟩], .bool false]) (by simp [results, Try.results11, go_sem, t0, t1, t2]) rfl HE.out
  · have HDL : Hid (doL L ap o = ⟨L, ap, pk0, false⟩) := Lib.hid (by unfold doL; rw [if_neg k0, if_neg k1, if_neg k2, if_neg k3, if_neg k4])
    have HN5 : Hid (NetW w2 B np mb rv (doL L ap o).L (doL L ap o).ap) := Lib.hid (by rw [HDL.out]; exact HN2.out)
    have b0 : (o.k == 0) = false := by simpa using k0
    have b1 : (o.k == 1) = false := by simpa using k1
    have b2 : (o.k == 2) = false := by simpa using k2
    have b3 : (o.k == 3) = false := by simpa using k3
    have b4 : (o.k == 4) = false := by simpa using k4
    clear k0 k1 k2 k3 k4
    go_enter Try.func11, Try.ntmps11
    go_upto_region 1 with fail
    rw [← HW1.out, ← HW2.out, ← HRE.out, ← HBO.out]
    have o0 := cell_of HXO.out (j := 0) rfl
    obtain ⟨w6, hw6⟩ : ∃ w6, w6 = ((w2.setCell ⟨r, 0, none⟩ (.int .i64 0)).setCell ⟨r, 1, none⟩ (.int .i64 0)).setCell ⟨r, 2, none⟩ (.string ⟨#[]⟩) := ⟨_, rfl⟩
    obtain ⟨hwr, hx6⟩ := set_zero HX2.out.here
    rw [← hw6] at hwr hx6
    have HE : Hid (DsPost B np mb rv L ap o w (.returned (.tuple #[.agg #[.int .i64 0, .int .i64 0, .string ⟨#[]⟩], .bool false])) w6) := Lib.hid ⟨by rw [HDL.out]; rfl, _, HN5.out.wr hwr HX2.out, Kn.wr HK2.out hwr HR.out.1 HR.out.2⟩
    have r0 := cell_of HX2.out.here (j := 0) rfl
    have r1 := cell_of HX2.out.here (j := 1) rfl
    have r2 := cell_of HX2.out.here (j := 2) rfl
    have f0 := frozen_of_row w2 r 0 _ _ HX2.out.here
    have f1 := frozen_of_row w2 r 1 _ _ HX2.out.here
    have f2 := frozen_of_row w2 r 2 _ _ HX2.out.here
    have t0 := cell_of hx6 (j := 0) rfl
    have t1 := cell_of hx6 (j := 1) rfl
    have t2 := cell_of hx6 (j := 2) rfl
    have HW6 := Lib.hid hw6
    clear hwr hx6 hw6
    go_wp2_with fail
    rw [← HW6.out]
    exact bodyPost_ret (v := .tuple #[.agg #[.int .i64 0, .int .i64 0, .string ⟨#[]⟩], .bool false]) (by simp [results, Try.results11, go_sem, t0, t1, t2]) rfl HE.out
end Go.Proofs.Ytdlhjpcofldfnaa
