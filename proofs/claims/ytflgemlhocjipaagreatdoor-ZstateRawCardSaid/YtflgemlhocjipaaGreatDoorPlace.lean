/-
  What place returns: where a Create makes a znode, or why not. Conditions: the path is one; the tree is good.
-/
import Derived.Test.YtflgemlhocjipaaGreatDoorTouch
import Derived.Test.YtflgemlhocjipaaGreatDoorNumber
namespace Go.Proofs.YtflgemlhocjipaaGreatDoor
set_option maxRecDepth 100000
open Go.ChangeShapes Go.WideShapes Go.ChangeAt Go.RowKit Go.Proofs.Zn Go.Proofs.Zt

def plN (T : Tr) (c : Chg) : Nd := if (place T c).1 = 0 then (get T (parent c.path)).getD nd0 else nd0
structure Pl (w0 : World) (q r tp mb : Nat) (T : Tr) (c : Chg) (w : World) : Prop where
  below : Below w0.heap.size w0 w
  tree : TreeW w tp mb T
  bq : w.heap[q]? = some (.cells #[.int .i64 c.kind, .string (B c.path), .string (B c.data), .int .i64 c.ver, .bool c.eph, .bool c.sq] 79 (0, 0))
  br : w.heap[r]? = some (.cells #[.string ⟨#[]⟩, .string ⟨#[]⟩, .int .i64 0, .int .i64 0, .int .i64 0, .int .i64 0, .int .i64 0, .int .i64 0, .int .i64 0] 132 (0, 0))
theorem Pl.go {w0 w w' : World} {q r tp mb : Nat} {T : Tr} {c : Chg} (h : Pl w0 q r tp mb T c w) (hb : Below w.heap.size w w') : Pl w0 q r tp mb T c w' :=
  ⟨h.below.trans (hb.mono h.below.size), h.tree.below hb, blk_below h.bq hb, blk_below h.br hb⟩
def PlPost (T : Tr) (c : Chg) (w : World) (e : Ending) (w' : World) : Prop := e = .returned (.tuple #[.string (B (place T c).2), ndv (plN T c), .int .i64 (place T c).1]) ∧ Below w.heap.size w w'
theorem pl_err {w0 w w6 : World} {q r tp mb : Nat} {T : Tr} {c : Chg} {k : Int} (h : Pl w0 q r tp mb T c w) (hr : w0.heap.size ≤ r) (hp : place T c = (k, [])) (hk : k ≠ 0) (hw : Wr r w w6) :
    PlPost T c w0 (.returned (.tuple #[.string ⟨#[]⟩, .agg #[.string ⟨#[]⟩, .string ⟨#[]⟩, .int .i64 0, .int .i64 0, .int .i64 0, .int .i64 0, .int .i64 0, .int .i64 0, .int .i64 0], .int .i64 k])) w6 := by
  refine ⟨?_, h.below.trans (hw.below.mono hr)⟩
  unfold plN
  rw [hp, if_neg hk]; rfl
theorem pl_zero {w : World} {r : Nat} (hb : w.heap[r]? = some (.cells #[.string ⟨#[]⟩, .string ⟨#[]⟩, .int .i64 0, .int .i64 0, .int .i64 0, .int .i64 0, .int .i64 0, .int .i64 0, .int .i64 0] 132 (0, 0))) : Wr r w (((((((((w.setCell ⟨r, 0, none⟩ (.string ⟨#[]⟩)).setCell ⟨r, 1, none⟩ (.string ⟨#[]⟩)).setCell ⟨r, 2, none⟩ (.int .i64 0)).setCell ⟨r, 3, none⟩ (.int .i64 0)).setCell ⟨r, 4, none⟩ (.int .i64 0)).setCell ⟨r, 5, none⟩ (.int .i64 0)).setCell ⟨r, 6, none⟩ (.int .i64 0)).setCell ⟨r, 7, none⟩ (.int .i64 0)).setCell ⟨r, 8, none⟩ (.int .i64 0)) ∧ (((((((((w.setCell ⟨r, 0, none⟩ (.string ⟨#[]⟩)).setCell ⟨r, 1, none⟩ (.string ⟨#[]⟩)).setCell ⟨r, 2, none⟩ (.int .i64 0)).setCell ⟨r, 3, none⟩ (.int .i64 0)).setCell ⟨r, 4, none⟩ (.int .i64 0)).setCell ⟨r, 5, none⟩ (.int .i64 0)).setCell ⟨r, 6, none⟩ (.int .i64 0)).setCell ⟨r, 7, none⟩ (.int .i64 0)).setCell ⟨r, 8, none⟩ (.int .i64 0)).heap[r]? = some (.cells #[.string ⟨#[]⟩, .string ⟨#[]⟩, .int .i64 0, .int .i64 0, .int .i64 0, .int .i64 0, .int .i64 0, .int .i64 0, .int .i64 0] 132 (0, 0)) := set_nd hb nd0
theorem lenB (l : Txt) : (B l).size = l.length := B_size l
set_option maxHeartbeats 4000000 in
theorem place_any {w : World} {tp mb : Nat} {T : Tr} (h : TreeW w tp mb T) (hg : Zt.Good T) (c : Chg) (hv : valid c.path = true) :
    Calls Tryz.prog 146 #[.pointer (some ⟨tp, 0, none⟩), .agg #[.int .i64 c.kind, .string (B c.path), .string (B c.data), .int .i64 c.ver, .bool c.eph, .bool c.sq]] w (PlPost T c w) := by
  obtain ⟨w2, hw2, hB2, hq, hr, hs2⟩ := two_box w (.cells #[.int .i64 c.kind, .string (B c.path), .string (B c.data), .int .i64 c.ver, .bool c.eph, .bool c.sq] 79) (.cells #[.string ⟨#[]⟩, .string ⟨#[]⟩, .int .i64 0, .int .i64 0, .int .i64 0, .int .i64 0, .int .i64 0, .int .i64 0, .int .i64 0] 132)
  obtain ⟨q, eq⟩ : ∃ q, q = w.heap.size := ⟨_, rfl⟩
  obtain ⟨r, er⟩ : ∃ r, r = w.heap.size + 1 := ⟨_, rfl⟩
  rw [← eq] at hq
  rw [← er] at hr
  have HPL : Hid (Pl w q r tp mb T c w2) := Lib.hid ⟨hB2, h.below hB2, hq, hr⟩
  have HRR : Hid (w.heap.size ≤ r) := Lib.hid (by omega)
  have HQR : Hid (q ≠ r ∧ tp ≠ q ∧ tp ≠ r) := Lib.hid (by have := h.lt; omega)
  have HW2 := Lib.hid hw2
  have EQ := Lib.hid eq
  have ER := Lib.hid er
  have HV := Lib.hid hv
  have HG := Lib.hid hg
  have HLN := Lib.hid (len_le hv)
  have HS2 := Lib.hid hs2
  clear h hw2 hB2 hq hr hs2 eq er hg hv
  by_cases hd : 1024 < c.data.length
  · have hd' : (1024 : Int) < (c.data.length : Int) := by omega
    have y2 := cell_of HPL.out.bq (j := 2) rfl
    have HD := Lib.hid hd
    clear hd
    go_enter Tryz.func146, Tryz.ntmps146
    go_upto_region 1 with fail
    rw [← HW2.out, ← ER.out, ← EQ.out]
    obtain ⟨w6, hw6⟩ : ∃ w6, w6 = (((((((((w2.setCell ⟨r, 0, none⟩ (.string ⟨#[]⟩)).setCell ⟨r, 1, none⟩ (.string ⟨#[]⟩)).setCell ⟨r, 2, none⟩ (.int .i64 0)).setCell ⟨r, 3, none⟩ (.int .i64 0)).setCell ⟨r, 4, none⟩ (.int .i64 0)).setCell ⟨r, 5, none⟩ (.int .i64 0)).setCell ⟨r, 6, none⟩ (.int .i64 0)).setCell ⟨r, 7, none⟩ (.int .i64 0)).setCell ⟨r, 8, none⟩ (.int .i64 0)) := ⟨_, rfl⟩
    obtain ⟨hwr, h6⟩ := pl_zero HPL.out.br
    rw [← hw6] at hwr h6
    have HE := Lib.hid (pl_err HPL.out HRR.out (by unfold place; rw [if_pos HD.out]) (k := 87) (by decide) hwr)
    have hrb := HPL.out.br
    have r0 := cell_of hrb (j := 0) rfl
    have r1 := cell_of hrb (j := 1) rfl
    have r2 := cell_of hrb (j := 2) rfl
    have r3 := cell_of hrb (j := 3) rfl
    have r4 := cell_of hrb (j := 4) rfl
    have r5 := cell_of hrb (j := 5) rfl
    have r6 := cell_of hrb (j := 6) rfl
    have r7 := cell_of hrb (j := 7) rfl
    have r8 := cell_of hrb (j := 8) rfl
    have rf0 := frozen_of_row w2 _ 0 _ _ hrb
    have rf1 := frozen_of_row w2 _ 1 _ _ hrb
    have rf2 := frozen_of_row w2 _ 2 _ _ hrb
    have rf3 := frozen_of_row w2 _ 3 _ _ hrb
    have rf4 := frozen_of_row w2 _ 4 _ _ hrb
    have rf5 := frozen_of_row w2 _ 5 _ _ hrb
    have rf6 := frozen_of_row w2 _ 6 _ _ hrb
    have rf7 := frozen_of_row w2 _ 7 _ _ hrb
    have rf8 := frozen_of_row w2 _ 8 _ _ hrb
    have t0 := cell_of h6 (j := 0) rfl
    have t1 := cell_of h6 (j := 1) rfl
    have t2 := cell_of h6 (j := 2) rfl
    have t3 := cell_of h6 (j := 3) rfl
    have t4 := cell_of h6 (j := 4) rfl
    have t5 := cell_of h6 (j := 5) rfl
    have t6 := cell_of h6 (j := 6) rfl
    have t7 := cell_of h6 (j := 7) rfl
    have t8 := cell_of h6 (j := 8) rfl
    have HW6 := Lib.hid hw6
    clear hwr h6 hw6 hrb
    go_wp2_with fail
    rw [← HW6.out]
    exact bodyPost_ret (v := .tuple #[.string ⟨#[]⟩, .agg #[.string ⟨#[]⟩, .string ⟨#[]⟩, .int .i64 0, .int .i64 0, .int .i64 0, .int .i64 0, .int .i64 0, .int .i64 0, .int .i64 0], .int .i64 87]) (by simp [results, Tryz.results146, go_sem, t0, t1, t2, t3, t4, t5, t6, t7, t8]) rfl HE.out
  · have hd' : ¬ (1024 : Int) < (c.data.length : Int) := by omega
    have HD := Lib.hid hd
    have HP := Lib.hid (parent_any (B c.path))
    simp only [LB] at HP
    clear hd
    have y1 := cell_of HPL.out.bq (j := 1) rfl
    have y2 := cell_of HPL.out.bq (j := 2) rfl
    go_enter Tryz.func146, Tryz.ntmps146
    go_upto_region 1 with fail
    rw [← HW2.out, ← ER.out, ← EQ.out]
    go_wp2_with fail
    refine (HP.out _ (by rw [lenB]; have := HLN.out; omega)).mono ?_
    rintro e w3 ⟨rfl, hb3⟩
    have HPL3 := Lib.hid (HPL.out.go hb3)
    have HB3 := Lib.hid hb3
    clear HPL
    have HPL := HPL3
    clear HPL3 hb3 y1 y2
    obtain ⟨po, hpo⟩ : ∃ b, parentOk c.path = b := ⟨_, rfl⟩
    rw [hpo]
    cases po with
    | false =>
      have HX : Hid (c.path = [47]) := Lib.hid (Classical.byContradiction fun e => by rw [valid_parent HV.out e] at hpo; cases hpo)
      clear hpo
      obtain ⟨w6, hw6⟩ : ∃ w6, w6 = (((((((((w3.setCell ⟨r, 0, none⟩ (.string ⟨#[]⟩)).setCell ⟨r, 1, none⟩ (.string ⟨#[]⟩)).setCell ⟨r, 2, none⟩ (.int .i64 0)).setCell ⟨r, 3, none⟩ (.int .i64 0)).setCell ⟨r, 4, none⟩ (.int .i64 0)).setCell ⟨r, 5, none⟩ (.int .i64 0)).setCell ⟨r, 6, none⟩ (.int .i64 0)).setCell ⟨r, 7, none⟩ (.int .i64 0)).setCell ⟨r, 8, none⟩ (.int .i64 0)) := ⟨_, rfl⟩
      obtain ⟨hwr, h6⟩ := pl_zero HPL.out.br
      rw [← hw6] at hwr h6
      have HE := Lib.hid (pl_err HPL.out HRR.out (by unfold place; rw [if_neg HD.out, if_pos HX.out]) (k := 81) (by decide) hwr)
      have hrb := HPL.out.br
      have r0 := cell_of hrb (j := 0) rfl
      have r1 := cell_of hrb (j := 1) rfl
      have r2 := cell_of hrb (j := 2) rfl
      have r3 := cell_of hrb (j := 3) rfl
      have r4 := cell_of hrb (j := 4) rfl
      have r5 := cell_of hrb (j := 5) rfl
      have r6 := cell_of hrb (j := 6) rfl
      have r7 := cell_of hrb (j := 7) rfl
      have r8 := cell_of hrb (j := 8) rfl
      have rf0 := frozen_of_row w3 _ 0 _ _ hrb
      have rf1 := frozen_of_row w3 _ 1 _ _ hrb
      have rf2 := frozen_of_row w3 _ 2 _ _ hrb
      have rf3 := frozen_of_row w3 _ 3 _ _ hrb
      have rf4 := frozen_of_row w3 _ 4 _ _ hrb
      have rf5 := frozen_of_row w3 _ 5 _ _ hrb
      have rf6 := frozen_of_row w3 _ 6 _ _ hrb
      have rf7 := frozen_of_row w3 _ 7 _ _ hrb
      have rf8 := frozen_of_row w3 _ 8 _ _ hrb
      have t0 := cell_of h6 (j := 0) rfl
      have t1 := cell_of h6 (j := 1) rfl
      have t2 := cell_of h6 (j := 2) rfl
      have t3 := cell_of h6 (j := 3) rfl
      have t4 := cell_of h6 (j := 4) rfl
      have t5 := cell_of h6 (j := 5) rfl
      have t6 := cell_of h6 (j := 6) rfl
      have t7 := cell_of h6 (j := 7) rfl
      have t8 := cell_of h6 (j := 8) rfl
      have HW6 := Lib.hid hw6
      clear hwr h6 hw6 hrb
      go_wp2_with fail
      rw [← HW6.out]
      exact bodyPost_ret (v := .tuple #[.string ⟨#[]⟩, .agg #[.string ⟨#[]⟩, .string ⟨#[]⟩, .int .i64 0, .int .i64 0, .int .i64 0, .int .i64 0, .int .i64 0, .int .i64 0, .int .i64 0], .int .i64 81]) (by simp [results, Tryz.results146, go_sem, t0, t1, t2, t3, t4, t5, t6, t7, t8]) rfl HE.out
    | true =>
      have HX : Hid (c.path ≠ [47]) := Lib.hid (parentOk_ne hpo)
      have HPO := Lib.hid hpo
      clear hpo
      obtain ⟨up, hup⟩ : ∃ u, parent c.path = u := ⟨_, rfl⟩
      rw [hup]
      have HUP := Lib.hid hup
      obtain ⟨p, hp⟩ : ∃ z, (get T up).getD nd0 = z := ⟨_, rfl⟩
      obtain ⟨b, hb⟩ : ∃ b, (get T up).isSome = b := ⟨_, rfl⟩
      have hlu : up.length ≤ maxLen := by rw [← hup]; have := len_le (parent_valid HPO.out); unfold maxLen; omega
      have hlook := look_ok HPL.out.tree.map up hlu hp hb
      have d0 := cell_of HPL.out.tree.here (j := 0) rfl
      have hbx : Below w3.heap.size w3 (w3.alloc (.cells #[.string (B p.path), .string (B p.data), .int .i64 p.cr, .int .i64 p.ch, .int .i64 p.kd, .int .i64 p.ver, .int .i64 p.ks, .int .i64 p.own, .int .i64 p.nx] 132)) := box_below w3 _
      obtain ⟨w4, hw4⟩ : ∃ w4, w4 = w3.alloc (.cells #[.string (B p.path), .string (B p.data), .int .i64 p.cr, .int .i64 p.ch, .int .i64 p.kd, .int .i64 p.ver, .int .i64 p.ks, .int .i64 p.own, .int .i64 p.nx] 132) := ⟨_, rfl⟩
      obtain ⟨s, es⟩ : ∃ s, s = w3.heap.size := ⟨_, rfl⟩
      have hsb : w4.heap[s]? = some (.cells #[.string (B p.path), .string (B p.data), .int .i64 p.cr, .int .i64 p.ch, .int .i64 p.kd, .int .i64 p.ver, .int .i64 p.ks, .int .i64 p.own, .int .i64 p.nx] 132 (0, 0)) := by rw [hw4, es]; exact new_block w3 _
      rw [← hw4] at hbx
      have HPL4 := Lib.hid (HPL.out.go hbx)
      clear HPL
      have HPL := HPL4
      have HW4 := Lib.hid hw4
      have ES := Lib.hid es
      have HW3S : Hid (w.heap.size + 2 ≤ w3.heap.size) := Lib.hid (by have h1 := HS2.out; have h2 := HB3.out.size; omega)
      have HSB := Lib.hid hsb
      have HGP := Lib.hid hp
      have HGB := Lib.hid hb
      clear HPL4 hup hp hb hlu hbx hw4 es hsb
      go_upto_region 7 with fail
      rw [← HW4.out, ← ES.out]
      clear hlook d0
      cases b with
      | false =>
        have HN : Hid (get T (parent c.path) = none) := Lib.hid (by rw [HUP.out]; have := HGB.out; cases hh : get T up <;> simp_all)
        obtain ⟨w6, hw6⟩ : ∃ w6, w6 = (((((((((w4.setCell ⟨r, 0, none⟩ (.string ⟨#[]⟩)).setCell ⟨r, 1, none⟩ (.string ⟨#[]⟩)).setCell ⟨r, 2, none⟩ (.int .i64 0)).setCell ⟨r, 3, none⟩ (.int .i64 0)).setCell ⟨r, 4, none⟩ (.int .i64 0)).setCell ⟨r, 5, none⟩ (.int .i64 0)).setCell ⟨r, 6, none⟩ (.int .i64 0)).setCell ⟨r, 7, none⟩ (.int .i64 0)).setCell ⟨r, 8, none⟩ (.int .i64 0)) := ⟨_, rfl⟩
        obtain ⟨hwr, h6⟩ := pl_zero HPL.out.br
        rw [← hw6] at hwr h6
        have HE := Lib.hid (pl_err HPL.out HRR.out (by unfold place; rw [if_neg HD.out, if_neg HX.out, HN.out]) (k := 83) (by decide) hwr)
        have hrb := HPL.out.br
        have r0 := cell_of hrb (j := 0) rfl
        have r1 := cell_of hrb (j := 1) rfl
        have r2 := cell_of hrb (j := 2) rfl
        have r3 := cell_of hrb (j := 3) rfl
        have r4 := cell_of hrb (j := 4) rfl
        have r5 := cell_of hrb (j := 5) rfl
        have r6 := cell_of hrb (j := 6) rfl
        have r7 := cell_of hrb (j := 7) rfl
        have r8 := cell_of hrb (j := 8) rfl
        have rf0 := frozen_of_row w4 _ 0 _ _ hrb
        have rf1 := frozen_of_row w4 _ 1 _ _ hrb
        have rf2 := frozen_of_row w4 _ 2 _ _ hrb
        have rf3 := frozen_of_row w4 _ 3 _ _ hrb
        have rf4 := frozen_of_row w4 _ 4 _ _ hrb
        have rf5 := frozen_of_row w4 _ 5 _ _ hrb
        have rf6 := frozen_of_row w4 _ 6 _ _ hrb
        have rf7 := frozen_of_row w4 _ 7 _ _ hrb
        have rf8 := frozen_of_row w4 _ 8 _ _ hrb
        have t0 := cell_of h6 (j := 0) rfl
        have t1 := cell_of h6 (j := 1) rfl
        have t2 := cell_of h6 (j := 2) rfl
        have t3 := cell_of h6 (j := 3) rfl
        have t4 := cell_of h6 (j := 4) rfl
        have t5 := cell_of h6 (j := 5) rfl
        have t6 := cell_of h6 (j := 6) rfl
        have t7 := cell_of h6 (j := 7) rfl
        have t8 := cell_of h6 (j := 8) rfl
        have HW6 := Lib.hid hw6
        clear hwr h6 hw6 hrb
        go_wp2_with fail
        rw [← HW6.out]
        exact bodyPost_ret (v := .tuple #[.string ⟨#[]⟩, .agg #[.string ⟨#[]⟩, .string ⟨#[]⟩, .int .i64 0, .int .i64 0, .int .i64 0, .int .i64 0, .int .i64 0, .int .i64 0, .int .i64 0], .int .i64 83]) (by simp [results, Tryz.results146, go_sem, t0, t1, t2, t3, t4, t5, t6, t7, t8]) rfl HE.out
      | true =>
        have HN : Hid (get T (parent c.path) = some p) := Lib.hid (by rw [HUP.out]; have h1 := HGB.out; have h2 := HGP.out; cases hh : get T up <;> simp_all)
        have HIE := Lib.hid (isEph_any p w4)
        have hs4 := HSB.out
        have s0 := cell_of hs4 (j := 0) rfl
        have s1 := cell_of hs4 (j := 1) rfl
        have s2 := cell_of hs4 (j := 2) rfl
        have s3 := cell_of hs4 (j := 3) rfl
        have s4 := cell_of hs4 (j := 4) rfl
        have s5 := cell_of hs4 (j := 5) rfl
        have s6 := cell_of hs4 (j := 6) rfl
        have s7 := cell_of hs4 (j := 7) rfl
        have s8 := cell_of hs4 (j := 8) rfl
        clear hs4
        go_wp2_with fail
        refine HIE.out.mono ?_
        rintro e w5 ⟨rfl, hb5⟩
        have HPL5 := Lib.hid (HPL.out.go hb5)
        have HSB5 := Lib.hid (blk_below HSB.out hb5)
        clear HPL HSB
        have HPL := HPL5
        have HSB := HSB5
        clear HPL5 HSB5 hb5 s0 s1 s2 s3 s4 s5 s6 s7 s8
        obtain ⟨o, ho⟩ : ∃ o, (!(p.own == 0)) = o := ⟨_, rfl⟩
        rw [ho]
        cases o with
        | true =>
          have HO : Hid (p.own ≠ 0) := Lib.hid (by simpa using ho)
          clear ho
          obtain ⟨w6, hw6⟩ : ∃ w6, w6 = (((((((((w5.setCell ⟨r, 0, none⟩ (.string ⟨#[]⟩)).setCell ⟨r, 1, none⟩ (.string ⟨#[]⟩)).setCell ⟨r, 2, none⟩ (.int .i64 0)).setCell ⟨r, 3, none⟩ (.int .i64 0)).setCell ⟨r, 4, none⟩ (.int .i64 0)).setCell ⟨r, 5, none⟩ (.int .i64 0)).setCell ⟨r, 6, none⟩ (.int .i64 0)).setCell ⟨r, 7, none⟩ (.int .i64 0)).setCell ⟨r, 8, none⟩ (.int .i64 0)) := ⟨_, rfl⟩
          obtain ⟨hwr, h6⟩ := pl_zero HPL.out.br
          rw [← hw6] at hwr h6
          have HE := Lib.hid (pl_err HPL.out HRR.out (by unfold place; rw [if_neg HD.out, if_neg HX.out, HN.out]; dsimp only; rw [if_pos HO.out]) (k := 85) (by decide) hwr)
          have hrb := HPL.out.br
          have r0 := cell_of hrb (j := 0) rfl
          have r1 := cell_of hrb (j := 1) rfl
          have r2 := cell_of hrb (j := 2) rfl
          have r3 := cell_of hrb (j := 3) rfl
          have r4 := cell_of hrb (j := 4) rfl
          have r5 := cell_of hrb (j := 5) rfl
          have r6 := cell_of hrb (j := 6) rfl
          have r7 := cell_of hrb (j := 7) rfl
          have r8 := cell_of hrb (j := 8) rfl
          have rf0 := frozen_of_row w5 _ 0 _ _ hrb
          have rf1 := frozen_of_row w5 _ 1 _ _ hrb
          have rf2 := frozen_of_row w5 _ 2 _ _ hrb
          have rf3 := frozen_of_row w5 _ 3 _ _ hrb
          have rf4 := frozen_of_row w5 _ 4 _ _ hrb
          have rf5 := frozen_of_row w5 _ 5 _ _ hrb
          have rf6 := frozen_of_row w5 _ 6 _ _ hrb
          have rf7 := frozen_of_row w5 _ 7 _ _ hrb
          have rf8 := frozen_of_row w5 _ 8 _ _ hrb
          have t0 := cell_of h6 (j := 0) rfl
          have t1 := cell_of h6 (j := 1) rfl
          have t2 := cell_of h6 (j := 2) rfl
          have t3 := cell_of h6 (j := 3) rfl
          have t4 := cell_of h6 (j := 4) rfl
          have t5 := cell_of h6 (j := 5) rfl
          have t6 := cell_of h6 (j := 6) rfl
          have t7 := cell_of h6 (j := 7) rfl
          have t8 := cell_of h6 (j := 8) rfl
          have HW6 := Lib.hid hw6
          clear hwr h6 hw6 hrb
          go_wp2_with fail
          rw [← HW6.out]
          exact bodyPost_ret (v := .tuple #[.string ⟨#[]⟩, .agg #[.string ⟨#[]⟩, .string ⟨#[]⟩, .int .i64 0, .int .i64 0, .int .i64 0, .int .i64 0, .int .i64 0, .int .i64 0, .int .i64 0], .int .i64 85]) (by simp [results, Tryz.results146, go_sem, t0, t1, t2, t3, t4, t5, t6, t7, t8]) rfl HE.out
        | false =>
          have HO : Hid (¬ p.own ≠ 0) := Lib.hid (by simpa using ho)
          clear ho
          have HC := Lib.hid (clone_any (B c.path) w5 (by rw [lenB]; have := HLN.out; omega))
          have y1 := cell_of HPL.out.bq (j := 1) rfl
          go_wp2_with fail
          refine HC.out.mono ?_
          rintro e w7 ⟨rfl, hb7⟩
          have HPL7 := Lib.hid (HPL.out.go hb7)
          have HSB7 := Lib.hid (blk_below HSB.out hb7)
          clear HPL HSB
          have HPL := HPL7
          have HSB := HSB7
          clear HPL7 HSB7 hb7 y1
          have y5 := cell_of HPL.out.bq (j := 5) rfl
          have y1 := cell_of HPL.out.bq (j := 1) rfl
          by_cases hsq : c.sq = true
          · have HM := Lib.hid (number_any (B c.path) p.nx)
            simp only [LB] at HM
            have hs7 := HSB.out
            have s0 := cell_of hs7 (j := 0) rfl
            have s1 := cell_of hs7 (j := 1) rfl
            have s2 := cell_of hs7 (j := 2) rfl
            have s3 := cell_of hs7 (j := 3) rfl
            have s4 := cell_of hs7 (j := 4) rfl
            have s5 := cell_of hs7 (j := 5) rfl
            have s6 := cell_of hs7 (j := 6) rfl
            have s7 := cell_of hs7 (j := 7) rfl
            have s8 := cell_of hs7 (j := 8) rfl
            clear hs7
            go_wp2_with fail
            refine (HM.out _ (by rw [lenB]; have := HLN.out; omega)).mono ?_
            rintro e w8 ⟨rfl, hb8⟩
            have HPL8 := Lib.hid (HPL.out.go hb8)
            have HSB8 := Lib.hid (blk_below HSB.out hb8)
            clear HPL HSB
            have HPL := HPL8
            have HSB := HSB8
            clear HPL8 HSB8 hb8 s0 s1 s2 s3 s4 s5 s6 s7 s8 y1 y5
            have HSQ := Lib.hid hsq
            clear hsq
            obtain ⟨ok, hok⟩ : ∃ b, numOk c.path p.nx = b := ⟨_, rfl⟩
            obtain ⟨x, hx⟩ : ∃ x, number c.path p.nx = x := ⟨_, rfl⟩
            rw [hok, hx]
            have HXX : Hid ((if c.sq then number c.path p.nx else c.path) = x) := Lib.hid (by rw [if_pos HSQ.out]; exact hx)
            have HOK := Lib.hid hok
            have HNX := Lib.hid hx
            clear hok hx
            cases ok with
            | false =>
              have HNS : Hid ((c.sq && !numOk c.path p.nx) = true) := Lib.hid (by rw [HSQ.out, HOK.out]; rfl)
              obtain ⟨w6, hw6⟩ : ∃ w6, w6 = (((((((((w8.setCell ⟨r, 0, none⟩ (.string ⟨#[]⟩)).setCell ⟨r, 1, none⟩ (.string ⟨#[]⟩)).setCell ⟨r, 2, none⟩ (.int .i64 0)).setCell ⟨r, 3, none⟩ (.int .i64 0)).setCell ⟨r, 4, none⟩ (.int .i64 0)).setCell ⟨r, 5, none⟩ (.int .i64 0)).setCell ⟨r, 6, none⟩ (.int .i64 0)).setCell ⟨r, 7, none⟩ (.int .i64 0)).setCell ⟨r, 8, none⟩ (.int .i64 0)) := ⟨_, rfl⟩
              obtain ⟨hwr, h6⟩ := pl_zero HPL.out.br
              rw [← hw6] at hwr h6
              have HE := Lib.hid (pl_err HPL.out HRR.out (by unfold place; rw [if_neg HD.out, if_neg HX.out, HN.out]; dsimp only; rw [if_neg HO.out, if_pos HNS.out]) (k := 70) (by decide) hwr)
              have hrb := HPL.out.br
              have r0 := cell_of hrb (j := 0) rfl
              have r1 := cell_of hrb (j := 1) rfl
              have r2 := cell_of hrb (j := 2) rfl
              have r3 := cell_of hrb (j := 3) rfl
              have r4 := cell_of hrb (j := 4) rfl
              have r5 := cell_of hrb (j := 5) rfl
              have r6 := cell_of hrb (j := 6) rfl
              have r7 := cell_of hrb (j := 7) rfl
              have r8 := cell_of hrb (j := 8) rfl
              have rf0 := frozen_of_row w8 _ 0 _ _ hrb
              have rf1 := frozen_of_row w8 _ 1 _ _ hrb
              have rf2 := frozen_of_row w8 _ 2 _ _ hrb
              have rf3 := frozen_of_row w8 _ 3 _ _ hrb
              have rf4 := frozen_of_row w8 _ 4 _ _ hrb
              have rf5 := frozen_of_row w8 _ 5 _ _ hrb
              have rf6 := frozen_of_row w8 _ 6 _ _ hrb
              have rf7 := frozen_of_row w8 _ 7 _ _ hrb
              have rf8 := frozen_of_row w8 _ 8 _ _ hrb
              have t0 := cell_of h6 (j := 0) rfl
              have t1 := cell_of h6 (j := 1) rfl
              have t2 := cell_of h6 (j := 2) rfl
              have t3 := cell_of h6 (j := 3) rfl
              have t4 := cell_of h6 (j := 4) rfl
              have t5 := cell_of h6 (j := 5) rfl
              have t6 := cell_of h6 (j := 6) rfl
              have t7 := cell_of h6 (j := 7) rfl
              have t8 := cell_of h6 (j := 8) rfl
              have HW6 := Lib.hid hw6
              clear hwr h6 hw6 hrb
              go_wp2_with fail
              rw [← HW6.out]
              exact bodyPost_ret (v := .tuple #[.string ⟨#[]⟩, .agg #[.string ⟨#[]⟩, .string ⟨#[]⟩, .int .i64 0, .int .i64 0, .int .i64 0, .int .i64 0, .int .i64 0, .int .i64 0, .int .i64 0], .int .i64 70]) (by simp [results, Tryz.results146, go_sem, t0, t1, t2, t3, t4, t5, t6, t7, t8]) rfl HE.out
            | true =>
              have HNS : Hid (¬ (c.sq && !numOk c.path p.nx) = true) := Lib.hid (by rw [HSQ.out, HOK.out]; decide)
              have HXV : Hid (valid x = true) := Lib.hid (by rw [← HNX.out]; exact numOk_valid HOK.out)
              have hlx : x.length ≤ maxLen := by have := len_le HXV.out; unfold maxLen; omega
              obtain ⟨b, hb⟩ : ∃ b, (get T x).isSome = b := ⟨_, rfl⟩
              obtain ⟨z9, hz9⟩ : ∃ z, (get T x).getD nd0 = z := ⟨_, rfl⟩
              have hlook := look_ok HPL.out.tree.map x hlx hz9 hb
              have d0 := cell_of HPL.out.tree.here (j := 0) rfl
              have hbx : Below w8.heap.size w8 (w8.alloc (.cells #[.string (B z9.path), .string (B z9.data), .int .i64 z9.cr, .int .i64 z9.ch, .int .i64 z9.kd, .int .i64 z9.ver, .int .i64 z9.ks, .int .i64 z9.own, .int .i64 z9.nx] 132)) := box_below w8 _
              obtain ⟨w9, hw9⟩ : ∃ w9, w9 = w8.alloc (.cells #[.string (B z9.path), .string (B z9.data), .int .i64 z9.cr, .int .i64 z9.ch, .int .i64 z9.kd, .int .i64 z9.ver, .int .i64 z9.ks, .int .i64 z9.own, .int .i64 z9.nx] 132) := ⟨_, rfl⟩
              rw [← hw9] at hbx
              have HPL9 := Lib.hid (HPL.out.go hbx)
              have HSB9 := Lib.hid (blk_below HSB.out hbx)
              clear HPL HSB
              have HPL := HPL9
              have HSB := HSB9
              have HW9 := Lib.hid hw9
              have HGX := Lib.hid hb
              clear HPL9 HSB9 hbx hw9 hb hz9 hlx
              go_upto_region 17 with fail
              rw [← HW9.out]
              clear hlook d0
              cases b with
              | true =>
                have HIS : Hid ((get T (if c.sq then number c.path p.nx else c.path)).isSome = true) := Lib.hid (by rw [HXX.out]; exact HGX.out)
                obtain ⟨w6, hw6⟩ : ∃ w6, w6 = (((((((((w9.setCell ⟨r, 0, none⟩ (.string ⟨#[]⟩)).setCell ⟨r, 1, none⟩ (.string ⟨#[]⟩)).setCell ⟨r, 2, none⟩ (.int .i64 0)).setCell ⟨r, 3, none⟩ (.int .i64 0)).setCell ⟨r, 4, none⟩ (.int .i64 0)).setCell ⟨r, 5, none⟩ (.int .i64 0)).setCell ⟨r, 6, none⟩ (.int .i64 0)).setCell ⟨r, 7, none⟩ (.int .i64 0)).setCell ⟨r, 8, none⟩ (.int .i64 0)) := ⟨_, rfl⟩
                obtain ⟨hwr, h6⟩ := pl_zero HPL.out.br
                rw [← hw6] at hwr h6
                have HE := Lib.hid (pl_err HPL.out HRR.out (by unfold place; rw [if_neg HD.out, if_neg HX.out, HN.out]; dsimp only; rw [if_neg HO.out, if_neg HNS.out, if_pos HIS.out]) (k := 81) (by decide) hwr)
                have hrb := HPL.out.br
                have r0 := cell_of hrb (j := 0) rfl
                have r1 := cell_of hrb (j := 1) rfl
                have r2 := cell_of hrb (j := 2) rfl
                have r3 := cell_of hrb (j := 3) rfl
                have r4 := cell_of hrb (j := 4) rfl
                have r5 := cell_of hrb (j := 5) rfl
                have r6 := cell_of hrb (j := 6) rfl
                have r7 := cell_of hrb (j := 7) rfl
                have r8 := cell_of hrb (j := 8) rfl
                have rf0 := frozen_of_row w9 _ 0 _ _ hrb
                have rf1 := frozen_of_row w9 _ 1 _ _ hrb
                have rf2 := frozen_of_row w9 _ 2 _ _ hrb
                have rf3 := frozen_of_row w9 _ 3 _ _ hrb
                have rf4 := frozen_of_row w9 _ 4 _ _ hrb
                have rf5 := frozen_of_row w9 _ 5 _ _ hrb
                have rf6 := frozen_of_row w9 _ 6 _ _ hrb
                have rf7 := frozen_of_row w9 _ 7 _ _ hrb
                have rf8 := frozen_of_row w9 _ 8 _ _ hrb
                have t0 := cell_of h6 (j := 0) rfl
                have t1 := cell_of h6 (j := 1) rfl
                have t2 := cell_of h6 (j := 2) rfl
                have t3 := cell_of h6 (j := 3) rfl
                have t4 := cell_of h6 (j := 4) rfl
                have t5 := cell_of h6 (j := 5) rfl
                have t6 := cell_of h6 (j := 6) rfl
                have t7 := cell_of h6 (j := 7) rfl
                have t8 := cell_of h6 (j := 8) rfl
                have HW6 := Lib.hid hw6
                clear hwr h6 hw6 hrb
                go_wp2_with fail
                rw [← HW6.out]
                exact bodyPost_ret (v := .tuple #[.string ⟨#[]⟩, .agg #[.string ⟨#[]⟩, .string ⟨#[]⟩, .int .i64 0, .int .i64 0, .int .i64 0, .int .i64 0, .int .i64 0, .int .i64 0, .int .i64 0], .int .i64 81]) (by simp [results, Tryz.results146, go_sem, t0, t1, t2, t3, t4, t5, t6, t7, t8]) rfl HE.out
              | false =>
                have HIS : Hid (¬ (get T (if c.sq then number c.path p.nx else c.path)).isSome = true) := Lib.hid (by rw [HXX.out, HGX.out]; decide)
                have hlen := fun ty => len_nd HPL.out.tree.map ty
                have d0 := cell_of HPL.out.tree.here (j := 0) rfl
                by_cases hl : 200 ≤ T.length
                · have HL := Lib.hid hl
                  have hl' : (200 : Int) ≤ (T.length : Int) := by omega
                  clear hl
                  obtain ⟨w6, hw6⟩ : ∃ w6, w6 = (((((((((w9.setCell ⟨r, 0, none⟩ (.string ⟨#[]⟩)).setCell ⟨r, 1, none⟩ (.string ⟨#[]⟩)).setCell ⟨r, 2, none⟩ (.int .i64 0)).setCell ⟨r, 3, none⟩ (.int .i64 0)).setCell ⟨r, 4, none⟩ (.int .i64 0)).setCell ⟨r, 5, none⟩ (.int .i64 0)).setCell ⟨r, 6, none⟩ (.int .i64 0)).setCell ⟨r, 7, none⟩ (.int .i64 0)).setCell ⟨r, 8, none⟩ (.int .i64 0)) := ⟨_, rfl⟩
                  obtain ⟨hwr, h6⟩ := pl_zero HPL.out.br
                  rw [← hw6] at hwr h6
                  have HE := Lib.hid (pl_err HPL.out HRR.out (by unfold place; rw [if_neg HD.out, if_neg HX.out, HN.out]; dsimp only; rw [if_neg HO.out, if_neg HNS.out, if_neg HIS.out, if_pos HL.out]) (k := 86) (by decide) hwr)
                  have hrb := HPL.out.br
                  have r0 := cell_of hrb (j := 0) rfl
                  have r1 := cell_of hrb (j := 1) rfl
                  have r2 := cell_of hrb (j := 2) rfl
                  have r3 := cell_of hrb (j := 3) rfl
                  have r4 := cell_of hrb (j := 4) rfl
                  have r5 := cell_of hrb (j := 5) rfl
                  have r6 := cell_of hrb (j := 6) rfl
                  have r7 := cell_of hrb (j := 7) rfl
                  have r8 := cell_of hrb (j := 8) rfl
                  have rf0 := frozen_of_row w9 _ 0 _ _ hrb
                  have rf1 := frozen_of_row w9 _ 1 _ _ hrb
                  have rf2 := frozen_of_row w9 _ 2 _ _ hrb
                  have rf3 := frozen_of_row w9 _ 3 _ _ hrb
                  have rf4 := frozen_of_row w9 _ 4 _ _ hrb
                  have rf5 := frozen_of_row w9 _ 5 _ _ hrb
                  have rf6 := frozen_of_row w9 _ 6 _ _ hrb
                  have rf7 := frozen_of_row w9 _ 7 _ _ hrb
                  have rf8 := frozen_of_row w9 _ 8 _ _ hrb
                  have t0 := cell_of h6 (j := 0) rfl
                  have t1 := cell_of h6 (j := 1) rfl
                  have t2 := cell_of h6 (j := 2) rfl
                  have t3 := cell_of h6 (j := 3) rfl
                  have t4 := cell_of h6 (j := 4) rfl
                  have t5 := cell_of h6 (j := 5) rfl
                  have t6 := cell_of h6 (j := 6) rfl
                  have t7 := cell_of h6 (j := 7) rfl
                  have t8 := cell_of h6 (j := 8) rfl
                  have HW6 := Lib.hid hw6
                  clear hwr h6 hw6 hrb
                  go_wp2_with fail
                  rw [← HW6.out]
                  exact bodyPost_ret (v := .tuple #[.string ⟨#[]⟩, .agg #[.string ⟨#[]⟩, .string ⟨#[]⟩, .int .i64 0, .int .i64 0, .int .i64 0, .int .i64 0, .int .i64 0, .int .i64 0, .int .i64 0], .int .i64 86]) (by simp [results, Tryz.results146, go_sem, t0, t1, t2, t3, t4, t5, t6, t7, t8]) rfl HE.out
                · have hl' : ¬ (200 : Int) ≤ (T.length : Int) := by omega
                  have HPP : Hid (place T c = (0, x)) := Lib.hid (by unfold place; rw [if_neg HD.out, if_neg HX.out, HN.out]; dsimp only; rw [if_neg HO.out, if_neg HNS.out, if_neg HIS.out, if_neg hl, HXX.out])
                  clear hl
                  obtain ⟨w6, hw6⟩ : ∃ w6, w6 = (((((((((w9.setCell ⟨r, 0, none⟩ (.string (B p.path))).setCell ⟨r, 1, none⟩ (.string (B p.data))).setCell ⟨r, 2, none⟩ (.int .i64 p.cr)).setCell ⟨r, 3, none⟩ (.int .i64 p.ch)).setCell ⟨r, 4, none⟩ (.int .i64 p.kd)).setCell ⟨r, 5, none⟩ (.int .i64 p.ver)).setCell ⟨r, 6, none⟩ (.int .i64 p.ks)).setCell ⟨r, 7, none⟩ (.int .i64 p.own)).setCell ⟨r, 8, none⟩ (.int .i64 p.nx)) := ⟨_, rfl⟩
                  obtain ⟨hwr, h6⟩ := set_nd HPL.out.br p
                  rw [← hw6] at hwr h6
                  have hrs : r ≠ s := by rw [ER.out, ES.out]; have := HW3S.out; omega
                  have hsr : s ≠ r := Ne.symm hrs
                  have HE : Hid (PlPost T c w (.returned (.tuple #[.string (B x), .agg #[.string (B p.path), .string (B p.data), .int .i64 p.cr, .int .i64 p.ch, .int .i64 p.kd, .int .i64 p.ver, .int .i64 p.ks, .int .i64 p.own, .int .i64 p.nx], .int .i64 0])) w6.drew) := Lib.hid ⟨by unfold plN; rw [HPP.out, if_pos rfl, HN.out]; rfl, HPL.out.below.trans ((hwr.below.drew).mono HRR.out)⟩
                  have hrb := HPL.out.br
                  have hsb := HSB.out
                  have r0 := cell_of hrb (j := 0) rfl
                  have r1 := cell_of hrb (j := 1) rfl
                  have r2 := cell_of hrb (j := 2) rfl
                  have r3 := cell_of hrb (j := 3) rfl
                  have r4 := cell_of hrb (j := 4) rfl
                  have r5 := cell_of hrb (j := 5) rfl
                  have r6 := cell_of hrb (j := 6) rfl
                  have r7 := cell_of hrb (j := 7) rfl
                  have r8 := cell_of hrb (j := 8) rfl
                  have rf0 := frozen_of_row w9 _ 0 _ _ hrb
                  have rf1 := frozen_of_row w9 _ 1 _ _ hrb
                  have rf2 := frozen_of_row w9 _ 2 _ _ hrb
                  have rf3 := frozen_of_row w9 _ 3 _ _ hrb
                  have rf4 := frozen_of_row w9 _ 4 _ _ hrb
                  have rf5 := frozen_of_row w9 _ 5 _ _ hrb
                  have rf6 := frozen_of_row w9 _ 6 _ _ hrb
                  have rf7 := frozen_of_row w9 _ 7 _ _ hrb
                  have rf8 := frozen_of_row w9 _ 8 _ _ hrb
                  have s0 := cell_of hsb (j := 0) rfl
                  have s1 := cell_of hsb (j := 1) rfl
                  have s2 := cell_of hsb (j := 2) rfl
                  have s3 := cell_of hsb (j := 3) rfl
                  have s4 := cell_of hsb (j := 4) rfl
                  have s5 := cell_of hsb (j := 5) rfl
                  have s6 := cell_of hsb (j := 6) rfl
                  have s7 := cell_of hsb (j := 7) rfl
                  have s8 := cell_of hsb (j := 8) rfl
                  have t0 := cell_of h6 (j := 0) rfl
                  have t1 := cell_of h6 (j := 1) rfl
                  have t2 := cell_of h6 (j := 2) rfl
                  have t3 := cell_of h6 (j := 3) rfl
                  have t4 := cell_of h6 (j := 4) rfl
                  have t5 := cell_of h6 (j := 5) rfl
                  have t6 := cell_of h6 (j := 6) rfl
                  have t7 := cell_of h6 (j := 7) rfl
                  have t8 := cell_of h6 (j := 8) rfl
                  have HW6 := Lib.hid hw6
                  clear hwr h6 hw6 hrb hsb
                  go_upto_region 21 with fail
                  go_region
                  rw [← HW6.out]
                  go_wp2_with fail
                  exact bodyPost_ret (v := .tuple #[.string (B x), .agg #[.string (B p.path), .string (B p.data), .int .i64 p.cr, .int .i64 p.ch, .int .i64 p.kd, .int .i64 p.ver, .int .i64 p.ks, .int .i64 p.own, .int .i64 p.nx], .int .i64 0]) (by simp [results, Tryz.results146, go_sem, t0, t1, t2, t3, t4, t5, t6, t7, t8]) rfl HE.out
          · have HSQ : Hid (c.sq = false) := Lib.hid (by simpa using hsq)
            have hsq' : c.sq = false := HSQ.out
            obtain ⟨x, hx⟩ : ∃ x, c.path = x := ⟨_, rfl⟩
            have HXX : Hid ((if c.sq then number c.path p.nx else c.path) = x) := Lib.hid (by rw [HSQ.out]; exact hx)
            have HNS : Hid (¬ (c.sq && !numOk c.path p.nx) = true) := Lib.hid (by rw [HSQ.out]; simp)
            have HXV : Hid (valid x = true) := Lib.hid (by rw [← hx]; exact HV.out)
            have HNX := Lib.hid hx
            clear hsq y1
            rw [hx]
            clear hx
            go_upto_region 16 with fail
            clear hsq' y5
            have hlx : x.length ≤ maxLen := by have := len_le HXV.out; unfold maxLen; omega
            obtain ⟨b, hb⟩ : ∃ b, (get T x).isSome = b := ⟨_, rfl⟩
            obtain ⟨z9, hz9⟩ : ∃ z, (get T x).getD nd0 = z := ⟨_, rfl⟩
            have hlook := look_ok HPL.out.tree.map x hlx hz9 hb
            have d0 := cell_of HPL.out.tree.here (j := 0) rfl
            have hbx : Below w7.heap.size w7 (w7.alloc (.cells #[.string (B z9.path), .string (B z9.data), .int .i64 z9.cr, .int .i64 z9.ch, .int .i64 z9.kd, .int .i64 z9.ver, .int .i64 z9.ks, .int .i64 z9.own, .int .i64 z9.nx] 132)) := box_below w7 _
            obtain ⟨w9, hw9⟩ : ∃ w9, w9 = w7.alloc (.cells #[.string (B z9.path), .string (B z9.data), .int .i64 z9.cr, .int .i64 z9.ch, .int .i64 z9.kd, .int .i64 z9.ver, .int .i64 z9.ks, .int .i64 z9.own, .int .i64 z9.nx] 132) := ⟨_, rfl⟩
            rw [← hw9] at hbx
            have HPL9 := Lib.hid (HPL.out.go hbx)
            have HSB9 := Lib.hid (blk_below HSB.out hbx)
            clear HPL HSB
            have HPL := HPL9
            have HSB := HSB9
            have HW9 := Lib.hid hw9
            have HGX := Lib.hid hb
            clear HPL9 HSB9 hbx hw9 hb hz9 hlx
            go_upto_region 17 with fail
            rw [← HW9.out]
            clear hlook d0
            cases b with
            | true =>
              have HIS : Hid ((get T (if c.sq then number c.path p.nx else c.path)).isSome = true) := Lib.hid (by rw [HXX.out]; exact HGX.out)
              obtain ⟨w6, hw6⟩ : ∃ w6, w6 = (((((((((w9.setCell ⟨r, 0, none⟩ (.string ⟨#[]⟩)).setCell ⟨r, 1, none⟩ (.string ⟨#[]⟩)).setCell ⟨r, 2, none⟩ (.int .i64 0)).setCell ⟨r, 3, none⟩ (.int .i64 0)).setCell ⟨r, 4, none⟩ (.int .i64 0)).setCell ⟨r, 5, none⟩ (.int .i64 0)).setCell ⟨r, 6, none⟩ (.int .i64 0)).setCell ⟨r, 7, none⟩ (.int .i64 0)).setCell ⟨r, 8, none⟩ (.int .i64 0)) := ⟨_, rfl⟩
              obtain ⟨hwr, h6⟩ := pl_zero HPL.out.br
              rw [← hw6] at hwr h6
              have HE := Lib.hid (pl_err HPL.out HRR.out (by unfold place; rw [if_neg HD.out, if_neg HX.out, HN.out]; dsimp only; rw [if_neg HO.out, if_neg HNS.out, if_pos HIS.out]) (k := 81) (by decide) hwr)
              have hrb := HPL.out.br
              have r0 := cell_of hrb (j := 0) rfl
              have r1 := cell_of hrb (j := 1) rfl
              have r2 := cell_of hrb (j := 2) rfl
              have r3 := cell_of hrb (j := 3) rfl
              have r4 := cell_of hrb (j := 4) rfl
              have r5 := cell_of hrb (j := 5) rfl
              have r6 := cell_of hrb (j := 6) rfl
              have r7 := cell_of hrb (j := 7) rfl
              have r8 := cell_of hrb (j := 8) rfl
              have rf0 := frozen_of_row w9 _ 0 _ _ hrb
              have rf1 := frozen_of_row w9 _ 1 _ _ hrb
              have rf2 := frozen_of_row w9 _ 2 _ _ hrb
              have rf3 := frozen_of_row w9 _ 3 _ _ hrb
              have rf4 := frozen_of_row w9 _ 4 _ _ hrb
              have rf5 := frozen_of_row w9 _ 5 _ _ hrb
              have rf6 := frozen_of_row w9 _ 6 _ _ hrb
              have rf7 := frozen_of_row w9 _ 7 _ _ hrb
              have rf8 := frozen_of_row w9 _ 8 _ _ hrb
              have t0 := cell_of h6 (j := 0) rfl
              have t1 := cell_of h6 (j := 1) rfl
              have t2 := cell_of h6 (j := 2) rfl
              have t3 := cell_of h6 (j := 3) rfl
              have t4 := cell_of h6 (j := 4) rfl
              have t5 := cell_of h6 (j := 5) rfl
              have t6 := cell_of h6 (j := 6) rfl
              have t7 := cell_of h6 (j := 7) rfl
              have t8 := cell_of h6 (j := 8) rfl
              have HW6 := Lib.hid hw6
              clear hwr h6 hw6 hrb
              go_wp2_with fail
              rw [← HW6.out]
              exact bodyPost_ret (v := .tuple #[.string ⟨#[]⟩, .agg #[.string ⟨#[]⟩, .string ⟨#[]⟩, .int .i64 0, .int .i64 0, .int .i64 0, .int .i64 0, .int .i64 0, .int .i64 0, .int .i64 0], .int .i64 81]) (by simp [results, Tryz.results146, go_sem, t0, t1, t2, t3, t4, t5, t6, t7, t8]) rfl HE.out
            | false =>
              have HIS : Hid (¬ (get T (if c.sq then number c.path p.nx else c.path)).isSome = true) := Lib.hid (by rw [HXX.out, HGX.out]; decide)
              have hlen := fun ty => len_nd HPL.out.tree.map ty
              have d0 := cell_of HPL.out.tree.here (j := 0) rfl
              by_cases hl : 200 ≤ T.length
              · have HL := Lib.hid hl
                have hl' : (200 : Int) ≤ (T.length : Int) := by omega
                clear hl
                obtain ⟨w6, hw6⟩ : ∃ w6, w6 = (((((((((w9.setCell ⟨r, 0, none⟩ (.string ⟨#[]⟩)).setCell ⟨r, 1, none⟩ (.string ⟨#[]⟩)).setCell ⟨r, 2, none⟩ (.int .i64 0)).setCell ⟨r, 3, none⟩ (.int .i64 0)).setCell ⟨r, 4, none⟩ (.int .i64 0)).setCell ⟨r, 5, none⟩ (.int .i64 0)).setCell ⟨r, 6, none⟩ (.int .i64 0)).setCell ⟨r, 7, none⟩ (.int .i64 0)).setCell ⟨r, 8, none⟩ (.int .i64 0)) := ⟨_, rfl⟩
                obtain ⟨hwr, h6⟩ := pl_zero HPL.out.br
                rw [← hw6] at hwr h6
                have HE := Lib.hid (pl_err HPL.out HRR.out (by unfold place; rw [if_neg HD.out, if_neg HX.out, HN.out]; dsimp only; rw [if_neg HO.out, if_neg HNS.out, if_neg HIS.out, if_pos HL.out]) (k := 86) (by decide) hwr)
                have hrb := HPL.out.br
                have r0 := cell_of hrb (j := 0) rfl
                have r1 := cell_of hrb (j := 1) rfl
                have r2 := cell_of hrb (j := 2) rfl
                have r3 := cell_of hrb (j := 3) rfl
                have r4 := cell_of hrb (j := 4) rfl
                have r5 := cell_of hrb (j := 5) rfl
                have r6 := cell_of hrb (j := 6) rfl
                have r7 := cell_of hrb (j := 7) rfl
                have r8 := cell_of hrb (j := 8) rfl
                have rf0 := frozen_of_row w9 _ 0 _ _ hrb
                have rf1 := frozen_of_row w9 _ 1 _ _ hrb
                have rf2 := frozen_of_row w9 _ 2 _ _ hrb
                have rf3 := frozen_of_row w9 _ 3 _ _ hrb
                have rf4 := frozen_of_row w9 _ 4 _ _ hrb
                have rf5 := frozen_of_row w9 _ 5 _ _ hrb
                have rf6 := frozen_of_row w9 _ 6 _ _ hrb
                have rf7 := frozen_of_row w9 _ 7 _ _ hrb
                have rf8 := frozen_of_row w9 _ 8 _ _ hrb
                have t0 := cell_of h6 (j := 0) rfl
                have t1 := cell_of h6 (j := 1) rfl
                have t2 := cell_of h6 (j := 2) rfl
                have t3 := cell_of h6 (j := 3) rfl
                have t4 := cell_of h6 (j := 4) rfl
                have t5 := cell_of h6 (j := 5) rfl
                have t6 := cell_of h6 (j := 6) rfl
                have t7 := cell_of h6 (j := 7) rfl
                have t8 := cell_of h6 (j := 8) rfl
                have HW6 := Lib.hid hw6
                clear hwr h6 hw6 hrb
                go_wp2_with fail
                rw [← HW6.out]
                exact bodyPost_ret (v := .tuple #[.string ⟨#[]⟩, .agg #[.string ⟨#[]⟩, .string ⟨#[]⟩, .int .i64 0, .int .i64 0, .int .i64 0, .int .i64 0, .int .i64 0, .int .i64 0, .int .i64 0], .int .i64 86]) (by simp [results, Tryz.results146, go_sem, t0, t1, t2, t3, t4, t5, t6, t7, t8]) rfl HE.out
              · have hl' : ¬ (200 : Int) ≤ (T.length : Int) := by omega
                have HPP : Hid (place T c = (0, x)) := Lib.hid (by unfold place; rw [if_neg HD.out, if_neg HX.out, HN.out]; dsimp only; rw [if_neg HO.out, if_neg HNS.out, if_neg HIS.out, if_neg hl, HXX.out])
                clear hl
                obtain ⟨w6, hw6⟩ : ∃ w6, w6 = (((((((((w9.setCell ⟨r, 0, none⟩ (.string (B p.path))).setCell ⟨r, 1, none⟩ (.string (B p.data))).setCell ⟨r, 2, none⟩ (.int .i64 p.cr)).setCell ⟨r, 3, none⟩ (.int .i64 p.ch)).setCell ⟨r, 4, none⟩ (.int .i64 p.kd)).setCell ⟨r, 5, none⟩ (.int .i64 p.ver)).setCell ⟨r, 6, none⟩ (.int .i64 p.ks)).setCell ⟨r, 7, none⟩ (.int .i64 p.own)).setCell ⟨r, 8, none⟩ (.int .i64 p.nx)) := ⟨_, rfl⟩
                obtain ⟨hwr, h6⟩ := set_nd HPL.out.br p
                rw [← hw6] at hwr h6
                have hrs : r ≠ s := by rw [ER.out, ES.out]; have := HW3S.out; omega
                have hsr : s ≠ r := Ne.symm hrs
                have HE : Hid (PlPost T c w (.returned (.tuple #[.string (B x), .agg #[.string (B p.path), .string (B p.data), .int .i64 p.cr, .int .i64 p.ch, .int .i64 p.kd, .int .i64 p.ver, .int .i64 p.ks, .int .i64 p.own, .int .i64 p.nx], .int .i64 0])) w6.drew) := Lib.hid ⟨by unfold plN; rw [HPP.out, if_pos rfl, HN.out]; rfl, HPL.out.below.trans ((hwr.below.drew).mono HRR.out)⟩
                have hrb := HPL.out.br
                have hsb := HSB.out
                have r0 := cell_of hrb (j := 0) rfl
                have r1 := cell_of hrb (j := 1) rfl
                have r2 := cell_of hrb (j := 2) rfl
                have r3 := cell_of hrb (j := 3) rfl
                have r4 := cell_of hrb (j := 4) rfl
                have r5 := cell_of hrb (j := 5) rfl
                have r6 := cell_of hrb (j := 6) rfl
                have r7 := cell_of hrb (j := 7) rfl
                have r8 := cell_of hrb (j := 8) rfl
                have rf0 := frozen_of_row w9 _ 0 _ _ hrb
                have rf1 := frozen_of_row w9 _ 1 _ _ hrb
                have rf2 := frozen_of_row w9 _ 2 _ _ hrb
                have rf3 := frozen_of_row w9 _ 3 _ _ hrb
                have rf4 := frozen_of_row w9 _ 4 _ _ hrb
                have rf5 := frozen_of_row w9 _ 5 _ _ hrb
                have rf6 := frozen_of_row w9 _ 6 _ _ hrb
                have rf7 := frozen_of_row w9 _ 7 _ _ hrb
                have rf8 := frozen_of_row w9 _ 8 _ _ hrb
                have s0 := cell_of hsb (j := 0) rfl
                have s1 := cell_of hsb (j := 1) rfl
                have s2 := cell_of hsb (j := 2) rfl
                have s3 := cell_of hsb (j := 3) rfl
                have s4 := cell_of hsb (j := 4) rfl
                have s5 := cell_of hsb (j := 5) rfl
                have s6 := cell_of hsb (j := 6) rfl
                have s7 := cell_of hsb (j := 7) rfl
                have s8 := cell_of hsb (j := 8) rfl
                have t0 := cell_of h6 (j := 0) rfl
                have t1 := cell_of h6 (j := 1) rfl
                have t2 := cell_of h6 (j := 2) rfl
                have t3 := cell_of h6 (j := 3) rfl
                have t4 := cell_of h6 (j := 4) rfl
                have t5 := cell_of h6 (j := 5) rfl
                have t6 := cell_of h6 (j := 6) rfl
                have t7 := cell_of h6 (j := 7) rfl
                have t8 := cell_of h6 (j := 8) rfl
                have HW6 := Lib.hid hw6
                clear hwr h6 hw6 hrb hsb
                go_upto_region 21 with fail
                go_region
                rw [← HW6.out]
                go_wp2_with fail
                exact bodyPost_ret (v := .tuple #[.string (B x), .agg #[.string (B p.path), .string (B p.data), .int .i64 p.cr, .int .i64 p.ch, .int .i64 p.kd, .int .i64 p.ver, .int .i64 p.ks, .int .i64 p.own, .int .i64 p.nx], .int .i64 0]) (by simp [results, Tryz.results146, go_sem, t0, t1, t2, t3, t4, t5, t6, t7, t8]) rfl HE.out
end Go.Proofs.YtflgemlhocjipaaGreatDoor
