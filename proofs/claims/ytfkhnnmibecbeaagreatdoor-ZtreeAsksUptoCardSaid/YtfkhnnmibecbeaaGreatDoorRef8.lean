/-
  The document's create. Conditions: memory holds the list, a good tree; the path is one.
-/
import Derived.Test.YtfkhnnmibecbeaaGreatDoorRef7
import Derived.Test.YtfkhnnmibecbeaaGreatDoorRNumber
namespace Go.Proofs.YtfkhnnmibecbeaaGreatDoor
set_option maxRecDepth 100000
open Go.ChangeShapes Go.WideShapes Go.ChangeAt Go.RowKit Go.Proofs.Zn Go.Proofs.Zt

structure Cr (w0 : World) (q r : Nat) (c : Chg) (w : World) : Prop where
  below : Below w0.heap.size w0 w
  bq : w.heap[q]? = some (.cells #[.int .i64 c.kind, .string (B c.path), .string (B c.data), .int .i64 c.ver, .bool c.eph, .bool c.sq] 59 (0, 0))
  br : w.heap[r]? = some (.cells #[.slice none 0 0, .string ⟨#[]⟩, .slice none 0 0, .int .i64 0] 92 (0, 0))
theorem Cr.go {w0 w w' : World} {q r : Nat} {c : Chg} (h : Cr w0 q r c w) (hb : Below w.heap.size w w') : Cr w0 q r c w' :=
  ⟨h.below.trans (hb.mono h.below.size), blk_below h.bq hb, blk_below h.br hb⟩
theorem cr_fail {w0 w w6 : World} {q r : Nat} {c : Chg} {T : Tr} {zx se k : Int} (h : Cr w0 q r c w) (hr : w0.heap.size ≤ r) (hp : (place T c).1 = k) (hk : k ≠ 0) (hw6 : w6 = ((((w.setCell ⟨r, 0, none⟩ (.slice none 0 0)).setCell ⟨r, 1, none⟩ (.string ⟨#[]⟩)).setCell ⟨r, 2, none⟩ (.slice none 0 0)).setCell ⟨r, 3, none⟩ (.int .i64 k))) :
    StPost (create T zx se c) w0 (.returned (.agg #[.slice none 0 0, .string ⟨#[]⟩, .slice none 0 0, .int .i64 k])) w6 ∧ w6.heap[r]? = some (.cells #[.slice none 0 0, .string ⟨#[]⟩, .slice none 0 0, .int .i64 k] 92 (0, 0)) := by
  have e : create T zx se c = Zt.fails k := by unfold create; rw [if_pos (by rw [hp]; exact hk), hp]
  rw [e]
  exact st_store (s := Zt.fails k) h.br hr (Nat.le_refl _) ⟨rfl, .inl ⟨rfl, rfl⟩⟩ ⟨rfl, .inl ⟨rfl, rfl⟩⟩ h.below hw6
theorem create_at {T : Tr} {zx se : Int} {c : Chg} {pa : Txt} (h : place T c = (0, pa)) : create T zx se c = kidS (put T (made pa c.data zx se c.eph)) pa [⟨0, 1, pa⟩] zx true := by
  unfold create
  rw [h, if_neg (by simp)]
theorem made_kin {T : Tr} (hg : Zt.Good T) {p z : Nd} {pa P : Txt} (hpa : parent pa = P) (hp : get T P = some p) (hzk : z.ks = 0) (hzn : z.nx = 0) :
    inr ((get (put T z) (parent pa)).getD nd0).ks = true ∧ inr ((get (put T z) (parent pa)).getD nd0).nx = true := by
  rw [hpa, get_put]
  by_cases e : P = z.path
  · rw [if_pos e]; simp only [Option.getD_some]; rw [hzk, hzn]; exact ⟨inr_zero, inr_zero⟩
  · rw [if_neg e, hp]; exact ⟨(hg.each p (get_some hp).1).ks, (hg.each p (get_some hp).1).nx⟩
theorem place_at {T : Tr} {c : Chg} {p : Nd} (hd : ¬ 1024 < c.data.length) (h47 : c.path ≠ [47]) (hp : get T (parent c.path) = some p) (ho : p.own = 0) :
    place T c = if c.sq && !numOk c.path p.nx then (70, []) else if (get T (if c.sq then number c.path p.nx else c.path)).isSome then (81, []) else if 200 ≤ T.length then (86, []) else (0, if c.sq then number c.path p.nx else c.path) := by
  unfold place
  rw [if_neg hd, if_neg h47, hp]
  simp only
  rw [if_neg (by simp [ho])]
set_option maxHeartbeats 8000000 in
theorem rcreate_any {w : World} {AT : Option Addr} {cT : Nat} {T : Tr} (hT : Rd ncell 9 w AT T.length T) (hg : Zt.Good T) (zx se : Int) (c : Chg) (hv : valid c.path = true) :
    Calls Tryz.prog 69 #[.slice AT T.length cT, .int .i64 zx, .int .i64 se, .agg #[.int .i64 c.kind, .string (B c.path), .string (B c.data), .int .i64 c.ver, .bool c.eph, .bool c.sq]] w (StPost (create T zx se c) w) := by
  obtain ⟨w2, hw2, hB2, hq, hr, hs2⟩ := two_box w (.cells #[.int .i64 c.kind, .string (B c.path), .string (B c.data), .int .i64 c.ver, .bool c.eph, .bool c.sq] 59) (.cells #[.slice none 0 0, .string ⟨#[]⟩, .slice none 0 0, .int .i64 0] 92)
  obtain ⟨cb, ecb⟩ : ∃ q, q = w.heap.size := ⟨_, rfl⟩
  obtain ⟨r, er⟩ : ∃ r, r = w.heap.size + 1 := ⟨_, rfl⟩
  rw [← ecb] at hq
  rw [← er] at hr
  have HCR : Hid (Cr w cb r c w2) := Lib.hid ⟨hB2, hq, hr⟩
  have HRR : Hid (w.heap.size ≤ r) := Lib.hid (by omega)
  have HW2 := Lib.hid hw2
  have ECB := Lib.hid ecb
  have ER := Lib.hid er
  have HT := Lib.hid hT
  have HGG := Lib.hid hg
  have HV := Lib.hid hv
  have HLN := Lib.hid (len_le hv)
  have HN : Hid (T.length ≤ 1000000) := Lib.hid (by have := hg.len; omega)
  clear hT hw2 hB2 hq hr hs2 ecb er hg hv
  by_cases hd : 1024 < c.data.length
  · have hd' : (1024 : Int) < (c.data.length : Int) := by omega
    have HD := Lib.hid hd
    have hcq := HCR.out.bq
    have y2 := cell_of hcq (j := 2) rfl
    clear hd hcq
    go_enter Tryz.func69, Tryz.ntmps69
    go_upto_region 1 with fail
    rw [← HW2.out, ← ER.out, ← ECB.out]
    have HFA := Lib.hid (rfails_any 87 w2)
    have HPC : Hid ((place T c).1 = 87) := Lib.hid (by unfold place; rw [if_pos HD.out])
    go_wp2_with fail
    refine HFA.out.mono ?_
    rintro e wf ⟨rfl, hbf⟩
    have hcf := HCR.out.go hbf
    obtain ⟨w6, hw6⟩ : ∃ w6, w6 = ((((wf.setCell ⟨r, 0, none⟩ (.slice none 0 0)).setCell ⟨r, 1, none⟩ (.string ⟨#[]⟩)).setCell ⟨r, 2, none⟩ (.slice none 0 0)).setCell ⟨r, 3, none⟩ (.int .i64 87)) := ⟨_, rfl⟩
    obtain ⟨hst, h6⟩ := cr_fail (zx := zx) (se := se) hcf HRR.out HPC.out (by decide) hw6
    have HFIN := Lib.hid hst
    have hrb := hcf.br
    have q0 := cell_of hrb (j := 0) rfl
    have q1 := cell_of hrb (j := 1) rfl
    have q2 := cell_of hrb (j := 2) rfl
    have q3 := cell_of hrb (j := 3) rfl
    have rf0 := frozen_of_row wf _ 0 _ _ hrb
    have rf1 := frozen_of_row wf _ 1 _ _ hrb
    have rf2 := frozen_of_row wf _ 2 _ _ hrb
    have rf3 := frozen_of_row wf _ 3 _ _ hrb
    have t0 := cell_of h6 (j := 0) rfl
    have t1 := cell_of h6 (j := 1) rfl
    have t2 := cell_of h6 (j := 2) rfl
    have t3 := cell_of h6 (j := 3) rfl
    have HW6 := Lib.hid hw6
    clear hbf hcf hw6 hst h6 hrb
    go_wp2_with fail
    rw [← HW6.out]
    exact bodyPost_ret (v := .agg #[.slice none 0 0, .string ⟨#[]⟩, .slice none 0 0, .int .i64 87]) (by simp [results, Tryz.results69, go_sem, t0, t1, t2, t3]) rfl HFIN.out
  have hd' : ¬ (1024 : Int) < (c.data.length : Int) := by omega
  have HD := Lib.hid hd
  clear hd
  by_cases h47 : c.path = [47]
  · have t47 : (c.path == [47]) = true := by rw [h47]; rfl
    have H47 := Lib.hid h47
    have hcq := HCR.out.bq
    have y1 := cell_of hcq (j := 1) rfl
    have y2 := cell_of hcq (j := 2) rfl
    clear h47 hcq
    go_enter Tryz.func69, Tryz.ntmps69
    go_upto_region 1 with fail
    rw [← HW2.out, ← ER.out, ← ECB.out]
    have HFA := Lib.hid (rfails_any 81 w2)
    have HPC : Hid ((place T c).1 = 81) := Lib.hid (by unfold place; rw [if_neg HD.out, if_pos H47.out])
    go_wp2_with fail
    refine HFA.out.mono ?_
    rintro e wf ⟨rfl, hbf⟩
    have hcf := HCR.out.go hbf
    obtain ⟨w6, hw6⟩ : ∃ w6, w6 = ((((wf.setCell ⟨r, 0, none⟩ (.slice none 0 0)).setCell ⟨r, 1, none⟩ (.string ⟨#[]⟩)).setCell ⟨r, 2, none⟩ (.slice none 0 0)).setCell ⟨r, 3, none⟩ (.int .i64 81)) := ⟨_, rfl⟩
    obtain ⟨hst, h6⟩ := cr_fail (zx := zx) (se := se) hcf HRR.out HPC.out (by decide) hw6
    have HFIN := Lib.hid hst
    have hrb := hcf.br
    have q0 := cell_of hrb (j := 0) rfl
    have q1 := cell_of hrb (j := 1) rfl
    have q2 := cell_of hrb (j := 2) rfl
    have q3 := cell_of hrb (j := 3) rfl
    have rf0 := frozen_of_row wf _ 0 _ _ hrb
    have rf1 := frozen_of_row wf _ 1 _ _ hrb
    have rf2 := frozen_of_row wf _ 2 _ _ hrb
    have rf3 := frozen_of_row wf _ 3 _ _ hrb
    have t0 := cell_of h6 (j := 0) rfl
    have t1 := cell_of h6 (j := 1) rfl
    have t2 := cell_of h6 (j := 2) rfl
    have t3 := cell_of h6 (j := 3) rfl
    have HW6 := Lib.hid hw6
    clear hbf hcf hw6 hst h6 hrb
    go_wp2_with fail
    rw [← HW6.out]
    exact bodyPost_ret (v := .agg #[.slice none 0 0, .string ⟨#[]⟩, .slice none 0 0, .int .i64 81]) (by simp [results, Tryz.results69, go_sem, t0, t1, t2, t3]) rfl HFIN.out
  have t47 : (c.path == [47]) = false := by simpa using h47
  have H47 := Lib.hid h47
  have HP := Lib.hid (rparent_any (B c.path) w2 (by rw [B_size]; have := HLN.out; omega))
  simp only [LB] at HP
  obtain ⟨P, hP⟩ : ∃ x, parent c.path = x := ⟨_, rfl⟩
  rw [hP] at HP
  have HPP := Lib.hid hP
  have hcq := HCR.out.bq
  have y1 := cell_of hcq (j := 1) rfl
  have y2 := cell_of hcq (j := 2) rfl
  clear h47 hP hcq
  go_enter Tryz.func69, Tryz.ntmps69
  go_upto_region 1 with fail
  rw [← HW2.out, ← ER.out, ← ECB.out]
  go_wp2_with fail
  refine HP.out.mono ?_
  rintro e w3 ⟨rfl, hb3⟩
  have HCR3 := Lib.hid (HCR.out.go hb3)
  have HGE := Lib.hid (rget_any (c := cT) (HT.out.below HCR3.out.below) HN.out P)
  unfold RgPost ndv at HGE
  obtain ⟨p, hp⟩ : ∃ x, (get T P).getD nd0 = x := ⟨_, rfl⟩
  obtain ⟨is, his⟩ : ∃ b, (get T P).isSome = b := ⟨_, rfl⟩
  rw [hp, his] at HGE
  have HPE := Lib.hid hp
  have HIS := Lib.hid his
  clear hb3 hp his y1 y2 t47 hd'
  go_wp2_with fail
  refine HGE.out.mono ?_
  rintro e w4 ⟨rfl, hb4⟩
  obtain ⟨w5, hw5⟩ : ∃ w5, w5 = w4.alloc (.cells #[.string (B p.path), .string (B p.data), .int .i64 p.cr, .int .i64 p.ch, .int .i64 p.kd, .int .i64 p.ver, .int .i64 p.ks, .int .i64 p.own, .int .i64 p.nx] 41) := ⟨_, rfl⟩
  obtain ⟨pb, epb⟩ : ∃ x, x = w4.heap.size := ⟨_, rfl⟩
  have hb5 : Below w4.heap.size w4 w5 := by rw [hw5]; exact box_below w4 _
  have hp5 : w5.heap[pb]? = some (.cells #[.string (B p.path), .string (B p.data), .int .i64 p.cr, .int .i64 p.ch, .int .i64 p.kd, .int .i64 p.ver, .int .i64 p.ks, .int .i64 p.own, .int .i64 p.nx] 41 (0, 0)) := by rw [hw5, epb]; exact new_block w4 _
  have HCR5 := Lib.hid ((HCR3.out.go hb4).go hb5)
  have HP5 := Lib.hid hp5
  have HW5 := Lib.hid hw5
  have EPB := Lib.hid epb
  clear hb4 hw5 epb hb5 hp5
  go_upto_region 7 with fail
  rw [← HW5.out, ← EPB.out]
  cases is with
  | false =>
    have HNO : Hid (get T (parent c.path) = none) := Lib.hid (by rw [HPP.out]; have := HIS.out; cases hx : get T P with
      | none => rfl
      | some y => rw [hx] at this; cases this)
    have HFA := Lib.hid (rfails_any 83 w5)
    have HPC : Hid ((place T c).1 = 83) := Lib.hid (by unfold place; rw [if_neg HD.out, if_neg H47.out, HNO.out])
    go_wp2_with fail
    refine HFA.out.mono ?_
    rintro e wf ⟨rfl, hbf⟩
    have hcf := HCR5.out.go hbf
    obtain ⟨w6, hw6⟩ : ∃ w6, w6 = ((((wf.setCell ⟨r, 0, none⟩ (.slice none 0 0)).setCell ⟨r, 1, none⟩ (.string ⟨#[]⟩)).setCell ⟨r, 2, none⟩ (.slice none 0 0)).setCell ⟨r, 3, none⟩ (.int .i64 83)) := ⟨_, rfl⟩
    obtain ⟨hst, h6⟩ := cr_fail (zx := zx) (se := se) hcf HRR.out HPC.out (by decide) hw6
    have HFIN := Lib.hid hst
    have hrb := hcf.br
    have q0 := cell_of hrb (j := 0) rfl
    have q1 := cell_of hrb (j := 1) rfl
    have q2 := cell_of hrb (j := 2) rfl
    have q3 := cell_of hrb (j := 3) rfl
    have rf0 := frozen_of_row wf _ 0 _ _ hrb
    have rf1 := frozen_of_row wf _ 1 _ _ hrb
    have rf2 := frozen_of_row wf _ 2 _ _ hrb
    have rf3 := frozen_of_row wf _ 3 _ _ hrb
    have t0 := cell_of h6 (j := 0) rfl
    have t1 := cell_of h6 (j := 1) rfl
    have t2 := cell_of h6 (j := 2) rfl
    have t3 := cell_of h6 (j := 3) rfl
    have HW6 := Lib.hid hw6
    clear hbf hcf hw6 hst h6 hrb
    go_wp2_with fail
    rw [← HW6.out]
    exact bodyPost_ret (v := .agg #[.slice none 0 0, .string ⟨#[]⟩, .slice none 0 0, .int .i64 83]) (by simp [results, Tryz.results69, go_sem, t0, t1, t2, t3]) rfl HFIN.out
  | true =>
    have HGP : Hid (get T P = some p) := Lib.hid (by have h1 := HIS.out; have h2 := HPE.out; cases hx : get T P with
      | none => rw [hx] at h1; cases h1
      | some y => rw [hx] at h2; rw [← h2]; rfl)
    have hpb := HP5.out
    have p7 := cell_of hpb (j := 7) rfl
    clear hpb
    by_cases ho : p.own = 0
    · have tow : (p.own != 0) = false := by simpa using ho
      have HPA := Lib.hid (place_at HD.out H47.out (by rw [HPP.out]; exact HGP.out) ho)
      obtain ⟨sq, hsq⟩ : ∃ b, c.sq = b := ⟨_, rfl⟩
      rw [hsq] at HPA
      have hcq := HCR5.out.bq
      have y1 := cell_of hcq (j := 1) rfl
      have y5 := cell_of hcq (j := 5) rfl
      replace y5 : w5.cell? ⟨cb, 5, none⟩ = some (.bool sq) := by rw [← hsq]; exact y5
      clear hsq hcq ho
      cases sq with
      | false =>
        obtain ⟨pa, hpa⟩ : ∃ x, c.path = x := ⟨_, rfl⟩
        have HPL : Hid (place T c = if (get T pa).isSome then (81, []) else if 200 ≤ T.length then (86, []) else (0, pa)) := Lib.hid (by rw [HPA.out, ← hpa]; rfl)
        have HPAR : Hid (parent pa = P) := Lib.hid (by rw [← hpa]; exact HPP.out)
        have HPAL : Hid (pa.length ≤ 2097152) := Lib.hid (by rw [← hpa]; have := HLN.out; omega)
        have HPAE := Lib.hid hpa
        replace y1 : w5.cell? ⟨cb, 1, none⟩ = some (.string (B pa)) := by rw [← hpa]; exact y1
        clear hpa
        have HG2 := Lib.hid (rget_any (c := cT) (HT.out.below HCR5.out.below) HN.out pa)
        unfold RgPost ndv at HG2
        obtain ⟨pz2, hpz2⟩ : ∃ x, (get T pa).getD nd0 = x := ⟨_, rfl⟩
        obtain ⟨th, hth⟩ : ∃ b, (get T pa).isSome = b := ⟨_, rfl⟩
        rw [hpz2, hth] at HG2
        rw [hth] at HPL
        clear hpz2 hth
        go_wp2_with fail
        refine HG2.out.mono ?_
        rintro e w7 ⟨rfl, hb7⟩
        obtain ⟨w8, hw8⟩ : ∃ w8, w8 = w7.alloc (.cells #[.string (B pz2.path), .string (B pz2.data), .int .i64 pz2.cr, .int .i64 pz2.ch, .int .i64 pz2.kd, .int .i64 pz2.ver, .int .i64 pz2.ks, .int .i64 pz2.own, .int .i64 pz2.nx] 41) := ⟨_, rfl⟩
        have hb8 : Below w7.heap.size w7 w8 := by rw [hw8]; exact box_below w7 _
        have HCR8 := Lib.hid ((HCR5.out.go hb7).go hb8)
        have HW8 := Lib.hid hw8
        clear hb7 hb8 hw8
        go_upto_region 18 with fail
        rw [← HW8.out]
        cases th with
        | true =>
          have HFA := Lib.hid (rfails_any 81 w8)
          have HPC : Hid ((place T c).1 = 81) := Lib.hid (by rw [HPL.out]; rfl)
          go_wp2_with fail
          refine HFA.out.mono ?_
          rintro e wf ⟨rfl, hbf⟩
          have hcf := HCR8.out.go hbf
          obtain ⟨w6, hw6⟩ : ∃ w6, w6 = ((((wf.setCell ⟨r, 0, none⟩ (.slice none 0 0)).setCell ⟨r, 1, none⟩ (.string ⟨#[]⟩)).setCell ⟨r, 2, none⟩ (.slice none 0 0)).setCell ⟨r, 3, none⟩ (.int .i64 81)) := ⟨_, rfl⟩
          obtain ⟨hst, h6⟩ := cr_fail (zx := zx) (se := se) hcf HRR.out HPC.out (by decide) hw6
          have HFIN := Lib.hid hst
          have hrb := hcf.br
          have q0 := cell_of hrb (j := 0) rfl
          have q1 := cell_of hrb (j := 1) rfl
          have q2 := cell_of hrb (j := 2) rfl
          have q3 := cell_of hrb (j := 3) rfl
          have rf0 := frozen_of_row wf _ 0 _ _ hrb
          have rf1 := frozen_of_row wf _ 1 _ _ hrb
          have rf2 := frozen_of_row wf _ 2 _ _ hrb
          have rf3 := frozen_of_row wf _ 3 _ _ hrb
          have t0 := cell_of h6 (j := 0) rfl
          have t1 := cell_of h6 (j := 1) rfl
          have t2 := cell_of h6 (j := 2) rfl
          have t3 := cell_of h6 (j := 3) rfl
          have HW6 := Lib.hid hw6
          clear hbf hcf hw6 hst h6 hrb
          go_wp2_with fail
          rw [← HW6.out]
          exact bodyPost_ret (v := .agg #[.slice none 0 0, .string ⟨#[]⟩, .slice none 0 0, .int .i64 81]) (by simp [results, Tryz.results69, go_sem, t0, t1, t2, t3]) rfl HFIN.out
        | false =>
          by_cases hl : 200 ≤ T.length
          · have hl' : (200 : Int) ≤ (T.length : Int) := by omega
            have HLL := Lib.hid hl
            clear hl
            have HFA := Lib.hid (rfails_any 86 w8)
            have HPC : Hid ((place T c).1 = 86) := Lib.hid (by rw [HPL.out, if_neg (by decide), if_pos HLL.out])
            go_wp2_with fail
            refine HFA.out.mono ?_
            rintro e wf ⟨rfl, hbf⟩
            have hcf := HCR8.out.go hbf
            obtain ⟨w6, hw6⟩ : ∃ w6, w6 = ((((wf.setCell ⟨r, 0, none⟩ (.slice none 0 0)).setCell ⟨r, 1, none⟩ (.string ⟨#[]⟩)).setCell ⟨r, 2, none⟩ (.slice none 0 0)).setCell ⟨r, 3, none⟩ (.int .i64 86)) := ⟨_, rfl⟩
            obtain ⟨hst, h6⟩ := cr_fail (zx := zx) (se := se) hcf HRR.out HPC.out (by decide) hw6
            have HFIN := Lib.hid hst
            have hrb := hcf.br
            have q0 := cell_of hrb (j := 0) rfl
            have q1 := cell_of hrb (j := 1) rfl
            have q2 := cell_of hrb (j := 2) rfl
            have q3 := cell_of hrb (j := 3) rfl
            have rf0 := frozen_of_row wf _ 0 _ _ hrb
            have rf1 := frozen_of_row wf _ 1 _ _ hrb
            have rf2 := frozen_of_row wf _ 2 _ _ hrb
            have rf3 := frozen_of_row wf _ 3 _ _ hrb
            have t0 := cell_of h6 (j := 0) rfl
            have t1 := cell_of h6 (j := 1) rfl
            have t2 := cell_of h6 (j := 2) rfl
            have t3 := cell_of h6 (j := 3) rfl
            have HW6 := Lib.hid hw6
            clear hbf hcf hw6 hst h6 hrb
            go_wp2_with fail
            rw [← HW6.out]
            exact bodyPost_ret (v := .agg #[.slice none 0 0, .string ⟨#[]⟩, .slice none 0 0, .int .i64 86]) (by simp [results, Tryz.results69, go_sem, t0, t1, t2, t3]) rfl HFIN.out
          · have hl' : ¬ (200 : Int) ≤ (T.length : Int) := by omega
            have HPL0 : Hid (place T c = (0, pa)) := Lib.hid (by rw [HPL.out, if_neg (by decide), if_neg hl])
            have hcq := HCR8.out.bq
            have y2 := cell_of hcq (j := 2) rfl
            obtain ⟨w9, hw9⟩ : ∃ w9, w9 = w8.alloc (.cells #[.string (B pa), .string (B c.data), .int .i64 zx, .int .i64 zx, .int .i64 zx, .int .i64 0, .int .i64 0, .int .i64 0, .int .i64 0] 41) := ⟨_, rfl⟩
            obtain ⟨zb, ezb⟩ : ∃ x, x = w8.heap.size := ⟨_, rfl⟩
            have hb9 : Below w8.heap.size w8 w9 := by rw [hw9]; exact box_below w8 _
            have hz9 : w9.heap[zb]? = some (.cells #[.string (B pa), .string (B c.data), .int .i64 zx, .int .i64 zx, .int .i64 zx, .int .i64 0, .int .i64 0, .int .i64 0, .int .i64 0] 41 (0, 0)) := by rw [hw9, ezb]; exact new_block w8 _
            have HCR9 := Lib.hid (HCR8.out.go hb9)
            have HNQ : Hid (r ≠ zb ∧ cb ≠ zb ∧ w.heap.size ≤ zb) := Lib.hid (by have h1 := blk_lt HCR8.out.br; have h2 := blk_lt HCR8.out.bq; have h3 := HCR8.out.below.size; omega)
            have HZ9 := Lib.hid hz9
            have HW9 := Lib.hid hw9
            have EZB := Lib.hid ezb
            clear hl hcq hw9 ezb hb9 hz9
            go_upto_region 23 with fail
            rw [← HW9.out, ← EZB.out]
            clear y2 hl'
            obtain ⟨ep, hep⟩ : ∃ b, c.eph = b := ⟨_, rfl⟩
            have hcq := HCR9.out.bq
            have y4 := cell_of hcq (j := 4) rfl
            have HEP := Lib.hid hep
            replace y4 : w9.cell? ⟨cb, 4, none⟩ = some (.bool ep) := by rw [← hep]; exact y4
            clear hep hcq
            cases ep with
            | false =>
              obtain ⟨z, hz⟩ : ∃ z, made pa c.data zx se c.eph = z := ⟨_, rfl⟩
              have HMZ := Lib.hid hz
              have HZB : Hid (w9.heap[zb]? = some (.cells #[.string (B z.path), .string (B z.data), .int .i64 z.cr, .int .i64 z.ch, .int .i64 z.kd, .int .i64 z.ver, .int .i64 z.ks, .int .i64 z.own, .int .i64 z.nx] 41 (0, 0))) := Lib.hid (by rw [← hz, HEP.out]; exact HZ9.out)
              clear hz
              have HPU := Lib.hid (rput_any (c := cT) (HT.out.below HCR9.out.below) HN.out z)
              obtain ⟨X, hX⟩ : ∃ X, put T z = X := ⟨_, rfl⟩
              have HXX := Lib.hid hX
              have HKN := Lib.hid (made_kin HGG.out HPAR.out HGP.out (z := z) (by rw [← HMZ.out]; rfl) (by rw [← HMZ.out]; rfl))
              have HXL : Hid (X.length ≤ 1000000) := Lib.hid (by rw [← hX]; have := put_len_le T z; have := HGG.out.len; omega)
              rw [hX] at HPU HKN
              have hzb := HZB.out
              have z0 := cell_of hzb (j := 0) rfl
              have z1 := cell_of hzb (j := 1) rfl
              have z2 := cell_of hzb (j := 2) rfl
              have z3 := cell_of hzb (j := 3) rfl
              have z4 := cell_of hzb (j := 4) rfl
              have z5 := cell_of hzb (j := 5) rfl
              have z6 := cell_of hzb (j := 6) rfl
              have z7 := cell_of hzb (j := 7) rfl
              have z8 := cell_of hzb (j := 8) rfl
              clear hX hzb
              go_wp2_with fail
              refine HPU.out.mono ?_
              rintro e w10 ⟨v, rfl, hv, hb10⟩
              obtain ⟨A2, c2, rfl, -, -, -⟩ := own_form hv
              obtain ⟨w11, hw11⟩ : ∃ w11, w11 = w10.alloc (.cells #[.int .i64 0, .int .i64 1, .string (B pa)] 95) := ⟨_, rfl⟩
              have hb11 : Below w10.heap.size w10 w11 := by rw [hw11]; exact box_below w10 _
              have hg11 : w11.heap[w10.heap.size]? = some (.cells #[.int .i64 0, .int .i64 1, .string (B pa)] 95 (0, 0)) := by rw [hw11]; exact new_block w10 _
              have HKI := Lib.hid (rkid_any (cT := c2) (cE := 1) pa (Rd.of_own (own_below hv hb11) (fun _ _ => rfl) (by omega)) HXL.out (E := [⟨0, 1, pa⟩]) (Rd.of_own (base := 0) (own_new (n := 1) (sz := 3) hg11 (Nat.zero_le _) (by unfold maxLen; omega) rfl) (fun _ _ => rfl) (by omega)) (fun e => by cases e) (by omega) HPAL.out zx HKN.out.1 HKN.out.2 true)
              have HCR11 := Lib.hid ((HCR9.out.go hb10).go hb11)
              have HW11 := Lib.hid hw11
              clear hv hb10 hw11 hb11 hg11 z0 z1 z2 z3 z4 z5 z6 z7 z8
              go_wp2_with fail
              rw [← HW11.out]
              refine HKI.out.mono ?_
              rintro e w12 ⟨v1, v2, rfl, h1, h2, hb12⟩
              have hcr := HCR11.out.go hb12
              have hr12 := hcr.br
              obtain ⟨A1, c1, e1, -, -, -⟩ := own_form h1
              obtain ⟨A3, c3, e3, -, -, -⟩ := own_form h2
              obtain ⟨R, hR⟩ : ∃ R, kidS X pa [⟨0, 1, pa⟩] zx true = R := ⟨_, rfl⟩
              have hR2 : create T zx se c = R := by rw [← hR, ← HXX.out, ← HMZ.out]; exact create_at HPL0.out
              rw [hR] at h1 h2 e1 e3
              obtain ⟨n1, en1⟩ : ∃ n1, R.T.length = n1 := ⟨_, rfl⟩
              obtain ⟨n3, en3⟩ : ∃ n3, R.evs.length = n3 := ⟨_, rfl⟩
              obtain ⟨w6, hw6⟩ : ∃ w6, w6 = ((((w12.setCell ⟨r, 0, none⟩ (v1)).setCell ⟨r, 1, none⟩ (.string (B R.path))).setCell ⟨r, 2, none⟩ (v2)).setCell ⟨r, 3, none⟩ (.int .i64 R.e)) := ⟨_, rfl⟩
              obtain ⟨hst, h6⟩ := st_store hr12 HRR.out HCR11.out.below.size h1 h2 hcr.below hw6
              rw [en1] at e1
              rw [en3] at e3
              subst e1 e3
              have HFIN := Lib.hid hst
              have HR2 := Lib.hid hR2
              have HW6 := Lib.hid hw6
              have q0 := cell_of hr12 (j := 0) rfl
              have q1 := cell_of hr12 (j := 1) rfl
              have q2 := cell_of hr12 (j := 2) rfl
              have q3 := cell_of hr12 (j := 3) rfl
              have rf0 := frozen_of_row w12 _ 0 _ _ hr12
              have rf1 := frozen_of_row w12 _ 1 _ _ hr12
              have rf2 := frozen_of_row w12 _ 2 _ _ hr12
              have rf3 := frozen_of_row w12 _ 3 _ _ hr12
              have t0 := cell_of h6 (j := 0) rfl
              have t1 := cell_of h6 (j := 1) rfl
              have t2 := cell_of h6 (j := 2) rfl
              have t3 := cell_of h6 (j := 3) rfl
              obtain ⟨rp, hrp⟩ : ∃ x, R.path = x := ⟨_, rfl⟩
              obtain ⟨re, hre⟩ : ∃ x, R.e = x := ⟨_, rfl⟩
              rw [hrp, hre] at HFIN
              rw [hrp, hre] at HW6
              rw [hrp] at t1
              rw [hre] at t3
              rw [hR, hrp, hre]
              clear h1 h2 hb12 hr12 hcr hR2 en1 en3 hw6 hst h6 hR hrp hre
              go_wp2_with fail
              rw [← HW6.out]
              exact bodyPost_ret (v := .agg #[.slice A1 n1 c1, .string (B rp), .slice A3 n3 c3, .int .i64 re]) (by simp [results, Tryz.results69, go_sem, t0, t1, t2, t3]) rfl (by rw [HR2.out]; exact HFIN.out)
            | true =>
              obtain ⟨z, hz⟩ : ∃ z, made pa c.data zx se c.eph = z := ⟨_, rfl⟩
              have HMZ := Lib.hid hz
              have hz9 := HZ9.out
              have g7 := frozen_of_row w9 _ 7 _ _ hz9
              have c7 := cell_of hz9 (j := 7) rfl
              obtain ⟨w9s, hw9s⟩ : ∃ w', w' = w9.setCell ⟨zb, 7, none⟩ (.int .i64 se) := ⟨_, rfl⟩
              have hwr : Wr zb w9 w9s := by rw [hw9s]; exact (Wr.refl zb w9).set 7 _
              have HZB : Hid (w9s.heap[zb]? = some (.cells #[.string (B z.path), .string (B z.data), .int .i64 z.cr, .int .i64 z.ch, .int .i64 z.kd, .int .i64 z.ver, .int .i64 z.ks, .int .i64 z.own, .int .i64 z.nx] 41 (0, 0))) := Lib.hid (by rw [← hz, HEP.out, hw9s]; exact heap_setCell_same w9 zb 7 _ 41 _ hz9)
              have HCR9s : Hid (Cr w cb r c w9s) := Lib.hid ⟨HCR9.out.below.trans (hwr.below.mono HNQ.out.2.2), (hwr.rest cb HNQ.out.2.1).trans HCR9.out.bq, (hwr.rest r HNQ.out.1).trans HCR9.out.br⟩
              have HW9S := Lib.hid hw9s
              clear hz hz9 hw9s hwr
              go_upto_region 25 with fail
              rw [← HW9S.out]
              clear g7 c7 y4
              have HPU := Lib.hid (rput_any (c := cT) (HT.out.below HCR9s.out.below) HN.out z)
              obtain ⟨X, hX⟩ : ∃ X, put T z = X := ⟨_, rfl⟩
              have HXX := Lib.hid hX
              have HKN := Lib.hid (made_kin HGG.out HPAR.out HGP.out (z := z) (by rw [← HMZ.out]; rfl) (by rw [← HMZ.out]; rfl))
              have HXL : Hid (X.length ≤ 1000000) := Lib.hid (by rw [← hX]; have := put_len_le T z; have := HGG.out.len; omega)
              rw [hX] at HPU HKN
              have hzb := HZB.out
              have z0 := cell_of hzb (j := 0) rfl
              have z1 := cell_of hzb (j := 1) rfl
              have z2 := cell_of hzb (j := 2) rfl
              have z3 := cell_of hzb (j := 3) rfl
              have z4 := cell_of hzb (j := 4) rfl
              have z5 := cell_of hzb (j := 5) rfl
              have z6 := cell_of hzb (j := 6) rfl
              have z7 := cell_of hzb (j := 7) rfl
              have z8 := cell_of hzb (j := 8) rfl
              clear hX hzb
              go_wp2_with fail
              refine HPU.out.mono ?_
              rintro e w10 ⟨v, rfl, hv, hb10⟩
              obtain ⟨A2, c2, rfl, -, -, -⟩ := own_form hv
              obtain ⟨w11, hw11⟩ : ∃ w11, w11 = w10.alloc (.cells #[.int .i64 0, .int .i64 1, .string (B pa)] 95) := ⟨_, rfl⟩
              have hb11 : Below w10.heap.size w10 w11 := by rw [hw11]; exact box_below w10 _
              have hg11 : w11.heap[w10.heap.size]? = some (.cells #[.int .i64 0, .int .i64 1, .string (B pa)] 95 (0, 0)) := by rw [hw11]; exact new_block w10 _
              have HKI := Lib.hid (rkid_any (cT := c2) (cE := 1) pa (Rd.of_own (own_below hv hb11) (fun _ _ => rfl) (by omega)) HXL.out (E := [⟨0, 1, pa⟩]) (Rd.of_own (base := 0) (own_new (n := 1) (sz := 3) hg11 (Nat.zero_le _) (by unfold maxLen; omega) rfl) (fun _ _ => rfl) (by omega)) (fun e => by cases e) (by omega) HPAL.out zx HKN.out.1 HKN.out.2 true)
              have HCR11 := Lib.hid ((HCR9s.out.go hb10).go hb11)
              have HW11 := Lib.hid hw11
              clear hv hb10 hw11 hb11 hg11 z0 z1 z2 z3 z4 z5 z6 z7 z8
              go_wp2_with fail
              rw [← HW11.out]
              refine HKI.out.mono ?_
              rintro e w12 ⟨v1, v2, rfl, h1, h2, hb12⟩
              have hcr := HCR11.out.go hb12
              have hr12 := hcr.br
              obtain ⟨A1, c1, e1, -, -, -⟩ := own_form h1
              obtain ⟨A3, c3, e3, -, -, -⟩ := own_form h2
              obtain ⟨R, hR⟩ : ∃ R, kidS X pa [⟨0, 1, pa⟩] zx true = R := ⟨_, rfl⟩
              have hR2 : create T zx se c = R := by rw [← hR, ← HXX.out, ← HMZ.out]; exact create_at HPL0.out
              rw [hR] at h1 h2 e1 e3
              obtain ⟨n1, en1⟩ : ∃ n1, R.T.length = n1 := ⟨_, rfl⟩
              obtain ⟨n3, en3⟩ : ∃ n3, R.evs.length = n3 := ⟨_, rfl⟩
              obtain ⟨w6, hw6⟩ : ∃ w6, w6 = ((((w12.setCell ⟨r, 0, none⟩ (v1)).setCell ⟨r, 1, none⟩ (.string (B R.path))).setCell ⟨r, 2, none⟩ (v2)).setCell ⟨r, 3, none⟩ (.int .i64 R.e)) := ⟨_, rfl⟩
              obtain ⟨hst, h6⟩ := st_store hr12 HRR.out HCR11.out.below.size h1 h2 hcr.below hw6
              rw [en1] at e1
              rw [en3] at e3
              subst e1 e3
              have HFIN := Lib.hid hst
              have HR2 := Lib.hid hR2
              have HW6 := Lib.hid hw6
              have q0 := cell_of hr12 (j := 0) rfl
              have q1 := cell_of hr12 (j := 1) rfl
              have q2 := cell_of hr12 (j := 2) rfl
              have q3 := cell_of hr12 (j := 3) rfl
              have rf0 := frozen_of_row w12 _ 0 _ _ hr12
              have rf1 := frozen_of_row w12 _ 1 _ _ hr12
              have rf2 := frozen_of_row w12 _ 2 _ _ hr12
              have rf3 := frozen_of_row w12 _ 3 _ _ hr12
              have t0 := cell_of h6 (j := 0) rfl
              have t1 := cell_of h6 (j := 1) rfl
              have t2 := cell_of h6 (j := 2) rfl
              have t3 := cell_of h6 (j := 3) rfl
              obtain ⟨rp, hrp⟩ : ∃ x, R.path = x := ⟨_, rfl⟩
              obtain ⟨re, hre⟩ : ∃ x, R.e = x := ⟨_, rfl⟩
              rw [hrp, hre] at HFIN
              rw [hrp, hre] at HW6
              rw [hrp] at t1
              rw [hre] at t3
              rw [hR, hrp, hre]
              clear h1 h2 hb12 hr12 hcr hR2 en1 en3 hw6 hst h6 hR hrp hre
              go_wp2_with fail
              rw [← HW6.out]
              exact bodyPost_ret (v := .agg #[.slice A1 n1 c1, .string (B rp), .slice A3 n3 c3, .int .i64 re]) (by simp [results, Tryz.results69, go_sem, t0, t1, t2, t3]) rfl (by rw [HR2.out]; exact HFIN.out)
      | true =>
        have HNU := Lib.hid (rnumber_any (B c.path) p.nx w5 (by rw [B_size]; have := HLN.out; omega))
        simp only [LB] at HNU
        obtain ⟨nk, hnk⟩ : ∃ b, numOk c.path p.nx = b := ⟨_, rfl⟩
        obtain ⟨pa, hpa⟩ : ∃ x, number c.path p.nx = x := ⟨_, rfl⟩
        rw [hnk, hpa] at HNU
        rw [hnk, hpa] at HPA
        have HNK := Lib.hid hnk
        have HPAE := Lib.hid hpa
        have hpb := HP5.out
        have p8 := cell_of hpb (j := 8) rfl
        clear hnk hpa hpb
        go_wp2_with fail
        refine HNU.out.mono ?_
        rintro e w5n ⟨rfl, hb5n⟩
        have HCR5n := Lib.hid (HCR5.out.go hb5n)
        clear hb5n p7 p8 y1 y5 tow
        cases nk with
        | false =>
          have HFA := Lib.hid (rfails_any 70 w5n)
          have HPC : Hid ((place T c).1 = 70) := Lib.hid (by rw [HPA.out]; rfl)
          go_wp2_with fail
          refine HFA.out.mono ?_
          rintro e wf ⟨rfl, hbf⟩
          have hcf := HCR5n.out.go hbf
          obtain ⟨w6, hw6⟩ : ∃ w6, w6 = ((((wf.setCell ⟨r, 0, none⟩ (.slice none 0 0)).setCell ⟨r, 1, none⟩ (.string ⟨#[]⟩)).setCell ⟨r, 2, none⟩ (.slice none 0 0)).setCell ⟨r, 3, none⟩ (.int .i64 70)) := ⟨_, rfl⟩
          obtain ⟨hst, h6⟩ := cr_fail (zx := zx) (se := se) hcf HRR.out HPC.out (by decide) hw6
          have HFIN := Lib.hid hst
          have hrb := hcf.br
          have q0 := cell_of hrb (j := 0) rfl
          have q1 := cell_of hrb (j := 1) rfl
          have q2 := cell_of hrb (j := 2) rfl
          have q3 := cell_of hrb (j := 3) rfl
          have rf0 := frozen_of_row wf _ 0 _ _ hrb
          have rf1 := frozen_of_row wf _ 1 _ _ hrb
          have rf2 := frozen_of_row wf _ 2 _ _ hrb
          have rf3 := frozen_of_row wf _ 3 _ _ hrb
          have t0 := cell_of h6 (j := 0) rfl
          have t1 := cell_of h6 (j := 1) rfl
          have t2 := cell_of h6 (j := 2) rfl
          have t3 := cell_of h6 (j := 3) rfl
          have HW6 := Lib.hid hw6
          clear hbf hcf hw6 hst h6 hrb
          go_wp2_with fail
          rw [← HW6.out]
          exact bodyPost_ret (v := .agg #[.slice none 0 0, .string ⟨#[]⟩, .slice none 0 0, .int .i64 70]) (by simp [results, Tryz.results69, go_sem, t0, t1, t2, t3]) rfl HFIN.out
        | true =>
          have HPL : Hid (place T c = if (get T pa).isSome then (81, []) else if 200 ≤ T.length then (86, []) else (0, pa)) := Lib.hid (by rw [HPA.out]; rfl)
          have HPAR : Hid (parent pa = P) := Lib.hid (by rw [← HPAE.out, (number_parent HNK.out).2]; exact HPP.out)
          have HPAL : Hid (pa.length ≤ 2097152) := Lib.hid (by have h := len_le (numOk_valid HNK.out); rw [HPAE.out] at h; omega)
          have HG2 := Lib.hid (rget_any (c := cT) (HT.out.below HCR5n.out.below) HN.out pa)
          unfold RgPost ndv at HG2
          obtain ⟨pz2, hpz2⟩ : ∃ x, (get T pa).getD nd0 = x := ⟨_, rfl⟩
          obtain ⟨th, hth⟩ : ∃ b, (get T pa).isSome = b := ⟨_, rfl⟩
          rw [hpz2, hth] at HG2
          rw [hth] at HPL
          clear hpz2 hth
          go_wp2_with fail
          refine HG2.out.mono ?_
          rintro e w7 ⟨rfl, hb7⟩
          obtain ⟨w8, hw8⟩ : ∃ w8, w8 = w7.alloc (.cells #[.string (B pz2.path), .string (B pz2.data), .int .i64 pz2.cr, .int .i64 pz2.ch, .int .i64 pz2.kd, .int .i64 pz2.ver, .int .i64 pz2.ks, .int .i64 pz2.own, .int .i64 pz2.nx] 41) := ⟨_, rfl⟩
          have hb8 : Below w7.heap.size w7 w8 := by rw [hw8]; exact box_below w7 _
          have HCR8 := Lib.hid ((HCR5n.out.go hb7).go hb8)
          have HW8 := Lib.hid hw8
          clear hb7 hb8 hw8
          go_upto_region 18 with fail
          rw [← HW8.out]
          cases th with
          | true =>
            have HFA := Lib.hid (rfails_any 81 w8)
            have HPC : Hid ((place T c).1 = 81) := Lib.hid (by rw [HPL.out]; rfl)
            go_wp2_with fail
            refine HFA.out.mono ?_
            rintro e wf ⟨rfl, hbf⟩
            have hcf := HCR8.out.go hbf
            obtain ⟨w6, hw6⟩ : ∃ w6, w6 = ((((wf.setCell ⟨r, 0, none⟩ (.slice none 0 0)).setCell ⟨r, 1, none⟩ (.string ⟨#[]⟩)).setCell ⟨r, 2, none⟩ (.slice none 0 0)).setCell ⟨r, 3, none⟩ (.int .i64 81)) := ⟨_, rfl⟩
            obtain ⟨hst, h6⟩ := cr_fail (zx := zx) (se := se) hcf HRR.out HPC.out (by decide) hw6
            have HFIN := Lib.hid hst
            have hrb := hcf.br
            have q0 := cell_of hrb (j := 0) rfl
            have q1 := cell_of hrb (j := 1) rfl
            have q2 := cell_of hrb (j := 2) rfl
            have q3 := cell_of hrb (j := 3) rfl
            have rf0 := frozen_of_row wf _ 0 _ _ hrb
            have rf1 := frozen_of_row wf _ 1 _ _ hrb
            have rf2 := frozen_of_row wf _ 2 _ _ hrb
            have rf3 := frozen_of_row wf _ 3 _ _ hrb
            have t0 := cell_of h6 (j := 0) rfl
            have t1 := cell_of h6 (j := 1) rfl
            have t2 := cell_of h6 (j := 2) rfl
            have t3 := cell_of h6 (j := 3) rfl
            have HW6 := Lib.hid hw6
            clear hbf hcf hw6 hst h6 hrb
            go_wp2_with fail
            rw [← HW6.out]
            exact bodyPost_ret (v := .agg #[.slice none 0 0, .string ⟨#[]⟩, .slice none 0 0, .int .i64 81]) (by simp [results, Tryz.results69, go_sem, t0, t1, t2, t3]) rfl HFIN.out
          | false =>
            by_cases hl : 200 ≤ T.length
            · have hl' : (200 : Int) ≤ (T.length : Int) := by omega
              have HLL := Lib.hid hl
              clear hl
              have HFA := Lib.hid (rfails_any 86 w8)
              have HPC : Hid ((place T c).1 = 86) := Lib.hid (by rw [HPL.out, if_neg (by decide), if_pos HLL.out])
              go_wp2_with fail
              refine HFA.out.mono ?_
              rintro e wf ⟨rfl, hbf⟩
              have hcf := HCR8.out.go hbf
              obtain ⟨w6, hw6⟩ : ∃ w6, w6 = ((((wf.setCell ⟨r, 0, none⟩ (.slice none 0 0)).setCell ⟨r, 1, none⟩ (.string ⟨#[]⟩)).setCell ⟨r, 2, none⟩ (.slice none 0 0)).setCell ⟨r, 3, none⟩ (.int .i64 86)) := ⟨_, rfl⟩
              obtain ⟨hst, h6⟩ := cr_fail (zx := zx) (se := se) hcf HRR.out HPC.out (by decide) hw6
              have HFIN := Lib.hid hst
              have hrb := hcf.br
              have q0 := cell_of hrb (j := 0) rfl
              have q1 := cell_of hrb (j := 1) rfl
              have q2 := cell_of hrb (j := 2) rfl
              have q3 := cell_of hrb (j := 3) rfl
              have rf0 := frozen_of_row wf _ 0 _ _ hrb
              have rf1 := frozen_of_row wf _ 1 _ _ hrb
              have rf2 := frozen_of_row wf _ 2 _ _ hrb
              have rf3 := frozen_of_row wf _ 3 _ _ hrb
              have t0 := cell_of h6 (j := 0) rfl
              have t1 := cell_of h6 (j := 1) rfl
              have t2 := cell_of h6 (j := 2) rfl
              have t3 := cell_of h6 (j := 3) rfl
              have HW6 := Lib.hid hw6
              clear hbf hcf hw6 hst h6 hrb
              go_wp2_with fail
              rw [← HW6.out]
              exact bodyPost_ret (v := .agg #[.slice none 0 0, .string ⟨#[]⟩, .slice none 0 0, .int .i64 86]) (by simp [results, Tryz.results69, go_sem, t0, t1, t2, t3]) rfl HFIN.out
            · have hl' : ¬ (200 : Int) ≤ (T.length : Int) := by omega
              have HPL0 : Hid (place T c = (0, pa)) := Lib.hid (by rw [HPL.out, if_neg (by decide), if_neg hl])
              have hcq := HCR8.out.bq
              have y2 := cell_of hcq (j := 2) rfl
              obtain ⟨w9, hw9⟩ : ∃ w9, w9 = w8.alloc (.cells #[.string (B pa), .string (B c.data), .int .i64 zx, .int .i64 zx, .int .i64 zx, .int .i64 0, .int .i64 0, .int .i64 0, .int .i64 0] 41) := ⟨_, rfl⟩
              obtain ⟨zb, ezb⟩ : ∃ x, x = w8.heap.size := ⟨_, rfl⟩
              have hb9 : Below w8.heap.size w8 w9 := by rw [hw9]; exact box_below w8 _
              have hz9 : w9.heap[zb]? = some (.cells #[.string (B pa), .string (B c.data), .int .i64 zx, .int .i64 zx, .int .i64 zx, .int .i64 0, .int .i64 0, .int .i64 0, .int .i64 0] 41 (0, 0)) := by rw [hw9, ezb]; exact new_block w8 _
              have HCR9 := Lib.hid (HCR8.out.go hb9)
              have HNQ : Hid (r ≠ zb ∧ cb ≠ zb ∧ w.heap.size ≤ zb) := Lib.hid (by have h1 := blk_lt HCR8.out.br; have h2 := blk_lt HCR8.out.bq; have h3 := HCR8.out.below.size; omega)
              have HZ9 := Lib.hid hz9
              have HW9 := Lib.hid hw9
              have EZB := Lib.hid ezb
              clear hl hcq hw9 ezb hb9 hz9
              go_upto_region 23 with fail
              rw [← HW9.out, ← EZB.out]
              clear y2 hl'
              obtain ⟨ep, hep⟩ : ∃ b, c.eph = b := ⟨_, rfl⟩
              have hcq := HCR9.out.bq
              have y4 := cell_of hcq (j := 4) rfl
              have HEP := Lib.hid hep
              replace y4 : w9.cell? ⟨cb, 4, none⟩ = some (.bool ep) := by rw [← hep]; exact y4
              clear hep hcq
              cases ep with
              | false =>
                obtain ⟨z, hz⟩ : ∃ z, made pa c.data zx se c.eph = z := ⟨_, rfl⟩
                have HMZ := Lib.hid hz
                have HZB : Hid (w9.heap[zb]? = some (.cells #[.string (B z.path), .string (B z.data), .int .i64 z.cr, .int .i64 z.ch, .int .i64 z.kd, .int .i64 z.ver, .int .i64 z.ks, .int .i64 z.own, .int .i64 z.nx] 41 (0, 0))) := Lib.hid (by rw [← hz, HEP.out]; exact HZ9.out)
                clear hz
                have HPU := Lib.hid (rput_any (c := cT) (HT.out.below HCR9.out.below) HN.out z)
                obtain ⟨X, hX⟩ : ∃ X, put T z = X := ⟨_, rfl⟩
                have HXX := Lib.hid hX
                have HKN := Lib.hid (made_kin HGG.out HPAR.out HGP.out (z := z) (by rw [← HMZ.out]; rfl) (by rw [← HMZ.out]; rfl))
                have HXL : Hid (X.length ≤ 1000000) := Lib.hid (by rw [← hX]; have := put_len_le T z; have := HGG.out.len; omega)
                rw [hX] at HPU HKN
                have hzb := HZB.out
                have z0 := cell_of hzb (j := 0) rfl
                have z1 := cell_of hzb (j := 1) rfl
                have z2 := cell_of hzb (j := 2) rfl
                have z3 := cell_of hzb (j := 3) rfl
                have z4 := cell_of hzb (j := 4) rfl
                have z5 := cell_of hzb (j := 5) rfl
                have z6 := cell_of hzb (j := 6) rfl
                have z7 := cell_of hzb (j := 7) rfl
                have z8 := cell_of hzb (j := 8) rfl
                clear hX hzb
                go_wp2_with fail
                refine HPU.out.mono ?_
                rintro e w10 ⟨v, rfl, hv, hb10⟩
                obtain ⟨A2, c2, rfl, -, -, -⟩ := own_form hv
                obtain ⟨w11, hw11⟩ : ∃ w11, w11 = w10.alloc (.cells #[.int .i64 0, .int .i64 1, .string (B pa)] 95) := ⟨_, rfl⟩
                have hb11 : Below w10.heap.size w10 w11 := by rw [hw11]; exact box_below w10 _
                have hg11 : w11.heap[w10.heap.size]? = some (.cells #[.int .i64 0, .int .i64 1, .string (B pa)] 95 (0, 0)) := by rw [hw11]; exact new_block w10 _
                have HKI := Lib.hid (rkid_any (cT := c2) (cE := 1) pa (Rd.of_own (own_below hv hb11) (fun _ _ => rfl) (by omega)) HXL.out (E := [⟨0, 1, pa⟩]) (Rd.of_own (base := 0) (own_new (n := 1) (sz := 3) hg11 (Nat.zero_le _) (by unfold maxLen; omega) rfl) (fun _ _ => rfl) (by omega)) (fun e => by cases e) (by omega) HPAL.out zx HKN.out.1 HKN.out.2 true)
                have HCR11 := Lib.hid ((HCR9.out.go hb10).go hb11)
                have HW11 := Lib.hid hw11
                clear hv hb10 hw11 hb11 hg11 z0 z1 z2 z3 z4 z5 z6 z7 z8
                go_wp2_with fail
                rw [← HW11.out]
                refine HKI.out.mono ?_
                rintro e w12 ⟨v1, v2, rfl, h1, h2, hb12⟩
                have hcr := HCR11.out.go hb12
                have hr12 := hcr.br
                obtain ⟨A1, c1, e1, -, -, -⟩ := own_form h1
                obtain ⟨A3, c3, e3, -, -, -⟩ := own_form h2
                obtain ⟨R, hR⟩ : ∃ R, kidS X pa [⟨0, 1, pa⟩] zx true = R := ⟨_, rfl⟩
                have hR2 : create T zx se c = R := by rw [← hR, ← HXX.out, ← HMZ.out]; exact create_at HPL0.out
                rw [hR] at h1 h2 e1 e3
                obtain ⟨n1, en1⟩ : ∃ n1, R.T.length = n1 := ⟨_, rfl⟩
                obtain ⟨n3, en3⟩ : ∃ n3, R.evs.length = n3 := ⟨_, rfl⟩
                obtain ⟨w6, hw6⟩ : ∃ w6, w6 = ((((w12.setCell ⟨r, 0, none⟩ (v1)).setCell ⟨r, 1, none⟩ (.string (B R.path))).setCell ⟨r, 2, none⟩ (v2)).setCell ⟨r, 3, none⟩ (.int .i64 R.e)) := ⟨_, rfl⟩
                obtain ⟨hst, h6⟩ := st_store hr12 HRR.out HCR11.out.below.size h1 h2 hcr.below hw6
                rw [en1] at e1
                rw [en3] at e3
                subst e1 e3
                have HFIN := Lib.hid hst
                have HR2 := Lib.hid hR2
                have HW6 := Lib.hid hw6
                have q0 := cell_of hr12 (j := 0) rfl
                have q1 := cell_of hr12 (j := 1) rfl
                have q2 := cell_of hr12 (j := 2) rfl
                have q3 := cell_of hr12 (j := 3) rfl
                have rf0 := frozen_of_row w12 _ 0 _ _ hr12
                have rf1 := frozen_of_row w12 _ 1 _ _ hr12
                have rf2 := frozen_of_row w12 _ 2 _ _ hr12
                have rf3 := frozen_of_row w12 _ 3 _ _ hr12
                have t0 := cell_of h6 (j := 0) rfl
                have t1 := cell_of h6 (j := 1) rfl
                have t2 := cell_of h6 (j := 2) rfl
                have t3 := cell_of h6 (j := 3) rfl
                obtain ⟨rp, hrp⟩ : ∃ x, R.path = x := ⟨_, rfl⟩
                obtain ⟨re, hre⟩ : ∃ x, R.e = x := ⟨_, rfl⟩
                rw [hrp, hre] at HFIN
                rw [hrp, hre] at HW6
                rw [hrp] at t1
                rw [hre] at t3
                rw [hR, hrp, hre]
                clear h1 h2 hb12 hr12 hcr hR2 en1 en3 hw6 hst h6 hR hrp hre
                go_wp2_with fail
                rw [← HW6.out]
                exact bodyPost_ret (v := .agg #[.slice A1 n1 c1, .string (B rp), .slice A3 n3 c3, .int .i64 re]) (by simp [results, Tryz.results69, go_sem, t0, t1, t2, t3]) rfl (by rw [HR2.out]; exact HFIN.out)
              | true =>
                obtain ⟨z, hz⟩ : ∃ z, made pa c.data zx se c.eph = z := ⟨_, rfl⟩
                have HMZ := Lib.hid hz
                have hz9 := HZ9.out
                have g7 := frozen_of_row w9 _ 7 _ _ hz9
                have c7 := cell_of hz9 (j := 7) rfl
                obtain ⟨w9s, hw9s⟩ : ∃ w', w' = w9.setCell ⟨zb, 7, none⟩ (.int .i64 se) := ⟨_, rfl⟩
                have hwr : Wr zb w9 w9s := by rw [hw9s]; exact (Wr.refl zb w9).set 7 _
                have HZB : Hid (w9s.heap[zb]? = some (.cells #[.string (B z.path), .string (B z.data), .int .i64 z.cr, .int .i64 z.ch, .int .i64 z.kd, .int .i64 z.ver, .int .i64 z.ks, .int .i64 z.own, .int .i64 z.nx] 41 (0, 0))) := Lib.hid (by rw [← hz, HEP.out, hw9s]; exact heap_setCell_same w9 zb 7 _ 41 _ hz9)
                have HCR9s : Hid (Cr w cb r c w9s) := Lib.hid ⟨HCR9.out.below.trans (hwr.below.mono HNQ.out.2.2), (hwr.rest cb HNQ.out.2.1).trans HCR9.out.bq, (hwr.rest r HNQ.out.1).trans HCR9.out.br⟩
                have HW9S := Lib.hid hw9s
                clear hz hz9 hw9s hwr
                go_upto_region 25 with fail
                rw [← HW9S.out]
                clear g7 c7 y4
                have HPU := Lib.hid (rput_any (c := cT) (HT.out.below HCR9s.out.below) HN.out z)
                obtain ⟨X, hX⟩ : ∃ X, put T z = X := ⟨_, rfl⟩
                have HXX := Lib.hid hX
                have HKN := Lib.hid (made_kin HGG.out HPAR.out HGP.out (z := z) (by rw [← HMZ.out]; rfl) (by rw [← HMZ.out]; rfl))
                have HXL : Hid (X.length ≤ 1000000) := Lib.hid (by rw [← hX]; have := put_len_le T z; have := HGG.out.len; omega)
                rw [hX] at HPU HKN
                have hzb := HZB.out
                have z0 := cell_of hzb (j := 0) rfl
                have z1 := cell_of hzb (j := 1) rfl
                have z2 := cell_of hzb (j := 2) rfl
                have z3 := cell_of hzb (j := 3) rfl
                have z4 := cell_of hzb (j := 4) rfl
                have z5 := cell_of hzb (j := 5) rfl
                have z6 := cell_of hzb (j := 6) rfl
                have z7 := cell_of hzb (j := 7) rfl
                have z8 := cell_of hzb (j := 8) rfl
                clear hX hzb
                go_wp2_with fail
                refine HPU.out.mono ?_
                rintro e w10 ⟨v, rfl, hv, hb10⟩
                obtain ⟨A2, c2, rfl, -, -, -⟩ := own_form hv
                obtain ⟨w11, hw11⟩ : ∃ w11, w11 = w10.alloc (.cells #[.int .i64 0, .int .i64 1, .string (B pa)] 95) := ⟨_, rfl⟩
                have hb11 : Below w10.heap.size w10 w11 := by rw [hw11]; exact box_below w10 _
                have hg11 : w11.heap[w10.heap.size]? = some (.cells #[.int .i64 0, .int .i64 1, .string (B pa)] 95 (0, 0)) := by rw [hw11]; exact new_block w10 _
                have HKI := Lib.hid (rkid_any (cT := c2) (cE := 1) pa (Rd.of_own (own_below hv hb11) (fun _ _ => rfl) (by omega)) HXL.out (E := [⟨0, 1, pa⟩]) (Rd.of_own (base := 0) (own_new (n := 1) (sz := 3) hg11 (Nat.zero_le _) (by unfold maxLen; omega) rfl) (fun _ _ => rfl) (by omega)) (fun e => by cases e) (by omega) HPAL.out zx HKN.out.1 HKN.out.2 true)
                have HCR11 := Lib.hid ((HCR9s.out.go hb10).go hb11)
                have HW11 := Lib.hid hw11
                clear hv hb10 hw11 hb11 hg11 z0 z1 z2 z3 z4 z5 z6 z7 z8
                go_wp2_with fail
                rw [← HW11.out]
                refine HKI.out.mono ?_
                rintro e w12 ⟨v1, v2, rfl, h1, h2, hb12⟩
                have hcr := HCR11.out.go hb12
                have hr12 := hcr.br
                obtain ⟨A1, c1, e1, -, -, -⟩ := own_form h1
                obtain ⟨A3, c3, e3, -, -, -⟩ := own_form h2
                obtain ⟨R, hR⟩ : ∃ R, kidS X pa [⟨0, 1, pa⟩] zx true = R := ⟨_, rfl⟩
                have hR2 : create T zx se c = R := by rw [← hR, ← HXX.out, ← HMZ.out]; exact create_at HPL0.out
                rw [hR] at h1 h2 e1 e3
                obtain ⟨n1, en1⟩ : ∃ n1, R.T.length = n1 := ⟨_, rfl⟩
                obtain ⟨n3, en3⟩ : ∃ n3, R.evs.length = n3 := ⟨_, rfl⟩
                obtain ⟨w6, hw6⟩ : ∃ w6, w6 = ((((w12.setCell ⟨r, 0, none⟩ (v1)).setCell ⟨r, 1, none⟩ (.string (B R.path))).setCell ⟨r, 2, none⟩ (v2)).setCell ⟨r, 3, none⟩ (.int .i64 R.e)) := ⟨_, rfl⟩
                obtain ⟨hst, h6⟩ := st_store hr12 HRR.out HCR11.out.below.size h1 h2 hcr.below hw6
                rw [en1] at e1
                rw [en3] at e3
                subst e1 e3
                have HFIN := Lib.hid hst
                have HR2 := Lib.hid hR2
                have HW6 := Lib.hid hw6
                have q0 := cell_of hr12 (j := 0) rfl
                have q1 := cell_of hr12 (j := 1) rfl
                have q2 := cell_of hr12 (j := 2) rfl
                have q3 := cell_of hr12 (j := 3) rfl
                have rf0 := frozen_of_row w12 _ 0 _ _ hr12
                have rf1 := frozen_of_row w12 _ 1 _ _ hr12
                have rf2 := frozen_of_row w12 _ 2 _ _ hr12
                have rf3 := frozen_of_row w12 _ 3 _ _ hr12
                have t0 := cell_of h6 (j := 0) rfl
                have t1 := cell_of h6 (j := 1) rfl
                have t2 := cell_of h6 (j := 2) rfl
                have t3 := cell_of h6 (j := 3) rfl
                obtain ⟨rp, hrp⟩ : ∃ x, R.path = x := ⟨_, rfl⟩
                obtain ⟨re, hre⟩ : ∃ x, R.e = x := ⟨_, rfl⟩
                rw [hrp, hre] at HFIN
                rw [hrp, hre] at HW6
                rw [hrp] at t1
                rw [hre] at t3
                rw [hR, hrp, hre]
                clear h1 h2 hb12 hr12 hcr hR2 en1 en3 hw6 hst h6 hR hrp hre
                go_wp2_with fail
                rw [← HW6.out]
                exact bodyPost_ret (v := .agg #[.slice A1 n1 c1, .string (B rp), .slice A3 n3 c3, .int .i64 re]) (by simp [results, Tryz.results69, go_sem, t0, t1, t2, t3]) rfl (by rw [HR2.out]; exact HFIN.out)
    · have tow : (p.own != 0) = true := by simpa using ho
      have HOO := Lib.hid ho
      clear ho
      have HFA := Lib.hid (rfails_any 85 w5)
      have HPC : Hid ((place T c).1 = 85) := Lib.hid (by unfold place; rw [if_neg HD.out, if_neg H47.out, HPP.out, HGP.out]; simp only; rw [if_pos HOO.out])
      go_wp2_with fail
      refine HFA.out.mono ?_
      rintro e wf ⟨rfl, hbf⟩
      have hcf := HCR5.out.go hbf
      obtain ⟨w6, hw6⟩ : ∃ w6, w6 = ((((wf.setCell ⟨r, 0, none⟩ (.slice none 0 0)).setCell ⟨r, 1, none⟩ (.string ⟨#[]⟩)).setCell ⟨r, 2, none⟩ (.slice none 0 0)).setCell ⟨r, 3, none⟩ (.int .i64 85)) := ⟨_, rfl⟩
      obtain ⟨hst, h6⟩ := cr_fail (zx := zx) (se := se) hcf HRR.out HPC.out (by decide) hw6
      have HFIN := Lib.hid hst
      have hrb := hcf.br
      have q0 := cell_of hrb (j := 0) rfl
      have q1 := cell_of hrb (j := 1) rfl
      have q2 := cell_of hrb (j := 2) rfl
      have q3 := cell_of hrb (j := 3) rfl
      have rf0 := frozen_of_row wf _ 0 _ _ hrb
      have rf1 := frozen_of_row wf _ 1 _ _ hrb
      have rf2 := frozen_of_row wf _ 2 _ _ hrb
      have rf3 := frozen_of_row wf _ 3 _ _ hrb
      have t0 := cell_of h6 (j := 0) rfl
      have t1 := cell_of h6 (j := 1) rfl
      have t2 := cell_of h6 (j := 2) rfl
      have t3 := cell_of h6 (j := 3) rfl
      have HW6 := Lib.hid hw6
      clear hbf hcf hw6 hst h6 hrb
      go_wp2_with fail
      rw [← HW6.out]
      exact bodyPost_ret (v := .agg #[.slice none 0 0, .string ⟨#[]⟩, .slice none 0 0, .int .i64 85]) (by simp [results, Tryz.results69, go_sem, t0, t1, t2, t3]) rfl HFIN.out
end Go.Proofs.YtfkhnnmibecbeaaGreatDoor
