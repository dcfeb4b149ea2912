/-
  What Write returns and leaves. Condition: a slice's length.
-/
import Derived.Test.YtoaahhgngelnaaaFData
namespace Go.Proofs.Ytoaahhgngelnaaa
set_option maxRecDepth 100000
open Go.ChangeShapes Go.WideShapes Go.ChangeAt Go.RowKit Go.Proofs.Sg Go.Proofs.Fz

set_option maxHeartbeats 4000000 in
theorem fwrite_any {w : World} {bs : Nat} {Y : Lay} {f : Fst} (h : FM w bs Y f) (hg : Gd f) (d : Hd) (hd : HdOk d) (z : Int) (hz : z ≤ 9223372036854775807) {A : Option Addr} {n c : Nat} {b : List UInt8} (hr : Rd bcell 1 w A n b) (hc : n ≤ c) (hn : n ≤ 4611686018427387904) (t : Int) (hrm : f.room ≤ 9223372036854775807) :
    Calls Try.prog 17 #[pA Y.fp, hV d, .int .i64 z, .slice A n c, .int .i64 t] w (ChF w bs Y f (wrF f d z b t).1 (.int .i64 (wrF f d z b t).2)) := by
  obtain ⟨w2, hw2⟩ : ∃ w1, w1 = w.alloc (.cells #[.int .i64 d.id, .int .i64 d.gen] 40) := ⟨_, rfl⟩
  obtain ⟨q, hq⟩ : ∃ g, g = w.heap.size := ⟨_, rfl⟩
  have hb1 : Below w.heap.size w w2 := by rw [hw2]; exact box_below w _
  have hbx : w2.heap[q]? = some (.cells #[.int .i64 d.id, .int .i64 d.gen] 40 (0, 0)) := by rw [hw2, hq]; exact new_block w _
  have q0 := cell_of hbx (j := 0) rfl
  have q1 := cell_of hbx (j := 1) rfl
  have h2 := h.below hg.kind hb1
  have HB2 := Lib.hid hb1
  have HW2 := Lib.hid hw2
  have EQ := Lib.hid hq
  have HM := Lib.hid h
  have HM2 := Lib.hid h2
  have HG := Lib.hid hg
  have HNM := Lib.hid (file_any h2 hg d hd)
  have HIT := Lib.hid (fun W => isTime_any t W)
  have HZ := Lib.hid hz
  have HRB := Lib.hid hr
  have HC := Lib.hid hc
  have HN := Lib.hid hn
  have HRM := Lib.hid hrm
  clear hz hr hc hn hrm
  clear h hg hd h2 hw2 hq hb1 hbx
  go_enter Try.func17, Try.ntmps17
  go_upto_region 1 with fail
  rw [← HW2.out, ← EQ.out]
  rcases hq2 : Fz.fil f.I d with c | x
  · have hc := fil_inl hq2
    rw [fiV_inl hq2] at HNM
    have HQ2 := Lib.hid hq2
    clear hq2
    rcases hc with rfl | rfl | rfl
    · go_wp2_with fail
      refine HNM.out.mono ?_
      rintro e w4 ⟨rfl, hb4⟩
      obtain ⟨w5, hw5⟩ : ∃ W, W = w4.alloc (.cells #[.pointer none, .pointer none] 94) := ⟨_, rfl⟩
      obtain ⟨p, hp⟩ : ∃ k, k = w4.heap.size := ⟨_, rfl⟩
      have hb5 : Below w2.heap.size w2 w5 := by rw [hw5]; exact hb4.trans ((box_below w4 _).mono hb4.size)
      have hbx : w5.heap[p]? = some (.cells #[.pointer none, .pointer none] 94 (0, 0)) := by rw [hw5, hp]; exact new_block w4 _
      have HB5 : Hid (Below w.heap.size w w5) := Lib.hid (HB2.out.trans (hb5.mono HB2.out.size))
      have HM5 := Lib.hid (HM2.out.below HG.out.kind hb5)
      have p0 := cell_of hbx (j := 0) rfl
      have p1 := cell_of hbx (j := 1) rfl
      have HW5 := Lib.hid hw5
      have HP := Lib.hid hp
      clear hb4 hb5 hw5 hp hbx
      go_upto_region 2 with fail
      rw [← HW5.out, ← HP.out]
      have HV : Hid (wrF f d z b t = (f, 175)) := Lib.hid (by unfold wrF; rw [HQ2.out])
      go_wp2_with fail
      go_ret
      rw [HV.out]
      exact ChF.same HM.out HG.out HB5.out _
    · go_wp2_with fail
      refine HNM.out.mono ?_
      rintro e w4 ⟨rfl, hb4⟩
      obtain ⟨w5, hw5⟩ : ∃ W, W = w4.alloc (.cells #[.pointer none, .pointer none] 94) := ⟨_, rfl⟩
      obtain ⟨p, hp⟩ : ∃ k, k = w4.heap.size := ⟨_, rfl⟩
      have hb5 : Below w2.heap.size w2 w5 := by rw [hw5]; exact hb4.trans ((box_below w4 _).mono hb4.size)
      have hbx : w5.heap[p]? = some (.cells #[.pointer none, .pointer none] 94 (0, 0)) := by rw [hw5, hp]; exact new_block w4 _
      have HB5 : Hid (Below w.heap.size w w5) := Lib.hid (HB2.out.trans (hb5.mono HB2.out.size))
      have HM5 := Lib.hid (HM2.out.below HG.out.kind hb5)
      have p0 := cell_of hbx (j := 0) rfl
      have p1 := cell_of hbx (j := 1) rfl
      have HW5 := Lib.hid hw5
      have HP := Lib.hid hp
      clear hb4 hb5 hw5 hp hbx
      go_upto_region 2 with fail
      rw [← HW5.out, ← HP.out]
      have HV : Hid (wrF f d z b t = (f, 172)) := Lib.hid (by unfold wrF; rw [HQ2.out])
      go_wp2_with fail
      go_ret
      rw [HV.out]
      exact ChF.same HM.out HG.out HB5.out _
    · go_wp2_with fail
      refine HNM.out.mono ?_
      rintro e w4 ⟨rfl, hb4⟩
      obtain ⟨w5, hw5⟩ : ∃ W, W = w4.alloc (.cells #[.pointer none, .pointer none] 94) := ⟨_, rfl⟩
      obtain ⟨p, hp⟩ : ∃ k, k = w4.heap.size := ⟨_, rfl⟩
      have hb5 : Below w2.heap.size w2 w5 := by rw [hw5]; exact hb4.trans ((box_below w4 _).mono hb4.size)
      have hbx : w5.heap[p]? = some (.cells #[.pointer none, .pointer none] 94 (0, 0)) := by rw [hw5, hp]; exact new_block w4 _
      have HB5 : Hid (Below w.heap.size w w5) := Lib.hid (HB2.out.trans (hb5.mono HB2.out.size))
      have HM5 := Lib.hid (HM2.out.below HG.out.kind hb5)
      have p0 := cell_of hbx (j := 0) rfl
      have p1 := cell_of hbx (j := 1) rfl
      have HW5 := Lib.hid hw5
      have HP := Lib.hid hp
      clear hb4 hb5 hw5 hp hbx
      go_upto_region 2 with fail
      rw [← HW5.out, ← HP.out]
      have HV : Hid (wrF f d z b t = (f, 1)) := Lib.hid (by unfold wrF; rw [HQ2.out])
      go_wp2_with fail
      go_ret
      rw [HV.out]
      exact ChF.same HM.out HG.out HB5.out _
  · have HX := Lib.hid (fil_inr hq2)
    have HBASE : Hid (wrF f d z b t = if z < 0 ∨ isT t = false then (f, 1) else if f.room - used f.I < ndI x.d z b.length ∨ ft z b.length = false then (f, 177) else (daS f x (wrI x.d z b) t, 0)) := Lib.hid (by unfold wrF; rw [hq2])
    have HK1 : Hid (x.kind = 1) := Lib.hid (by have := HG.out.kind x HX.out.1; have := HX.out.2; omega)
    rw [fiV_inr hq2] at HNM
    clear hq2
    go_wp2_with fail
    refine HNM.out.mono ?_
    rintro e w4 ⟨rfl, hb4⟩
    obtain ⟨w5, hw5⟩ : ∃ W, W = w4.alloc (.cells #[pA (Y.ip x.id), pA (Y.hp x.id)] 94) := ⟨_, rfl⟩
    obtain ⟨p, hp⟩ : ∃ k, k = w4.heap.size := ⟨_, rfl⟩
    have hb5 : Below w2.heap.size w2 w5 := by rw [hw5]; exact hb4.trans ((box_below w4 _).mono hb4.size)
    have hbx : w5.heap[p]? = some (.cells #[pA (Y.ip x.id), pA (Y.hp x.id)] 94 (0, 0)) := by rw [hw5, hp]; exact new_block w4 _
    have HB5 : Hid (Below w.heap.size w w5) := Lib.hid (HB2.out.trans (hb5.mono HB2.out.size))
    have HM5 := Lib.hid (HM2.out.below HG.out.kind hb5)
    have p0 := cell_of hbx (j := 0) rfl
    have p1 := cell_of hbx (j := 1) rfl
    have HW5 := Lib.hid hw5
    have HP := Lib.hid hp
    have HPB := Lib.hid hbx
    clear hb4 hb5 hw5 hp hbx
    go_upto_region 2 with fail
    rw [← HW5.out, ← HP.out]
    obtain ⟨tb, htb⟩ : ∃ b, isT t = b := ⟨_, rfl⟩
    rw [htb] at HIT
    have HTB := Lib.hid htb
    clear htb
    by_cases hn0 : z < 0
    · have k1 : decide (z < 0) = true := by simpa using hn0
      have HV : Hid (wrF f d z b t = (f, 1)) := Lib.hid (by rw [HBASE.out, if_pos (.inl hn0)])
      clear hn0
      go_wp2_with fail
      go_ret
      rw [HV.out]
      exact ChF.same HM.out HG.out HB5.out _
    · have k1 : decide (z < 0) = false := by simpa using hn0
      cases tb with
      | false =>
        have HV : Hid (wrF f d z b t = (f, 1)) := Lib.hid (by rw [HBASE.out, if_pos (.inr HTB.out)])
        clear hn0
        go_wp2_with fail
        refine (HIT.out _).mono ?_
        rintro e w' ⟨rfl, rfl⟩
        go_wp2_with fail
        go_ret
        rw [HV.out]
        exact ChF.same HM.out HG.out HB5.out _
      | true =>
        have HB1 : Hid (wrF f d z b t = if f.room - used f.I < ndI x.d z b.length ∨ ft z b.length = false then (f, 177) else (daS f x (wrI x.d z b) t, 0)) := Lib.hid (by rw [HBASE.out, if_neg (fun e => e.elim hn0 (by rw [HTB.out]; decide))])
        have HFR := Lib.hid (ffree_any HM5.out HG.out HRM.out)
        clear hn0
        go_wp2_with fail
        refine (HIT.out _).mono ?_
        rintro e w' ⟨rfl, rfl⟩
        go_wp2_with fail
        refine HFR.out.mono ?_
        rintro e w6 ⟨rfl, hb6⟩
        obtain ⟨fr, hfr⟩ : ∃ k, f.room - used f.I = k := ⟨_, rfl⟩
        obtain ⟨fi, hfi⟩ : ∃ k, 200 - f.I.length = k := ⟨_, rfl⟩
        rw [hfr, hfi]
        have HFRE := Lib.hid hfr
        have HB6 : Hid (Below w.heap.size w w6) := Lib.hid (HB5.out.trans (hb6.mono HB5.out.size))
        have HM6 := Lib.hid (HM5.out.below HG.out.kind hb6)
        have HPB6 := Lib.hid (blk_below HPB.out hb6)
        have n0 := cell_of HPB6.out (j := 0) rfl
        have n1 := cell_of HPB6.out (j := 1) rfl
        have HND := Lib.hid (need_any ((HM6.out.nod x HX.out.1).fil HK1.out) z HZ.out A n c HN.out)
        have hbl : b.length = n := HRB.out.len
        obtain ⟨nn, hnn⟩ : ∃ k, ndI x.d z n = k := ⟨_, rfl⟩
        rw [hnn] at HND
        rw [hbl, hnn, hfr] at HB1
        have HBL := Lib.hid hbl
        clear hb6 hfr hfi hbl hnn p0 p1
        go_wp2_with fail
        refine HND.out.mono ?_
        rintro e w7 ⟨rfl, hb7⟩
        have HB7 : Hid (Below w.heap.size w w7) := Lib.hid (HB6.out.trans (hb7.mono HB6.out.size))
        have HM7 := Lib.hid (HM6.out.below HG.out.kind hb7)
        have HPB7 := Lib.hid (blk_below HPB6.out hb7)
        have p0 := cell_of HPB7.out (j := 0) rfl
        have p1 := cell_of HPB7.out (j := 1) rfl
        clear hb7 n0 n1
        by_cases hgt : fr < nn
        · have k2 : decide ((fr : Int) < (nn : Int)) = true := by simp; omega
          have k3 : decide (fr < nn) = true := by simpa using hgt
          have HV : Hid (wrF f d z b t = (f, 177)) := Lib.hid (by rw [HB1.out, if_pos (.inl hgt)])
          clear hgt
          go_wp2_with fail
          go_ret
          rw [HV.out]
          exact ChF.same HM.out HG.out HB7.out _
        · have k2 : decide ((fr : Int) < (nn : Int)) = false := by simp; omega
          have k3 : decide (fr < nn) = false := by simpa using hgt
          have HWR := Lib.hid (write_any ((HM7.out.nod x HX.out.1).fil HK1.out) z HZ.out (HRB.out.below HB7.out) HC.out HN.out)
          obtain ⟨fb, hfb⟩ : ∃ b, ft z n = b := ⟨_, rfl⟩
          rw [HBL.out, hfb] at HWR
          rw [hfb] at HB1
          have HFB := Lib.hid hfb
          have HNG := Lib.hid hgt
          clear hfb hgt
          go_wp2_with fail
          refine HWR.out.mono ?_
          rintro e w8 ⟨rfl, hS6, hk6⟩
          cases fb with
          | false =>
            have HV : Hid (wrF f d z b t = (f, 177)) := Lib.hid (by rw [HB1.out, if_pos (.inr rfl)])
            have hsame : wrI x.d z b = x.d := by unfold wrI; rw [HBL.out, HFB.out]; rfl
            rw [hsame] at hS6
            have HE : Hid (ChF w bs Y f f (.int .i64 177) (.returned (.int .i64 177)) w8) := Lib.hid (by
              obtain ⟨g1, g2⟩ := HM7.out.same_data HG.out.ids HX.out.1 HK1.out hS6 hk6
              exact ⟨Y, rfl, g1, (FK.of_below HB7.out).trans Fresh.refl g2, Fresh.refl, rfl⟩)
            clear hS6 hk6 hsame
            go_wp2_with fail
            go_ret
            rw [HV.out]
            exact HE.out
          | true =>
            have HV : Hid (wrF f d z b t = (daS f x (wrI x.d z b) t, 0)) := Lib.hid (by rw [HB1.out, if_neg (by rintro (e | e); exact HNG.out e; cases e)])
            obtain ⟨w9, hw9⟩ : ∃ W, W = w8.setCell ⟨Y.ip x.id, 4, none⟩ (.int .i64 t) := ⟨_, rfl⟩
            obtain ⟨g1, g2, g3, g4, g5⟩ := HM7.out.data HG.out.ids HX.out.1 HK1.out hS6 hk6 t
            rw [← hw9] at g1 g2
            have n0 : w8.cell? ⟨p, 0, none⟩ = some (pA (Y.ip x.id)) := cell_of (hk6.blk ((HM7.out.nod x HX.out.1).fil HK1.out) HPB7.out (by decide)) (j := 0) rfl
            have HE : Hid (ChF w bs Y f (daS f x (wrI x.d z b) t) (.int .i64 0) (.returned (.int .i64 0)) w9) := Lib.hid ⟨Y, rfl, g1, (FK.of_below HB7.out).trans Fresh.refl g2, Fresh.trans Fresh.refl HB7.out.size g3, rfl⟩
            have HW9 := Lib.hid hw9
            clear g1 g2 g3 hS6 hk6 hw9 p0 p1
            go_wp2_with fail
            rw [← HW9.out]
            go_wp2_with fail
            go_ret
            rw [HV.out]
            exact HE.out
end Go.Proofs.Ytoaahhgngelnaaa
