/-
  There are never more blocks than there is room, nor more inodes than may be: the law FscoreRoom returns true. No condition.
-/
import Derived.Test.YtoaahhgngelnaaaFOps
import Derived.Test.YtoaahhgngelnaaaFAlive
namespace Go.Proofs.Ytoaahhgngelnaaa
set_option maxRecDepth 100000
open Go.ChangeShapes Go.WideShapes Go.ChangeAt Go.RowKit Go.Proofs.Sg Go.Proofs.Fz

theorem used_le {f : Fst} {T r : Nat} (h : Wl f T r) : 0 ≤ f.room - used f.I ∧ f.room - used f.I ≤ r ∧ 0 < f.I.length ∧ f.I.length ≤ 200 := by
  obtain ⟨r0, hr, -⟩ := h.gd.root
  refine ⟨Nat.zero_le _, by have := h.rm; omega, List.length_pos_of_mem hr, h.gd.cnt⟩
/-- What holds at a round's head. -/
structure RmIn (w : World) (x : Int) (fp : Nat) (os : List Opf) (j : Nat) (wr : World) : Prop where
  fm : ∃ Y, FM wr w.heap.size Y (runF (newF x) (os.take j)) ∧ Y.fp = fp
  bl : Below w.heap.size w wr
set_option maxHeartbeats 16000000 in
theorem room_law {w : World} {ad : Option Addr} {len cap : Nat} {os : List Opf} (hR : OReads w w.heap.size ad len os) (x : Int) (hx : x ≤ 9223372036854775807) : Calls Try.prog 6 #[.int .i64 x, .slice ad len cap] w fun e w' => e = .returned (.bool true) ∧ Below w.heap.size w w' := by
  have HN := Lib.hid (fnew_any x w)
  have HOR := Lib.hid hR
  have HL := Lib.hid hR.1
  have HX := Lib.hid hx
  have HAL := Lib.hid alive_any
  clear hR hx
  go_enter Try.func6, Try.ntmps6
  go_wp2_with fail
  refine HN.out.mono ?_
  rintro e w1 ⟨Y, rfl, hm, hb⟩
  have HFW := Lib.hid (few_any (cap := cap) (HOR.out.kept hb) hb.size)
  have HB1 := Lib.hid hb
  have HF1 := Lib.hid hm
  obtain ⟨fp, hfp⟩ : ∃ k, Y.fp = k := ⟨_, rfl⟩
  have HFP := Lib.hid hfp
  rw [hfp]
  clear hm hb hfp
  go_wp2_with fail
  refine HFW.out.mono ?_
  rintro e w2 ⟨r, rfl, hr, hb2⟩
  have HB2 : Hid (Below w.heap.size w w2) := Lib.hid (HB1.out.trans (hb2.mono HB1.out.size))
  have HI : Hid (RmIn w x fp os 0 w2) := Lib.hid ⟨⟨Y, HF1.out.below (Wl.new x).gd.kind hb2, HFP.out⟩, HB2.out⟩
  have HR := Lib.hid hr
  clear hr hb2
  cases r with
  | false =>
    go_wp2_with fail
    refine (HAL.out w2).mono ?_
    rintro e w3 ⟨rfl, hb3⟩
    have HB3 : Hid (Below w.heap.size w w3) := Lib.hid (HB2.out.trans (hb3.mono HB2.out.size))
    clear hb3
    go_wp2_with fail
    go_ret
    exact ⟨rfl, HB3.out⟩
  | true =>
    have HRT := Lib.hid (HR.out rfl)
    have hle : os.length ≤ 250 := HRT.out.2
    have hll : len ≤ 250 := by rw [← HL.out]; exact hle
    have HLE := Lib.hid hll
    clear hle hll
    go_wp2_with fail
    go_loopw [26] (fun i wr => ∃ j : Nat, j ≤ len ∧ i = .int .i64 (j : Int) ∧ Hid (RmIn w x fp os j wr)) (fun i _ => len - (intOf i).toNat)
    case atStart => exact ⟨0, Nat.zero_le _, rfl, Lib.hid HI.out⟩
    case round =>
      obtain ⟨j, hj, rfl, HP⟩ := hrel
      by_cases hlt : j < len
      · obtain ⟨b, off, rfl, -, hc⟩ := (HOR.out.kept HP.out.bl).2 (by omega)
        obtain ⟨e0, e1, e2, e3, e4, e5, e6, e7, e8, e9, e10, e11, e12, e13, e14, ⟨A, l, c, e15, hr, -, hlc⟩, hok⟩ := hc j hlt
        obtain ⟨o, ho⟩ : ∃ o, os.getD j of0 = o := ⟨_, rfl⟩
        have hj2 : j < os.length := by rw [HL.out]; exact hlt
        have hob : o.b.length ≤ 2000 := by rw [← ho, getD_at hj2]; exact HRT.out.1 _ (List.getElem_mem hj2)
        rw [ho] at e0 e1 e2 e3 e4 e5 e6 e7 e8 e9 e10 e11 e12 e13 e14 hr hok
        obtain ⟨Y1, hm1, hp1⟩ := HP.out.fm
        have hwl := (Wl.new x).run (os.take j)
        have hT : 0 + (os.take j).length ≤ 1000000 := by have := HLE.out; rw [List.length_take]; omega
        have hnx := run_next (f := newF x) hj2
        rw [ho] at hnx
        obtain ⟨f, hf⟩ : ∃ f, runF (newF x) (os.take j) = f := ⟨_, rfl⟩
        rw [hf] at hm1 hwl hnx
        have hbx := box_below wr (.cells #[.int .i64 o.kind, .int .i64 o.h.id, .int .i64 o.h.gen, .int .i64 o.g.id, .int .i64 o.g.gen, .string (B o.nm), .string (B o.ot), .int .i64 o.m.kind, .int .i64 o.m.mode, .int .i64 o.m.time, .string (B o.m.tg), .bool o.fd, .int .i64 o.p, .int .i64 o.n, .int .i64 o.t, .slice A l c] 33)
        have hxn : x.toNat ≤ 9223372036854775807 := by have := HX.out; omega
        have HD : Hid (Calls Try.prog 10 #[pA fp, .agg #[.int .i64 o.kind, .int .i64 o.h.id, .int .i64 o.h.gen, .int .i64 o.g.id, .int .i64 o.g.gen, .string (B o.nm), .string (B o.ot), .int .i64 o.m.kind, .int .i64 o.m.mode, .int .i64 o.m.time, .string (B o.m.tg), .bool o.fd, .int .i64 o.p, .int .i64 o.n, .int .i64 o.t, .slice A l c]] (wr.alloc (.cells #[.int .i64 o.kind, .int .i64 o.h.id, .int .i64 o.h.gen, .int .i64 o.g.id, .int .i64 o.g.gen, .string (B o.nm), .string (B o.ot), .int .i64 o.m.kind, .int .i64 o.m.mode, .int .i64 o.m.time, .string (B o.m.tg), .bool o.fd, .int .i64 o.p, .int .i64 o.n, .int .i64 o.t, .slice A l c] 33)) (DsPost (wr.alloc (.cells #[.int .i64 o.kind, .int .i64 o.h.id, .int .i64 o.h.gen, .int .i64 o.g.id, .int .i64 o.g.gen, .string (B o.nm), .string (B o.ot), .int .i64 o.m.kind, .int .i64 o.m.mode, .int .i64 o.m.time, .string (B o.m.tg), .bool o.fd, .int .i64 o.p, .int .i64 o.n, .int .i64 o.t, .slice A l c] 33)) w.heap.size Y1 f o)) := Lib.hid (by
          have h9 := does_any (hm1.below hwl.gd.kind hbx) (Nat.le_trans HP.out.bl.size hbx.size) hwl hT hxn o (hok.ok hob) (hr.below hbx) hlc
          rw [hp1] at h9
          exact h9)
        have HWL := Lib.hid (hwl.step o)
        have HM1 : Hid (FM wr w.heap.size Y1 f ∧ Y1.fp = fp ∧ Below w.heap.size w wr) := Lib.hid ⟨hm1, hp1, HP.out.bl⟩
        have HNX := Lib.hid hnx
        have HBX := Lib.hid hbx
        have HXN := Lib.hid hxn
        have hj0 : (0 : Int) ≤ (j : Int) := by omega
        have hji : (j : Int) < (len : Int) := by omega
        obtain ⟨j1, hj1⟩ : ∃ j1, j + 1 = j1 := ⟨_, rfl⟩
        have hwj : IntKind.i64.wrap ((j : Int) + 1) = (j1 : Int) := by rw [IntKind.wrap_i64]; have := HLE.out; omega
        have HJ1 : Hid (j < len ∧ j + 1 = j1) := Lib.hid ⟨hlt, hj1⟩
        clear hlt hj hj1 hr hlc hok hc ho hj2 hob hm1 hp1 hwl hT hnx hf hbx hxn HP HI
        go_wp2_with fail
        refine HD.out.mono ?_
        rintro e w3 ⟨Z, rfl, g1, g2, g3, g4⟩
        have hz : Z.fp = fp := g4.trans HM1.out.2.1
        have hb3 : Below w.heap.size w w3 := by
          have h9 := HM1.out.2.2.trans (HBX.out.mono HM1.out.2.2.size)
          exact h9.trans (g2.below HM1.out.1.ge h9.size)
        have hfr := ffree_any g1 HWL.out.gd (by rw [HWL.out.rm]; exact HXN.out)
        rw [hz] at hfr
        obtain ⟨-, u2, u3, u4⟩ := used_le HWL.out
        have hib : ∃ ib : Int, (((stepF f o).1.room - used (stepF f o).1.I : Nat) : Int) = ib ∧ 0 ≤ ib ∧ ib ≤ (x.toNat : Int) := ⟨_, rfl, by omega, by omega⟩
        obtain ⟨ib, hib, hib0, hibx⟩ := hib
        have him : ∃ im : Int, ((200 - (stepF f o).1.I.length : Nat) : Int) = im ∧ 0 ≤ im ∧ im < 200 := ⟨_, rfl, by omega, by omega⟩
        obtain ⟨im, him, him0, himx⟩ := him
        have HFR : Hid (Calls Try.prog 21 #[pA fp] w3 fun e w' => e = .returned (.tuple #[.int .i64 ib, .int .i64 im]) ∧ Below w3.heap.size w3 w') := Lib.hid (by
          rw [← hib, ← him]; exact hfr)
        have HM3 : Hid (FM w3 w.heap.size Z (stepF f o).1 ∧ Z.fp = fp ∧ Below w.heap.size w w3) := Lib.hid ⟨g1, hz, hb3⟩
        clear g1 g2 g3 g4 hz hb3 hfr u2 u3 u4 hib him
        go_wp2_with fail
        refine HFR.out.mono ?_
        rintro e w4 ⟨rfl, hb4⟩
        have HI4 : Hid (RmIn w x fp os j1 w4) := Lib.hid ⟨⟨Z, by
          rw [← HJ1.out.2, HNX.out]
          exact HM3.out.1.below HWL.out.gd.kind hb4, HM3.out.2.1⟩, HM3.out.2.2.trans (hb4.mono HM3.out.2.2.size)⟩
        have d1 : ¬ ib < 0 := by omega
        have d1' : decide (ib < 0) = false := by simp only [decide_eq_false_iff_not]; exact d1
        have d3 : ¬ im < 0 := by omega
        have d3' : decide (im < 0) = false := by simp only [decide_eq_false_iff_not]; exact d3
        have d4 : ¬ (200 : Int) ≤ im := by omega
        have d4' : decide ((200 : Int) ≤ im) = false := by simp only [decide_eq_false_iff_not]; exact d4
        by_cases hx0 : x < 0
        · have d2 : ¬ (0 : Int) < ib := by omega
          have d2' : decide ((0 : Int) < ib) = false := by simp only [decide_eq_false_iff_not]; exact d2
          clear hb4 hib0 hibx him0 himx
          go_wp2_with fail
          go_roundw
          case rel => exact ⟨j1, by have := HJ1.out; omega, rfl, HI4⟩
          case measure => simp [intOf]; have := HJ1.out; omega
        · have d2 : ¬ x < ib := by omega
          have d2' : decide (x < ib) = false := by simp only [decide_eq_false_iff_not]; exact d2
          clear hb4 hib0 hibx him0 himx
          go_wp2_with fail
          go_roundw
          case rel => exact ⟨j1, by have := HJ1.out; omega, rfl, HI4⟩
          case measure => simp [intOf]; have := HJ1.out; omega
      · obtain rfl : j = len := by omega
        have hji : ¬ (j : Int) < (j : Int) := by omega
        have HPB := Lib.hid HP.out.bl
        clear hlt hj HP
        go_wp2_with fail
        refine (HAL.out wr).mono ?_
        rintro e w3 ⟨rfl, hb3⟩
        have HB3 : Hid (Below w.heap.size w w3) := Lib.hid (HPB.out.trans (hb3.mono HPB.out.size))
        clear hb3
        go_wp2_with fail
        go_ret
        exact ⟨rfl, HB3.out⟩
end Go.Proofs.Ytoaahhgngelnaaa
