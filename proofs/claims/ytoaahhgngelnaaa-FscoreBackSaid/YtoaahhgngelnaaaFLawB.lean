/-
  What was written into a file is read by any of its names: the law FscoreBack returns true. No condition.
-/
import Derived.Test.YtoaahhgngelnaaaFSt
namespace Go.Proofs.Ytoaahhgngelnaaa
set_option maxRecDepth 100000
open Go.ChangeShapes Go.WideShapes Go.ChangeAt Go.RowKit Go.Proofs.Sg Go.Proofs.Fz

theorem str_eq (s : ByteArray) : (s == s) = true := by
  first | (show (s.data == s.data) = true; simp) | (cases s; rename_i d; show (d == d) = true; simp) | exact decide_eq_true rfl
set_option maxHeartbeats 16000000 in
theorem back_law {w : World} {ad : Option Addr} {len cap : Nat} {os : List Opf} (hR : OReads w w.heap.size ad len os) (p : Int) (hx : p ≤ 9223372036854775807) {A2 : Option Addr} {n2 c2 : Nat} {b2 : List UInt8} (hR2 : Rd bcell 1 w A2 n2 b2) (hC2 : n2 ≤ c2) : Calls Try.prog 5 #[.slice ad len cap, .int .i64 p, .slice A2 n2 c2] w fun e w' => e = .returned (.bool true) ∧ Below w.heap.size w w' := by
  have HN := Lib.hid (fnew_any 300 w)
  have HOR := Lib.hid hR
  have HL := Lib.hid hR.1
  have HX := Lib.hid hx
  have HAL := Lib.hid alive_any
  have HB2D := Lib.hid hR2
  have HC2 := Lib.hid hC2
  have HN2 := Lib.hid hR2.len
  clear hR hx hR2 hC2
  go_enter Try.func5, Try.ntmps5
  go_wp2_with fail
  refine HN.out.mono ?_
  rintro e w1 ⟨Y, rfl, hm, hb⟩
  have HFW := Lib.hid (few_any (cap := cap) (HOR.out.kept hb) hb.size)
  have HB1 := Lib.hid hb
  have HF1 := Lib.hid hm
  obtain ⟨fp, hfp⟩ : ∃ k, Y.fp = k := ⟨_, rfl⟩
  have HFP := Lib.hid hfp
  rw [hfp]
  clear hm hb hfp
  go_wp2_with fail
  refine HFW.out.mono ?_
  rintro e w2 ⟨r, rfl, hr, hb2⟩
  have HB2 : Hid (Below w.heap.size w w2) := Lib.hid (HB1.out.trans (hb2.mono HB1.out.size))
  have HI : Hid (RmIn w 300 fp os 0 w2) := Lib.hid ⟨⟨Y, HF1.out.below (Wl.new 300).gd.kind hb2, HFP.out⟩, HB2.out⟩
  have HR := Lib.hid hr
  clear hr hb2
  cases r with
  | false =>
    go_wp2_with fail
    refine (HAL.out w2).mono ?_
    rintro e w9 ⟨rfl, hb9⟩
    have HB9 : Hid (Below w.heap.size w w9) := Lib.hid (HB2.out.trans (hb9.mono HB2.out.size))
    clear hb9
    go_wp2_with fail
    go_ret
    exact ⟨rfl, HB9.out⟩
  | true =>
    have HRT := Lib.hid (HR.out rfl)
    have hle : os.length ≤ 250 := HRT.out.2
    have hll : len ≤ 250 := by rw [← HL.out]; exact hle
    have HLE := Lib.hid hll
    clear hle hll HR
    by_cases hp0 : p < 0
    · have hp0' : decide (p < 0) = true := by simp only [decide_eq_true_eq]; exact hp0
      go_wp2_with fail
      refine (HAL.out w2).mono ?_
      rintro e w9 ⟨rfl, hb9⟩
      have HB9 : Hid (Below w.heap.size w w9) := Lib.hid (HB2.out.trans (hb9.mono HB2.out.size))
      clear hb9
      go_wp2_with fail
      go_ret
      exact ⟨rfl, HB9.out⟩
    have hp0' : decide (p < 0) = false := by simp only [decide_eq_false_iff_not]; exact hp0
    by_cases hp2 : 2000 < p
    · have hp2' : decide (2000 < p) = true := by simp only [decide_eq_true_eq]; exact hp2
      go_wp2_with fail
      refine (HAL.out w2).mono ?_
      rintro e w9 ⟨rfl, hb9⟩
      have HB9 : Hid (Below w.heap.size w w9) := Lib.hid (HB2.out.trans (hb9.mono HB2.out.size))
      clear hb9
      go_wp2_with fail
      go_ret
      exact ⟨rfl, HB9.out⟩
    have hp2' : decide (2000 < p) = false := by simp only [decide_eq_false_iff_not]; exact hp2
    by_cases hn2 : 2000 < n2
    · have hn2' : decide ((2000 : Int) < (n2 : Int)) = true := by simp only [decide_eq_true_eq]; omega
      have hn2'' : (2000 : Int) < (n2 : Int) := by omega
      go_wp2_with fail
      refine (HAL.out w2).mono ?_
      rintro e w9 ⟨rfl, hb9⟩
      have HB9 : Hid (Below w.heap.size w w9) := Lib.hid (HB2.out.trans (hb9.mono HB2.out.size))
      clear hb9
      go_wp2_with fail
      go_ret
      exact ⟨rfl, HB9.out⟩
    have hn2' : decide ((2000 : Int) < (n2 : Int)) = false := by simp only [decide_eq_false_iff_not]; omega
    have hn2'' : ¬ (2000 : Int) < (n2 : Int) := by omega
    have HPN : Hid (0 ≤ p ∧ p ≤ 2000 ∧ n2 ≤ 2000) := Lib.hid (by omega)
    go_wp2_with fail
    clear hp0 hp0' hp2 hp2' hn2 hn2' hn2''
    go_loopw [48] (fun i wr => ∃ j : Nat, j ≤ len ∧ i = .int .i64 (j : Int) ∧ Hid (RmIn w 300 fp os j wr)) (fun i _ => len - (intOf i).toNat)
    case atStart => exact ⟨0, Nat.zero_le _, rfl, Lib.hid HI.out⟩
    case round =>
      obtain ⟨j, hj, rfl, HP⟩ := hrel
      by_cases hlt : j < len
      · obtain ⟨b, off, rfl, -, hc⟩ := (HOR.out.kept HP.out.bl).2 (by omega)
        obtain ⟨e0, e1, e2, e3, e4, e5, e6, e7, e8, e9, e10, e11, e12, e13, e14, ⟨A, l, c, e15, hr, -, hlc⟩, hok⟩ := hc j hlt
        obtain ⟨o, ho⟩ : ∃ o, os.getD j of0 = o := ⟨_, rfl⟩
        have hj2 : j < os.length := by rw [HL.out]; exact hlt
        have hob : o.b.length ≤ 2000 := by rw [← ho, getD_at hj2]; exact HRT.out.1 _ (List.getElem_mem hj2)
        rw [ho] at e0 e1 e2 e3 e4 e5 e6 e7 e8 e9 e10 e11 e12 e13 e14 hr hok
        obtain ⟨Y1, hm1, hp1⟩ := HP.out.fm
        have hwl := (Wl.new 300).run (os.take j)
        have hT : 0 + (os.take j).length ≤ 1000000 := by have := HLE.out; rw [List.length_take]; omega
        have hnx := run_next (f := newF 300) hj2
        rw [ho] at hnx
        obtain ⟨f, hf⟩ : ∃ f, runF (newF 300) (os.take j) = f := ⟨_, rfl⟩
        rw [hf] at hm1 hwl hnx
        have hbx := box_below wr (.cells #[.int .i64 o.kind, .int .i64 o.h.id, .int .i64 o.h.gen, .int .i64 o.g.id, .int .i64 o.g.gen, .string (B o.nm), .string (B o.ot), .int .i64 o.m.kind, .int .i64 o.m.mode, .int .i64 o.m.time, .string (B o.m.tg), .bool o.fd, .int .i64 o.p, .int .i64 o.n, .int .i64 o.t, .slice A l c] 33)
        have HD : Hid (Calls Try.prog 10 #[pA fp, .agg #[.int .i64 o.kind, .int .i64 o.h.id, .int .i64 o.h.gen, .int .i64 o.g.id, .int .i64 o.g.gen, .string (B o.nm), .string (B o.ot), .int .i64 o.m.kind, .int .i64 o.m.mode, .int .i64 o.m.time, .string (B o.m.tg), .bool o.fd, .int .i64 o.p, .int .i64 o.n, .int .i64 o.t, .slice A l c]] (wr.alloc (.cells #[.int .i64 o.kind, .int .i64 o.h.id, .int .i64 o.h.gen, .int .i64 o.g.id, .int .i64 o.g.gen, .string (B o.nm), .string (B o.ot), .int .i64 o.m.kind, .int .i64 o.m.mode, .int .i64 o.m.time, .string (B o.m.tg), .bool o.fd, .int .i64 o.p, .int .i64 o.n, .int .i64 o.t, .slice A l c] 33)) (DsPost (wr.alloc (.cells #[.int .i64 o.kind, .int .i64 o.h.id, .int .i64 o.h.gen, .int .i64 o.g.id, .int .i64 o.g.gen, .string (B o.nm), .string (B o.ot), .int .i64 o.m.kind, .int .i64 o.m.mode, .int .i64 o.m.time, .string (B o.m.tg), .bool o.fd, .int .i64 o.p, .int .i64 o.n, .int .i64 o.t, .slice A l c] 33)) w.heap.size Y1 f o)) := Lib.hid (by
          have h9 := does_any (hm1.below hwl.gd.kind hbx) (Nat.le_trans HP.out.bl.size hbx.size) hwl hT (by decide) o (hok.ok hob) (hr.below hbx) hlc
          rw [hp1] at h9
          exact h9)
        have HM1 : Hid (FM wr w.heap.size Y1 f ∧ Y1.fp = fp ∧ Below w.heap.size w wr) := Lib.hid ⟨hm1, hp1, HP.out.bl⟩
        have HNX := Lib.hid hnx
        have HBX := Lib.hid hbx
        have hj0 : (0 : Int) ≤ (j : Int) := by omega
        have hji : (j : Int) < (len : Int) := by omega
        obtain ⟨j1, hj1⟩ : ∃ j1, j + 1 = j1 := ⟨_, rfl⟩
        have hwj : IntKind.i64.wrap ((j : Int) + 1) = (j1 : Int) := by rw [IntKind.wrap_i64]; have := HLE.out; omega
        have HJ1 : Hid (j < len ∧ j + 1 = j1) := Lib.hid ⟨hlt, hj1⟩
        clear hlt hj hj1 hr hlc hok hc ho hj2 hob hm1 hp1 hwl hT hnx hf hbx HP HI
        go_wp2_with fail
        refine HD.out.mono ?_
        rintro e w3 ⟨Z, rfl, g1, g2, g3, g4⟩
        have HI4 : Hid (RmIn w 300 fp os j1 w3) := Lib.hid ⟨⟨Z, by rw [← HJ1.out.2, HNX.out]; exact g1, g4.trans HM1.out.2.1⟩, by
          have h9 := HM1.out.2.2.trans (HBX.out.mono HM1.out.2.2.size)
          exact h9.trans (g2.below HM1.out.1.ge h9.size)⟩
        clear g1 g2 g3 g4
        go_wp2_with fail
        go_roundw
        case rel => exact ⟨j1, by have := HJ1.out; omega, rfl, HI4⟩
        case measure => simp [intOf]; have := HJ1.out; omega
      · obtain rfl : j = len := by omega
        have hji : ¬ (j : Int) < (j : Int) := by omega
        obtain ⟨f1, hf1⟩ : ∃ f, runF (newF 300) (os.take j) = f := ⟨_, rfl⟩
        have HS1 : Hid (St w fp 300 [] wr f1 250) := Lib.hid (by
          obtain ⟨Y1, hm1, hp1⟩ := HP.out.fm
          rw [hf1] at hm1
          have hwl := (Wl.new 300).run (os.take j)
          rw [hf1] at hwl
          exact ⟨Y1, hm1, hp1, HP.out.bl, hwl.mono (by have := HLE.out; rw [List.length_take]; omega), fun k hk => by cases hk⟩)
        clear hlt hj HP HI hf1
        have HRT := Lib.hid (root_any fp)
        obtain ⟨f2, hf2⟩ : ∃ f, (mkF f1 rtH mineT ⟨1, 0, 0, []⟩).1 = f := ⟨_, rfl⟩
        obtain ⟨ec, hec⟩ : ∃ f, (mkF f1 rtH mineT ⟨1, 0, 0, []⟩).2.2 = f := ⟨_, rfl⟩
        obtain ⟨hi, hhi⟩ : ∃ f, (mkF f1 rtH mineT ⟨1, 0, 0, []⟩).2.1.id = f := ⟨_, rfl⟩
        obtain ⟨hg, hhg⟩ : ∃ f, (mkF f1 rtH mineT ⟨1, 0, 0, []⟩).2.1.gen = f := ⟨_, rfl⟩
        have HMK : Hid (∀ W, St w fp 300 [] W f1 250 → Calls Try.prog 16 #[pA fp, .agg #[.int .i64 1, .int .i64 1], .string ⟨#[109, 105, 110, 101]⟩, .agg #[.int .i64 1, .int .i64 0, .int .i64 0, .string ⟨#[]⟩]] W fun e W' => e = .returned (.tuple #[.agg #[.int .i64 hi, .int .i64 hg], .int .i64 ec]) ∧ St w fp 300 [] W' f2 251) := Lib.hid (fun W hW => by
          have h9 := st_make hW (by decide) rtH rt_ok mineT (by decide) ⟨1, 0, 0, []⟩
          rw [hf2, hec] at h9
          rw [← hhi, ← hhg]
          exact h9)
        have HMC : Hid (ec = 171 ∨ ec = 177 ∨ (ec = 0 ∧ ∃ x, Mine f2 ⟨hi, hg⟩ x mineT)) := Lib.hid (by
          have h9 := back_make HS1.out.wl
          rw [hf2, hec] at h9
          rw [← hhi, ← hhg]
          exact h9)
        clear hf2 hec hhi hhg
        go_wp2_with fail
        refine (HRT.out wr).mono ?_
        rintro e w3 ⟨rfl, hb3⟩
        have HS3 := Lib.hid (HS1.out.below hb3)
        clear hb3
        go_wp2_with fail
        refine (HMK.out w3 HS3.out).mono ?_
        rintro e w4 ⟨rfl, hs4⟩
        obtain ⟨k1, hk1⟩ : ∃ k, k = w4.heap.size := ⟨_, rfl⟩
        obtain ⟨w5, hw5⟩ : ∃ W, W = w4.alloc (.cells #[.int .i64 hi, .int .i64 hg] 40) := ⟨_, rfl⟩
        have hs5 := hs4.box (.cells #[.int .i64 hi, .int .i64 hg] 40)
        rw [← hk1, ← hw5] at hs5
        have HS5 := Lib.hid hs5
        have HK1 := Lib.hid hk1
        have HW5 := Lib.hid hw5
        clear hs4 hk1 hw5 hs5
        go_upto_region 10 with fail
        rw [← HW5.out, ← HK1.out]
        rcases HMC.out with rfl | rfl | ⟨rfl, x, hx⟩
        · go_wp2_with fail
          refine (HAL.out w5).mono ?_
          rintro e w9 ⟨rfl, hb9⟩
          have HB9 : Hid (Below w.heap.size w w9) := Lib.hid (HS5.out.bl.trans (hb9.mono HS5.out.bl.size))
          clear hb9
          go_wp2_with fail
          go_ret
          exact ⟨rfl, HB9.out⟩
        · go_wp2_with fail
          refine (HAL.out w5).mono ?_
          rintro e w9 ⟨rfl, hb9⟩
          have HB9 : Hid (Below w.heap.size w w9) := Lib.hid (HS5.out.bl.trans (hb9.mono HS5.out.bl.size))
          clear hb9
          go_wp2_with fail
          go_ret
          exact ⟨rfl, HB9.out⟩
        · have KX := Lib.hid hx
          clear hx
          have HHO := Lib.hid (mine_ok HS5.out.wl (by decide) KX.out)
          have HWD := Lib.hid (st_write HS5.out (by decide) ⟨hi, hg⟩ HHO.out p HX.out (HB2D.out.below HS5.out.bl) HC2.out (by have := HPN.out; omega) 7)
          have HWC := Lib.hid (back_write KX.out p HPN.out.1 b2)
          obtain ⟨f3, hf3⟩ : ∃ f, (wrF f2 ⟨hi, hg⟩ p b2 7).1 = f := ⟨_, rfl⟩
          obtain ⟨ed, hed⟩ : ∃ f, (wrF f2 ⟨hi, hg⟩ p b2 7).2 = f := ⟨_, rfl⟩
          rw [hf3, hed] at HWD HWC
          clear hf3 hed
          have t0 := cell_of (HS5.out.at (List.mem_singleton.2 rfl)) (j := 0) rfl
          have t1 := cell_of (HS5.out.at (List.mem_singleton.2 rfl)) (j := 1) rfl
          go_wp2_with fail
          refine HWD.out.mono ?_
          rintro e w6 ⟨rfl, hs6⟩
          have HS6 := Lib.hid hs6
          clear hs6 t0 t1
          rcases HWC.out with rfl | ⟨rfl, hft, hk⟩
          · go_wp2_with fail
            refine (HAL.out w6).mono ?_
            rintro e w9 ⟨rfl, hb9⟩
            have HB9 : Hid (Below w.heap.size w w9) := Lib.hid (HS6.out.bl.trans (hb9.mono HS6.out.bl.size))
            clear hb9
            go_wp2_with fail
            go_ret
            exact ⟨rfl, HB9.out⟩
          · have HFT := Lib.hid hft
            have KM := Lib.hid hk
            obtain ⟨x3, hx3⟩ : ∃ z, ({ x with d := wrI x.d p b2, time := 7 } : Nod) = z := ⟨_, rfl⟩
            have HX3 : Hid (x3.time = 7 ∧ x3.d = wrI x.d p b2) := Lib.hid ⟨by rw [← hx3], by rw [← hx3]⟩
            rw [hx3] at KM
            clear hft hk hx3
            have HLC := Lib.hid (back_link HS6.out.wl KM.out)
            have HLK : Hid (∀ W, St w fp 300 [(k1, .cells #[.int .i64 hi, .int .i64 hg] 40)] W f3 252 → Calls Try.prog 18 #[pA fp, .agg #[.int .i64 hi, .int .i64 hg], .agg #[.int .i64 1, .int .i64 1], .string ⟨#[111, 116, 104, 101, 114]⟩] W fun e W' => e = .returned (.int .i64 (lkF f3 ⟨hi, hg⟩ rtH otherT).2) ∧ St w fp 300 [(k1, .cells #[.int .i64 hi, .int .i64 hg] 40)] W' (lkF f3 ⟨hi, hg⟩ rtH otherT).1 253) := Lib.hid (fun W hW => st_link hW (by decide) ⟨hi, hg⟩ rtH HHO.out rt_ok otherT (by decide))
            obtain ⟨f4, hf4⟩ : ∃ f, (lkF f3 ⟨hi, hg⟩ rtH otherT).1 = f := ⟨_, rfl⟩
            obtain ⟨g, hgg⟩ : ∃ f, (lkF f3 ⟨hi, hg⟩ rtH otherT).2 = f := ⟨_, rfl⟩
            rw [hf4, hgg] at HLK HLC
            clear hf4 hgg
            have HSS : Hid (∀ W, St w fp 300 [(k1, .cells #[.int .i64 hi, .int .i64 hg] 40)] W f3 252 → W.cell? ⟨k1, 0, none⟩ = some (.int .i64 hi) ∧ W.cell? ⟨k1, 1, none⟩ = some (.int .i64 hg)) := Lib.hid (fun W hW => ⟨cell_of (hW.at (List.mem_singleton.2 rfl)) (j := 0) rfl, cell_of (hW.at (List.mem_singleton.2 rfl)) (j := 1) rfl⟩)
            have HS4 : Hid (∀ W, St w fp 300 [(k1, .cells #[.int .i64 hi, .int .i64 hg] 40)] W f4 253 → W.cell? ⟨k1, 0, none⟩ = some (.int .i64 hi) ∧ W.cell? ⟨k1, 1, none⟩ = some (.int .i64 hg)) := Lib.hid (fun W hW => ⟨cell_of (hW.at (List.mem_singleton.2 rfl)) (j := 0) rfl, cell_of (hW.at (List.mem_singleton.2 rfl)) (j := 1) rfl⟩)
            go_upto_region 15 with fail
            have HSD : Hid (St w fp 300 [(k1, .cells #[.int .i64 hi, .int .i64 hg] 40)] w6.drew f3 252) := Lib.hid (HS6.out.below (Below.refl _ _).drew)
            have hS0 := HSS.out w6.drew HSD.out
            go_region_held3 (fun W => W.cell? ⟨k1, 0, none⟩ = some (.int .i64 hi) ∧ W.cell? ⟨k1, 1, none⟩ = some (.int .i64 hg))
              (first
                | assumption)
              (first
                | (go_at_call 12; (with_reducible refine (HRT.out _).mono ?_); rintro e w7 ⟨rfl, hb7⟩; have hs7 := HSD.out.below hb7; have hS7 := HSS.out w7 hs7)
                | (go_at_call 18; (with_reducible refine (HLK.out w7 hs7).mono ?_); rintro e w8 ⟨rfl, hs8⟩; have hS8 := HS4.out w8 hs8))
            rename_i hHeld
            have HS8 := Lib.hid hs8
            clear hHeld hs8 hS8 hs7 hS7 hb7 hS0
            rcases HLC.out with ⟨rfl, hk⟩ | ⟨rfl, hk⟩
            · have KN := Lib.hid hk
              clear hk
              have HGD := Lib.hid HS8.out.wl
              have HLO : Hid (∀ W, St w fp 300 [(k1, .cells #[.int .i64 hi, .int .i64 hg] 40)] W f4 253 → Calls Try.prog 15 #[pA fp, .agg #[.int .i64 1, .int .i64 1], .string ⟨#[109, 105, 110, 101]⟩] W fun e W' => e = .returned (.tuple #[.agg #[.int .i64 hi, .int .i64 hg], .int .i64 0]) ∧ Below W.heap.size W W') := Lib.hid (fun W hW => by
                have h9 := st_look hW rtH rt_ok mineT (by decide)
                rw [KN.out.look HGD.out.gd valid_mine] at h9
                exact h9)
              have HRE : Hid (∀ W K, St w fp 300 K W f4 253 → Calls Try.prog 20 #[pA fp, .agg #[.int .i64 hi, .int .i64 hg], .int .i64 p, .int .i64 (n2 : Int)] W (SrPost W b2 0)) := Lib.hid (fun W K hW => by
                have h9 := st_read hW ⟨hi, hg⟩ HHO.out p (n2 : Int) HX.out
                have e : rdF f4 ⟨hi, hg⟩ p (n2 : Int) = (b2, 0) := by
                  unfold rdF
                  rw [KN.out.fl]
                  dsimp only
                  have h8 := HPN.out
                  rw [if_neg (by omega), ← HN2.out, HX3.out.2, rd_wrI HFT.out]
                rw [e] at h9
                exact h9)
              have hie : ∃ i0 i1 i2 i3 i5 i6, stF f4 ⟨hi, hg⟩ = (⟨⟨i0, i1⟩, i2, i3, 1, i5, i6, 7⟩, 0) := ⟨x3.id, x3.gen, x3.kind, x3.mode, sizN f4.N x3, blkN x3, by
                unfold stF
                rw [KN.out.fd]
                dsimp only
                unfold infN
                rw [KN.out.lk, HX3.out.1]
                rfl⟩
              obtain ⟨i0, i1, i2, i3, i5, i6, hie⟩ := hie
              have HSA : Hid (∀ W K, St w fp 300 K W f4 253 → Calls Try.prog 13 #[pA fp, .agg #[.int .i64 hi, .int .i64 hg]] W fun e W' => e = .returned (.tuple #[.agg #[.int .i64 i0, .int .i64 i1, .int .i64 i2, .int .i64 i3, .int .i64 1, .int .i64 i5, .int .i64 i6, .int .i64 7], .int .i64 0]) ∧ Below W.heap.size W W') := Lib.hid (fun W K hW => by
                have h9 := st_stat hW ⟨hi, hg⟩ HHO.out
                rw [hie] at h9
                exact h9)
              clear hie
              have heqh : ∀ W, (binOp .eql 40 (.agg #[.int .i64 hi, .int .i64 hg]) (.agg #[.int .i64 hi, .int .i64 hg])).run Try.prog W = .ok (.bool true) W := fun W => by
                have h9 := eqlH ⟨hi, hg⟩ ⟨hi, hg⟩ W
                simpa using h9
              obtain ⟨str, hstr⟩ : ∃ s, B b2 = s := ⟨_, rfl⟩
              have HSTR := Lib.hid hstr
              have hseq := str_eq str
              have HEQH := Lib.hid heqh
              have HSEQ := Lib.hid hseq
              clear hstr heqh hseq
              go_wp2_with fail
              refine (HRT.out w8).mono ?_
              rintro e y1 ⟨rfl, hb1⟩
              have HY1 := Lib.hid (HS8.out.below hb1)
              clear hb1
              go_wp2_with fail
              refine (HLO.out y1 HY1.out).mono ?_
              rintro e y2 ⟨rfl, hb2⟩
              have hy2 := HY1.out.below hb2
              obtain ⟨k2, hk2⟩ : ∃ k, k = y2.heap.size := ⟨_, rfl⟩
              obtain ⟨y3, hy3⟩ : ∃ W, W = y2.alloc (.cells #[.int .i64 hi, .int .i64 hg] 40) := ⟨_, rfl⟩
              have hs3 := hy2.box (.cells #[.int .i64 hi, .int .i64 hg] 40)
              rw [← hk2, ← hy3] at hs3
              have HY3 := Lib.hid hs3
              have HK2 := Lib.hid hk2
              have HW3 := Lib.hid hy3
              have u0 := cell_of (hs3.at (k := (k2, .cells #[.int .i64 hi, .int .i64 hg] 40)) (by simp)) (j := 0) rfl
              have u1 := cell_of (hs3.at (k := (k2, .cells #[.int .i64 hi, .int .i64 hg] 40)) (by simp)) (j := 1) rfl
              clear hb2 hy2 hk2 hy3 hs3
              go_upto_region 22 with fail
              rw [← HW3.out, ← HK2.out]
              go_wp2_with fail
              refine (HRE.out y3 _ HY3.out).mono ?_
              rintro e y4 ⟨A3, c3, rfl, hr4, hb4⟩
              have hs4 := HY3.out.below hb4
              have HY4 := Lib.hid hs4
              have HR4 := Lib.hid hr4
              clear u0 u1
              have u0 := cell_of (hs4.at (k := (k2, .cells #[.int .i64 hi, .int .i64 hg] 40)) (by simp)) (j := 0) rfl
              have u1 := cell_of (hs4.at (k := (k2, .cells #[.int .i64 hi, .int .i64 hg] 40)) (by simp)) (j := 1) rfl
              obtain ⟨ln, hln⟩ : ∃ k, b2.length = k := ⟨_, rfl⟩
              rw [hln] at HR4
              rw [hln]
              clear hb4 hr4 hs4 hln
              go_wp2_with fail
              refine (HSA.out y4 _ HY4.out).mono ?_
              rintro e y5 ⟨rfl, hb5⟩
              have hy5 := HY4.out.below hb5
              obtain ⟨k3, hk3⟩ : ∃ k, k = y5.heap.size := ⟨_, rfl⟩
              obtain ⟨y6, hy6⟩ : ∃ W, W = y5.alloc (.cells #[.int .i64 i0, .int .i64 i1, .int .i64 i2, .int .i64 i3, .int .i64 1, .int .i64 i5, .int .i64 i6, .int .i64 7] 43) := ⟨_, rfl⟩
              have hs6 := hy5.box (.cells #[.int .i64 i0, .int .i64 i1, .int .i64 i2, .int .i64 i3, .int .i64 1, .int .i64 i5, .int .i64 i6, .int .i64 7] 43)
              rw [← hk3, ← hy6] at hs6
              have hb6 : Below y5.heap.size y5 y6 := by rw [hy6]; exact box_below y5 _
              have HR6 := Lib.hid ((HR4.out.below hb5).below hb6)
              have HY6 := Lib.hid hs6
              have HK3 := Lib.hid hk3
              have HW6 := Lib.hid hy6
              clear hb5 hy5 hk3 hy6 hs6 hb6 u0 u1
              go_upto_region 24 with fail
              rw [← HW6.out, ← HK3.out]
              go_wp2_with fail
              refine (HAL.out y6).mono ?_
              rintro e y7 ⟨rfl, hb7⟩
              have hs7 := HY6.out.below hb7
              have u0 := cell_of (hs7.at (k := (k2, .cells #[.int .i64 hi, .int .i64 hg] 40)) (by simp)) (j := 0) rfl
              have u1 := cell_of (hs7.at (k := (k2, .cells #[.int .i64 hi, .int .i64 hg] 40)) (by simp)) (j := 1) rfl
              have v0 := cell_of (hs7.at (k := (k1, .cells #[.int .i64 hi, .int .i64 hg] 40)) (by simp)) (j := 0) rfl
              have v1 := cell_of (hs7.at (k := (k1, .cells #[.int .i64 hi, .int .i64 hg] 40)) (by simp)) (j := 1) rfl
              have z7 := cell_of (hs7.at (k := (k3, .cells #[.int .i64 i0, .int .i64 i1, .int .i64 i2, .int .i64 i3, .int .i64 1, .int .i64 i5, .int .i64 i6, .int .i64 7] 43)) (by simp)) (j := 7) rfl
              have z4 := cell_of (hs7.at (k := (k3, .cells #[.int .i64 i0, .int .i64 i1, .int .i64 i2, .int .i64 i3, .int .i64 1, .int .i64 i5, .int .i64 i6, .int .i64 7] 43)) (by simp)) (j := 4) rfl
              have hcv1 := conv_B (c := c3) (HR6.out.below hb7)
              have hcv2 := conv_B (c := c2) (HB2D.out.below hs7.bl)
              rw [HSTR.out] at hcv1 hcv2
              have heqh := HEQH.out
              have hseq := HSEQ.out
              have HE := Lib.hid hs7.bl
              clear hs7 hb7
              go_wp2_with fail
              go_ret
              exact ⟨rfl, HE.out⟩
            · have KN := Lib.hid hk
              obtain ⟨f5, hf5⟩ : ∃ f, (rmF f4 rtH mineT false).1 = f := ⟨_, rfl⟩
              have HRM : Hid (∀ W, St w fp 300 [(k1, .cells #[.int .i64 hi, .int .i64 hg] 40)] W f4 253 → Calls Try.prog 19 #[pA fp, .agg #[.int .i64 1, .int .i64 1], .string ⟨#[109, 105, 110, 101]⟩, .bool false] W fun e W' => e = .returned (.int .i64 (rmF f4 rtH mineT false).2) ∧ St w fp 300 [(k1, .cells #[.int .i64 hi, .int .i64 hg] 40)] W' (rmF f4 rtH mineT false).1 254) := Lib.hid (fun W hW => st_remove hW (by decide) rtH rt_ok mineT (by decide) false)
              obtain ⟨e5, he5⟩ : ∃ f, (rmF f4 rtH mineT false).2 = f := ⟨_, rfl⟩
              rw [hf5, he5] at HRM
              rw [hf5] at KN
              clear hk hf5 he5
              go_wp2_with fail
              refine (HRT.out w8).mono ?_
              rintro e w9 ⟨rfl, hb9⟩
              have HS9 := Lib.hid (HS8.out.below hb9)
              clear hb9
              go_wp2_with fail
              refine (HRM.out w9 HS9.out).mono ?_
              rintro e w0 ⟨rfl, hs0⟩
              have HS0 := Lib.hid hs0
              clear hs0
              have HGD := Lib.hid HS0.out.wl
              have HLO : Hid (∀ W, St w fp 300 [(k1, .cells #[.int .i64 hi, .int .i64 hg] 40)] W f5 254 → Calls Try.prog 15 #[pA fp, .agg #[.int .i64 1, .int .i64 1], .string ⟨#[111, 116, 104, 101, 114]⟩] W fun e W' => e = .returned (.tuple #[.agg #[.int .i64 hi, .int .i64 hg], .int .i64 0]) ∧ Below W.heap.size W W') := Lib.hid (fun W hW => by
                have h9 := st_look hW rtH rt_ok otherT (by decide)
                rw [KN.out.look HGD.out.gd valid_other] at h9
                exact h9)
              have HRE : Hid (∀ W K, St w fp 300 K W f5 254 → Calls Try.prog 20 #[pA fp, .agg #[.int .i64 hi, .int .i64 hg], .int .i64 p, .int .i64 (n2 : Int)] W (SrPost W b2 0)) := Lib.hid (fun W K hW => by
                have h9 := st_read hW ⟨hi, hg⟩ HHO.out p (n2 : Int) HX.out
                have e : rdF f5 ⟨hi, hg⟩ p (n2 : Int) = (b2, 0) := by
                  unfold rdF
                  rw [KN.out.fl]
                  dsimp only
                  have h8 := HPN.out
                  rw [if_neg (by omega), ← HN2.out, HX3.out.2, rd_wrI HFT.out]
                rw [e] at h9
                exact h9)
              have hie : ∃ i0 i1 i2 i3 i5 i6, stF f5 ⟨hi, hg⟩ = (⟨⟨i0, i1⟩, i2, i3, 1, i5, i6, 7⟩, 0) := ⟨x3.id, x3.gen, x3.kind, x3.mode, sizN f5.N x3, blkN x3, by
                unfold stF
                rw [KN.out.fd]
                dsimp only
                unfold infN
                rw [KN.out.lk, HX3.out.1]
                rfl⟩
              obtain ⟨i0, i1, i2, i3, i5, i6, hie⟩ := hie
              have HSA : Hid (∀ W K, St w fp 300 K W f5 254 → Calls Try.prog 13 #[pA fp, .agg #[.int .i64 hi, .int .i64 hg]] W fun e W' => e = .returned (.tuple #[.agg #[.int .i64 i0, .int .i64 i1, .int .i64 i2, .int .i64 i3, .int .i64 1, .int .i64 i5, .int .i64 i6, .int .i64 7], .int .i64 0]) ∧ Below W.heap.size W W') := Lib.hid (fun W K hW => by
                have h9 := st_stat hW ⟨hi, hg⟩ HHO.out
                rw [hie] at h9
                exact h9)
              clear hie
              have heqh : ∀ W, (binOp .eql 40 (.agg #[.int .i64 hi, .int .i64 hg]) (.agg #[.int .i64 hi, .int .i64 hg])).run Try.prog W = .ok (.bool true) W := fun W => by
                have h9 := eqlH ⟨hi, hg⟩ ⟨hi, hg⟩ W
                simpa using h9
              obtain ⟨str, hstr⟩ : ∃ s, B b2 = s := ⟨_, rfl⟩
              have HSTR := Lib.hid hstr
              have hseq := str_eq str
              have HEQH := Lib.hid heqh
              have HSEQ := Lib.hid hseq
              clear hstr heqh hseq
              go_wp2_with fail
              refine (HRT.out w0).mono ?_
              rintro e y1 ⟨rfl, hb1⟩
              have HY1 := Lib.hid (HS0.out.below hb1)
              clear hb1
              go_wp2_with fail
              refine (HLO.out y1 HY1.out).mono ?_
              rintro e y2 ⟨rfl, hb2⟩
              have hy2 := HY1.out.below hb2
              obtain ⟨k2, hk2⟩ : ∃ k, k = y2.heap.size := ⟨_, rfl⟩
              obtain ⟨y3, hy3⟩ : ∃ W, W = y2.alloc (.cells #[.int .i64 hi, .int .i64 hg] 40) := ⟨_, rfl⟩
              have hs3 := hy2.box (.cells #[.int .i64 hi, .int .i64 hg] 40)
              rw [← hk2, ← hy3] at hs3
              have HY3 := Lib.hid hs3
              have HK2 := Lib.hid hk2
              have HW3 := Lib.hid hy3
              have u0 := cell_of (hs3.at (k := (k2, .cells #[.int .i64 hi, .int .i64 hg] 40)) (by simp)) (j := 0) rfl
              have u1 := cell_of (hs3.at (k := (k2, .cells #[.int .i64 hi, .int .i64 hg] 40)) (by simp)) (j := 1) rfl
              clear hb2 hy2 hk2 hy3 hs3
              go_upto_region 22 with fail
              rw [← HW3.out, ← HK2.out]
              go_wp2_with fail
              refine (HRE.out y3 _ HY3.out).mono ?_
              rintro e y4 ⟨A3, c3, rfl, hr4, hb4⟩
              have hs4 := HY3.out.below hb4
              have HY4 := Lib.hid hs4
              have HR4 := Lib.hid hr4
              clear u0 u1
              have u0 := cell_of (hs4.at (k := (k2, .cells #[.int .i64 hi, .int .i64 hg] 40)) (by simp)) (j := 0) rfl
              have u1 := cell_of (hs4.at (k := (k2, .cells #[.int .i64 hi, .int .i64 hg] 40)) (by simp)) (j := 1) rfl
              obtain ⟨ln, hln⟩ : ∃ k, b2.length = k := ⟨_, rfl⟩
              rw [hln] at HR4
              rw [hln]
              clear hb4 hr4 hs4 hln
              go_wp2_with fail
              refine (HSA.out y4 _ HY4.out).mono ?_
              rintro e y5 ⟨rfl, hb5⟩
              have hy5 := HY4.out.below hb5
              obtain ⟨k3, hk3⟩ : ∃ k, k = y5.heap.size := ⟨_, rfl⟩
              obtain ⟨y6, hy6⟩ : ∃ W, W = y5.alloc (.cells #[.int .i64 i0, .int .i64 i1, .int .i64 i2, .int .i64 i3, .int .i64 1, .int .i64 i5, .int .i64 i6, .int .i64 7] 43) := ⟨_, rfl⟩
              have hs6 := hy5.box (.cells #[.int .i64 i0, .int .i64 i1, .int .i64 i2, .int .i64 i3, .int .i64 1, .int .i64 i5, .int .i64 i6, .int .i64 7] 43)
              rw [← hk3, ← hy6] at hs6
              have hb6 : Below y5.heap.size y5 y6 := by rw [hy6]; exact box_below y5 _
              have HR6 := Lib.hid ((HR4.out.below hb5).below hb6)
              have HY6 := Lib.hid hs6
              have HK3 := Lib.hid hk3
              have HW6 := Lib.hid hy6
              clear hb5 hy5 hk3 hy6 hs6 hb6 u0 u1
              go_upto_region 24 with fail
              rw [← HW6.out, ← HK3.out]
              go_wp2_with fail
              refine (HAL.out y6).mono ?_
              rintro e y7 ⟨rfl, hb7⟩
              have hs7 := HY6.out.below hb7
              have u0 := cell_of (hs7.at (k := (k2, .cells #[.int .i64 hi, .int .i64 hg] 40)) (by simp)) (j := 0) rfl
              have u1 := cell_of (hs7.at (k := (k2, .cells #[.int .i64 hi, .int .i64 hg] 40)) (by simp)) (j := 1) rfl
              have v0 := cell_of (hs7.at (k := (k1, .cells #[.int .i64 hi, .int .i64 hg] 40)) (by simp)) (j := 0) rfl
              have v1 := cell_of (hs7.at (k := (k1, .cells #[.int .i64 hi, .int .i64 hg] 40)) (by simp)) (j := 1) rfl
              have z7 := cell_of (hs7.at (k := (k3, .cells #[.int .i64 i0, .int .i64 i1, .int .i64 i2, .int .i64 i3, .int .i64 1, .int .i64 i5, .int .i64 i6, .int .i64 7] 43)) (by simp)) (j := 7) rfl
              have z4 := cell_of (hs7.at (k := (k3, .cells #[.int .i64 i0, .int .i64 i1, .int .i64 i2, .int .i64 i3, .int .i64 1, .int .i64 i5, .int .i64 i6, .int .i64 7] 43)) (by simp)) (j := 4) rfl
              have hcv1 := conv_B (c := c3) (HR6.out.below hb7)
              have hcv2 := conv_B (c := c2) (HB2D.out.below hs7.bl)
              rw [HSTR.out] at hcv1 hcv2
              have heqh := HEQH.out
              have hseq := HSEQ.out
              have HE := Lib.hid hs7.bl
              clear hs7 hb7
              go_wp2_with fail
              go_ret
              exact ⟨rfl, HE.out⟩
end Go.Proofs.Ytoaahhgngelnaaa
