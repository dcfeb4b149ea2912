/-
  What the law PlatterLasts returns of two scripts that read: true, and older memory is as it was. No condition.
-/
import Derived.Test.YtogofgfdkkjnlaaLast
import Derived.Test.YtogofgfdkkjnlaaDoesP
namespace Go.Proofs.Ytogofgfdkkjnlaa
open Go.ChangeShapes Go.WideShapes Go.ChangeAt Go.RowKit

theorem OReads.mono {w : World} {B B' : Nat} {ad : Option Addr} {len : Nat} {os : List Opr} (h : OReads w B ad len os) (hb : B ≤ B') : OReads w B' ad len os := by
  refine ⟨h.1, fun hl => ?_⟩
  obtain ⟨b, off, e, hlt, hc⟩ := h.2 hl
  refine ⟨b, off, e, by omega, fun i hi => ?_⟩
  obtain ⟨h0, h1, h2, ⟨A, l, c, h3, h4, h5⟩, h6⟩ := hc i hi
  exact ⟨h0, h1, h2, ⟨A, l, c, h3, h4, fun hp a ha => Nat.lt_of_lt_of_le (h5 hp a ha) hb⟩, h6⟩
theorem set_at {ms : Array Value} {n : Nat} (h : n < ms.size) (v : Value) : (ms.set! n v)[((n : Nat) : Int).toNat]? = some v := by
  rw [Int.toNat_natCast]; simp [h]
/-- The first loop: what is read. -/
structure L1 (w0 wr : World) (B p b10 k : Nat) (D : Dk) (cs : Array Value) : Prop where
  below : Below B w0 wr
  pd : PDisk wr B p D
  box : wr.heap[b10]? = some (.cells cs 43 (0, 0))
  eight : Eight (cur D) k cs
theorem l1_next {w0 wr w7 : World} {B p b10 k : Nat} {D : Dk} {cs : Array Value} (h : L1 w0 wr B p b10 k D cs) (hB : B ≤ wr.heap.size) (hb : Below wr.heap.size wr w7) (hk : k < 8) (hB10 : B ≤ b10) :
    L1 w0 (w7.setCell ⟨b10, k, none⟩ (.string (strOfNums ((cur D).getD k [])))) B p b10 (k + 1) D (cs.set! k (.string (strOfNums ((cur D).getD k [])))) := by
  have e := (hb.block _ (lt_of_block h.box)).trans h.box
  exact ⟨(h.below.trans (hb.mono hB)).setCell hB10 _, (h.pd.kept hb).setCell (a := ⟨b10, k, none⟩) e (by decide) (by decide) (by decide) _, heap_setCell_same w7 b10 k cs 43 _ e, eight_set h.eight hk⟩
/-- The second loop: more calls. -/
structure L2 (w0 wr : World) (B p b10 b14 k : Nat) (X : List (List Int)) (cs : Array Value) (D : Dk) (ms : Array Value) : Prop where
  below : Below B w0 wr
  pd : PDisk wr B p D
  box : wr.heap[b10]? = some (.cells cs 43 (0, 0))
  mks : wr.heap[b14]? = some (.cells ms 44 (0, 0))
  marks : Marks X D ms
  firm : D.firm.length = 8
  wait : D.wait.length ≤ k
theorem L2.kept {w0 wr w7 : World} {B p b10 b14 k : Nat} {X : List (List Int)} {cs : Array Value} {D : Dk} {ms : Array Value} (h : L2 w0 wr B p b10 b14 k X cs D ms) (hB : B ≤ wr.heap.size) (hb : Below wr.heap.size wr w7) : L2 w0 w7 B p b10 b14 k X cs D ms :=
  ⟨h.below.trans (hb.mono hB), h.pd.kept hb, (hb.block _ (lt_of_block h.box)).trans h.box, (hb.block _ (lt_of_block h.mks)).trans h.mks, h.marks, h.firm, h.wait⟩
theorem L2.succ {w0 wr : World} {B p b10 b14 k : Nat} {X : List (List Int)} {cs : Array Value} {D : Dk} {ms : Array Value} (h : L2 w0 wr B p b10 b14 k X cs D ms) : L2 w0 wr B p b10 b14 (k + 1) X cs D ms :=
  ⟨h.below, h.pd, h.box, h.mks, h.marks, h.firm, by have := h.wait; omega⟩
theorem L2.mark {w0 wr : World} {B p b10 b14 k : Nat} {X : List (List Int)} {cs : Array Value} {D : Dk} {ms : Array Value} (h : L2 w0 wr B p b10 b14 k X cs D ms) (hB : B ≤ b14) (n : Nat) : L2 w0 (wr.setCell ⟨b14, n, none⟩ (.bool true)) B p b10 b14 k X cs D (ms.set! n (.bool true)) := by
  have hne : b10 ≠ b14 := fun e => by
    have h1 := h.box
    rw [e, h.mks] at h1
    injection h1 with h1
    injection h1 with _ e _
    cases e
  exact ⟨h.below.setCell hB _, h.pd.setCell (a := ⟨b14, n, none⟩) h.mks (by decide) (by decide) (by decide) _, by rw [heap_setCell_other _ _ _ _ hne]; exact h.box, heap_setCell_same wr b14 n ms 44 _ h.mks, marks_set h.marks n, h.firm, h.wait⟩
theorem L2.calls {w0 wr w7 : World} {B p b10 b14 i : Nat} {X : List (List Int)} {cs : Array Value} {D : Dk} {ms : Array Value} {k n t : Int} {b : List Int} (h : L2 w0 wr B p b10 b14 i X cs D ms) (hp : PDisk w7 B p (doD D k n t b).1) (hk : Kp B wr w7) (h3 : k ≤ 3) (hn : k = 0 → 0 ≤ n → n < 8 → ms[n.toNat]? = some (.bool true)) :
    L2 w0 w7 B p b10 b14 (i + 1) X cs (doD D k n t b).1 ms :=
  ⟨h.below.trans hk.below, hp, hk.tag _ _ _ _ h.box (by decide) (by decide) (by decide), hk.tag _ _ _ _ h.mks (by decide) (by decide) (by decide), marks_do h.marks h.firm h3 hn, by rw [do_len]; exact h.firm, Nat.le_trans (do_wait _ _ _ _ _) (by have := h.wait; omega)⟩
/-- The third loop: what is read of the crashed disk. -/
structure L3 (w wr : World) (B q b10 b14 : Nat) (C : Dk) (cs ms : Array Value) : Prop where
  below : Below w.heap.size w wr
  pd : PDisk wr B q C
  box : wr.heap[b10]? = some (.cells cs 43 (0, 0))
  mks : wr.heap[b14]? = some (.cells ms 44 (0, 0))
theorem L3.kept {w wr w7 : World} {B q b10 b14 : Nat} {C : Dk} {cs ms : Array Value} (h : L3 w wr B q b10 b14 C cs ms) (hb : Below wr.heap.size wr w7) : L3 w w7 B q b10 b14 C cs ms :=
  ⟨h.below.trans (hb.mono h.below.size), h.pd.kept hb, (hb.block _ (lt_of_block h.box)).trans h.box, (hb.block _ (lt_of_block h.mks)).trans h.mks⟩
set_option maxHeartbeats 16000000 in
theorem law_lasts (ad ad2 : Option Addr) (len cap len2 cap2 : Nat) (os os2 : List Opr) (x y : Int) (w : World) (hO : OReads w w.heap.size ad len os) (hO2 : OReads w w.heap.size ad2 len2 os2) :
    Calls Try.prog 5 #[.slice ad len cap, .slice ad2 len2 cap2, .agg #[.int .i64 x, .int .i64 y]] w fun e w' => e = .returned (.bool true) ∧ Below w.heap.size w w' := by
  have hbb := box_below w (.cells #[.int .i64 x, .int .i64 y] 41)
  by_cases h200 : 200 < len
  · have h200' := more_than len h200
    clear hO hO2
    have HBB := Lib.hid hbb
    clear hbb
    go_enter Try.func5, Try.ntmps5
    go_wp2_with fail
    refine (alive_any _).mono ?_
    rintro e w2 ⟨rfl, hb2⟩
    have HB2 := Lib.hid (HBB.out.trans (hb2.mono HBB.out.size))
    clear hb2
    go_wp2
    go_ret
    exact ⟨rfl, HB2.out⟩
  have h200' : ¬ (200 : Int) < (len : Int) := by omega
  by_cases h300 : 200 < len2
  · have h300' := more_than len2 h300
    clear hO hO2
    have HBB := Lib.hid hbb
    clear hbb
    go_enter Try.func5, Try.ntmps5
    go_wp2_with fail
    refine (alive_any _).mono ?_
    rintro e w2 ⟨rfl, hb2⟩
    have HB2 := Lib.hid (HBB.out.trans (hb2.mono HBB.out.size))
    clear hb2
    go_wp2
    go_ret
    exact ⟨rfl, HB2.out⟩
  have h300' : ¬ (200 : Int) < (len2 : Int) := by omega
  have hol : os.length ≤ 200 := by have := hO.1; omega
  obtain ⟨B, hBe⟩ : ∃ B, B = (w.alloc (.cells #[.int .i64 x, .int .i64 y] 41)).heap.size := ⟨_, rfl⟩
  have HP := Lib.hid (plays_any 8 8 ad len cap os (w.alloc (.cells #[.int .i64 x, .int .i64 y] 41)) ((hO.kept hbb).mono hbb.size) (by decide) (.inr rfl) (by omega))
  have HO2 : Hid (OReads (w.alloc (.cells #[.int .i64 x, .int .i64 y] 41)) B ad2 len2 os2) := Lib.hid ((hO2.kept hbb).mono (by rw [hBe]; exact hbb.size))
  have HX : Hid ((w.alloc (.cells #[.int .i64 x, .int .i64 y] 41)).heap[w.heap.size]? = some (.cells #[.int .i64 x, .int .i64 y] 41 (0, 0))) := Lib.hid (new_block w _)
  have HBB := Lib.hid hbb
  have HWB : Hid (w.heap.size < B) := Lib.hid (by rw [hBe]; simp)
  unfold PlPost at HP
  rw [← hBe] at HP
  have HBE := Lib.hid hBe
  clear hO hO2 hbb hBe
  go_enter Try.func5, Try.ntmps5
  obtain ⟨w0, hw0⟩ : ∃ w0, w0 = w.alloc (.cells #[.int .i64 x, .int .i64 y] 41) := ⟨_, rfl⟩
  rw [← hw0] at HP HO2 HX HBB HBE
  go_wp2_with fail
  try rw [← hw0]
  clear hw0
  refine HP.out.mono ?_
  rintro e w1 ⟨p, Af, cf, Aw, cw, D, rfl, -, hpd, -, hok, hfl, hwl, hb1⟩
  have hbx := box_below w1 (.cells #[.slice Af D.firm.length cf, .slice Aw D.wait.length cw, .int .i64 D.armed, .bool D.dead] 28)
  obtain ⟨w2, hw2⟩ : ∃ w2, w2 = w1.alloc (.cells #[.slice Af D.firm.length cf, .slice Aw D.wait.length cw, .int .i64 D.armed, .bool D.dead] 28) := ⟨_, rfl⟩
  rw [← hw2] at hbx
  have hB1 : B ≤ w1.heap.size := by rw [HBE.out]; exact hb1.size
  have HB2 := Lib.hid (hb1.trans (hbx.mono hB1))
  have HPD := Lib.hid (hpd.kept hbx)
  have HFL := Lib.hid hfl
  have HQ := Lib.hid (dead_any B p D w2 (hpd.kept hbx))
  clear hb1 hbx hpd hok hfl hwl hB1
  go_wp2_with fail
  try rw [← hw2]
  clear hw2
  refine HQ.out.mono ?_
  rintro e w3 ⟨rfl, rfl⟩
  cases hdd : D.dead with
  | true =>
    go_wp2_with fail
    refine (alive_any _).mono ?_
    rintro e w4 ⟨rfl, hb4⟩
    have HB4 := Lib.hid ((HBB.out.trans (HB2.out.mono (by have := HWB.out; omega))).trans (hb4.mono (by have := HB2.out.size; have := HWB.out; have := HBE.out; omega)))
    clear hb4
    go_wp2
    go_ret
    exact ⟨rfl, HB4.out⟩
  | false =>
    have HDO := Lib.hid (do_sync hdd)
    have HS := Lib.hid (sync_any B p D w2 HPD.out)
    go_wp2_with fail
    refine HS.out.mono ?_
    rintro e w3 ⟨rfl, hp3, hk3⟩
    rw [HDO.out] at hp3 ⊢
    by_cases hds : (dies D).dead = true
    · rw [if_pos hds]
      have HK3 := Lib.hid hk3.below
      clear hp3 hk3
      go_wp2_with fail
      refine (alive_any _).mono ?_
      rintro e w4 ⟨rfl, hb4⟩
      have HB3 := HB2.out.trans HK3.out
      have HB4 := Lib.hid ((HBB.out.trans (HB3.mono (by have := HWB.out; omega))).trans (hb4.mono (by have := HB3.size; have := HWB.out; have := HBE.out; omega)))
      clear hb4 HB3
      go_wp2
      go_ret
      exact ⟨rfl, HB4.out⟩
    · rw [if_neg hds] at hp3 ⊢
      obtain ⟨D0, hD0⟩ : ∃ D0, D0 = syncD (dies D) := ⟨_, rfl⟩
      rw [← hD0] at hp3
      have HF0 : Hid (D0.firm.length = 8) := Lib.hid (by rw [hD0]; show (cur (dies D)).length = 8; rw [cur_len, dies_firm]; exact HFL.out)
      have HW0 : Hid (D0.wait = []) := Lib.hid (by rw [hD0]; rfl)
      have HD0 : Hid (D0.dead = false) := Lib.hid (by rw [hD0]; show (dies D).dead = false; simpa using hds)
      have HP3 := Lib.hid hp3
      have HB3 := Lib.hid (HB2.out.trans hk3.below)
      clear hp3 hk3 hD0 hds hdd HDO HS HQ HPD HP
      have hb3a := box_below w3 (.cells #[.string ⟨#[]⟩, .string ⟨#[]⟩, .string ⟨#[]⟩, .string ⟨#[]⟩, .string ⟨#[]⟩, .string ⟨#[]⟩, .string ⟨#[]⟩, .string ⟨#[]⟩] 43)
      have HBS : Hid (B ≤ w3.heap.size) := Lib.hid (by have := HB3.out.size; have := HBE.out; omega)
      have HST : Hid (L1 w0 (w3.alloc (.cells #[.string ⟨#[]⟩, .string ⟨#[]⟩, .string ⟨#[]⟩, .string ⟨#[]⟩, .string ⟨#[]⟩, .string ⟨#[]⟩, .string ⟨#[]⟩, .string ⟨#[]⟩] 43)) B p w3.heap.size 0 D0 #[.string ⟨#[]⟩, .string ⟨#[]⟩, .string ⟨#[]⟩, .string ⟨#[]⟩, .string ⟨#[]⟩, .string ⟨#[]⟩, .string ⟨#[]⟩, .string ⟨#[]⟩]) := Lib.hid
        ⟨HB3.out.trans (hb3a.mono HBS.out), HP3.out.kept hb3a, new_block w3 _, rfl, fun i hi => absurd hi (by omega)⟩
      clear hb3a
      go_wp2
      go_loopw [51] (fun vi wr => ∃ (k : Nat) (cs : Array Value), k ≤ 8 ∧ vi = .int .i64 (k : Int) ∧ L1 w0 wr B p w3.heap.size k D0 cs) (fun vi _ => 8 - (intOf vi).toNat)
      case atStart => exact ⟨0, _, by omega, rfl, HST.out⟩
      case round =>
        obtain ⟨k, cs, hk, rfl, hf⟩ := hrel
        have HF := Lib.hid hf
        by_cases hlt : k < 8
        · have hk0 : (0 : Int) ≤ (k : Int) := by omega
          have hk1 : (k : Int) < 8 := by omega
          have HRA := Lib.hid (read_any _ p D0 (k : Int) wr hf.pd)
          have HDO := Lib.hid (do_read (D := D0) (n := k) HD0.out (by rw [HF0.out]; exact hlt))
          have hbr : B ≤ wr.heap.size := by have := hf.below.size; have := HBE.out; omega
          clear hf
          go_wp2_with fail
          refine HRA.out.mono ?_
          rintro e w7 ⟨A7, l7, c7, rfl, hr7, -, -, hb7, -⟩
          rw [HDO.out] at hr7 ⊢
          have hcv := conv_reads (c := c7) hr7
          have hbx := (hb7.block _ (lt_of_block HF.out.box)).trans HF.out.box
          have hfz := frozen_of_row w7 w3.heap.size k _ _ hbx
          have hcell := cell_of hbx (j := k) (Array.getElem?_eq_getElem (by rw [HF.out.eight.1]; exact hlt))
          have HNX := Lib.hid (l1_next HF.out hbr hb7 hlt HBS.out)
          clear hr7 hb7 hbx
          go_wp2
          go_roundw
          case rel => exact ⟨k + 1, _, by omega, rfl, HNX.out⟩
          case measure => simp [intOf] <;> omega
        · obtain rfl : k = 8 := by omega
          have hcd : cur D0 = D0.firm := by unfold cur; rw [HW0.out]; rfl
          have hb4 := box_below wr (.cells #[.bool false, .bool false, .bool false, .bool false, .bool false, .bool false, .bool false, .bool false] 44)
          have hbr : B ≤ wr.heap.size := by have := hf.below.size; have := HBE.out; omega
          have HE8 := Lib.hid hf.eight
          rw [hcd] at HE8
          have HST2 : Hid (L2 w0 (wr.alloc (.cells #[.bool false, .bool false, .bool false, .bool false, .bool false, .bool false, .bool false, .bool false] 44)) B p w3.heap.size wr.heap.size 0 D0.firm cs D0 #[.bool false, .bool false, .bool false, .bool false, .bool false, .bool false, .bool false, .bool false]) := Lib.hid
            ⟨hf.below.trans (hb4.mono hbr), hf.pd.kept hb4, (hb4.block _ (lt_of_block hf.box)).trans hf.box, new_block wr _, marks_new HW0.out, HF0.out, by rw [HW0.out]; exact Nat.zero_le _⟩
          have HBR := Lib.hid hbr
          obtain ⟨b14, hb14⟩ : ∃ b, b = wr.heap.size := ⟨_, rfl⟩
          rw [← hb14] at HBR HST2
          clear hf hb4 hbr hcd
          go_wp2
          rw [← hb14]
          clear hb14
          go_loopw [67] (fun vi wr => ∃ (k : Nat) (D : Dk) (ms : Array Value), k ≤ len2 ∧ vi = .int .i64 (k : Int) ∧ L2 w0 wr B p w3.heap.size b14 k D0.firm cs D ms) (fun vi _ => len2 - (intOf vi).toNat)
          case atStart => exact ⟨0, _, _, Nat.zero_le _, rfl, HST2.out⟩
          case round =>
            obtain ⟨k, D, ms, hk, rfl, hin⟩ := hrel
            have HIN := Lib.hid hin
            by_cases hlt : k < len2
            · obtain ⟨b, off, rfl, hbB, hc⟩ := (HO2.out.kept hin.below).2 (by omega)
              obtain ⟨o, ho⟩ : ∃ o, o = os2.getD k op0 := ⟨_, rfl⟩
              have hck := hc k hlt
              rw [← ho] at hck
              obtain ⟨s0, s1, s2, ⟨A, l, c, s3, hrd, hun⟩, hnb⟩ := hck
              have HRD := Lib.hid hrd
              have HUN := Lib.hid hun
              have HNB := Lib.hid hnb
              obtain ⟨ok, on, ot, ob⟩ := o
              simp only at s0 s1 s2 HRD HNB
              have hbr : B ≤ wr.heap.size := by have := hin.below.size; have := HBE.out; omega
              have HBW := Lib.hid hbr
              have hba : Below wr.heap.size wr (wr.alloc (.cells #[.int .i64 ok, .int .i64 on, .int .i64 ot, .slice A l c] 46)) := box_below _ _
              have HNO := Lib.hid ((hin.kept hbr hba).succ)
              have hk0 : (0 : Int) ≤ (k : Int) := by omega
              have hk1 : (k : Int) < (len2 : Int) := by omega
              clear hc ho hrd hun hnb hbB hbr
              by_cases g3 : 3 < ok
              · clear hin hba
                go_wp2
                go_roundw
                case rel => exact ⟨k + 1, _, _, by omega, rfl, HNO.out⟩
                case measure => simp [intOf] <;> omega
              by_cases g0 : ok < 0
              · clear hin hba
                go_wp2
                go_roundw
                case rel => exact ⟨k + 1, _, _, by omega, rfl, HNO.out⟩
                case measure => simp [intOf] <;> omega
              have HW2 : Hid (D.wait.length ≤ 100000) := Lib.hid (by have := hin.wait; omega)
              by_cases hmk : ok = 0 ∧ 0 ≤ on ∧ on < 8
              · obtain ⟨rfl, hn0, hn8⟩ := hmk
                obtain ⟨n, rfl⟩ : ∃ n : Nat, on = (n : Int) := ⟨on.toNat, by omega⟩
                have hfz := frozen_of_row wr b14 n _ _ hin.mks
                obtain ⟨sv, hs1, -⟩ := hin.marks.2 n (by omega)
                have hcell := cell_of hin.mks (j := n) hs1
                have hml := lt_of_block hin.mks
                have hmk2 := hin.mark HBR.out n
                have hbc : Below (wr.setCell ⟨b14, n, none⟩ (.bool true)).heap.size (wr.setCell ⟨b14, n, none⟩ (.bool true)) ((wr.setCell ⟨b14, n, none⟩ (.bool true)).alloc (.cells #[.int .i64 0, .int .i64 (n : Int), .int .i64 ot, .slice A l c] 46)) := box_below _ _
                have HLM := Lib.hid (hmk2.kept (by simp; exact HBW.out) hbc)
                have HBN := Lib.hid (((Below.refl B wr).setCell (p := ⟨b14, n, none⟩) HBR.out (.bool true)).trans (hbc.mono (by simp; exact HBW.out)))
                have HM8 : Hid ((ms.set! n (.bool true))[((n : Nat) : Int).toNat]? = some (.bool true)) := Lib.hid (set_at (by have := hin.marks.1; omega) _)
                clear hin hba hmk2 hbc hs1
                go_upto_region 20 with fail
                obtain ⟨w5, hw5⟩ : ∃ w5, w5 = ((wr.setCell ⟨b14, n, none⟩ (.bool true)).alloc (.cells #[.int .i64 0, .int .i64 (n : Int), .int .i64 ot, .slice A l c] 46)) := ⟨_, rfl⟩
                have hbo : w5.heap[wr.heap.size]? = some (.cells #[.int .i64 0, .int .i64 (n : Int), .int .i64 ot, .slice A l c] 46 (0, 0)) := by rw [hw5]; have := new_block (wr.setCell ⟨b14, n, none⟩ (.bool true)) (.cells #[.int .i64 0, .int .i64 (n : Int), .int .i64 ot, .slice A l c] 46); simpa using this
                rw [← hw5] at HLM HBN ⊢
                clear hw5 s0 s1 s2 s3 hfz hcell hml
                have m0 := cell_of hbo (j := 0) rfl
                have m1 := cell_of hbo (j := 1) rfl
                have m2 := cell_of hbo (j := 2) rfl
                have m3 := cell_of hbo (j := 3) rfl
                have HDS := Lib.hid (doesp_any B p D 0 (n : Int) ot A l c ob w5 HLM.out.pd (by have := HLM.out.below.size; have := HBE.out; omega) HW2.out HNB.out (fun w' hk => HRD.out.keptAt HUN.out (HBN.out.trans hk.below)) (by decide) (by decide))
                clear hbo
                go_wp2_with fail
                refine HDS.out.mono ?_
                rintro e w7 ⟨ta, te, rfl, hp7, hk7⟩
                have HNX := Lib.hid (HLM.out.calls hp7 hk7 (by decide) (fun _ _ _ => HM8.out))
                clear hp7 hk7 m0 m1 m2 m3
                go_wp2
                go_roundw
                case rel => first | exact ⟨k + 1, _, _, by omega, rfl, HNX.out⟩ | ((repeat apply Exists.intro); exact ⟨⟨k + 1, _, _, by omega, rfl, HNX.out⟩, rfl⟩)
                case measure => simp [intOf] <;> omega
              have HLM := Lib.hid (hin.kept HBW.out hba)
              have HBN := Lib.hid (hba.mono HBW.out)
              have HDS := Lib.hid (doesp_any B p D ok on ot A l c ob _ HLM.out.pd (by have := HLM.out.below.size; have := HBE.out; omega) HW2.out HNB.out (fun w' hk => HRD.out.keptAt HUN.out (HBN.out.trans hk.below)) (by omega) (by omega))
              clear hin hba
              by_cases t1 : ok = 0
              · subst t1
                by_cases t2 : on < 0
                · go_wp2_with fail
                  refine HDS.out.mono ?_
                  rintro e w7 ⟨ta, te, rfl, hp7, hk7⟩
                  have HNX := Lib.hid (HLM.out.calls hp7 hk7 (by omega) (fun h1 h2 h3 => absurd ⟨by first | exact h1 | trivial, h2, h3⟩ hmk))
                  clear hp7 hk7
                  go_wp2
                  go_roundw
                  case rel => first | exact ⟨k + 1, _, _, by omega, rfl, HNX.out⟩ | ((repeat apply Exists.intro); exact ⟨⟨k + 1, _, _, by omega, rfl, HNX.out⟩, rfl⟩)
                  case measure => simp [intOf] <;> omega
                have t3 : 8 ≤ on := by omega
                go_wp2_with fail
                refine HDS.out.mono ?_
                rintro e w7 ⟨ta, te, rfl, hp7, hk7⟩
                have HNX := Lib.hid (HLM.out.calls hp7 hk7 (by omega) (fun h1 h2 h3 => absurd ⟨by first | exact h1 | trivial, h2, h3⟩ hmk))
                clear hp7 hk7
                go_wp2
                go_roundw
                case rel => first | exact ⟨k + 1, _, _, by omega, rfl, HNX.out⟩ | ((repeat apply Exists.intro); exact ⟨⟨k + 1, _, _, by omega, rfl, HNX.out⟩, rfl⟩)
                case measure => simp [intOf] <;> omega
              · go_wp2_with fail
                refine HDS.out.mono ?_
                rintro e w7 ⟨ta, te, rfl, hp7, hk7⟩
                have HNX := Lib.hid (HLM.out.calls hp7 hk7 (by omega) (fun h1 h2 h3 => absurd ⟨by first | exact h1 | trivial, h2, h3⟩ hmk))
                clear hp7 hk7
                go_wp2
                go_roundw
                case rel => first | exact ⟨k + 1, _, _, by omega, rfl, HNX.out⟩ | ((repeat apply Exists.intro); exact ⟨⟨k + 1, _, _, by omega, rfl, HNX.out⟩, rfl⟩)
                case measure => simp [intOf] <;> omega
            · obtain rfl : len2 = k := by omega
              have hx := (hin.below.block _ HWB.out).trans HX.out
              have x0 := cell_of hx (j := 0) rfl
              have x1 := cell_of hx (j := 1) rfl
              have HBW : Hid (B ≤ wr.heap.size) := Lib.hid (by have := hin.below.size; have := HBE.out; omega)
              have HCR := Lib.hid (crash_any B p D x y wr hin.pd (by rw [hin.firm]; decide) (by have := hin.wait; omega))
              clear hin hx
              go_wp2_with fail
              refine HCR.out.mono ?_
              rintro e w8 ⟨q, rfl, hp8, hb8⟩
              have HB0 := HBB.out.trans (HIN.out.below.mono (by have := HWB.out; omega))
              have HST3 : Hid (L3 w w8 wr.heap.size q w3.heap.size b14 (crash D x y) cs ms) := Lib.hid
                ⟨HB0.trans (hb8.mono HB0.size), hp8, (hb8.block _ (lt_of_block HIN.out.box)).trans HIN.out.box, (hb8.block _ (lt_of_block HIN.out.mks)).trans HIN.out.mks⟩
              have HC8 : Hid ((crash D x y).firm.length = 8) := Lib.hid ((crash_length _ _ _ _).trans HIN.out.firm)
              obtain ⟨Q, hQ⟩ : ∃ Q, Q = wr.heap.size := ⟨_, rfl⟩
              rw [← hQ] at HST3
              clear hp8 hb8 HB0 x0 x1
              go_wp2
              go_loopw [107] (fun vi w9 => ∃ k : Nat, k ≤ 8 ∧ vi = .int .i64 (k : Int) ∧ L3 w w9 Q q w3.heap.size b14 (crash D x y) cs ms) (fun vi _ => 8 - (intOf vi).toNat)
              case atStart => exact ⟨0, by omega, rfl, HST3.out⟩
              case round =>
                obtain ⟨k, hk, rfl, hf⟩ := hrel
                have HF := Lib.hid hf
                by_cases hlt : k < 8
                · have hk0 : (0 : Int) ≤ (k : Int) := by omega
                  have hk1 : (k : Int) < 8 := by omega
                  have HRA := Lib.hid (read_any _ q (crash D x y) (k : Int) _ hf.pd)
                  have HDO := Lib.hid (do_read (D := crash D x y) (n := k) rfl (by rw [HC8.out]; exact hlt))
                  clear hf
                  go_wp2_with fail
                  refine HRA.out.mono ?_
                  rintro e w7 ⟨A7, l7, c7, rfl, hr7, -, -, hb7, -⟩
                  rw [HDO.out] at hr7 ⊢
                  have hcvA := fun n : Nat => conv_reads (W := w7.drewN n) (c := c7) (hr7.kept (below_drewN (Below.refl _ _) n))
                  have hcv0 := conv_reads (c := c7) hr7
                  have hkx := HF.out.kept hb7
                  have HNX : Hid (∀ n : Nat, L3 w (w7.drewN n) Q q w3.heap.size b14 (crash D x y) cs ms) := Lib.hid (fun n => hkx.kept (below_drewN (Below.refl _ _) n))
                  obtain ⟨s, hs1, hs2⟩ := HIN.out.marks.2 k hlt
                  have c14 := cell_of hkx.mks (j := k) hs1
                  have c10 := cell_of hkx.box (j := k) (HE8.out.2 k hlt)
                  obtain ⟨S, hS⟩ : ∃ S, S = strOfNums (D0.firm.getD k []) := ⟨_, rfl⟩
                  rw [← hS] at c10
                  cases s with
                  | true =>
                    clear hr7 hb7 hkx hs1 hs2 hS
                    go_wp2
                    go_quiet (fail)
                    go_wp2
                    go_roundw
                    case rel => exact ⟨k + 1, by omega, rfl, HNX.out _⟩
                    case measure => simp [intOf] <;> omega
                  | false =>
                    rw [clean_crash (hs2 rfl), ← hS] at hcv0
                    have hcv : ∀ n : Nat, (convert 36 9 (.slice A7 l7 c7)).run Try.prog (w7.drewN n) = .ok (.string S) (w7.drewN n) := fun n => by rw [hcvA n, clean_crash (hs2 rfl), ← hS]
                    clear hcvA hr7 hb7 hkx hs1 hs2 hS
                    go_wp2
                    go_quiet (fail)
                    go_wp2
                    go_roundw
                    case rel => exact ⟨k + 1, by omega, rfl, HNX.out _⟩
                    case measure => simp [intOf] <;> omega
                · obtain rfl : k = 8 := by omega
                  clear hf
                  go_wp2_with fail
                  refine (alive_any _).mono ?_
                  rintro e w7 ⟨rfl, hb7⟩
                  have HB7 := Lib.hid (HF.out.below.trans (hb7.mono HF.out.below.size))
                  clear hb7
                  go_wp2
                  go_ret
                  exact ⟨rfl, HB7.out⟩
end Go.Proofs.Ytogofgfdkkjnlaa
