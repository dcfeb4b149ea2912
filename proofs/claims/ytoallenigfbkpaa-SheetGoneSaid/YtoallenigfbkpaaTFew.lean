/-
  What the law's few and alive return. No condition.
-/
import Derived.Test.YtoallenigfbkpaaTOps
import Derived.Lib.SlBytesConst
namespace Go.Proofs.Ytoallenigfbkpaa
set_option maxRecDepth 100000
open Go.ChangeShapes Go.WideShapes Go.ChangeAt Go.RowKit Go.Proofs.Sg

def FwPost (w : World) (os : List Opr) (e : Ending) (w' : World) : Prop := ∃ r, e = .returned (.bool r) ∧ (r = true → (∀ o ∈ os, o.b.length ≤ 3000) ∧ os.length ≤ 60) ∧ Below w.heap.size w w'
set_option maxHeartbeats 8000000 in
theorem few_any {w : World} {B : Nat} {ad : Option Addr} {len cap : Nat} {os : List Opr} (h : OReads w B ad len os) (hB : B ≤ w.heap.size) : Calls Try.prog 10 #[.slice ad len cap] w (FwPost w os) := by
  have HO := Lib.hid h
  have HBB := Lib.hid hB
  have HL := Lib.hid h.1
  have HFAL : Hid (∀ w', Below w.heap.size w w' → FwPost w os (.returned (.bool false)) w') := Lib.hid (fun w' hb => ⟨false, rfl, fun h => (by cases h), hb⟩)
  clear h hB
  by_cases h60 : 60 < len
  · have h60' : decide ((60 : Int) < (len : Int)) = true := by simp only [decide_eq_true_eq]; omega
    have h60'' : (60 : Int) < (len : Int) := by omega
    clear h60
    go_enter Try.func10, Try.ntmps10
    go_wp2_with fail
    go_ret
    exact HFAL.out _ (Below.refl _ _)
  · have h60' : decide ((60 : Int) < (len : Int)) = false := by simp only [decide_eq_false_iff_not]; omega
    have h60'' : ¬ (60 : Int) < (len : Int) := by omega
    go_enter Try.func10, Try.ntmps10
    go_wp2_with fail
    go_loopw [10] (fun i wr => ∃ j : Nat, j ≤ len ∧ i = .int .i64 (j : Int) ∧ Hid (∀ i, i < j → (os.getD i op0).b.length ≤ 3000) ∧ Hid (Below w.heap.size w wr)) (fun i _ => len - (intOf i).toNat)
    case atStart => exact ⟨0, Nat.zero_le _, rfl, Lib.hid (fun i hi => by omega), Lib.hid (Below.refl _ _)⟩
    case round =>
      obtain ⟨j, hj, rfl, HS, HX⟩ := hrel
      by_cases hlt : j < len
      · obtain ⟨b, off, rfl, -, hc⟩ := (HO.out.kept (HX.out.mono HBB.out)).2 (by omega)
        obtain ⟨e0, e1, e2, ⟨A, l, c, e3, hr, -⟩, -⟩ := hc j hlt
        have hlen := hr.len
        obtain ⟨o, ho⟩ : ∃ o, os.getD j op0 = o := ⟨_, rfl⟩
        rw [ho] at e0 e1 e2 hlen
        obtain ⟨kd, hkd⟩ : ∃ z, o.k = z := ⟨_, rfl⟩
        obtain ⟨p, hp⟩ : ∃ z, o.p = z := ⟨_, rfl⟩
        obtain ⟨n, hn⟩ : ∃ z, o.n = z := ⟨_, rfl⟩
        rw [hkd] at e0
        rw [hp] at e1
        rw [hn] at e2
        have hj0 : (0 : Int) ≤ (j : Int) := by omega
        have hji : (j : Int) < (len : Int) := by omega
        obtain ⟨j1, hj1⟩ : ∃ j1, j + 1 = j1 := ⟨_, rfl⟩
        have hwj : IntKind.i64.wrap ((j : Int) + 1) = (j1 : Int) := by rw [IntKind.wrap_i64]; omega
        have HJ1 : Hid (j < len ∧ j + 1 = j1) := Lib.hid ⟨hlt, hj1⟩
        have hb2 := HX.out.trans ((box_below wr (.cells #[.int .i64 kd, .int .i64 p, .int .i64 n, .slice A l c] 40)).mono HX.out.size)
        have HX2 := Lib.hid hb2
        obtain ⟨lI, hlI⟩ : ∃ z : Int, (l : Int) = z := ⟨_, rfl⟩
        have HNX : Hid (l ≤ 3000 → ∀ i, i < j1 → (os.getD i op0).b.length ≤ 3000) := Lib.hid (fun hl i hi => by
          by_cases h : i = j
          · subst h; rw [ho, hlen]; exact hl
          · exact HS.out i (by omega))
        by_cases c0 : 3000 < l
        · have c0' : decide ((3000 : Int) < (l : Int)) = true := by simp only [decide_eq_true_eq]; omega
          have c0'' : (3000 : Int) < (l : Int) := by omega
          clear hlt hj h60 hj1 hb2 hr hc ho hkd hp hn hlen
          go_wp2_with fail
          go_ret
          exact HFAL.out _ HX2.out
        · have c0' : decide ((3000 : Int) < (l : Int)) = false := by simp only [decide_eq_false_iff_not]; omega
          have c0'' : ¬ (3000 : Int) < (l : Int) := by omega
          by_cases c1 : 20000 < p
          · have c1' : decide (20000 < p) = true := by simp only [decide_eq_true_eq]; exact c1
            by_cases c2 : p < 1048576
            · have c2' : decide (p < 1048576) = true := by simp only [decide_eq_true_eq]; exact c2
              clear hlt hj h60 hj1 hb2 hr hc ho hkd hp hn hlen
              go_wp2_with fail
              go_ret
              exact HFAL.out _ HX2.out
            · have c2' : decide (p < 1048576) = false := by simp only [decide_eq_false_iff_not]; exact c2
              by_cases c3 : 20000 < n
              · have c3' : decide (20000 < n) = true := by simp only [decide_eq_true_eq]; exact c3
                by_cases c4 : n ≤ 1048576
                · have c4' : decide (n ≤ 1048576) = true := by simp only [decide_eq_true_eq]; exact c4
                  clear hlt hj h60 hj1 hb2 hr hc ho hkd hp hn hlen
                  go_wp2_with fail
                  go_ret
                  exact HFAL.out _ HX2.out
                · have c4' : decide (n ≤ 1048576) = false := by simp only [decide_eq_false_iff_not]; exact c4
                  have HN := Lib.hid (HNX.out (by omega))
                  clear hlt hj h60 hj1 hb2 hr hc ho hkd hp hn hlen
                  go_wp2_with fail
                  go_roundw
                  case rel => exact ⟨j1, by have := HJ1.out; omega, rfl, HN, HX2⟩
                  case measure => simp [intOf]; have := HJ1.out; omega
              · have c3' : decide (20000 < n) = false := by simp only [decide_eq_false_iff_not]; exact c3
                have HN := Lib.hid (HNX.out (by omega))
                clear hlt hj h60 hj1 hb2 hr hc ho hkd hp hn hlen
                go_wp2_with fail
                go_roundw
                case rel => exact ⟨j1, by have := HJ1.out; omega, rfl, HN, HX2⟩
                case measure => simp [intOf]; have := HJ1.out; omega
          · have c1' : decide (20000 < p) = false := by simp only [decide_eq_false_iff_not]; exact c1
            by_cases c3 : 20000 < n
            · have c3' : decide (20000 < n) = true := by simp only [decide_eq_true_eq]; exact c3
              by_cases c4 : n ≤ 1048576
              · have c4' : decide (n ≤ 1048576) = true := by simp only [decide_eq_true_eq]; exact c4
                clear hlt hj h60 hj1 hb2 hr hc ho hkd hp hn hlen
                go_wp2_with fail
                go_ret
                exact HFAL.out _ HX2.out
              · have c4' : decide (n ≤ 1048576) = false := by simp only [decide_eq_false_iff_not]; exact c4
                have HN := Lib.hid (HNX.out (by omega))
                clear hlt hj h60 hj1 hb2 hr hc ho hkd hp hn hlen
                go_wp2_with fail
                go_roundw
                case rel => exact ⟨j1, by have := HJ1.out; omega, rfl, HN, HX2⟩
                case measure => simp [intOf]; have := HJ1.out; omega
            · have c3' : decide (20000 < n) = false := by simp only [decide_eq_false_iff_not]; exact c3
              have HN := Lib.hid (HNX.out (by omega))
              clear hlt hj h60 hj1 hb2 hr hc ho hkd hp hn hlen
              go_wp2_with fail
              go_roundw
              case rel => exact ⟨j1, by have := HJ1.out; omega, rfl, HN, HX2⟩
              case measure => simp [intOf]; have := HJ1.out; omega
      · obtain rfl : j = len := by omega
        have hji : ¬ (j : Int) < (j : Int) := by omega
        have HE : Hid (FwPost w os (.returned (.bool true)) wr) := Lib.hid ⟨true, rfl, fun _ => ⟨fun o ho => by
          obtain ⟨i, hi, rfl⟩ := List.getElem_of_mem ho
          have := HS.out i (by rw [HL.out] at hi; exact hi)
          rwa [getD_eq _ hi] at this, by have := HL.out; omega⟩, HX.out⟩
        clear hlt hj h60
        go_wp2_with fail
        go_ret
        exact HE.out
/-! ### alive -/
def SA : Sh := wrI S0 40 [97, 98]
theorem alive_plain : ft 40 2 = true ∧ SA.n = 42 ∧ SA.K.length = 1 ∧ rd SA 39 9 = [0, 97, 98] := by
  refine ⟨by decide, by decide +kernel, by decide +kernel, by decide +kernel⟩
theorem sa_str : sB [0, 97, 98] = ⟨#[0, 97, 98]⟩ := by rfl
set_option maxHeartbeats 8000000 in
theorem alive_any (w : World) : Calls Try.prog 11 #[] w fun e w' => e = .returned (.bool true) ∧ Below w.heap.size w w' := by
  have HN := Lib.hid (new_any w)
  go_enter Try.func11, Try.ntmps11
  go_wp2_with fail
  refine HN.out.mono ?_
  rintro e w1 ⟨sp, mb, rfl, hs, hb⟩
  obtain ⟨w2, hw2⟩ : ∃ w2, w2 = w1.alloc (.cells #[.int .u8 97, .int .u8 98] 5 (2, 3)) := ⟨_, rfl⟩
  obtain ⟨g, hg⟩ : ∃ g, g = w1.heap.size := ⟨_, rfl⟩
  have hb2 : Below w1.heap.size w1 w2 := by rw [hw2]; exact box_below w1 _
  have hgg : w2.heap[g]? = some (.cells #[.int .u8 97, .int .u8 98] 5 (2, 3)) := by rw [hw2, hg]; exact new_block w1 _
  have hrd : Rd bcell 1 w2 (some ⟨g, 0, none⟩) 2 [97, 98] := ⟨rfl, fun _ => ⟨g, 0, rfl, fun i hi j v hv => by
    rw [cell_of_row w2 g _ _ _ _ hgg]
    rcases j with _ | j
    · rcases i with _ | _ | i
      · exact hv
      · exact hv
      · simp at hi; omega
    · cases hv⟩⟩
  have HWR := Lib.hid (write_any (hs.below hb2) 40 (by omega) hrd (c := 2) (by omega) (by omega))
  obtain ⟨a1, a2, a3, a4⟩ := alive_plain
  have hft : ft 40 (([97, 98] : List UInt8).length : Nat) = true := a1
  rw [hft] at HWR
  have HA : Hid (SA.n = 42 ∧ SA.K.length = 1 ∧ rd SA 39 9 = [0, 97, 98]) := Lib.hid ⟨a2, a3, a4⟩
  have HB : Hid (Below w.heap.size w w2) := Lib.hid (hb.trans (hb2.mono hb.size))
  have HSP : Hid (w.heap.size ≤ sp ∧ w.heap.size ≤ mb) := Lib.hid ⟨hs.gsp, hs.gmb⟩
  have HW2 := Lib.hid hw2
  have HG := Lib.hid hg
  clear hs hb hw2 hg hb2 hgg hrd a1 a2 a3 a4 hft
  have kc := fun (w : World) (C : Array Value) (n c : Nat) => Lib.run_convert_bytes_const (P := Try.prog) w 27 5 C n c Try.underlying27 Try.underlying5
  go_wp2_with fail
  rw [← HW2.out, ← HG.out]
  go_wp2_with fail
  refine HWR.out.mono ?_
  rintro e w3 ⟨rfl, hs3, hk3⟩
  change SW w3 w.heap.size sp mb SA at hs3
  have hsz := size_any hs3
  rw [HA.out.1] at hsz
  have hbl := blocks_any hs3
  rw [HA.out.2.1] at hbl
  have HSZ := Lib.hid hsz
  have HBL := Lib.hid hbl
  have HRE := Lib.hid (read_any hs3 39 9 (by omega))
  rw [HA.out.2.2] at HRE
  have HB3 : Hid (Below w.heap.size w w3) := Lib.hid (HB.out.trans (hk3.below HB.out.size HSP.out.1 HSP.out.2))
  clear hs3 hk3 hsz hbl
  go_wp2_with fail
  refine HSZ.out.mono ?_
  rintro e w' ⟨rfl, rfl⟩
  go_wp2_with fail
  refine HBL.out.mono ?_
  rintro e w' ⟨rfl, rfl⟩
  go_wp2_with fail
  refine HRE.out.mono ?_
  rintro e w4 ⟨v, rfl, hrow, hb4⟩
  obtain ⟨A, c, rfl, -⟩ := own_form hrow
  have hcv := conv_rd (c := c) (Rd.of_own (l := [0, 97, 98]) hrow (fun _ _ => rfl) (by omega))
  rw [sa_str] at hcv
  change (convert 27 9 (.slice A 3 c)).run Try.prog w4 = _ at hcv
  have HB4 : Hid (Below w.heap.size w w4) := Lib.hid (HB3.out.trans (hb4.mono HB3.out.size))
  clear hrow hb4
  go_wp2_with fail
  go_ret
  exact ⟨rfl, HB4.out⟩
end Go.Proofs.Ytoallenigfbkpaa
