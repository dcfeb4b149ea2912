/-
  What the document's own ten digits and Number are: the same as the program's. Conditions: the text has at most 2^20 bytes.
-/
import Derived.Test.YtflgemlhocjipaaGreatDoorRBase
import Derived.Test.YtflgemlhocjipaaGreatDoorNumber
import Derived.Laws.BytesArg
namespace Go.Proofs.YtflgemlhocjipaaGreatDoor
set_option maxRecDepth 100000
open Go.ChangeShapes Go.WideShapes Go.ChangeAt Go.RowKit Go.Proofs.Zn

theorem run_make5 (w : World) : (Instr.makeSlice 54 (.int .i64 10) (.int .i64 10)).run Tryz.prog w = .ok (.slice (some ⟨w.heap.size, 0, none⟩) 10 10) (w.alloc (.cells (rowOf (.int .u8 0) g8 []) 5)) :=
  (run_make_row' 54 5 (.int .u8 0) 1 Tryz.underlying54 (by kernel_rfl) rfl .i64 .i64 10 (by omega) (by omega) w).trans (by rw [made_row])
theorem row_next8 {z : Value} {D : Txt} {j : Nat} (h : j + D.length = 9) (m : Nat) : (rowOf z g8 D).setIfInBounds j (.int .u8 (48 + (m : Int) % 10)) = rowOf z g8 (dg m :: D) := by
  rw [← row_set h]
  congr 1
  unfold g8
  rw [dg_nat]
  rfl
theorem conv_row8 (n : Nat) (w : World) : (convert 54 9 (.slice (some ⟨w.heap.size, 0, none⟩) 10 10)).run Tryz.prog (w.alloc (.cells (rowOf (.int .u8 0) g8 (ten n)) 5)) = .ok (.string (B (ten n))) (w.alloc (.cells (rowOf (.int .u8 0) g8 (ten n)) 5)) := by
  have hl : (ten n).length = 10 := tenK_length _ _
  have e := run_convert_bytes_arg (P := Tryz.prog) (w.alloc (.cells (rowOf (.int .u8 0) g8 (ten n)) 5)) 54 5 Tryz.underlying54 Tryz.underlying5 w.heap.size 0 10 10 ((ten n).map fun c => (c.toNat : Int)) (by simp [hl]) (fun j hj => by
    have hj' : j < (ten n).length := by rw [hl]; exact hj
    rw [World.cell?_alloc_new, Nat.zero_add]
    unfold rowOf
    rw [hl, List.getElem?_toArray, Nat.sub_self, List.replicate_zero, List.nil_append, List.getElem?_map, List.getD_eq_getElem?_getD, List.getElem?_map, List.getElem?_eq_getElem hj']
    rfl) 9 Tryz.underlying9
  rw [show strOfNums ((ten n).map fun c => (c.toNat : Int)) = B (ten n) by
    refine congrArg (fun l : Txt => (⟨l.toArray⟩ : ByteArray)) ?_
    rw [List.map_map]
    conv => rhs; rw [← List.map_id (ten n)]
    refine List.map_congr_left fun c _ => ?_
    simp] at e
  exact e
set_option maxHeartbeats 2000000 in
theorem rten_any (n : Nat) (w : World) (hn : n ≤ 9999999999) : Calls Tryz.prog 205 #[.int .i64 n] w fun e w' => e = .returned (.string (B (ten n))) ∧ Below w.heap.size w w' := by
  have hmk := run_make5
  go_enter Tryz.func205, Tryz.ntmps205
  go_wp2_with fail
  clear hmk
  go_loopw [0, 4] (fun n0 i wr => ∃ (k m : Nat) (D : Txt), i = .int .i64 (9 - (k : Int)) ∧ n0 = .int .i64 m ∧ m ≤ 9999999999 ∧ k + D.length = 2 * k ∧ k ≤ 10 ∧ wr = w.alloc (.cells (rowOf (.int .u8 0) g8 D) 5) ∧ Hid (So n k m D)) (fun _ i _ => (intOf i + 1).toNat)
  case atStart => exact ⟨0, n, [], rfl, rfl, hn, rfl, by omega, rfl, Lib.hid (so_start n)⟩
  case round =>
    obtain ⟨k, m, D, rfl, rfl, hm, hkD, hk, rfl, HS⟩ := hrel
    by_cases hlt : k < 10
    · obtain ⟨j, hj⟩ : ∃ j : Nat, 9 - D.length = j := ⟨_, rfl⟩
      have hjd : j + D.length = 9 := by omega
      have hj1 : (9 : Int) - (k : Int) = (j : Int) := by omega
      have hj9 : (j : Int) < 10 := by omega
      have hget : (rowOf (.int .u8 0) g8 D)[j]? = some (.int .u8 0) := row_get hjd
      rw [hj1]
      have HJ := Lib.hid hj1
      clear hj hj1
      go_wp2_with fail
      go_roundw
      case rel => exact ⟨k + 1, m / 10, dg m :: D, by congr 1; have := HJ.out; omega, by congr 1, by omega, by simp; omega, by omega, by rw [row_next8 hjd m], Lib.hid (so_step HS.out hlt)⟩
      case measure => simp [intOf]
    · have hk10 : k = 10 := by omega
      subst hk10
      have HD := so_end HS.out
      subst HD
      have hcv : (convert 54 9 (.slice (some ⟨w.heap.size, 0, none⟩) 10 10)).run Tryz.prog (w.alloc (.cells (rowOf (.int .u8 0) g8 (ten n)) 5)) = .ok (.string (B (ten n))) (w.alloc (.cells (rowOf (.int .u8 0) g8 (ten n)) 5)) := conv_row8 n w
      rw [show (9 : Int) - ((10 : Nat) : Int) = -1 by rfl]
      go_wp2_with fail
      go_ret
      exact ⟨rfl, box_below _ _⟩
theorem numOk_root {n : Int} : numOk [47] n = false := numOk_no (fun h => by have := h.1; rw [show depth [47] = 0 by rfl] at this; omega)
theorem depth_pos {l : Txt} (h : l ≠ [47]) (hv : valid l = true) : 1 ≤ depth l := by
  obtain ⟨ps, hn⟩ := valid_some hv
  rw [depth_some hn]
  have := (names_tail hn h).2
  have : 1 ≤ ps.length := by rw [this]; exact List.length_pos_iff.2 (split_ne _)
  omega
theorem numOk_invalid {l : Txt} {n : Int} (h : valid l = false) : numOk l n = false := numOk_no (fun hh => by
  have := valid_depth l
  rw [h] at this
  have := of_decide_eq_false this.symm
  omega)
set_option maxHeartbeats 1000000 in
theorem rnumber_first (s : ByteArray) (n : Int) (w : World) (hs : s.size ≤ 1048576) (h : ¬ (L s ≠ [47] ∧ valid (L s) = true ∧ 0 ≤ n ∧ n ≤ 9999999999)) :
    Calls Tryz.prog 191 #[.string s, .int .i64 n] w fun e w' => e = .returned (.tuple #[.string ByteArray.empty, .bool false]) ∧ Below w.heap.size w w' := by
  by_cases h0 : L s = [47]
  · have q : (s.toList == [47]) = true := by rw [toL]; simpa using h0
    clear h0 h
    go_enter Tryz.func191, Tryz.ntmps191
    go_wp2_with fail
    go_ret2
    exact ⟨rfl, Below.refl _ _⟩
  have q : (s.toList == [47]) = false := by rw [toL]; simpa using h0
  have hs2 : s.size ≤ 2097152 := by omega
  cases hv : valid (L s)
  · have HV := Lib.hid hv
    clear h0 h hv
    go_enter Tryz.func191, Tryz.ntmps191
    go_wp2_with fail
    refine (rvalid_any s _ hs2).mono ?_
    rintro e w1 ⟨rfl, hb⟩
    rw [HV.out]
    have HB := Lib.hid hb
    clear hb
    go_wp2_with fail
    go_ret2
    exact ⟨rfl, HB.out⟩
  have HV := Lib.hid hv
  by_cases h2 : n < 0
  · clear h0 h hv
    go_enter Tryz.func191, Tryz.ntmps191
    go_wp2_with fail
    refine (rvalid_any s _ hs2).mono ?_
    rintro e w1 ⟨rfl, hb⟩
    rw [HV.out]
    have HB := Lib.hid hb
    clear hb
    go_wp2_with fail
    go_ret2
    exact ⟨rfl, HB.out⟩
  · have h3 : 9999999999 < n := by
      rcases Int.lt_or_le 9999999999 n with h3 | h3
      · exact h3
      · exact absurd ⟨h0, hv, by omega, h3⟩ h
    clear h0 h hv
    go_enter Tryz.func191, Tryz.ntmps191
    go_wp2_with fail
    refine (rvalid_any s _ hs2).mono ?_
    rintro e w1 ⟨rfl, hb⟩
    rw [HV.out]
    have HB := Lib.hid hb
    clear hb
    go_wp2_with fail
    go_ret2
    exact ⟨rfl, HB.out⟩
set_option maxHeartbeats 2000000 in
theorem rnumber_then (s : ByteArray) (n : Nat) (w : World) (hs : s.size ≤ 1048576) (h0 : L s ≠ [47]) (hv : valid (L s) = true) (hn : n ≤ 9999999999) :
    Calls Tryz.prog 191 #[.string s, .int .i64 n] w fun e w' => e = .returned (.tuple #[.string (B (number (L s) n)), .bool (numOk (L s) n)]) ∧ Below w.heap.size w w' := by
  have h1 := depth_pos h0 hv
  have hvv : valid (L s ++ ten n) = numOk (L s) n := by
    unfold numOk
    rw [decide_eq_true h1, decide_eq_true (show (0 : Int) ≤ n by omega), decide_eq_true (show (n : Int) ≤ 9999999999 by omega)]
    simp
  have q : (s.toList == [47]) = false := by rw [toL]; simpa using h0
  have hs2 : s.size ≤ 2097152 := by omega
  have HV := Lib.hid hv
  have hl : (ten n).length = 10 := tenK_length _ _
  have hsum : ∀ w, (Op.stringOp .add s (B (ten n))).run Tryz.prog w = .ok (.string (B (L s ++ ten n))) w := add_any _ _ _ (by rw [LB, LB]) (by have := B_size (ten n); omega)
  have hsz : (B (L s ++ ten n)).size ≤ 2097152 := by rw [B_size, List.length_append, hl, L_len]; omega
  cases hk : numOk (L s) n
  · rw [number_no hk]
    rw [hk] at hvv
    have HVV := Lib.hid hvv
    clear hv hvv hk hl h0 h1
    go_enter Tryz.func191, Tryz.ntmps191
    go_wp2_with fail
    refine (rvalid_any s _ hs2).mono ?_
    rintro e w1 ⟨rfl, hb⟩
    rw [HV.out]
    have HB := Lib.hid hb
    clear hb
    go_wp2_with fail
    refine (rten_any _ _ hn).mono ?_
    rintro e w2 ⟨rfl, hb⟩
    have HB2 := Lib.hid (HB.out.trans (hb.mono HB.out.size))
    clear hb
    go_wp2_with fail
    refine (rvalid_any _ _ hsz).mono ?_
    rintro e w3 ⟨rfl, hb⟩
    rw [LB, HVV.out]
    have HB3 := Lib.hid (HB2.out.trans (hb.mono HB2.out.size))
    clear hb
    go_wp2_with fail
    go_ret2
    exact ⟨rfl, HB3.out⟩
  · have HN := Lib.hid (number_yes hk)
    rw [hk] at hvv
    have HVV := Lib.hid hvv
    clear hv hvv hk hl h0 h1
    go_enter Tryz.func191, Tryz.ntmps191
    go_wp2_with fail
    refine (rvalid_any s _ hs2).mono ?_
    rintro e w1 ⟨rfl, hb⟩
    rw [HV.out]
    have HB := Lib.hid hb
    clear hb
    go_wp2_with fail
    refine (rten_any _ _ hn).mono ?_
    rintro e w2 ⟨rfl, hb⟩
    have HB2 := Lib.hid (HB.out.trans (hb.mono HB.out.size))
    clear hb
    go_wp2_with fail
    refine (rvalid_any _ _ hsz).mono ?_
    rintro e w3 ⟨rfl, hb⟩
    rw [LB, HVV.out]
    have HB3 := Lib.hid (HB2.out.trans (hb.mono HB2.out.size))
    clear hb
    go_wp2_with fail
    refine (rten_any _ _ hn).mono ?_
    rintro e w4 ⟨rfl, hb⟩
    have HB4 := Lib.hid (HB3.out.trans (hb.mono HB3.out.size))
    clear hb
    go_wp2_with fail
    go_ret2
    exact ⟨by rw [HN.out]; rfl, HB4.out⟩
theorem rnumber_any (s : ByteArray) (n : Int) (w : World) (hs : s.size ≤ 1048576) :
    Calls Tryz.prog 191 #[.string s, .int .i64 n] w fun e w' => e = .returned (.tuple #[.string (B (number (L s) n)), .bool (numOk (L s) n)]) ∧ Below w.heap.size w w' := by
  by_cases h : L s ≠ [47] ∧ valid (L s) = true ∧ 0 ≤ n ∧ n ≤ 9999999999
  · obtain ⟨h0, hv, h2, h3⟩ := h
    obtain ⟨m, rfl⟩ := Int.eq_ofNat_of_zero_le h2
    exact rnumber_then s m w hs h0 hv (by omega)
  · have hk : numOk (L s) n = false := by
      by_cases h0 : L s = [47]
      · rw [h0]; exact numOk_root
      · cases hv : valid (L s)
        · exact numOk_invalid hv
        · exact numOk_no (fun hh => h ⟨h0, hv, hh.2⟩)
    rw [hk, number_no hk]
    exact rnumber_first s n w hs h
end Go.Proofs.YtflgemlhocjipaaGreatDoor
