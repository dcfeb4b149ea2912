/-
  Two texts, one behind the other. Condition: their lengths.
  What the program and the document write of a number in ten digits: the same. Condition: the number is 0 to 9999999999.
  What Number returns of any path and number, and Cut of what Number made. Conditions: the text's length.
-/
import Derived.Test.YtflgemlhocjipaaGreatDoorIter
import Derived.Test.YtflgemlhocjipaaGreatDoorMath3
import Derived.Laws.Concat
import Derived.Laws.Cover4
import Derived.IntWalk
namespace Go.Proofs.YtflgemlhocjipaaGreatDoor
open Go.ChangeShapes Go.WideShapes Go.ChangeAt Go.RowKit Go.Proofs.Zn

theorem B_add (s t : ByteArray) : s ++ t = B (L s ++ L t) := by
  have h := ByteArray.mk_append_mk (L s) (L t)
  rw [show ByteArray.mk (L s).toArray = s from BL s, show ByteArray.mk (L t).toArray = t from BL t] at h
  exact h
theorem add_any (s t r : ByteArray) (h : L s ++ L t = L r) (hl : s.size + t.size ≤ 9223372036854775807) (w : World) : (Op.stringOp .add s t).run Tryz.prog w = .ok (.string r) w := by
  have e := run_string_add_sum (P := Tryz.prog) (w := w) s t hl
  rw [B_add, h, BL] at e
  exact e
end Go.Proofs.YtflgemlhocjipaaGreatDoor
namespace Go.Proofs.YtflgemlhocjipaaGreatDoor
open Go.ChangeShapes Go.WideShapes Go.ChangeAt Go.RowKit Go.Proofs.Zn

theorem of_list {x : ByteArray} {l : Txt} (h : x.data.toList = l) : x = B l := by subst h; exact (BL x).symm
theorem enc_nat (r : Nat) (h : r < 128) : (Utf8.encode (r : Int)).data.toList = [UInt8.ofNat r] := by
  have v : Utf8.valid (r : Int) = true := by simp [Utf8.valid]; omega
  simp [Utf8.encode, v, h]
theorem enc_one (c : UInt8) (h : c.toNat < 128) : Utf8.encode (c.toNat : Int) = B [c] :=
  of_list ((enc_nat c.toNat h).trans (congrArg (fun x => [x]) UInt8.ofNat_toNat))
theorem runes_bytes (D : Txt) (h : dig D) : runesBytes (D.map fun c => (c.toNat : Int)) = B D := by
  have key : ∀ (D : Txt) (r : ByteArray), dig D → (D.map fun c => (c.toNat : Int)).foldl (fun r n => r ++ Utf8.encode n) r = B (L r ++ D) := by
    intro D
    induction D with
    | nil => intro r _; rw [List.append_nil]; exact (BL r).symm
    | cons c t ih =>
      intro r hd
      have hc := hd c (by simp)
      rw [List.map_cons, List.foldl_cons, ih _ (fun x hx => hd x (by simp [hx])), enc_one c (by omega), B_add r (B [c])]
      simp only [LB]
      simp
  exact key D ByteArray.empty h
/-- Digits so far, from the last one on. -/
def So (n k m : Nat) (D : Txt) : Prop := k ≤ 10 ∧ D.length = k ∧ tenK (10 - k) m ++ D = ten n
theorem so_start (n : Nat) : So n 0 n [] := ⟨by omega, rfl, by simp [ten]⟩
theorem so_step {n k m : Nat} {D : Txt} (h : So n k m D) (hk : k < 10) : So n (k + 1) (m / 10) (dg m :: D) := by
  obtain ⟨_, h1, h2⟩ := h
  refine ⟨by omega, by simp [h1], ?_⟩
  rw [← h2, show 10 - k = (10 - (k + 1)) + 1 by omega, tenK]
  simp
theorem so_end {n m : Nat} {D : Txt} (h : So n 10 m D) : D = ten n := by
  have := h.2.2
  simpa [tenK] using this
/-- A row of ten that is filled from its end. -/
def rowOf (z : Value) (g : UInt8 → Value) (D : Txt) : Array Value := (List.replicate (10 - D.length) z ++ D.map g).toArray
theorem row_get {z : Value} {g : UInt8 → Value} {D : Txt} {j : Nat} (h : j + D.length = 9) : (rowOf z g D)[j]? = some z := by
  unfold rowOf
  rw [List.getElem?_toArray, List.getElem?_append_left (by simp; omega), List.getElem?_replicate, if_pos (by omega)]
theorem row_set {z : Value} {g : UInt8 → Value} {D : Txt} {j : Nat} (h : j + D.length = 9) (c : UInt8) : (rowOf z g D).setIfInBounds j (g c) = rowOf z g (c :: D) := by
  unfold rowOf
  rw [List.setIfInBounds_toArray, List.set_append, if_pos (by simp; omega), show 10 - D.length = j + 1 by omega, List.length_cons, show 10 - (D.length + 1) = j by omega, List.replicate_succ', List.set_append, if_neg (by simp)]
  simp
def g32 (c : UInt8) : Value := .int .i32 c.toNat
def g8 (c : UInt8) : Value := .int .u8 c.toNat
theorem made_any (z : Value) (N : Nat) : (List.replicate N z).toArray = madeCells #[z] N := by
  apply Array.ext
  · simp [madeCells]
  · intro i h1 h2
    simp [madeCells, Nat.mod_one]
theorem made_row (z : Value) (g : UInt8 → Value) : madeCells #[z] 10 = rowOf z g [] := by
  rw [← made_any]; simp only [rowOf, List.length_nil, List.map_nil, List.append_nil, Nat.sub_zero]
theorem run_make21 (w : World) : (Instr.makeSlice 286 (.int .i64 10) (.int .i64 10)).run Tryz.prog w = .ok (.slice (some ⟨w.heap.size, 0, none⟩) 10 10) (w.alloc (.cells (rowOf (.int .i32 0) g32 []) 21)) :=
  (run_make_row' 286 21 (.int .i32 0) 4 Tryz.underlying286 (by kernel_rfl) rfl .i64 .i64 10 (by omega) (by omega) w).trans (by rw [made_row])
theorem row_next {z : Value} {D : Txt} {j : Nat} (h : j + D.length = 9) (m : Nat) : (rowOf z g32 D).setIfInBounds j (.int .i32 (48 + (m : Int) % 10)) = rowOf z g32 (dg m :: D) := by
  rw [← row_set h]
  congr 1
  unfold g32
  rw [dg_nat]
  rfl
theorem conv_row (n : Nat) (w : World) : (convert 286 9 (.slice (some ⟨w.heap.size, 0, none⟩) 10 10)).run Tryz.prog (w.alloc (.cells (rowOf (.int .i32 0) g32 (ten n)) 21)) = .ok (.string (B (ten n))) (w.alloc (.cells (rowOf (.int .i32 0) g32 (ten n)) 21)) := by
  have hl : (ten n).length = 10 := tenK_length _ _
  have e := run_convert_runes (P := Tryz.prog) (w.alloc (.cells (rowOf (.int .i32 0) g32 (ten n)) 21)) 286 9 21 ⟨w.heap.size, 0, none⟩ 10 10 ((ten n).map fun c => (c.toNat : Int)) (by simp [hl]) Tryz.underlying286 Tryz.underlying21 Tryz.underlying9 (fun j hj => by
    have hj' : j < (ten n).length := by simpa using hj
    rw [Go.WideShapes.add_plain, World.cell?_alloc_new, Nat.zero_add]
    unfold rowOf
    rw [hl, List.getElem?_toArray, Nat.sub_self, List.replicate_zero, List.nil_append, List.getElem?_map, List.getD_eq_getElem?_getD, List.getElem?_map, List.getElem?_eq_getElem hj']
    rfl)
  rw [List.take_of_length_le (by simp [hl]), runes_bytes (ten n) (tenK_dig _ _)] at e
  exact e
set_option maxHeartbeats 2000000 in
theorem digits_any (n : Nat) (w : World) (hn : n ≤ 9999999999) : Calls Tryz.prog 196 #[.int .i64 n] w fun e w' => e = .returned (.string (B (ten n))) ∧ Below w.heap.size w w' := by
  have hmk := run_make21
  go_enter Tryz.func196, Tryz.ntmps196
  go_wp2_with fail
  clear hmk
  go_loopw [0, 8] (fun n0 i wr => ∃ (k m : Nat) (D : Txt), i = .int .i64 k ∧ n0 = .int .i64 m ∧ m ≤ 9999999999 ∧ k + D.length = 2 * k ∧ k ≤ 10 ∧ wr = w.alloc (.cells (rowOf (.int .i32 0) g32 D) 21) ∧ Hid (So n k m D)) (fun _ i _ => 10 - (intOf i).toNat)
  case atStart => exact ⟨0, n, [], rfl, rfl, hn, rfl, by omega, rfl, Lib.hid (so_start n)⟩
  case round =>
    obtain ⟨k, m, D, rfl, rfl, hm, hkD, hk, rfl, HS⟩ := hrel
    by_cases hlt : k < 10
    · obtain ⟨j, hj⟩ : ∃ j : Nat, 9 - D.length = j := ⟨_, rfl⟩
      have hjd : j + D.length = 9 := by omega
      have hj1 : (9 : Int) - (k : Int) = (j : Int) := by omega
      have hj9 : (j : Int) < 10 := by omega
      have hget : (rowOf (.int .i32 0) g32 D)[j]? = some (.int .i32 0) := row_get hjd
      clear hj
      go_wp2_with fail
      go_roundw
      case rel => exact ⟨k + 1, m / 10, dg m :: D, by go_num, by congr 1, by omega, by simp; omega, by omega, by rw [row_next hjd m], Lib.hid (so_step HS.out hlt)⟩
      case measure => simp [intOf]; omega
    · have hk10 : k = 10 := by omega
      subst hk10
      have HD := so_end HS.out
      subst HD
      have hcv : (convert 286 9 (.slice (some ⟨w.heap.size, 0, none⟩) 10 10)).run Tryz.prog (w.alloc (.cells (rowOf (.int .i32 0) g32 (ten n)) 21)) = .ok (.string (B (ten n))) (w.alloc (.cells (rowOf (.int .i32 0) g32 (ten n)) 21)) := conv_row n w
      go_wp2
      go_ret
      exact ⟨rfl, box_below _ _⟩
end Go.Proofs.YtflgemlhocjipaaGreatDoor
namespace Go.Proofs.YtflgemlhocjipaaGreatDoor
open Go.ChangeShapes Go.WideShapes Go.ChangeAt Go.RowKit Go.Proofs.Zn

theorem number_no {l : Txt} {n : Int} (h : numOk l n = false) : number l n = [] := by
  unfold number; rw [h]; rfl
theorem number_yes {l : Txt} {n : Int} (h : numOk l n = true) : number l n = l ++ ten n.toNat := by
  unfold number; rw [h]; rfl
theorem numOk_no {l : Txt} {n : Int} (h : ¬ (1 ≤ depth l ∧ 0 ≤ n ∧ n ≤ 9999999999)) : numOk l n = false := by
  cases hh : numOk l n
  · rfl
  · rw [numOk_iff] at hh; exact absurd ⟨hh.1, hh.2.1, hh.2.2.1⟩ h
set_option maxHeartbeats 1000000 in
theorem number_first (s : ByteArray) (n : Int) (w : World) (hs : s.size ≤ 140737488355328) (h : ¬ (1 ≤ depth (L s) ∧ 0 ≤ n ∧ n ≤ 9999999999)) :
    Calls Tryz.prog 174 #[.string s, .int .i64 n] w fun e w' => e = .returned (.tuple #[.string ByteArray.empty, .bool false]) ∧ Below w.heap.size w w' := by
  obtain ⟨d, hd⟩ : ∃ d, depth (L s) = d := ⟨_, rfl⟩
  rw [hd] at h
  have HD := Lib.hid hd
  have HH := Lib.hid h
  clear hd h
  by_cases h1 : d < 1
  · go_enter Tryz.func174, Tryz.ntmps174
    go_wp2_with fail
    refine (depth_any _ _ (by omega)).mono ?_
    rintro e w1 ⟨rfl, hb⟩
    rw [HD.out]
    have HB := Lib.hid hb
    clear hb
    go_wp2
    go_ret2
    exact ⟨rfl, HB.out⟩
  · by_cases h2 : n < 0
    · go_enter Tryz.func174, Tryz.ntmps174
      go_wp2_with fail
      refine (depth_any _ _ (by omega)).mono ?_
      rintro e w1 ⟨rfl, hb⟩
      rw [HD.out]
      have HB := Lib.hid hb
      clear hb
      go_wp2
      go_ret2
      exact ⟨rfl, HB.out⟩
    · have h3 : 9999999999 < n := by have := HH.out; omega
      go_enter Tryz.func174, Tryz.ntmps174
      go_wp2_with fail
      refine (depth_any _ _ (by omega)).mono ?_
      rintro e w1 ⟨rfl, hb⟩
      rw [HD.out]
      have HB := Lib.hid hb
      clear hb
      go_wp2
      go_ret2
      exact ⟨rfl, HB.out⟩
set_option maxHeartbeats 1000000 in
theorem number_then (s : ByteArray) (n : Nat) (w : World) (hs : s.size ≤ 140737488355328) (h1 : 1 ≤ depth (L s)) (hn : n ≤ 9999999999) :
    Calls Tryz.prog 174 #[.string s, .int .i64 n] w fun e w' => e = .returned (.tuple #[.string (B (number (L s) n)), .bool (numOk (L s) n)]) ∧ Below w.heap.size w w' := by
  have hv : valid (L s ++ ten n) = numOk (L s) n := by
    unfold numOk
    rw [decide_eq_true h1, decide_eq_true (show (0 : Int) ≤ n by omega), decide_eq_true (show (n : Int) ≤ 9999999999 by omega)]
    simp
  obtain ⟨d, hd⟩ : ∃ d, depth (L s) = d := ⟨_, rfl⟩
  rw [hd] at h1
  have HD := Lib.hid hd
  have hl : (ten n).length = 10 := tenK_length _ _
  have hsum : ∀ w, (Op.stringOp .add s (B (ten n))).run Tryz.prog w = .ok (.string (B (L s ++ ten n))) w := add_any _ _ _ (by rw [LB, LB]) (by have := B_size (ten n); omega)
  have hsz : (B (L s ++ ten n)).size ≤ 4611686018427387904 := by rw [B_size, List.length_append, hl, L_len]; omega
  cases hk : numOk (L s) n
  · rw [number_no hk]
    rw [hk] at hv
    have HV := Lib.hid hv
    clear hd hv hk hl
    go_enter Tryz.func174, Tryz.ntmps174
    go_wp2_with fail
    refine (depth_any _ _ (by omega)).mono ?_
    rintro e w1 ⟨rfl, hb⟩
    rw [HD.out]
    have HB := Lib.hid hb
    clear hb
    go_wp2_with fail
    refine (digits_any _ _ hn).mono ?_
    rintro e w2 ⟨rfl, hb⟩
    have HB2 := Lib.hid (HB.out.trans (hb.mono HB.out.size))
    clear hb
    go_wp2_with fail
    refine (valid_any _ _ hsz).mono ?_
    rintro e w3 ⟨rfl, hb⟩
    rw [LB, HV.out]
    have HB3 := Lib.hid (HB2.out.trans (hb.mono HB2.out.size))
    clear hb
    go_wp2
    go_ret2
    exact ⟨rfl, HB3.out⟩
  · have HN := Lib.hid (number_yes hk)
    rw [hk] at hv
    have HV := Lib.hid hv
    clear hd hv hk hl
    go_enter Tryz.func174, Tryz.ntmps174
    go_wp2_with fail
    refine (depth_any _ _ (by omega)).mono ?_
    rintro e w1 ⟨rfl, hb⟩
    rw [HD.out]
    have HB := Lib.hid hb
    clear hb
    go_wp2_with fail
    refine (digits_any _ _ hn).mono ?_
    rintro e w2 ⟨rfl, hb⟩
    have HB2 := Lib.hid (HB.out.trans (hb.mono HB.out.size))
    clear hb
    go_wp2_with fail
    refine (valid_any _ _ hsz).mono ?_
    rintro e w3 ⟨rfl, hb⟩
    rw [LB, HV.out]
    have HB3 := Lib.hid (HB2.out.trans (hb.mono HB2.out.size))
    clear hb
    go_wp2
    go_ret2
    exact ⟨by rw [HN.out]; rfl, HB3.out⟩
theorem number_any (s : ByteArray) (n : Int) (w : World) (hs : s.size ≤ 140737488355328) :
    Calls Tryz.prog 174 #[.string s, .int .i64 n] w fun e w' => e = .returned (.tuple #[.string (B (number (L s) n)), .bool (numOk (L s) n)]) ∧ Below w.heap.size w w' := by
  by_cases h : 1 ≤ depth (L s) ∧ 0 ≤ n ∧ n ≤ 9999999999
  · obtain ⟨h1, h2, h3⟩ := h
    obtain ⟨m, rfl⟩ := Int.eq_ofNat_of_zero_le h2
    exact number_then s m w hs h1 (by omega)
  · have hk := numOk_no h
    rw [hk, number_no hk]
    exact number_first s n w hs h
end Go.Proofs.YtflgemlhocjipaaGreatDoor
