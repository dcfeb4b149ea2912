/-
  What the program and the document write of a number in ten digits: the same. Condition: the number is 0 to 9999999999.
-/
import Derived.Test.YtfkhnnmibecbeaaDoorJoin
import Derived.Test.YtfkhnnmibecbeaaDoorMath3
import Derived.Laws.Cover4
import Derived.IntWalk
namespace Go.Proofs.YtfkhnnmibecbeaaDoor
open Go.ChangeShapes Go.WideShapes Go.ChangeAt Go.RowKit Go.Proofs.Zn

theorem of_list {x : ByteArray} {l : Txt} (h : x.data.toList = l) : x = B l := by subst h; exact (BL x).symm
theorem enc_nat (r : Nat) (h : r < 128) : (Utf8.encode (r : Int)).data.toList = [UInt8.ofNat r] := by
  have v : Utf8.valid (r : Int) = true := by simp [Utf8.valid]; omega
  simp [Utf8.encode, v, h]
theorem enc_one (c : UInt8) (h : c.toNat < 128) : Utf8.encode (c.toNat : Int) = B [c] :=
  of_list ((enc_nat c.toNat h).trans (congrArg (fun x => [x]) UInt8.ofNat_toNat))
theorem runes_bytes (D : Txt) (h : dig D) : runesBytes (D.map fun c => (c.toNat : Int)) = B D := by
  have key : ∀ (D : Txt) (r : ByteArray), dig D → (D.map fun c => (c.toNat : Int)).foldl (fun r n => r ++ Utf8.encode n) r = B (L r ++ D) := by
    intro D
    induction D with
    | nil => intro r _; rw [List.append_nil]; exact (BL r).symm
    | cons c t ih =>
      intro r hd
      have hc := hd c (by simp)
      rw [List.map_cons, List.foldl_cons, ih _ (fun x hx => hd x (by simp [hx])), enc_one c (by omega), B_add r (B [c])]
      simp only [LB]
      simp
  exact key D ByteArray.empty h
/-- Digits so far, from the last one on. -/
def So (n k m : Nat) (D : Txt) : Prop := k ≤ 10 ∧ D.length = k ∧ tenK (10 - k) m ++ D = ten n
theorem so_start (n : Nat) : So n 0 n [] := ⟨by omega, rfl, by simp [ten]⟩
theorem so_step {n k m : Nat} {D : Txt} (h : So n k m D) (hk : k < 10) : So n (k + 1) (m / 10) (dg m :: D) := by
  obtain ⟨_, h1, h2⟩ := h
  refine ⟨by omega, by simp [h1], ?_⟩
  rw [← h2, show 10 - k = (10 - (k + 1)) + 1 by omega, tenK]
  simp
theorem so_end {n m : Nat} {D : Txt} (h : So n 10 m D) : D = ten n := by
  have := h.2.2
  simpa [tenK] using this
/-- A row of ten that is filled from its end. -/
def rowOf (z : Value) (g : UInt8 → Value) (D : Txt) : Array Value := (List.replicate (10 - D.length) z ++ D.map g).toArray
theorem row_size {z : Value} {g : UInt8 → Value} {D : Txt} (h : D.length ≤ 10) : (rowOf z g D).size = 10 := by simp [rowOf]; omega
theorem row_get {z : Value} {g : UInt8 → Value} {D : Txt} {j : Nat} (h : j + D.length = 9) : (rowOf z g D)[j]? = some z := by
  unfold rowOf
  rw [List.getElem?_toArray, List.getElem?_append_left (by simp; omega), List.getElem?_replicate, if_pos (by omega)]
theorem row_set {z : Value} {g : UInt8 → Value} {D : Txt} {j : Nat} (h : j + D.length = 9) (c : UInt8) : (rowOf z g D).setIfInBounds j (g c) = rowOf z g (c :: D) := by
  unfold rowOf
  rw [List.setIfInBounds_toArray, List.set_append, if_pos (by simp; omega), show 10 - D.length = j + 1 by omega, List.length_cons, show 10 - (D.length + 1) = j by omega, List.replicate_succ', List.set_append, if_neg (by simp)]
  simp
def g32 (c : UInt8) : Value := .int .i32 c.toNat
def g8 (c : UInt8) : Value := .int .u8 c.toNat
theorem made_any (z : Value) (N : Nat) : (List.replicate N z).toArray = madeCells #[z] N := by
  apply Array.ext
  · simp [madeCells]
  · intro i h1 h2
    simp [madeCells, Nat.mod_one]
theorem made_row (z : Value) (g : UInt8 → Value) : madeCells #[z] 10 = rowOf z g [] := by
  rw [← made_any]; simp only [rowOf, List.length_nil, List.map_nil, List.append_nil, Nat.sub_zero]
theorem run_make21 (w : World) : (Instr.makeSlice 119 (.int .i64 10) (.int .i64 10)).run Tryd.prog w = .ok (.slice (some ⟨w.heap.size, 0, none⟩) 10 10) (w.alloc (.cells (rowOf (.int .i32 0) g32 []) 21)) :=
  (run_make_row' 119 21 (.int .i32 0) 4 Tryd.underlying119 (by kernel_rfl) rfl .i64 .i64 10 (by omega) (by omega) w).trans (by rw [made_row])
theorem row_next {z : Value} {D : Txt} {j : Nat} (h : j + D.length = 9) (m : Nat) : (rowOf z g32 D).setIfInBounds j (.int .i32 (48 + (m : Int) % 10)) = rowOf z g32 (dg m :: D) := by
  rw [← row_set h]
  congr 1
  unfold g32
  rw [dg_nat]
  rfl
theorem conv_row (n : Nat) (w : World) : (convert 119 9 (.slice (some ⟨w.heap.size, 0, none⟩) 10 10)).run Tryd.prog (w.alloc (.cells (rowOf (.int .i32 0) g32 (ten n)) 21)) = .ok (.string (B (ten n))) (w.alloc (.cells (rowOf (.int .i32 0) g32 (ten n)) 21)) := by
  have hl : (ten n).length = 10 := tenK_length _ _
  have e := run_convert_runes (P := Tryd.prog) (w.alloc (.cells (rowOf (.int .i32 0) g32 (ten n)) 21)) 119 9 21 ⟨w.heap.size, 0, none⟩ 10 10 ((ten n).map fun c => (c.toNat : Int)) (by simp [hl]) Tryd.underlying119 Tryd.underlying21 Tryd.underlying9 (fun j hj => by
    have hj' : j < (ten n).length := by simpa using hj
    rw [Go.WideShapes.add_plain, World.cell?_alloc_new, Nat.zero_add]
    unfold rowOf
    rw [hl, List.getElem?_toArray, Nat.sub_self, List.replicate_zero, List.nil_append, List.getElem?_map, List.getD_eq_getElem?_getD, List.getElem?_map, List.getElem?_eq_getElem hj']
    rfl)
  rw [List.take_of_length_le (by simp [hl]), runes_bytes (ten n) (tenK_dig _ _)] at e
  exact e
set_option maxHeartbeats 2000000 in
theorem digits_any (n : Nat) (w : World) (hn : n ≤ 9999999999) : Calls Tryd.prog 72 #[.int .i64 n] w fun e w' => e = .returned (.string (B (ten n))) ∧ Below w.heap.size w w' := by
  have hmk := run_make21
  go_enter Tryd.func72, Tryd.ntmps72
  go_wp2_with fail
  clear hmk
  go_loopw [0, 8] (fun n0 i wr => ∃ (k m : Nat) (D : Txt), i = .int .i64 k ∧ n0 = .int .i64 m ∧ m ≤ 9999999999 ∧ k + D.length = 2 * k ∧ k ≤ 10 ∧ wr = w.alloc (.cells (rowOf (.int .i32 0) g32 D) 21) ∧ Hid (So n k m D)) (fun _ i _ => 10 - (intOf i).toNat)
  case atStart => exact ⟨0, n, [], rfl, rfl, hn, rfl, by omega, rfl, Lib.hid (so_start n)⟩
  case round =>
    obtain ⟨k, m, D, rfl, rfl, hm, hkD, hk, rfl, HS⟩ := hrel
    by_cases hlt : k < 10
    · obtain ⟨j, hj⟩ : ∃ j : Nat, 9 - D.length = j := ⟨_, rfl⟩
      have hjd : j + D.length = 9 := by omega
      have hj1 : (9 : Int) - (k : Int) = (j : Int) := by omega
      have hj9 : (j : Int) < 10 := by omega
      have hget : (rowOf (.int .i32 0) g32 D)[j]? = some (.int .i32 0) := row_get hjd
      clear hj
      go_wp2_with fail
      go_roundw
      case rel => exact ⟨k + 1, m / 10, dg m :: D, by go_num, by congr 1, by omega, by simp; omega, by omega, by rw [row_next hjd m], Lib.hid (so_step HS.out hlt)⟩
      case measure => simp [intOf]; omega
    · have hk10 : k = 10 := by omega
      subst hk10
      have HD := so_end HS.out
      subst HD
      have hcv : (convert 119 9 (.slice (some ⟨w.heap.size, 0, none⟩) 10 10)).run Tryd.prog (w.alloc (.cells (rowOf (.int .i32 0) g32 (ten n)) 21)) = .ok (.string (B (ten n))) (w.alloc (.cells (rowOf (.int .i32 0) g32 (ten n)) 21)) := conv_row n w
      go_wp2
      go_ret
      exact ⟨rfl, box_below _ _⟩
end Go.Proofs.YtfkhnnmibecbeaaDoor
