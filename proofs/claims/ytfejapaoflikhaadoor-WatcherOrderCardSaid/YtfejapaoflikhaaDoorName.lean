/-
  What the program and the document say of one letter and of one name. No condition but a text's length.
-/
import Derived.Test.YtfejapaoflikhaaDoorMath
import Derived.Test.YtfejapaoflikhaaDoorRows
import Derived.WalkKit
import Derived.ProofKit
import Derived.OpenShut
import Derived.Lib.Hide
import Derived.Outline
import Derived.Below
import Derived.OwnWalk
import Derived.Deep.LoopGhost
import Derived.Deep.Draws
import Derived.RegionTactic
import Derived.Laws.RangeAny
import Derived.Lib.Strings
import Derived.Lib.Walk
namespace Go.Proofs.YtfejapaoflikhaaDoor
open Go.ChangeShapes Go.WideShapes Go.ChangeAt Go.RowKit Go.Proofs.Zn

def alB (r : Int) : Bool := decide ((97 ≤ r ∧ r ≤ 122) ∨ (65 ≤ r ∧ r ≤ 90) ∨ (48 ≤ r ∧ r ≤ 57) ∨ r = 46 ∨ r = 45 ∨ r = 95)
def dgB (r : Int) : Bool := decide (48 ≤ r ∧ r ≤ 57)
theorem alB_high {r : Int} (h : 128 ≤ r) : alB r = false := by
  unfold alB; rw [decide_eq_false_iff_not]; omega
theorem byte_eq (c : UInt8) (n : UInt8) : (c == n) = decide ((c.toNat : Int) = n.toNat) := by
  rw [Bool.eq_iff_iff, beq_iff_eq, decide_eq_true_iff, ← UInt8.toNat_inj]; omega
theorem alB_byte (c : UInt8) : alB c.toNat = letterB c := by
  unfold alB letterB
  rw [Bool.eq_iff_iff, decide_eq_true_iff]
  simp only [byte_eq, Bool.or_eq_true, Bool.and_eq_true, decide_eq_true_eq, UInt8.le_iff_toNat_le]
  simp
  omega
theorem ret_bool {a b : Bool} (h : a = b) : Ending.returned (.bool a) = .returned (.bool b) := by rw [h]
set_option maxHeartbeats 1000000 in
theorem digit_any (r : Int) (w : World) : Calls Tryd.prog 59 #[.int .i32 r] w fun e w' => e = .returned (.bool (dgB r)) ∧ w' = w := by
  go_enter Tryd.func59, Tryd.ntmps59
  go_wp2
  all_goals
    go_ret
    exact ⟨ret_bool (by unfold dgB; simp; try omega), rfl⟩
set_option maxHeartbeats 1000000 in
theorem allowed_any (r : Int) (w : World) : Calls Tryd.prog 53 #[.int .i32 r] w fun e w' => e = .returned (.bool (alB r)) ∧ w' = w := by
  go_enter Tryd.func53, Tryd.ntmps53
  go_wp2_with ((with_reducible refine (digit_any _ _).mono ?_); rintro e w' ⟨rfl, rfl⟩)
  all_goals
    go_ret
    exact ⟨ret_bool (by rw [Bool.eq_iff_iff]; simp [alB, dgB] at *; try omega), rfl⟩
/-- A text that the first test refuses. -/
def head0 (l : Txt) : Bool := l.isEmpty || decide (60 < l.length) || l == [46] || l == [46, 46]
theorem name_head {l : Txt} (h : head0 l = true) : nameB l = false := by
  simp only [head0, Bool.or_eq_true] at h
  rcases h with ((h | h) | h) | h
  · cases l with
    | nil => rfl
    | cons _ _ => cases h
  · have : decide (l.length ≤ 60) = false := by simp at h ⊢; omega
    simp [nameB, this]
  · simp [nameB, h]
  · simp [nameB, h]
theorem name_body {l : Txt} (h : head0 l = false) : nameB l = l.all letterB := by
  simp only [head0, Bool.or_eq_false_iff] at h
  obtain ⟨⟨⟨h0, h1⟩, h2⟩, h3⟩ := h
  have e1 : decide (l.length ≤ 60) = true := by simp at h1 ⊢; omega
  have e0 : decide (1 ≤ l.length) = true := by cases l <;> simp_all
  simp only [nameB, h2, h3, e1, e0]
  simp
theorem head_or {s : ByteArray} (h : head0 s.data.toList = true) : s.toList = [] ∨ (60 : Int) < s.size ∨ s.toList = [46] ∨ s.toList = [46, 46] := by
  rw [Lib.size_eq, Lib.toList_data]
  simp only [head0, Bool.or_eq_true] at h
  rcases h with ((h | h) | h) | h
  · exact .inl (by simpa using h)
  · exact .inr (.inl (by have h := of_decide_eq_true h; omega))
  · exact .inr (.inr (.inl (by simpa using h)))
  · exact .inr (.inr (.inr (by simpa using h)))
theorem take_snoc (s : ByteArray) (k : Nat) (h : k < s.size) : s.data.toList.take (k + 1) = s.data.toList.take k ++ [s[k]] := by
  rw [List.take_succ_eq_append_getElem (by simpa using h)]; rfl
theorem iter_below (w : World) (s : ByteArray) (k : Nat) : Below w.heap.size w (w.iter s k) := (Below.refl _ _).alloc (Nat.le_refl _) _
theorem all_snoc {s : ByteArray} {k : Nat} (h : k < s.size) (ha : (s.data.toList.take k).all letterB = true) (hl : letterB s[k] = true) : (s.data.toList.take (k + 1)).all letterB = true := by
  rw [take_snoc s k h, List.all_append, ha]; simp [hl]
theorem all_bad {s : ByteArray} {k : Nat} (h : k < s.size) (hl : letterB s[k] = false) : s.data.toList.all letterB = false := by
  rw [List.all_eq_false]
  exact ⟨s[k], by show s.data[k] ∈ _; exact List.getElem_mem (by simpa using h), by simp [hl]⟩
theorem all_done {s : ByteArray} {k : Nat} (h : ¬ k < s.size) (ha : (s.data.toList.take k).all letterB = true) : s.data.toList.all letterB = true := by
  rwa [List.take_of_length_le (by rw [← Lib.size_eq]; omega)] at ha
theorem letter_high {c : UInt8} (h : 128 ≤ c.toNat) : letterB c = false := by rw [← alB_byte]; exact alB_high (by omega)
set_option maxHeartbeats 1000000 in
theorem name_bad (s : ByteArray) (w : World) (h : head0 s.data.toList = true) : Calls Tryd.prog 48 #[.string s] w fun e w' => e = .returned (.bool (nameB s.data.toList)) ∧ Below w.heap.size w w' := by
  have H := Lib.hid (name_head h)
  have HH := Lib.hid (head_or h)
  clear h
  go_enter Tryd.func48, Tryd.ntmps48
  go_wp2
  all_goals first
    | (go_ret; exact ⟨ret_bool H.out.symm, Below.refl _ _⟩)
    | (exfalso
       have hh := HH.out
       simp_all
       done)
    | (exfalso
       have hh := HH.out
       simp_all
       omega)
set_option maxHeartbeats 1000000 in
theorem name_good (s : ByteArray) (w : World) (hs : s.size ≤ maxLen) (h : head0 s.data.toList = false) : Calls Tryd.prog 48 #[.string s] w fun e w' => e = .returned (.bool (nameB s.data.toList)) ∧ Below w.heap.size w w' := by
  unfold maxLen at hs
  have H := Lib.hid (name_body h)
  rw [head0] at h
  simp only [Bool.or_eq_false_iff] at h
  obtain ⟨⟨⟨h1, h2⟩, h3⟩, h4⟩ := h
  rw [← Lib.toList_data] at h1 h3 h4
  rw [← Lib.size_eq] at h2
  have h2' : ((s.size : Int)) ≤ 60 := by rw [decide_eq_false_iff_not] at h2; omega
  have h1' : ¬ s.toList = [] := by cases hh : s.toList <;> simp_all
  have h3' : ¬ s.toList = [46] := by simpa using h3
  clear h2
  go_enter Tryd.func48, Tryd.ntmps48
  go_wp2
  go_loopw [4] (fun _ wr => ∃ k : Nat, k ≤ s.size ∧ wr = w.iter s k ∧ Hid ((s.data.toList.take k).all letterB = true)) (fun _ wr => s.size - wr.iterPos w.heap.size)
  case atStart => exact ⟨0, Nat.zero_le _, rfl, Lib.hid (by simp)⟩
  case round =>
    obtain ⟨k, hk, rfl, HA⟩ := hrel
    by_cases hlt : k < s.size
    · by_cases ha : (s[k]'hlt).toNat < 128
      · have hnx : ∀ ty, (Instr.next (.pointer (some ⟨w.heap.size, 0, none⟩)) true ty).run Tryd.prog (w.iter s k) = _ := fun ty => run_next_ascii w s k ty hlt ha
        have HL := alB_byte s[k]
        obtain ⟨b, hb⟩ : ∃ b, letterB s[k] = b := ⟨_, rfl⟩
        rw [hb] at HL
        have HB := Lib.hid hb
        have HC := Lib.hid HL
        clear hb HL
        go_wp2_with ((with_reducible refine (allowed_any _ _).mono ?_); rintro e w' ⟨rfl, rfl⟩; rw [HC.out])
        · have hb : b = false := by cases b <;> simp_all
          have HB' := HB.out
          rw [hb] at HB'
          go_ret
          exact ⟨ret_bool (by rw [H.out, all_bad hlt HB']), iter_below _ _ _⟩
        · have hb : b = true := by cases b <;> simp_all
          have HB' := HB.out
          rw [hb] at HB'
          go_roundw
          case rel => exact ⟨k + 1, hlt, rfl, Lib.hid (all_snoc hlt HA.out HB')⟩
          case measure => simp; omega
      · have hnx : ∀ ty, (Instr.next (.pointer (some ⟨w.heap.size, 0, none⟩)) true ty).run Tryd.prog (w.iter s k) = _ := fun ty => run_next_any w s k ty hlt
        have HC := Lib.hid (alB_high (r := ((Utf8.decode s k).1 : Nat)) (by have := (decode_high s k hlt (by omega)).1; omega))
        go_wp2_with ((with_reducible refine (allowed_any _ _).mono ?_); rintro e w' ⟨rfl, rfl⟩; rw [HC.out])
        go_ret
        exact ⟨ret_bool (by rw [H.out, all_bad hlt (letter_high (by omega))]), iter_below _ _ _⟩
    · have hnx : ∀ ty, (Instr.next (.pointer (some ⟨w.heap.size, 0, none⟩)) true ty).run Tryd.prog (w.iter s k) = _ := fun ty => run_next_end w s k ty hlt
      go_wp2
      go_ret
      exact ⟨ret_bool (by rw [H.out, all_done hlt HA.out]), iter_below _ _ _⟩
theorem name_any (s : ByteArray) (w : World) (hs : s.size ≤ maxLen) : Calls Tryd.prog 48 #[.string s] w fun e w' => e = .returned (.bool (nameB s.data.toList)) ∧ Below w.heap.size w w' := by
  cases h : head0 s.data.toList
  · exact name_good s w hs h
  · exact name_bad s w h

/-! ### The document's -/
theorem dec_or (a b : Prop) [Decidable a] [Decidable b] : decide (a ∨ b) = (decide a || decide b) := by by_cases a <;> by_cases b <;> simp_all
set_option maxHeartbeats 1000000 in
theorem rletter_any (c : UInt8) (w : World) : Calls Tryd.prog 50 #[.int .u8 c.toNat] w fun e w' => e = .returned (.bool (letterB c)) ∧ w' = w := by
  have H := Lib.hid (alB_byte c)
  obtain ⟨r, hr⟩ : ∃ r : Int, (c.toNat : Int) = r := ⟨_, rfl⟩
  rw [hr] at H ⊢
  have h0 : 0 ≤ r := by omega
  clear hr
  go_enter Tryd.func50, Tryd.ntmps50
  go_wp2
  all_goals
    go_ret
    exact ⟨ret_bool (by rw [← H.out, Bool.eq_iff_iff]; clear H; simp [alB] at *; try omega), rfl⟩
end Go.Proofs.YtfejapaoflikhaaDoor
