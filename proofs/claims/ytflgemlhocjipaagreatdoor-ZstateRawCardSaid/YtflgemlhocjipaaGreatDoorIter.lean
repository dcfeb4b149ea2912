/-
  What the program and the document say of one letter and of one name. No condition but a text's length.
  What strings.SplitN returns of any text at a slash and nine pieces: a new row of the text's pieces, or nine of them where there are nine or more. Condition: the text's length.
  What Depth and Valid return of any text. Condition: the text's length.
  What Base, Parent, Join and Under return of any texts. Condition: the texts' lengths.
  What the keys of a map are, sorted. Condition: the keys fit.
-/
import Derived.Test.YtflgemlhocjipaaGreatDoorMath3
import Derived.Test.YtflgemlhocjipaaGreatDoorRows
import Derived.WalkKit
import Derived.ProofKit
import Derived.OpenShut
import Derived.Lib.Hide
import Derived.Outline
import Derived.Below
import Derived.OwnWalk
import Derived.Deep.LoopGhost
import Derived.Deep.Draws
import Derived.RegionTactic
import Derived.Laws.RangeAny
import Derived.Lib.Strings
import Derived.Lib.Walk
import Derived.Test.YtflgemlhocjipaaGreatDoorShelf
import Derived.Lib.Split
import Derived.Laws.Strings3
import Derived.Deep.OwnRows
import Derived.Lib.LastIndexByte
namespace Go.Proofs.YtflgemlhocjipaaGreatDoor
open Go.ChangeShapes Go.WideShapes Go.ChangeAt Go.RowKit Go.Proofs.Zn

def alB (r : Int) : Bool := decide ((97 ≤ r ∧ r ≤ 122) ∨ (65 ≤ r ∧ r ≤ 90) ∨ (48 ≤ r ∧ r ≤ 57) ∨ r = 46 ∨ r = 45 ∨ r = 95)
def dgB (r : Int) : Bool := decide (48 ≤ r ∧ r ≤ 57)
theorem alB_high {r : Int} (h : 128 ≤ r) : alB r = false := by
  unfold alB; rw [decide_eq_false_iff_not]; omega
theorem byte_eq (c : UInt8) (n : UInt8) : (c == n) = decide ((c.toNat : Int) = n.toNat) := by
  rw [Bool.eq_iff_iff, beq_iff_eq, decide_eq_true_iff, ← UInt8.toNat_inj]; omega
theorem alB_byte (c : UInt8) : alB c.toNat = letterB c := by
  unfold alB letterB
  rw [Bool.eq_iff_iff, decide_eq_true_iff]
  simp only [byte_eq, Bool.or_eq_true, Bool.and_eq_true, decide_eq_true_eq, UInt8.le_iff_toNat_le]
  simp
  omega
theorem ret_bool {a b : Bool} (h : a = b) : Ending.returned (.bool a) = .returned (.bool b) := by rw [h]
set_option maxHeartbeats 1000000 in
theorem digit_any (r : Int) (w : World) : Calls Tryz.prog 209 #[.int .i32 r] w fun e w' => e = .returned (.bool (dgB r)) ∧ w' = w := by
  go_enter Tryz.func209, Tryz.ntmps209
  go_wp2
  all_goals
    go_ret
    exact ⟨ret_bool (by unfold dgB; simp; try omega), rfl⟩
set_option maxHeartbeats 1000000 in
theorem allowed_any (r : Int) (w : World) : Calls Tryz.prog 195 #[.int .i32 r] w fun e w' => e = .returned (.bool (alB r)) ∧ w' = w := by
  go_enter Tryz.func195, Tryz.ntmps195
  go_wp2_with ((with_reducible refine (digit_any _ _).mono ?_); rintro e w' ⟨rfl, rfl⟩)
  all_goals
    go_ret
    exact ⟨ret_bool (by rw [Bool.eq_iff_iff]; simp [alB, dgB] at *; try omega), rfl⟩
/-- A text that the first test refuses. -/
def head0 (l : Txt) : Bool := l.isEmpty || decide (60 < l.length) || l == [46] || l == [46, 46]
theorem name_head {l : Txt} (h : head0 l = true) : nameB l = false := by
  simp only [head0, Bool.or_eq_true] at h
  rcases h with ((h | h) | h) | h
  · cases l with
    | nil => rfl
    | cons _ _ => cases h
  · have : decide (l.length ≤ 60) = false := by simp at h ⊢; omega
    simp [nameB, this]
  · simp [nameB, h]
  · simp [nameB, h]
theorem name_body {l : Txt} (h : head0 l = false) : nameB l = l.all letterB := by
  simp only [head0, Bool.or_eq_false_iff] at h
  obtain ⟨⟨⟨h0, h1⟩, h2⟩, h3⟩ := h
  have e1 : decide (l.length ≤ 60) = true := by simp at h1 ⊢; omega
  have e0 : decide (1 ≤ l.length) = true := by cases l <;> simp_all
  simp only [nameB, h2, h3, e1, e0]
  simp
theorem head_or {s : ByteArray} (h : head0 s.data.toList = true) : s.toList = [] ∨ (60 : Int) < s.size ∨ s.toList = [46] ∨ s.toList = [46, 46] := by
  rw [Lib.size_eq, Lib.toList_data]
  simp only [head0, Bool.or_eq_true] at h
  rcases h with ((h | h) | h) | h
  · exact .inl (by simpa using h)
  · exact .inr (.inl (by have h := of_decide_eq_true h; omega))
  · exact .inr (.inr (.inl (by simpa using h)))
  · exact .inr (.inr (.inr (by simpa using h)))
theorem take_snoc (s : ByteArray) (k : Nat) (h : k < s.size) : s.data.toList.take (k + 1) = s.data.toList.take k ++ [s[k]] := by
  rw [List.take_succ_eq_append_getElem (by simpa using h)]; rfl
theorem iter_below (w : World) (s : ByteArray) (k : Nat) : Below w.heap.size w (w.iter s k) := (Below.refl _ _).alloc (Nat.le_refl _) _
theorem all_snoc {s : ByteArray} {k : Nat} (h : k < s.size) (ha : (s.data.toList.take k).all letterB = true) (hl : letterB s[k] = true) : (s.data.toList.take (k + 1)).all letterB = true := by
  rw [take_snoc s k h, List.all_append, ha]; simp [hl]
theorem all_bad {s : ByteArray} {k : Nat} (h : k < s.size) (hl : letterB s[k] = false) : s.data.toList.all letterB = false := by
  rw [List.all_eq_false]
  exact ⟨s[k], by show s.data[k] ∈ _; exact List.getElem_mem (by simpa using h), by simp [hl]⟩
theorem all_done {s : ByteArray} {k : Nat} (h : ¬ k < s.size) (ha : (s.data.toList.take k).all letterB = true) : s.data.toList.all letterB = true := by
  rwa [List.take_of_length_le (by rw [← Lib.size_eq]; omega)] at ha
theorem letter_high {c : UInt8} (h : 128 ≤ c.toNat) : letterB c = false := by rw [← alB_byte]; exact alB_high (by omega)
set_option maxHeartbeats 1000000 in
theorem name_bad (s : ByteArray) (w : World) (h : head0 s.data.toList = true) : Calls Tryz.prog 173 #[.string s] w fun e w' => e = .returned (.bool (nameB s.data.toList)) ∧ Below w.heap.size w w' := by
  have H := Lib.hid (name_head h)
  have HH := Lib.hid (head_or h)
  clear h
  go_enter Tryz.func173, Tryz.ntmps173
  go_wp2
  all_goals first
    | (go_ret; exact ⟨ret_bool H.out.symm, Below.refl _ _⟩)
    | (exfalso
       have hh := HH.out
       simp_all
       done)
    | (exfalso
       have hh := HH.out
       simp_all
       omega)
set_option maxHeartbeats 1000000 in
theorem name_good (s : ByteArray) (w : World) (hs : s.size ≤ maxLen) (h : head0 s.data.toList = false) : Calls Tryz.prog 173 #[.string s] w fun e w' => e = .returned (.bool (nameB s.data.toList)) ∧ Below w.heap.size w w' := by
  unfold maxLen at hs
  have H := Lib.hid (name_body h)
  rw [head0] at h
  simp only [Bool.or_eq_false_iff] at h
  obtain ⟨⟨⟨h1, h2⟩, h3⟩, h4⟩ := h
  rw [← Lib.toList_data] at h1 h3 h4
  rw [← Lib.size_eq] at h2
  have h2' : ((s.size : Int)) ≤ 60 := by rw [decide_eq_false_iff_not] at h2; omega
  have h1' : ¬ s.toList = [] := by cases hh : s.toList <;> simp_all
  have h3' : ¬ s.toList = [46] := by simpa using h3
  clear h2
  go_enter Tryz.func173, Tryz.ntmps173
  go_wp2
  go_loopw [4] (fun _ wr => ∃ k : Nat, k ≤ s.size ∧ wr = w.iter s k ∧ Hid ((s.data.toList.take k).all letterB = true)) (fun _ wr => s.size - wr.iterPos w.heap.size)
  case atStart => exact ⟨0, Nat.zero_le _, rfl, Lib.hid (by simp)⟩
  case round =>
    obtain ⟨k, hk, rfl, HA⟩ := hrel
    by_cases hlt : k < s.size
    · by_cases ha : (s[k]'hlt).toNat < 128
      · have hnx : ∀ ty, (Instr.next (.pointer (some ⟨w.heap.size, 0, none⟩)) true ty).run Tryz.prog (w.iter s k) = _ := fun ty => run_next_ascii w s k ty hlt ha
        have HL := alB_byte s[k]
        obtain ⟨b, hb⟩ : ∃ b, letterB s[k] = b := ⟨_, rfl⟩
        rw [hb] at HL
        have HB := Lib.hid hb
        have HC := Lib.hid HL
        clear hb HL
        go_wp2_with ((with_reducible refine (allowed_any _ _).mono ?_); rintro e w' ⟨rfl, rfl⟩; rw [HC.out])
        · have hb : b = false := by cases b <;> simp_all
          have HB' := HB.out
          rw [hb] at HB'
          go_ret
          exact ⟨ret_bool (by rw [H.out, all_bad hlt HB']), iter_below _ _ _⟩
        · have hb : b = true := by cases b <;> simp_all
          have HB' := HB.out
          rw [hb] at HB'
          go_roundw
          case rel => exact ⟨k + 1, hlt, rfl, Lib.hid (all_snoc hlt HA.out HB')⟩
          case measure => simp; omega
      · have hnx : ∀ ty, (Instr.next (.pointer (some ⟨w.heap.size, 0, none⟩)) true ty).run Tryz.prog (w.iter s k) = _ := fun ty => run_next_any w s k ty hlt
        have HC := Lib.hid (alB_high (r := ((Utf8.decode s k).1 : Nat)) (by have := (decode_high s k hlt (by omega)).1; omega))
        go_wp2_with ((with_reducible refine (allowed_any _ _).mono ?_); rintro e w' ⟨rfl, rfl⟩; rw [HC.out])
        go_ret
        exact ⟨ret_bool (by rw [H.out, all_bad hlt (letter_high (by omega))]), iter_below _ _ _⟩
    · have hnx : ∀ ty, (Instr.next (.pointer (some ⟨w.heap.size, 0, none⟩)) true ty).run Tryz.prog (w.iter s k) = _ := fun ty => run_next_end w s k ty hlt
      go_wp2
      go_ret
      exact ⟨ret_bool (by rw [H.out, all_done hlt HA.out]), iter_below _ _ _⟩
theorem name_any (s : ByteArray) (w : World) (hs : s.size ≤ maxLen) : Calls Tryz.prog 173 #[.string s] w fun e w' => e = .returned (.bool (nameB s.data.toList)) ∧ Below w.heap.size w w' := by
  cases h : head0 s.data.toList
  · exact name_good s w hs h
  · exact name_bad s w h

/-! ### The document's -/
set_option maxHeartbeats 1000000 in
theorem rletter_any (c : UInt8) (w : World) : Calls Tryz.prog 163 #[.int .u8 c.toNat] w fun e w' => e = .returned (.bool (letterB c)) ∧ w' = w := by
  have H := Lib.hid (alB_byte c)
  obtain ⟨r, hr⟩ : ∃ r : Int, (c.toNat : Int) = r := ⟨_, rfl⟩
  rw [hr] at H ⊢
  have h0 : 0 ≤ r := by omega
  clear hr
  go_enter Tryz.func163, Tryz.ntmps163
  go_wp2
  all_goals
    go_ret
    exact ⟨ret_bool (by rw [← H.out, Bool.eq_iff_iff]; clear H; simp [alB] at *; try omega), rfl⟩
end Go.Proofs.YtflgemlhocjipaaGreatDoor
namespace Go.Proofs.YtflgemlhocjipaaGreatDoor
open Go.ChangeShapes Go.WideShapes Go.ChangeAt Go.RowKit Go.Proofs.Zn

abbrev L (s : ByteArray) : Txt := s.data.toList
theorem idx_cases (l : Txt) : (Lib.indexByte l 47 = -1 ∧ 47 ∉ l) ∨ ∃ i : Nat, Lib.indexByte l 47 = i ∧ i < l.length ∧ 47 ∉ l.take i ∧ l = l.take i ++ 47 :: l.drop (i + 1) := by
  induction l with
  | nil => exact .inl ⟨rfl, by simp⟩
  | cons c t ih =>
    by_cases h : c = 47
    · subst h
      exact .inr ⟨0, by simp [Lib.indexByte], by simp, by simp, by simp⟩
    · have hb : (c == 47) = false := by simpa using h
      rcases ih with ⟨h1, h2⟩ | ⟨i, h1, h2, h3, h4⟩
      · exact .inl ⟨by simp [Lib.indexByte, hb, h1], by simp; exact ⟨fun e => h e.symm, h2⟩⟩
      · refine .inr ⟨i + 1, ?_, by simp; omega, ?_, ?_⟩
        · simp only [Lib.indexByte, hb, h1]
          simp
        · simp only [List.take_succ_cons, List.mem_cons, not_or]
          exact ⟨fun e => h e.symm, h3⟩
        · simp only [List.take_succ_cons, List.drop_succ_cons, List.cons_append, List.cons.injEq, true_and]
          exact h4
theorem idx_cut {x : ByteArray} {i : Nat} (h3 : 47 ∉ (L x).take i) (h4 : L x = (L x).take i ++ 47 :: (L x).drop (i + 1)) : splitS (L x) = L (x.extract 0 i) :: splitS (L (x.extract (i + 1) x.size)) := by
  have e1 : L (x.extract 0 i) = (L x).take i := by show (x.extract 0 i).data.toList = _; rw [Lib.extract_data]; simp
  have e2 : L (x.extract (i + 1) x.size) = (L x).drop (i + 1) := by show (x.extract (i + 1) x.size).data.toList = _; rw [Lib.extract_to_end]
  rw [e1, e2]
  conv => lhs; rw [h4]
  exact split_hit _ _ h3
/-- What the pieces are. -/
def Pcs (s : ByteArray) (done : List ByteArray) : Prop := (done.map L = splitS (L s) ∧ done.length ≤ 9) ∨ (done.length = 9 ∧ 9 ≤ (splitS (L s)).length)
theorem pcs_last {s rest : ByteArray} {done : List ByteArray} (h : done.map L ++ splitS (L rest) = splitS (L s)) (hd : done.length ≤ 8) (hf : 47 ∉ L rest) : Pcs s (done ++ [rest]) := by
  rw [split_free _ hf] at h
  exact .inl ⟨by simp [← h], by simp; omega⟩
theorem pcs_full {s rest : ByteArray} {done : List ByteArray} (h : done.map L ++ splitS (L rest) = splitS (L s)) (hd : done.length = 8) : Pcs s (done ++ [rest]) := by
  refine .inr ⟨by simp [hd], ?_⟩
  have : 1 ≤ (splitS (L rest)).length := by have := split_ne (L rest); cases hh : splitS (L rest) <;> simp_all
  rw [← h]
  simp [hd]
  omega
theorem info9 : (Tryz.prog.info? 9).map (fun i => (i.zero, i.size, i.bytes)) = some (some (.string ByteArray.empty), 1, 16) := by kernel_rfl
set_option maxHeartbeats 4000000 in
theorem gensplit_any (s : ByteArray) (w : World) (hs : s.size ≤ 4611686018427387904) :
    Calls Tryz.prog 194 #[.string s, .string ⟨#[47]⟩, .int .i64 0, .int .i64 9] w fun e w' => ∃ (done : List ByteArray) (N : Nat), e = .returned (.slice (some ⟨w.heap.size, 0, none⟩) done.length N) ∧ w' = w.alloc (.cells (Lib.cellsOf done N) 9) ∧ done.length ≤ N ∧ N ≤ 9 ∧ Hid (Pcs s done) := by
  obtain ⟨N, hN⟩ : ∃ N : Nat, min 9 (s.size + 1) = N := ⟨_, rfl⟩
  have eN : min (9 : Int) ((s.size : Int) + 1) = (N : Int) := by omega
  have hN1 : (1 : Int) ≤ (N : Int) := by omega
  have hN9 : N ≤ 9 := by omega
  have HN := Lib.hid hN
  clear hN
  have hmk := run_make_row' (P := Tryz.prog) 40 9 (.string ByteArray.empty) 16 Tryz.underlying40 info9 rfl .i64 .i64 N (by omega) (by omega)
  go_enter Tryz.func194, Tryz.ntmps194
  go_wp2_with fail
  clear hmk
  go_loopg [0, 10] (N - 1) (fun g s0 s10 wr => ∃ (done : List ByteArray) (rest : ByteArray), s0 = .string rest ∧ s10 = .int .i64 done.length ∧ done.length ≤ N - 1 ∧ g = N - 1 - done.length ∧ rest.size + done.length ≤ s.size ∧
      wr = w.alloc (.cells (Lib.cellsOf done N) 9) ∧ Hid (done.map L ++ splitS (L rest) = splitS (L s)))
  case atStart => exact ⟨[], s, rfl, rfl, Nat.zero_le _, rfl, Nat.le_refl _, by rw [Lib.cellsOf_nil], Lib.hid rfl⟩
  case round =>
    obtain ⟨done, rest, rfl, rfl, hd, rfl, hrs, rfl, HS⟩ := hrel
    have hnext : (Lib.cellsOf done N)[done.length]? = some (.string ByteArray.empty) := Lib.cellsOf_next (by omega)
    by_cases hlt : done.length < N - 1
    · have hltz : ((done.length : Nat) : Int) < (N : Int) - 1 := by omega
      rcases idx_cases (L rest) with ⟨hix, hfree⟩ | ⟨i, hix, h1, h3, h4⟩
      · have HX := Lib.hid hix
        have HP := Lib.hid (pcs_last HS.out (by omega) hfree)
        clear hix hfree
        go_wp2_with ((with_reducible refine (strings_Index_one _ _ _).mono ?_); rintro e w' ⟨rfl, rfl⟩; rw [HX.out])
        go_ret
        exact ⟨done ++ [rest], N, by simp, by rw [Lib.cellsOf_set (by omega)], by simp; omega, hN9, HP⟩
      · have HX := Lib.hid hix
        have HC := Lib.hid (idx_cut h3 h4)
        have hroom : i + 1 ≤ rest.size := by rw [Lib.size_eq]; exact h1
        clear hix h1 h3 h4
        have c0 : ¬ ((i : Int) < 0) := by omega
        have c2 : (↑i : Int) ≤ ↑rest.size := by omega
        have c3 : (0 : Int) ≤ ↑i + 1 := by omega
        have c4 : (↑i + 1 : Int) ≤ ↑rest.size := by omega
        go_wp2_with ((with_reducible refine (strings_Index_one _ _ _).mono ?_); rintro e w' ⟨rfl, rfl⟩; rw [HX.out])
        go_roundg (N - 1 - (done.length + 1))
        case measure => omega
        case rel =>
          refine ⟨done ++ [rest.extract 0 i], rest.extract (i + 1) rest.size, rfl, by simp, by simp; omega, by simp, by rw [ByteArray.size_extract]; simp; omega, by rw [← Lib.cellsOf_set (by omega)], Lib.hid ?_⟩
          rw [← HS.out, HC.out]
          simp
    · have hltz : ¬ (((done.length : Nat) : Int) < (N : Int) - 1) := by omega
      have HP : Hid (Pcs s (done ++ [rest])) := by
        have := HN.out
        by_cases h8 : done.length = 8
        · exact Lib.hid (pcs_full HS.out h8)
        · refine Lib.hid (pcs_last HS.out (by omega) ?_)
          have h0 : rest.size = 0 := by omega
          rw [Lib.size_eq] at h0
          have e0 : L rest = [] := List.eq_nil_of_length_eq_zero h0
          rw [e0]
          simp
      go_wp2
      go_ret
      exact ⟨done ++ [rest], N, by simp, by rw [Lib.cellsOf_set (by omega)], by simp; omega, hN9, HP⟩
set_option maxHeartbeats 1000000 in
theorem splitn_any (s : ByteArray) (w : World) (hs : s.size ≤ 4611686018427387904) :
    Calls Tryz.prog 172 #[.string s, .string ⟨#[47]⟩, .int .i64 9] w fun e w' => ∃ (done : List ByteArray) (N : Nat), e = .returned (.slice (some ⟨w.heap.size, 0, none⟩) done.length N) ∧ w' = w.alloc (.cells (Lib.cellsOf done N) 9) ∧ done.length ≤ N ∧ N ≤ 9 ∧ Hid (Pcs s done) := by
  go_enter Tryz.func172, Tryz.ntmps172
  go_wp2_with fail
  refine (gensplit_any _ _ hs).mono ?_
  rintro e w' ⟨done, N, rfl, rfl, h1, h2, h3⟩
  go_wp2
  go_ret
  exact ⟨done, N, rfl, rfl, h1, h2, h3⟩
end Go.Proofs.YtflgemlhocjipaaGreatDoor
namespace Go.Proofs.YtflgemlhocjipaaGreatDoor
open Go.ChangeShapes Go.WideShapes Go.ChangeAt Go.RowKit Go.Proofs.Zn

/-- A text as the program holds it. -/
abbrev B (l : Txt) : ByteArray := ⟨l.toArray⟩
theorem LB (l : Txt) : L (B l) = l := by simp
theorem BL (s : ByteArray) : B (L s) = s := by simp
theorem B_size (l : Txt) : (B l).size = l.length := by rw [Lib.size_eq]
theorem L_len (s : ByteArray) : (L s).length = s.size := (Lib.size_eq s).symm
theorem toL (s : ByteArray) : s.toList = L s := Lib.toList_data s

theorem names_no {l : Txt} (h0 : l ≠ [47]) (h : l.head? ≠ some 47) : names l = none := by rw [names, if_neg h0, if_neg h]
theorem names_bad {l : Txt} (h0 : l ≠ [47]) (h : okB (splitS l.tail) = false) : names l = none := by
  rw [names, if_neg h0]
  split
  · rw [h]; rfl
  · rfl
theorem names_good {l : Txt} (h0 : l ≠ [47]) (h1 : l.head? = some 47) (h : okB (splitS l.tail) = true) : names l = some (splitS l.tail) := by
  rw [names, if_neg h0, if_pos h1, if_pos h]
theorem ok_long {ps : List Txt} (h : 9 ≤ ps.length) : okB ps = false := by
  cases hh : okB ps
  · rfl
  · have := (ok_iff ps).1 hh; omega
theorem ok_one {ps : List Txt} {p : Txt} (h : p ∈ ps) (hp : nameB p = false) : okB ps = false := by
  cases hh : okB ps
  · rfl
  · have := ((ok_iff ps).1 hh).1 p h; rw [hp] at this; cases this

theorem head_prefix (l : Txt) : Lib.hasPrefix l [47] = (l.head? == some 47) := by
  unfold Lib.hasPrefix
  cases l with
  | nil => rfl
  | cons c t =>
    rw [Bool.eq_iff_iff]
    simp [List.isPrefixOf]
    exact eq_comm
theorem cut_yes (s : ByteArray) (w : World) (h : (L s).head? = some 47) :
    Calls Tryz.prog 171 #[.string s, .string ⟨#[47]⟩] w fun e w' => e = .returned (.tuple #[.string (B (L s).tail), .bool true]) ∧ w' = w := by
  refine (strings_CutPrefix s ⟨#[47]⟩ w).mono ?_
  have hp : Lib.hasPrefix (L s) [47] = true := by rw [head_prefix, h]; rfl
  have ht : Lib.trimPrefix (L s) [47] = (L s).tail := by rw [Lib.trimPrefix, if_pos hp]; simp
  rintro e w' ⟨rfl, rfl⟩
  refine ⟨?_, rfl⟩
  show Ending.returned (.tuple #[.string ⟨(Lib.trimPrefix (L s) [47]).toArray⟩, .bool (Lib.hasPrefix (L s) [47])]) = _
  rw [hp, ht]
theorem cut_no (s : ByteArray) (w : World) (h : (L s).head? ≠ some 47) :
    Calls Tryz.prog 171 #[.string s, .string ⟨#[47]⟩] w fun e w' => e = .returned (.tuple #[.string s, .bool false]) ∧ w' = w := by
  refine (strings_CutPrefix s ⟨#[47]⟩ w).mono ?_
  have hp : Lib.hasPrefix (L s) [47] = false := by rw [head_prefix]; simpa using h
  have ht : Lib.trimPrefix (L s) [47] = L s := by rw [Lib.trimPrefix, if_neg (by rw [hp]; decide)]
  rintro e w' ⟨rfl, rfl⟩
  refine ⟨?_, rfl⟩
  show Ending.returned (.tuple #[.string ⟨(Lib.trimPrefix (L s) [47]).toArray⟩, .bool (Lib.hasPrefix (L s) [47])]) = _
  rw [hp, ht]
theorem ret_int {a b : Int} (h : a = b) : Ending.returned (.int .i64 a) = .returned (.int .i64 b) := by rw [h]
theorem box_below (w : World) (o : Obj) : Below w.heap.size w (w.alloc o) := (Below.refl _ _).alloc (Nat.le_refl _) _

set_option maxHeartbeats 1000000 in
theorem depth_slash (s : ByteArray) (w : World) (h : L s = [47]) : Calls Tryz.prog 145 #[.string s] w fun e w' => e = .returned (.int .i64 (depth (L s))) ∧ Below w.heap.size w w' := by
  have hd : depth (L s) = 0 := by rw [h]; rfl
  rw [hd]
  have h0 : (s.toList == [47]) = true := by rw [toL, h]; rfl
  go_enter Tryz.func145, Tryz.ntmps145
  go_wp2
  go_ret
  exact ⟨rfl, Below.refl _ _⟩
set_option maxHeartbeats 1000000 in
theorem depth_no (s : ByteArray) (w : World) (hs : s.size ≤ 4611686018427387904) (h0 : L s ≠ [47]) (h : (L s).head? ≠ some 47) : Calls Tryz.prog 145 #[.string s] w fun e w' => e = .returned (.int .i64 (depth (L s))) ∧ Below w.heap.size w w' := by
  have hd : depth (L s) = -1 := depth_none (names_no h0 h)
  rw [hd]
  have h0 : (s.toList == [47]) = false := by rw [toL]; simpa using h0
  have H := Lib.hid h
  clear hd h
  go_enter Tryz.func145, Tryz.ntmps145
  go_wp2_with fail
  refine (cut_no _ _ H.out).mono ?_
  rintro e w' ⟨rfl, rfl⟩
  go_wp2_with fail
  refine (splitn_any _ _ hs).mono ?_
  rintro e w1 ⟨done, N, rfl, rfl, h1, h2, h3⟩
  go_wp2
  go_ret
  exact ⟨rfl, box_below _ _⟩
theorem piece_le {l p : Txt} (h : p ∈ splitS l) : p.length ≤ l.length := by
  have h1 := congrArg List.length (flat_split l)
  have h2 : ∀ ps : List Txt, p ∈ ps → p.length + 1 ≤ (flat ps).length := by
    intro ps
    induction ps with
    | nil => intro h; cases h
    | cons q qs ih =>
      intro h
      simp only [flat, List.cons_append, List.length_cons, List.length_append]
      rcases List.mem_cons.1 h with rfl | h
      · omega
      · have := ih h; omega
  have := h2 _ h
  simp only [List.length_cons] at h1
  omega
/-- The pieces' cells. -/
theorem cells_at {done : List ByteArray} {N i : Nat} (hi : i < done.length) : (Lib.cellsOf done N)[i]? = some (.string (done.getD i ByteArray.empty)) := by
  unfold Lib.cellsOf
  rw [List.getElem?_toArray, List.getElem?_append_left (by simpa using hi), List.getElem?_map, List.getElem?_eq_getElem hi, List.getD_eq_getElem?_getD, List.getElem?_eq_getElem hi]
  rfl
theorem all_take {done : List ByteArray} {k : Nat} {b : ByteArray} (h : k < done.length) (e : done.getD k ByteArray.empty = b) (ha : (done.take k).all (fun x => nameB (L x)) = true) (hb : nameB (L b) = true) : (done.take (k + 1)).all (fun x => nameB (L x)) = true := by
  rw [List.getD_eq_getElem?_getD, List.getElem?_eq_getElem h] at e
  rw [List.take_succ_eq_append_getElem h, List.all_append, ha]
  simp at e
  simp [e, hb]
theorem mem_at {done : List ByteArray} {k : Nat} {b : ByteArray} (h : k < done.length) (e : done.getD k ByteArray.empty = b) : b ∈ done := by
  rw [List.getD_eq_getElem?_getD, List.getElem?_eq_getElem h] at e
  simp at e
  rw [← e]; exact List.getElem_mem h
theorem pcs_le {s b : ByteArray} {done : List ByteArray} (hP : Pcs s done) (hb : b ∈ done) (h8 : done.length ≤ 8) : b.size ≤ s.size := by
  rcases hP with ⟨h, _⟩ | ⟨h, _⟩
  · rw [← L_len, ← L_len]
    exact piece_le (by rw [← h]; exact List.mem_map_of_mem hb)
  · omega
theorem pcs_bad {s b : ByteArray} {done : List ByteArray} (hP : Pcs (B (L s).tail) done) (h0 : L s ≠ [47]) (hb : b ∈ done) (hn : nameB (L b) = false) (h8 : done.length ≤ 8) : depth (L s) = -1 := by
  rcases hP with ⟨h, _⟩ | ⟨h, _⟩
  · rw [LB] at h
    exact depth_none (names_bad h0 (ok_one (by rw [← h]; exact List.mem_map_of_mem hb) hn))
  · omega
theorem pcs_long {s : ByteArray} {done : List ByteArray} (hP : Pcs (B (L s).tail) done) (h0 : L s ≠ [47]) (h8 : ¬ done.length ≤ 8) : depth (L s) = -1 := by
  refine depth_none (names_bad h0 (ok_long ?_))
  rcases hP with ⟨h, _⟩ | ⟨_, h⟩
  · rw [LB] at h
    rw [← h, List.length_map]; omega
  · rwa [LB] at h
theorem pcs_good {s : ByteArray} {done : List ByteArray} (hP : Pcs (B (L s).tail) done) (h0 : L s ≠ [47]) (h1 : (L s).head? = some 47) (h8 : done.length ≤ 8) (ha : done.all (fun x => nameB (L x)) = true) : depth (L s) = done.length := by
  rcases hP with ⟨h, _⟩ | ⟨h, _⟩
  · rw [LB] at h
    rw [depth_some (names_good h0 h1 ((ok_iff _).2 ⟨fun p hp => ?_, by rw [← h, List.length_map]; exact h8⟩)), ← h, List.length_map]
    rw [← h] at hp
    obtain ⟨x, hx, rfl⟩ := List.mem_map.1 hp
    exact List.all_eq_true.1 ha x hx
  · omega
set_option maxHeartbeats 2000000 in
theorem depth_yes (s : ByteArray) (w : World) (hs : s.size ≤ 4611686018427387904) (h0 : L s ≠ [47]) (h : (L s).head? = some 47) : Calls Tryz.prog 145 #[.string s] w fun e w' => e = .returned (.int .i64 (depth (L s))) ∧ Below w.heap.size w w' := by
  have H0 := Lib.hid h0
  have hq : (s.toList == [47]) = false := by rw [toL]; simpa using h0
  have H := Lib.hid h
  have hts : (B (L s).tail).size ≤ 4611686018427387904 := by rw [B_size, List.length_tail, L_len]; omega
  clear h h0
  go_enter Tryz.func145, Tryz.ntmps145
  go_wp2_with fail
  refine (cut_yes _ _ H.out).mono ?_
  rintro e w' ⟨rfl, rfl⟩
  go_wp2_with fail
  refine (splitn_any _ _ hts).mono ?_
  rintro e w1 ⟨done, N, rfl, rfl, h1, h2, HP⟩
  by_cases h8 : done.length ≤ 8
  · have h8' : (done.length : Int) ≤ 8 := by omega
    go_wp2
    go_loopw [26] (fun i wr => ∃ k : Nat, k ≤ done.length ∧ i = .int .i64 k ∧ Below (w'.heap.size + 1) (w'.alloc (.cells (Lib.cellsOf done N) 9)) wr ∧ Hid ((done.take k).all (fun x => nameB (L x)) = true)) (fun i _ => done.length - (intOf i).toNat)
    case atStart => exact ⟨0, Nat.zero_le _, rfl, Below.refl _ _, Lib.hid rfl⟩
    case round =>
      obtain ⟨k, hk, rfl, hB, HA⟩ := hrel
      have HBB := Lib.hid hB
      clear hB
      by_cases hlt : k < done.length
      · obtain ⟨b, hb⟩ : ∃ b, done.getD k ByteArray.empty = b := ⟨_, rfl⟩
        have hc : wr.cell? ⟨w'.heap.size, k, none⟩ = some (.string b) := by
          rw [HBB.out.cell (p := ⟨w'.heap.size, k, none⟩) (by simp), ← hb, ← cells_at hlt]
          exact World.cell?_alloc_new _ _ _ _
        have hbl := pcs_le HP.out (mem_at hlt hb) h8
        have Hb := Lib.hid hb
        obtain ⟨r, hr⟩ : ∃ r, nameB (L b) = r := ⟨_, rfl⟩
        have HR := Lib.hid hr
        clear hb hr
        go_wp2_with fail
        refine (name_any b wr (by unfold maxLen; omega)).mono ?_
        rintro e w2 ⟨rfl, hb2⟩
        have HB2 := Lib.hid (HBB.out.trans (hb2.mono (by have := HBB.out.size; simpa using this)))
        clear hb2
        rw [HR.out]
        go_wp2
        · have hr : r = false := by cases r <;> simp_all
          have HD := pcs_bad HP.out H0.out (mem_at hlt Hb.out) (by rw [HR.out, hr]) h8
          go_ret
          exact ⟨ret_int HD.symm, (box_below _ _).trans (HB2.out.mono (by simp))⟩
        · have hr : r = true := by cases r <;> simp_all
          go_roundw
          case rel => exact ⟨k + 1, hlt, by go_num, HB2.out, Lib.hid (all_take hlt Hb.out HA.out (by rw [HR.out, hr]))⟩
          case measure => simp [intOf]; omega
      · have e : k = done.length := by omega
        have HD := Lib.hid (pcs_good HP.out H0.out H.out h8 (by have := HA.out; rwa [e, List.take_length] at this))
        go_wp2
        go_ret
        exact ⟨ret_int HD.out.symm, (box_below _ _).trans (HBB.out.mono (by simp))⟩
  · have h8' : ¬ (done.length : Int) ≤ 8 := by omega
    have HD := Lib.hid (pcs_long HP.out H0.out h8)
    go_wp2
    go_ret
    exact ⟨ret_int HD.out.symm, box_below _ _⟩
theorem depth_any (s : ByteArray) (w : World) (hs : s.size ≤ 4611686018427387904) : Calls Tryz.prog 145 #[.string s] w fun e w' => e = .returned (.int .i64 (depth (L s))) ∧ Below w.heap.size w w' := by
  by_cases h0 : L s = [47]
  · exact depth_slash s w h0
  · by_cases h : (L s).head? = some 47
    · exact depth_yes s w hs h0 h
    · exact depth_no s w hs h0 h
set_option maxHeartbeats 1000000 in
theorem valid_any (s : ByteArray) (w : World) (hs : s.size ≤ 4611686018427387904) : Calls Tryz.prog 119 #[.string s] w fun e w' => e = .returned (.bool (valid (L s))) ∧ Below w.heap.size w w' := by
  have H := Lib.hid (valid_depth (L s))
  go_enter Tryz.func119, Tryz.ntmps119
  go_wp2_with fail
  refine (depth_any _ _ hs).mono ?_
  rintro e w' ⟨rfl, hb⟩
  have HB := Lib.hid hb
  clear hb
  go_wp2
  go_ret
  exact ⟨ret_bool H.out.symm, HB.out⟩
end Go.Proofs.YtflgemlhocjipaaGreatDoor
namespace Go.Proofs.YtflgemlhocjipaaGreatDoor
open Go.ChangeShapes Go.WideShapes Go.ChangeAt Go.RowKit Go.Proofs.Zn

theorem bang (s : ByteArray) (j : Nat) (h : j < s.size) : (L s)[j]? = some s.data[j]! := by
  have h' : j < s.data.size := h
  rw [getElem!_pos s.data j h', ← Array.getElem_toList h']
  exact List.getElem?_eq_getElem _
theorem byte_47 {c : UInt8} : ((c.toNat : Int) = 47) ↔ c = 47 := by
  rw [← UInt8.toNat_inj]
  show _ ↔ c.toNat = 47
  omega
theorem last_of {s : ByteArray} {a b : Txt} (e : L s = a ++ 47 :: b) (hf : 47 ∉ b) : Lib.lastIndexByte s 47 = a.length := by
  have hsz : s.size = a.length + 1 + b.length := by rw [← L_len, e]; simp; omega
  have ha : (L s)[a.length]? = some 47 := by rw [e]; simp
  have hb : ∀ j, a.length < j → j < s.size → (L s)[j]? ≠ some 47 := by
    intro j h1 h2 h3
    rw [e, List.getElem?_append_right (by omega)] at h3
    obtain ⟨k, hk⟩ : ∃ k, j - a.length = k + 1 := ⟨j - a.length - 1, by omega⟩
    rw [hk, List.getElem?_cons_succ] at h3
    exact hf (List.mem_of_getElem? h3)
  unfold Lib.lastIndexByte
  rcases Lib.lastIdx_spec s 47 s.size with ⟨_, h⟩ | ⟨i, hi, h1, h2, h3⟩
  · have := h a.length (by omega)
    rw [bang s _ (by omega)] at ha
    exact absurd (byte_47.2 (Option.some.inj ha)) this
  · rw [h1]
    have hlt : ¬ i < a.length := fun h => by
      have := h3 a.length h (by omega)
      rw [bang s _ (by omega)] at ha
      exact this (byte_47.2 (Option.some.inj ha))
    have hgt : ¬ a.length < i := fun h => hb i h hi (by rw [bang s i hi]; exact congrArg some (byte_47.1 h2))
    have : i = a.length := by omega
    rw [this]
set_option maxHeartbeats 1000000 in
theorem last_any {s : ByteArray} {a b : Txt} (e : L s = a ++ 47 :: b) (hf : 47 ∉ b) (w : World) (hs : s.size < 4611686018427387904) :
    Calls Tryz.prog 175 #[.string s] w fun e w' => e = .returned (.int .i64 a.length) ∧ w' = w := by
  have H := Lib.hid (last_of e hf)
  clear e hf
  go_enter Tryz.func175, Tryz.ntmps175
  go_wp2_with fail
  refine (strings_LastIndex_one s ⟨#[47]⟩ rfl hs _).mono ?_
  rintro e w' ⟨rfl, rfl⟩
  rw [show Lib.lastIndexByte s (((⟨#[47]⟩ : ByteArray)[0]'(by decide)).toNat : Int) = a.length from H.out]
  go_wp2
  go_ret
  exact ⟨rfl, rfl⟩
set_option maxHeartbeats 1000000 in
theorem clone_any (s : ByteArray) (w : World) (hs : s.size ≤ 281474976710656) : Calls Tryz.prog 139 #[.string s] w fun e w' => e = .returned (.string s) ∧ Below w.heap.size w w' := by
  go_enter Tryz.func139, Tryz.ntmps139
  go_wp2_with fail
  refine (stringslite_Clone s _ hs).mono ?_
  rintro e w' ⟨rfl, hb⟩
  have HB := Lib.hid hb
  clear hb
  go_wp2
  go_ret
  exact ⟨rfl, HB.out⟩

/-- A path's last name, and what is ahead of it. -/
theorem valid_cut {l : Txt} (h : valid l = true) : ∃ a b, l = a ++ 47 :: b ∧ 47 ∉ b ∧ base l = b ∧ (parentOk l = true → l.take (max a.length 1) = parent l) := by
  unfold valid at h
  rcases hn : names l with _ | ps
  · rw [hn] at h; cases h
  · obtain ⟨hj, ho⟩ := names_join hn
    rcases List.eq_nil_or_concat ps with rfl | ⟨init, b, rfl⟩
    · exact ⟨[], [], by rw [← hj]; rfl, by simp, by unfold base; rw [hn]; rfl, by unfold parentOk; rw [hn]; intro h; cases h⟩
    · have hb := ((ok_iff _).1 ho).1 b (by simp)
      have hl : l = flat init ++ 47 :: b := by
        rw [← hj, joinP, if_neg (by simp), List.concat_eq_append, flat_append]; simp [flat]
      refine ⟨flat init, b, hl, name_free hb, by unfold base; rw [hn]; simp, fun _ => ?_⟩
      unfold parent
      rw [hn]
      simp only [List.concat_eq_append, List.dropLast_concat]
      rw [if_neg (by simp), joinP, hl]
      rcases init with _ | ⟨p, ps⟩
      · rfl
      · rw [if_neg (by simp)]
        have : max (flat (p :: ps)).length 1 = (flat (p :: ps)).length := by simp [flat]
        rw [this]; simp
theorem ext_to (s : ByteArray) (i : Nat) : s.extract 0 i = B ((L s).take i) := by
  rw [← BL (s.extract 0 i)]
  exact congrArg B (by show (s.extract 0 i).data.toList = _; rw [Lib.extract_from_zero])
theorem ret_string {a b : ByteArray} (h : a = b) : Ending.returned (.string a) = .returned (.string b) := by rw [h]
set_option maxHeartbeats 1000000 in
theorem parent_any (s : ByteArray) (w : World) (hs : s.size ≤ 140737488355328) : Calls Tryz.prog 149 #[.string s] w fun e w' => e = .returned (.tuple #[.string (B (parent (L s))), .bool (parentOk (L s))]) ∧ Below w.heap.size w w' := by
  cases hv : parentOk (L s)
  · have hb : parent (L s) = [] := by
      unfold parentOk at hv
      unfold parent
      cases hn : names (L s) <;> simp_all
    rw [hb]
    have hd : depth (L s) < 1 := by rw [parentOk_depth] at hv; simpa using hv
    clear hv hb
    go_enter Tryz.func149, Tryz.ntmps149
    go_wp2_with fail
    refine (depth_any _ _ (by omega)).mono ?_
    rintro e w1 ⟨rfl, hb⟩
    have HB := Lib.hid hb
    clear hb
    go_wp2
    go_ret2
    exact ⟨rfl, HB.out⟩
  · have hvv : valid (L s) = true := by
      unfold parentOk at hv
      unfold valid
      cases hn : names (L s) <;> simp_all
    obtain ⟨a, b, e, hf, -, hp⟩ := valid_cut hvv
    have hsz : s.size = a.length + 1 + b.length := by rw [← L_len, e]; simp; omega
    obtain ⟨m, hm⟩ : ∃ m : Nat, max a.length 1 = m := ⟨_, rfl⟩
    have hm2 : max (a.length : Int) 1 = (m : Int) := by omega
    have h1 : (0 : Int) ≤ (m : Int) := by omega
    have h2 : (m : Int) ≤ s.size := by omega
    have HE : Hid (s.extract 0 m = B (parent (L s))) := Lib.hid (by rw [ext_to, ← hm, hp hv])
    have hd : ¬ depth (L s) < 1 := by rw [parentOk_depth] at hv; simpa using hv
    have EE := Lib.hid e
    have h3 : s.size ≤ 281474976710656 := by omega
    have h4 : m ≤ s.size := by omega
    clear hv hsz e hm hp hvv
    go_enter Tryz.func149, Tryz.ntmps149
    go_wp2_with fail
    refine (depth_any _ _ (by omega)).mono ?_
    rintro e w1 ⟨rfl, hb⟩
    have HB := Lib.hid hb
    clear hb
    go_wp2_with fail
    refine (last_any EE.out hf _ (by omega)).mono ?_
    rintro e w2 ⟨rfl, rfl⟩
    go_wp2_with fail
    rw [HE.out]
    refine (clone_any _ _ ?_).mono ?_
    · rw [← HE.out, ByteArray.size_extract]; omega
    rintro e w3 ⟨rfl, hb⟩
    have HB3 := Lib.hid (HB.out.trans (hb.mono HB.out.size))
    clear hb
    go_wp2
    go_ret2
    exact ⟨rfl, HB3.out⟩
end Go.Proofs.YtflgemlhocjipaaGreatDoor
namespace Go.Proofs.YtflgemlhocjipaaGreatDoor
open Go.RowKit Go.Maps Go.Sort Go.Shelf
theorem sorts88 (m : Nat) : AnyZ.SortsIn Tryz.prog sorted88_ren Fence.wide m :=
  ⟨fun blk off cap ss W hH hblk hsz => callsIn_wide.2 (AnyM.slices_Sort_string sort130 blk off cap ss W hH hblk hsz),
   fun p cap W => callsIn_wide.2 (AnyM.slices_Sort_string_none sort130 p cap W)⟩

theorem maps_Keys_any (mb : Option Nat) (W : World) : CallsIn Fence.wide 5 Tryz.prog 89 #[.map mb] W fun e w' => e = .returned (.func (.func 131) #[] #[.pointer (some ⟨W.heap.size, 0, none⟩)]) ∧ w' = W.alloc (.cells #[.map mb] 153) :=
  AnyZ.keys_in keys89 Fence.wide 5 trivial rfl mb W

set_option maxHeartbeats 1000000 in
theorem slices_Sorted_keys {H : Type} (b nn : Nat) (D0 : DataW H) (R : Value → Option (DataW H × List MemPlace)) (w : World) (hown : w.ownsMap Tryz.prog 9 R b nn D0) (hmax : Maps.size D0 ≤ maxLen) (hbytes : Maps.size D0 * 16 ≤ 140737488355328) :
    CallsIn Fence.wide 5 Tryz.prog 88 #[.func (.func 131) #[] #[.pointer (some ⟨w.heap.size, 0, none⟩)]] (w.alloc (.cells #[.map (some b)] 153)) fun e w' => ∃ (v : Value) (ss : List (List UInt8)), e = .returned v ∧ ss.Perm (strKeys D0) ∧
      w'.ownsRow (w.alloc (.cells #[.map (some b)] 153)).heap.size 9 1 v ss.length ((ss.mergeSort (fun x y => decide (x ≤ y))).map encStr) ∧ (v = .slice none 0 0 ↔ ss = []) ∧ Below (w.alloc (.cells #[.map (some b)] 153)).heap.size (w.alloc (.cells #[.map (some b)] 153)) w' := by
  have hbl := hown.lt
  have hseq : SeqGives Fence.wide 2 Tryz.prog 131 #[.pointer (some ⟨w.heap.size, 0, none⟩)] encStr (fun ss => ss.Perm (strKeys D0)) (Maps.size D0) (w.alloc (.cells #[.map (some b)] 153)) :=
    AnyZ.keys_gives (ρ := keys89_ren) { keys89 with } Fence.wide _ trivial rfl (by omega) w.heap.size b nn D0 _ (by simp) (by simp) (by
      obtain ⟨es, clock, hb, Ft, hs, hD⟩ := hown
      exact ⟨es, clock, (Below.heap_alloc _ _ b hbl).trans hb, Ft, hs, hD⟩)
  exact AnyZ.sorted_in sorted88 Fence.wide 5 trivial trivial trivial trivial rfl (by omega) (sorts88 _) (enters_of Tryz.func130 (by kernel_rfl) rfl) 131 #[.pointer (some ⟨w.heap.size, 0, none⟩)] trivial (enters_of Tryz.func131 (by kernel_rfl) rfl) _ _ hmax hbytes _ hseq

end Go.Proofs.YtflgemlhocjipaaGreatDoor
