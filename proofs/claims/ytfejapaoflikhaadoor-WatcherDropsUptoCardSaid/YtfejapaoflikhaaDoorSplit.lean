/-
  What strings.SplitN returns of any text at a slash and nine pieces: a new row of the text's pieces, or nine of them where there are nine or more. Condition: the text's length.
-/
import Derived.Test.YtfejapaoflikhaaDoorName
import Derived.Test.YtfejapaoflikhaaDoorShelf
import Derived.Lib.Split
import Derived.Laws.Strings3
import Derived.Deep.OwnRows
import Derived.Deep.LoopGhost
namespace Go.Proofs.YtfejapaoflikhaaDoor
open Go.ChangeShapes Go.WideShapes Go.ChangeAt Go.RowKit Go.Proofs.Zn

abbrev L (s : ByteArray) : Txt := s.data.toList
theorem idx_cases (l : Txt) : (Lib.indexByte l 47 = -1 ∧ 47 ∉ l) ∨ ∃ i : Nat, Lib.indexByte l 47 = i ∧ i < l.length ∧ 47 ∉ l.take i ∧ l = l.take i ++ 47 :: l.drop (i + 1) := by
  induction l with
  | nil => exact .inl ⟨rfl, by simp⟩
  | cons c t ih =>
    by_cases h : c = 47
    · subst h
      exact .inr ⟨0, by simp [Lib.indexByte], by simp, by simp, by simp⟩
    · have hb : (c == 47) = false := by simpa using h
      rcases ih with ⟨h1, h2⟩ | ⟨i, h1, h2, h3, h4⟩
      · exact .inl ⟨by simp [Lib.indexByte, hb, h1], by simp; exact ⟨fun e => h e.symm, h2⟩⟩
      · refine .inr ⟨i + 1, ?_, by simp; omega, ?_, ?_⟩
        · simp only [Lib.indexByte, hb, h1]
          simp
        · simp only [List.take_succ_cons, List.mem_cons, not_or]
          exact ⟨fun e => h e.symm, h3⟩
        · simp only [List.take_succ_cons, List.drop_succ_cons, List.cons_append, List.cons.injEq, true_and]
          exact h4
theorem idx_cut {x : ByteArray} {i : Nat} (h3 : 47 ∉ (L x).take i) (h4 : L x = (L x).take i ++ 47 :: (L x).drop (i + 1)) : splitS (L x) = L (x.extract 0 i) :: splitS (L (x.extract (i + 1) x.size)) := by
  have e1 : L (x.extract 0 i) = (L x).take i := by show (x.extract 0 i).data.toList = _; rw [Lib.extract_data]; simp
  have e2 : L (x.extract (i + 1) x.size) = (L x).drop (i + 1) := by show (x.extract (i + 1) x.size).data.toList = _; rw [Lib.extract_to_end]
  rw [e1, e2]
  conv => lhs; rw [h4]
  exact split_hit _ _ h3
/-- What the pieces are. -/
def Pcs (s : ByteArray) (done : List ByteArray) : Prop := (done.map L = splitS (L s) ∧ done.length ≤ 9) ∨ (done.length = 9 ∧ 9 ≤ (splitS (L s)).length)
theorem pcs_last {s rest : ByteArray} {done : List ByteArray} (h : done.map L ++ splitS (L rest) = splitS (L s)) (hd : done.length ≤ 8) (hf : 47 ∉ L rest) : Pcs s (done ++ [rest]) := by
  rw [split_free _ hf] at h
  exact .inl ⟨by simp [← h], by simp; omega⟩
theorem pcs_full {s rest : ByteArray} {done : List ByteArray} (h : done.map L ++ splitS (L rest) = splitS (L s)) (hd : done.length = 8) : Pcs s (done ++ [rest]) := by
  refine .inr ⟨by simp [hd], ?_⟩
  have : 1 ≤ (splitS (L rest)).length := by have := split_ne (L rest); cases hh : splitS (L rest) <;> simp_all
  rw [← h]
  simp [hd]
  omega
theorem info9 : (Tryd.prog.info? 9).map (fun i => (i.zero, i.size, i.bytes)) = some (some (.string ByteArray.empty), 1, 16) := by kernel_rfl
set_option maxHeartbeats 4000000 in
theorem gensplit_any (s : ByteArray) (w : World) (hs : s.size ≤ 4611686018427387904) :
    Calls Tryd.prog 52 #[.string s, .string ⟨#[47]⟩, .int .i64 0, .int .i64 9] w fun e w' => ∃ (done : List ByteArray) (N : Nat), e = .returned (.slice (some ⟨w.heap.size, 0, none⟩) done.length N) ∧ w' = w.alloc (.cells (Lib.cellsOf done N) 9) ∧ done.length ≤ N ∧ N ≤ 9 ∧ Hid (Pcs s done) := by
  obtain ⟨N, hN⟩ : ∃ N : Nat, min 9 (s.size + 1) = N := ⟨_, rfl⟩
  have eN : min (9 : Int) ((s.size : Int) + 1) = (N : Int) := by omega
  have hN1 : (1 : Int) ≤ (N : Int) := by omega
  have hN9 : N ≤ 9 := by omega
  have HN := Lib.hid hN
  clear hN
  have hmk := run_make_row' (P := Tryd.prog) 68 9 (.string ByteArray.empty) 16 Tryd.underlying68 info9 rfl .i64 .i64 N (by omega) (by omega)
  go_enter Tryd.func52, Tryd.ntmps52
  go_wp2_with fail
  clear hmk
  go_loopg [0, 10] (N - 1) (fun g s0 s10 wr => ∃ (done : List ByteArray) (rest : ByteArray), s0 = .string rest ∧ s10 = .int .i64 done.length ∧ done.length ≤ N - 1 ∧ g = N - 1 - done.length ∧ rest.size + done.length ≤ s.size ∧
      wr = w.alloc (.cells (Lib.cellsOf done N) 9) ∧ Hid (done.map L ++ splitS (L rest) = splitS (L s)))
  case atStart => exact ⟨[], s, rfl, rfl, Nat.zero_le _, rfl, Nat.le_refl _, by rw [Lib.cellsOf_nil], Lib.hid rfl⟩
  case round =>
    obtain ⟨done, rest, rfl, rfl, hd, rfl, hrs, rfl, HS⟩ := hrel
    have hnext : (Lib.cellsOf done N)[done.length]? = some (.string ByteArray.empty) := Lib.cellsOf_next (by omega)
    by_cases hlt : done.length < N - 1
    · have hltz : ((done.length : Nat) : Int) < (N : Int) - 1 := by omega
      rcases idx_cases (L rest) with ⟨hix, hfree⟩ | ⟨i, hix, h1, h3, h4⟩
      · have HX := Lib.hid hix
        have HP := Lib.hid (pcs_last HS.out (by omega) hfree)
        clear hix hfree
        go_wp2_with ((with_reducible refine (strings_Index_one _ _ _).mono ?_); rintro e w' ⟨rfl, rfl⟩; rw [HX.out])
        go_ret
        exact ⟨done ++ [rest], N, by simp, by rw [Lib.cellsOf_set (by omega)], by simp; omega, hN9, HP⟩
      · have HX := Lib.hid hix
        have HC := Lib.hid (idx_cut h3 h4)
        have hroom : i + 1 ≤ rest.size := by rw [Lib.size_eq]; exact h1
        clear hix h1 h3 h4
        have c0 : ¬ ((i : Int) < 0) := by omega
        have c2 : (↑i : Int) ≤ ↑rest.size := by omega
        have c3 : (0 : Int) ≤ ↑i + 1 := by omega
        have c4 : (↑i + 1 : Int) ≤ ↑rest.size := by omega
        go_wp2_with ((with_reducible refine (strings_Index_one _ _ _).mono ?_); rintro e w' ⟨rfl, rfl⟩; rw [HX.out])
        go_roundg (N - 1 - (done.length + 1))
        case measure => omega
        case rel =>
          refine ⟨done ++ [rest.extract 0 i], rest.extract (i + 1) rest.size, rfl, by simp, by simp; omega, by simp, by rw [ByteArray.size_extract]; simp; omega, by rw [← Lib.cellsOf_set (by omega)], Lib.hid ?_⟩
          rw [← HS.out, HC.out]
          simp
    · have hltz : ¬ (((done.length : Nat) : Int) < (N : Int) - 1) := by omega
      have HP : Hid (Pcs s (done ++ [rest])) := by
        have := HN.out
        by_cases h8 : done.length = 8
        · exact Lib.hid (pcs_full HS.out h8)
        · refine Lib.hid (pcs_last HS.out (by omega) ?_)
          have h0 : rest.size = 0 := by omega
          rw [Lib.size_eq] at h0
          have e0 : L rest = [] := List.eq_nil_of_length_eq_zero h0
          rw [e0]
          simp
      go_wp2
      go_ret
      exact ⟨done ++ [rest], N, by simp, by rw [Lib.cellsOf_set (by omega)], by simp; omega, hN9, HP⟩
set_option maxHeartbeats 1000000 in
theorem splitn_any (s : ByteArray) (w : World) (hs : s.size ≤ 4611686018427387904) :
    Calls Tryd.prog 47 #[.string s, .string ⟨#[47]⟩, .int .i64 9] w fun e w' => ∃ (done : List ByteArray) (N : Nat), e = .returned (.slice (some ⟨w.heap.size, 0, none⟩) done.length N) ∧ w' = w.alloc (.cells (Lib.cellsOf done N) 9) ∧ done.length ≤ N ∧ N ≤ 9 ∧ Hid (Pcs s done) := by
  go_enter Tryd.func47, Tryd.ntmps47
  go_wp2_with fail
  refine (gensplit_any _ _ hs).mono ?_
  rintro e w' ⟨done, N, rfl, rfl, h1, h2, h3⟩
  go_wp2
  go_ret
  exact ⟨done, N, rfl, rfl, h1, h2, h3⟩
end Go.Proofs.YtfejapaoflikhaaDoor
