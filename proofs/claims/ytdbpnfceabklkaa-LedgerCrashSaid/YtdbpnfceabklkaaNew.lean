/-
  What New returns: a disk of so many sectors of bytes 0; what a copy of sectors is. Condition: no more than 65536 sectors are asked for.
-/
import Derived.Test.YtdbpnfceabklkaaLay
import Derived.Lib.LazyBuf
namespace Go.Proofs.Ytdbpnfceabklkaa
open Go.ChangeShapes Go.WideShapes Go.ChangeAt Go.RowKit

def newD (n : Nat) : Dk := ⟨List.replicate n (List.replicate 64 0), [], 0, false⟩
theorem new_ok (n : Nat) : Dok (newD n) := ⟨fun s hs => by rw [List.eq_of_mem_replicate hs]; exact sok_zero, fun x hx => by simp [newD] at hx, by simp [newD], by simp [newD]⟩
theorem made_zero (n : Nat) : (madeCells Z64 (n * 64)).toList = flat (List.replicate n (List.replicate 64 0)) := by
  have h1 : (madeCells Z64 (n * 64)).toList = List.replicate (n * 64) (Value.int .u8 0) := by
    rw [List.eq_replicate_iff]
    refine ⟨by rw [Array.length_toList, size_madeCells], fun b hb => ?_⟩
    simp only [madeCells, Array.toList_map, List.mem_map] at hb
    obtain ⟨i, _, rfl⟩ := hb
    have : i % Z64.size < 64 := by rw [z64_size]; omega
    simp [Z64] at this ⊢
    rw [getElem!_pos _ _ (by simpa using this)]
    simp
  have h2 : flat (List.replicate n (List.replicate 64 0)) = List.replicate (n * 64) (Value.int .u8 0) := by
    induction n with
    | zero => rfl
    | succ n ih =>
      rw [List.replicate_succ]
      have e : flat (List.replicate 64 0 :: List.replicate n (List.replicate 64 0)) = ints (List.replicate 64 0) ++ flat (List.replicate n (List.replicate 64 0)) := rfl
      rw [e, ih (by
        rw [List.eq_replicate_iff]
        refine ⟨by rw [Array.length_toList, size_madeCells], fun b hb => ?_⟩
        simp only [madeCells, Array.toList_map, List.mem_map] at hb
        obtain ⟨i, _, rfl⟩ := hb
        have : i % Z64.size < 64 := by rw [z64_size]; omega
        simp [Z64] at this ⊢
        rw [getElem!_pos _ _ (by simpa using this)]
        simp)]
      unfold ints
      rw [List.map_replicate, List.replicate_append_replicate]
      congr 1
      omega
  rw [h1, h2]
/-- What New leaves. -/
def NwPost (w : World) (n : Nat) (e : Ending) (w' : World) : Prop := ∃ p, e = .returned (.pointer (some ⟨p, 0, none⟩)) ∧ PDisk w' w.heap.size p (newD n) ∧ Below w.heap.size w w'
theorem new_end (w : World) (n : Nat) (hn : n ≤ 65536) (b : Nat) (hb : b = w.heap.size + 1) (C : Array Value) (hC : C = madeCells Z64 (n * 64)) : NwPost w n (.returned (.pointer (some ⟨b, 0, none⟩))) ((w.alloc (.cells C 87)).alloc (.cells #[.slice (some ⟨w.heap.size, 0, none⟩) n n, .slice none 0 0, .int .i64 0, .bool false] 84)) := by
  subst hb hC
  have e : (w.alloc (.cells (madeCells Z64 (n * 64)) 87)).heap.size = w.heap.size + 1 := by simp
  have h1 : (w.alloc (.cells (madeCells Z64 (n * 64)) 87)).heap[w.heap.size]? = some (.cells (madeCells Z64 (n * 64)) 87 (0, 0)) := new_block w _
  have h2 := new_block (w.alloc (.cells (madeCells Z64 (n * 64)) 87)) (.cells #[.slice (some ⟨w.heap.size, 0, none⟩) n n, .slice none 0 0, .int .i64 0, .bool false] 84)
  rw [e] at h2
  refine ⟨_, rfl, ⟨.slice (some ⟨w.heap.size, 0, none⟩) n n, .slice none 0 0, 0, new_ok n, by omega, h2, ?_, World.ownsRow_nil _ _ _ _, by decide, fun _ => rfl⟩, (box_below _ _).trans ((box_below _ _).mono (by omega))⟩
  show World.ownsRow _ _ 87 64 _ (List.replicate n (List.replicate 64 (0 : Int))).length (flat (ups (List.replicate n (List.replicate 64 0)) []))
  rw [List.length_replicate]
  refine ⟨by show (flat (List.replicate n (List.replicate 64 0))).length = _; rw [flat_length (l := List.replicate n (List.replicate 64 0)) (new_ok n).1]; simp, .inr ⟨w.heap.size, n, madeCells Z64 (n * 64), rfl, Nat.le_refl _, ?_, Nat.le_refl _, by unfold maxLen; omega, size_madeCells _ _, ?_⟩⟩
  · rw [Below.heap_alloc _ _ _ (by omega)]; exact h1
  · rw [List.take_of_length_le (by rw [Array.length_toList, size_madeCells]; exact Nat.le_refl _), made_zero]; rfl
theorem new_any (many : Int) (n : Nat) (w : World) (hn : n ≤ 65536) (h : (many < 0 ∧ n = 0) ∨ many = (n : Int)) : Calls Try.prog 27 #[.int .i64 many] w (NwPost w n) := by
  obtain ⟨i0, hi, hz0, hz1, hz2⟩ := info_parts info66
  obtain ⟨C, hC⟩ : ∃ C, C = madeCells Z64 (n * 64) := ⟨_, rfl⟩
  have hmk : ∀ w : World, (Instr.makeSlice 81 (.int .i64 (n : Int)) (.int .i64 (n : Int))).run Try.prog w = .ok (.slice (some ⟨w.heap.size, 0, none⟩) n n) (w.alloc (.cells C 87)) := fun w => by
    have h := run_make (P := Try.prog) w 81 87 i0 (.agg Z64) Try.underlying81 hi hz0 .i64 .i64 (n : Int) (n : Int) (by omega) (by omega) (by rw [hz2]; omega) (by omega)
    rw [hz1] at h
    simpa [Value.cells, ← hC] using h
  have HC := Lib.hid hC
  have hn1 : (n : Int) ≤ 65536 := by omega
  have hn0 : (0 : Int) ≤ (n : Int) := by omega
  clear hC hi hz0 hz1 hz2
  rcases h with ⟨h, h0⟩ | h
  · subst h0
    have hmk' : ∀ w : World, (Instr.makeSlice 81 (.int .i64 0) (.int .i64 0)).run Try.prog w = .ok (.slice (some ⟨w.heap.size, 0, none⟩) 0 0) (w.alloc (.cells C 87)) := hmk
    clear hmk
    go_enter Try.func27, Try.ntmps27
    go_wp2_with fail
    go_ret
    exact new_end w 0 hn _ (by simp) C HC.out
  · subst h
    by_cases h0 : n = 0
    · subst h0
      have hmk' : ∀ w : World, (Instr.makeSlice 81 (.int .i64 0) (.int .i64 0)).run Try.prog w = .ok (.slice (some ⟨w.heap.size, 0, none⟩) 0 0) (w.alloc (.cells C 87)) := hmk
      clear hmk
      go_enter Try.func27, Try.ntmps27
      go_wp2_with fail
      go_ret
      exact new_end w 0 hn _ (by simp) C HC.out
    · have h1 : (0 : Int) < (n : Int) := by omega
      clear h0
      go_enter Try.func27, Try.ntmps27
      go_wp2_with fail
      go_ret
      exact new_end w n hn _ (by simp) C HC.out
/-- What a copy of sectors leaves. -/
def ClPost (w : World) (n : Nat) (xs : List Value) (e : Ending) (w' : World) : Prop := ∃ v, e = .returned v ∧ w'.ownsRow w.heap.size 87 64 v n xs ∧ Below w.heap.size w w'
theorem clone_any (B n : Nat) (v : Value) (xs : List Value) (w : World) (h : w.ownsRow B 87 64 v n xs) (h1 : ∀ u ∈ xs, u.oneCell' = true) (hn : n ≤ 65536) : Calls Try.prog 41 #[v] w (ClPost w n xs) := by
  obtain ⟨A, c, rfl, hnc, hcm, hg⟩ := own_form h
  have heq : ∀ w : World, (binOp .eql 81 (.slice A n c) (.slice none 0 0)).run Try.prog w = .ok (.bool A.isNone) w := fun w => run_eql_slice_nil (P := Try.prog) w 81 87 A n c Try.underlying81
  cases A with
  | none =>
    have h0 : n = 0 := by
      rcases Nat.eq_zero_or_pos n with h | h
      · exact h
      · obtain ⟨g, hg⟩ := hg h; cases hg
    subst h0
    have hx : xs = [] := List.eq_nil_of_length_eq_zero (by have := h.1; omega)
    subst hx
    have heq' : ∀ w : World, (binOp .eql 81 (.slice none 0 c) (.slice none 0 0)).run Try.prog w = .ok (.bool true) w := heq
    clear heq h h1
    go_enter Try.func41, Try.ntmps41
    go_wp2_with fail
    go_ret
    exact ⟨_, rfl, World.ownsRow_nil _ _ _ _, Below.refl _ _⟩
  | some ad =>
    have heq' : ∀ w : World, (binOp .eql 81 (.slice (some ad) n c) (.slice none 0 0)).run Try.prog w = .ok (.bool false) w := heq
    obtain ⟨i0, hi, hz0, hz1, hz2⟩ := info_parts info66
    have HO : Hid ((w.alloc (.cells #[] 87)).ownsRow w.heap.size 87 64 (.slice (some ⟨w.heap.size, 0, none⟩) 0 0) 0 []) := Lib.hid (World.ownsRow_made w #[] 0 (Nat.le_refl _) (by unfold maxLen; omega) rfl)
    have HL := Lib.hid h.1
    have HS : Hid (∀ j u, xs[j]? = some u → (w.alloc (.cells #[] 87)).cell? (ad.add j) = some u) := Lib.hid (fun j u hu => by
      have h' := h.alloc (.cells #[] 87)
      rcases h'.2 with ⟨h0, _⟩ | ⟨g, cap, cur, e1, _⟩
      · cases h0
      · simp only [Value.slice.injEq, Option.some.injEq] at e1
        obtain ⟨rfl, -, rfl⟩ := e1
        exact h'.cells (g := g) rfl j u hu)
    have HON := Lib.hid h1
    have HM : Hid (0 + n ≤ maxLen) := Lib.hid (by unfold maxLen; omega)
    have HB : Hid ((0 + n) * 64 ≤ 140737488355328) := Lib.hid (by omega)
    have HZ : Hid (w.heap.size ≤ (w.alloc (.cells #[] 87)).heap.size) := Lib.hid (by simp)
    clear h h1 heq hg
    go_enter Try.func41, Try.ntmps41
    go_wp2_with (at_builtin; refine wpList_append_own (P := Try.prog) _ rfl (.tmp 5) (.tmp 6) 81 rfl w.heap.size 87 i0 (.agg Z64) 64 64 Try.underlying81 hi hz0 hz1 hz2 z64_size (by decide) (.slice (some ⟨w.heap.size, 0, none⟩) 0 0) 0 [] rfl HO.out ad n c xs rfl HL.out HS.out HON.out HM.out HB.out HZ.out ?_; intro v2 w2 h2 h3 _; have HX := Lib.hid h2; have HY := Lib.hid h3; clear h2 h3)
    go_ret
    refine ⟨v2, rfl, ?_, (box_below w _).grown HY.out (by simp) (fun k hk => by simp [Value.ownBlock] at hk; omega)⟩
    have h := HX.out
    rw [Nat.zero_add, List.nil_append] at h
    exact h
end Go.Proofs.Ytdbpnfceabklkaa
