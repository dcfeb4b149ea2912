/-
  What place, fits, New, Size, Blocks and Clone return and leave. No condition.
-/
import Derived.Test.YtoaahhgngelnaaaTMap
import Derived.Test.YtoaahhgngelnaaaTShelf
namespace Go.Proofs.Ytoaahhgngelnaaa
set_option maxRecDepth 100000
open Go.ChangeShapes Go.WideShapes Go.ChangeAt Go.RowKit Go.Proofs.Sg

theorem place_any (n : Nat) (hn : n ≤ 4194304) (w : World) : Calls Try.prog 51 #[.int .i64 (n : Int)] w fun e w' => e = .returned (.tuple #[.int .i64 ((n / 16 : Nat) : Int), .int .i64 ((n % 16 : Nat) : Int)]) ∧ w = w' := by
  obtain ⟨q, hq⟩ : ∃ q, n / 16 = q := ⟨_, rfl⟩
  obtain ⟨r, hr⟩ : ∃ r, n % 16 = r := ⟨_, rfl⟩
  have h1 : Int.tdiv (n : Int) 16 = (q : Int) := by rw [Int.tdiv_eq_ediv_of_nonneg (by omega)]; omega
  have h2 : Int.tmod (n : Int) 16 = (r : Int) := by rw [Int.tmod_eq_emod_of_nonneg (by omega)]; omega
  have h3 : IntKind.i64.wrap (q : Int) = (q : Int) := by rw [IntKind.wrap_i64]; omega
  have h4 : IntKind.i64.wrap (r : Int) = (r : Int) := by rw [IntKind.wrap_i64]; omega
  rw [hq, hr]
  clear hq hr
  go_enter Try.func51, Try.ntmps51
  go_wp2_with fail
  go_ret2
  exact ⟨rfl, rfl⟩
/-- May so many bytes lie there? -/
def ft (p n : Int) : Bool := decide (0 ≤ p) && (decide (0 ≤ n) && decide (n ≤ 1048576 - p))
theorem ft_iff {p n : Int} : ft p n = true ↔ 0 ≤ p ∧ 0 ≤ n ∧ p + n ≤ 1048576 := by
  unfold ft
  simp only [Bool.and_eq_true, decide_eq_true_eq]
  omega
theorem fits_any (p n : Int) (hp : p ≤ 9223372036854775807) (w : World) : Calls Try.prog 50 #[.int .i64 p, .int .i64 n] w fun e w' => e = .returned (.bool (ft p n)) ∧ w = w' := by
  obtain ⟨r, hr⟩ : ∃ r, ft p n = r := ⟨_, rfl⟩
  rw [hr]
  by_cases h0 : 0 ≤ p
  · by_cases h1 : 0 ≤ n
    · obtain ⟨b, hb⟩ : ∃ b, decide (n ≤ 1048576 - p) = b := ⟨_, rfl⟩
      have HE : Hid (b = r) := Lib.hid (by rw [← hr, ← hb]; unfold ft; simp [h0, h1])
      have h0' : decide (0 ≤ p) = true := by simpa using h0
      have h1' : decide (0 ≤ n) = true := by simpa using h1
      have h2 : IntKind.i64.wrap (1048576 - p) = 1048576 - p := by rw [IntKind.wrap_i64]; omega
      clear h0 h1 hr
      go_enter Try.func50, Try.ntmps50
      go_wp2_with fail
      go_ret
      exact ⟨ret_b HE.out, rfl⟩
    · have HE : Hid (false = r) := Lib.hid (by rw [← hr]; unfold ft; simp [h1])
      have h0' : decide (0 ≤ p) = true := by simpa using h0
      have h1' : decide (0 ≤ n) = false := by simpa using h1
      clear h0 h1 hr
      go_enter Try.func50, Try.ntmps50
      go_wp2_with fail
      go_ret
      exact ⟨ret_b HE.out, rfl⟩
  · have HE : Hid (false = r) := Lib.hid (by rw [← hr]; unfold ft; simp [h0])
    have h0' : decide (0 ≤ p) = false := by simpa using h0
    clear h0 hr
    go_enter Try.func50, Try.ntmps50
    go_wp2_with fail
    go_ret
    exact ⟨ret_b HE.out, rfl⟩
/-! ### New, Size, Blocks -/
def S0 : Sh := ⟨0, [], fun _ => 0⟩
theorem good0 : GoodS S0 := ⟨List.Pairwise.nil, by decide, fun k hk => (by cases hk), fun i hi => absurd rfl hi, fun _ _ => rfl⟩
/-- A file that is new. -/
def NwPost (w : World) (S : Sh) (e : Ending) (w' : World) : Prop := ∃ sp mb, e = .returned (.pointer (some ⟨sp, 0, none⟩)) ∧ SW w' w.heap.size sp mb S ∧ Below w.heap.size w w'
theorem mw0 {w : World} {mb : Nat} (h : w.ownsMap (H := Array Value) Try.prog 3 blR mb 0 (.map [])) : MW w mb [] (fun _ => 0) :=
  ⟨⟨.map [], h, rfl, fun a => ⟨fun h => by simp [Maps.has] at h, fun ⟨k, hk, _⟩ => by cases hk⟩, fun k => by
    have : bk (fun _ => (0 : UInt8)) k = List.replicate 16 0 := bk_zero (fun _ _ => rfl)
    rw [bv_zero this]; rfl⟩, List.Pairwise.nil, fun k hk => by cases hk⟩
theorem nw_of {w w1 : World} {mb : Nat} {S : Sh} (hm : MW w1 mb S.K S.f) (hg : GoodS S) (h0 : w.heap.size ≤ mb) (hb : Below w.heap.size w w1) : NwPost w S (.returned (.pointer (some ⟨w1.heap.size, 0, none⟩))) (w1.alloc (.cells #[.int .i64 (S.n : Int), .map (some mb)] 112)) := by
  have h1 := new_block w1 (.cells #[.int .i64 (S.n : Int), .map (some mb)] 112)
  have h2 := box_below w1 (.cells #[.int .i64 (S.n : Int), .map (some mb)] 112)
  exact ⟨w1.heap.size, mb, rfl, ⟨h1, hm.below h2, hg, hb.size, h0⟩, hb.trans (h2.mono hb.size)⟩
theorem new_any (w : World) : Calls Try.prog 42 #[] w (NwPost w S0) := by
  have h0 : (w.alloc (.map #[] 0)).ownsMap (H := Array Value) Try.prog 3 blR w.heap.size 0 (.map []) := World.ownsMap_made w Try.prog 3 blR
  have he := nw_of (w := w) (S := S0) (mw0 h0) good0 (Nat.le_refl _) (box_below w _)
  rw [show (w.alloc (.map #[] 0)).heap.size = w.heap.size + 1 by simp] at he
  have HE := Lib.hid he
  clear he
  clear h0
  have hmm := @run_makeMap Try.prog
  go_enter Try.func42, Try.ntmps42
  go_wp2_with fail
  go_ret
  exact HE.out
theorem size_any {w : World} {B sp mb : Nat} {S : Sh} (h : SW w B sp mb S) : Calls Try.prog 27 #[.pointer (some ⟨sp, 0, none⟩)] w fun e w' => e = .returned (.int .i64 (S.n : Int)) ∧ w = w' := by
  have d0 := cell_of h.here (j := 0) rfl
  clear h
  go_enter Try.func27, Try.ntmps27
  go_wp2_with fail
  go_ret
  exact ⟨rfl, rfl⟩
theorem blocks_any {w : World} {B sp mb : Nat} {S : Sh} (h : SW w B sp mb S) : Calls Try.prog 28 #[.pointer (some ⟨sp, 0, none⟩)] w fun e w' => e = .returned (.int .i64 (S.K.length : Int)) ∧ w = w' := by
  have d1 := cell_of h.here (j := 1) rfl
  have hl := fun ty => h.map.size ty
  clear h
  go_enter Try.func28, Try.ntmps28
  go_wp2_with fail
  go_ret
  exact ⟨rfl, rfl⟩
end Go.Proofs.Ytoaahhgngelnaaa
