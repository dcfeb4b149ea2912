/-
  What place, fits, New, Size, Blocks and Clone return and leave. No condition.
-/
import Derived.Test.YtoallenigfbkpaaTMap
import Derived.Test.YtoallenigfbkpaaTShelf
namespace Go.Proofs.Ytoallenigfbkpaa
set_option maxRecDepth 100000
open Go.ChangeShapes Go.WideShapes Go.ChangeAt Go.RowKit Go.Proofs.Sg

theorem place_any (n : Nat) (hn : n ≤ 4194304) (w : World) : Calls Try.prog 29 #[.int .i64 (n : Int)] w fun e w' => e = .returned (.tuple #[.int .i64 ((n / 16 : Nat) : Int), .int .i64 ((n % 16 : Nat) : Int)]) ∧ w = w' := by
  obtain ⟨q, hq⟩ : ∃ q, n / 16 = q := ⟨_, rfl⟩
  obtain ⟨r, hr⟩ : ∃ r, n % 16 = r := ⟨_, rfl⟩
  have h1 : Int.tdiv (n : Int) 16 = (q : Int) := by rw [Int.tdiv_eq_ediv_of_nonneg (by omega)]; omega
  have h2 : Int.tmod (n : Int) 16 = (r : Int) := by rw [Int.tmod_eq_emod_of_nonneg (by omega)]; omega
  have h3 : IntKind.i64.wrap (q : Int) = (q : Int) := by rw [IntKind.wrap_i64]; omega
  have h4 : IntKind.i64.wrap (r : Int) = (r : Int) := by rw [IntKind.wrap_i64]; omega
  rw [hq, hr]
  clear hq hr
  go_enter Try.func29, Try.ntmps29
  go_wp2_with fail
  go_ret2
  exact ⟨rfl, rfl⟩
/-- May so many bytes lie there? -/
def ft (p n : Int) : Bool := decide (0 ≤ p) && (decide (0 ≤ n) && decide (n ≤ 1048576 - p))
theorem ft_iff {p n : Int} : ft p n = true ↔ 0 ≤ p ∧ 0 ≤ n ∧ p + n ≤ 1048576 := by
  unfold ft
  simp only [Bool.and_eq_true, decide_eq_true_eq]
  omega
theorem fits_any (p n : Int) (hp : p ≤ 9223372036854775807) (w : World) : Calls Try.prog 30 #[.int .i64 p, .int .i64 n] w fun e w' => e = .returned (.bool (ft p n)) ∧ w = w' := by
  obtain ⟨r, hr⟩ : ∃ r, ft p n = r := ⟨_, rfl⟩
  rw [hr]
  by_cases h0 : 0 ≤ p
  · by_cases h1 : 0 ≤ n
    · obtain ⟨b, hb⟩ : ∃ b, decide (n ≤ 1048576 - p) = b := ⟨_, rfl⟩
      have HE : Hid (b = r) := Lib.hid (by rw [← hr, ← hb]; unfold ft; simp [h0, h1])
      have h0' : decide (0 ≤ p) = true := by simpa using h0
      have h1' : decide (0 ≤ n) = true := by simpa using h1
      have h2 : IntKind.i64.wrap (1048576 - p) = 1048576 - p := by rw [IntKind.wrap_i64]; omega
      clear h0 h1 hr
      go_enter Try.func30, Try.ntmps30
      go_wp2_with fail
      go_ret
      exact ⟨ret_b HE.out, rfl⟩
    · have HE : Hid (false = r) := Lib.hid (by rw [← hr]; unfold ft; simp [h1])
      have h0' : decide (0 ≤ p) = true := by simpa using h0
      have h1' : decide (0 ≤ n) = false := by simpa using h1
      clear h0 h1 hr
      go_enter Try.func30, Try.ntmps30
      go_wp2_with fail
      go_ret
      exact ⟨ret_b HE.out, rfl⟩
  · have HE : Hid (false = r) := Lib.hid (by rw [← hr]; unfold ft; simp [h0])
    have h0' : decide (0 ≤ p) = false := by simpa using h0
    clear h0 hr
    go_enter Try.func30, Try.ntmps30
    go_wp2_with fail
    go_ret
    exact ⟨ret_b HE.out, rfl⟩
/-! ### New, Size, Blocks -/
def S0 : Sh := ⟨0, [], fun _ => 0⟩
theorem good0 : GoodS S0 := ⟨List.Pairwise.nil, by decide, fun k hk => (by cases hk), fun i hi => absurd rfl hi, fun _ _ => rfl⟩
/-- A file that is new. -/
def NwPost (w : World) (S : Sh) (e : Ending) (w' : World) : Prop := ∃ sp mb, e = .returned (.pointer (some ⟨sp, 0, none⟩)) ∧ SW w' w.heap.size sp mb S ∧ Below w.heap.size w w'
theorem mw0 {w : World} {mb : Nat} (h : w.ownsMap (H := Array Value) Try.prog 3 blR mb 0 (.map [])) : MW w mb [] (fun _ => 0) :=
  ⟨⟨.map [], h, rfl, fun a => ⟨fun h => by simp [Maps.has] at h, fun ⟨k, hk, _⟩ => by cases hk⟩, fun k => by
    have : bk (fun _ => (0 : UInt8)) k = List.replicate 16 0 := bk_zero (fun _ _ => rfl)
    rw [bv_zero this]; rfl⟩, List.Pairwise.nil, fun k hk => by cases hk⟩
theorem nw_of {w w1 : World} {mb : Nat} {S : Sh} (hm : MW w1 mb S.K S.f) (hg : GoodS S) (h0 : w.heap.size ≤ mb) (hb : Below w.heap.size w w1) : NwPost w S (.returned (.pointer (some ⟨w1.heap.size, 0, none⟩))) (w1.alloc (.cells #[.int .i64 (S.n : Int), .map (some mb)] 52)) := by
  have h1 := new_block w1 (.cells #[.int .i64 (S.n : Int), .map (some mb)] 52)
  have h2 := box_below w1 (.cells #[.int .i64 (S.n : Int), .map (some mb)] 52)
  exact ⟨w1.heap.size, mb, rfl, ⟨h1, hm.below h2, hg, hb.size, h0⟩, hb.trans (h2.mono hb.size)⟩
theorem new_any (w : World) : Calls Try.prog 9 #[] w (NwPost w S0) := by
  have h0 : (w.alloc (.map #[] 0)).ownsMap (H := Array Value) Try.prog 3 blR w.heap.size 0 (.map []) := World.ownsMap_made w Try.prog 3 blR
  have he := nw_of (w := w) (S := S0) (mw0 h0) good0 (Nat.le_refl _) (box_below w _)
  rw [show (w.alloc (.map #[] 0)).heap.size = w.heap.size + 1 by simp] at he
  have HE := Lib.hid he
  clear he
  clear h0
  have hmm := @run_makeMap Try.prog
  go_enter Try.func9, Try.ntmps9
  go_wp2_with fail
  go_ret
  exact HE.out
theorem size_any {w : World} {B sp mb : Nat} {S : Sh} (h : SW w B sp mb S) : Calls Try.prog 19 #[.pointer (some ⟨sp, 0, none⟩)] w fun e w' => e = .returned (.int .i64 (S.n : Int)) ∧ w = w' := by
  have d0 := cell_of h.here (j := 0) rfl
  clear h
  go_enter Try.func19, Try.ntmps19
  go_wp2_with fail
  go_ret
  exact ⟨rfl, rfl⟩
theorem blocks_any {w : World} {B sp mb : Nat} {S : Sh} (h : SW w B sp mb S) : Calls Try.prog 18 #[.pointer (some ⟨sp, 0, none⟩)] w fun e w' => e = .returned (.int .i64 (S.K.length : Int)) ∧ w = w' := by
  have d1 := cell_of h.here (j := 1) rfl
  have hl := fun ty => h.map.size ty
  clear h
  go_enter Try.func18, Try.ntmps18
  go_wp2_with fail
  go_ret
  exact ⟨rfl, rfl⟩
theorem clone_mw {w : World} {mb : Nat} {K : List Nat} {f : Byt} (h : MW w mb K f) : Calls Try.prog 31 #[.map (some mb)] w fun e w' => ∃ m2, e = .returned (.map (some m2)) ∧ MW w' m2 K f ∧ w.heap.size ≤ m2 ∧ Below w.heap.size w w' := by
  obtain ⟨⟨M, hm, hs, hh, hr⟩, h2, h3⟩ := h
  have hc := AnyW.maps_Clone_owns cloneM 3 blR mb (Maps.size M) M w hm
  change Calls Try.prog 31 _ _ _ at hc
  refine hc.mono ?_
  rintro e w' ⟨rfl, g1, g2, hb⟩
  exact ⟨_, rfl, ⟨⟨M, g1, hs, hh, hr⟩, h2, h3⟩, Nat.le_refl _, hb⟩
theorem clone_any {w : World} {B sp mb : Nat} {S : Sh} (h : SW w B sp mb S) : Calls Try.prog 21 #[.pointer (some ⟨sp, 0, none⟩)] w (NwPost w S) := by
  obtain ⟨z, hz⟩ : ∃ z : Int, (S.n : Int) = z := ⟨_, rfl⟩
  have HC : Hid (∀ (W : World), Below w.heap.size w W → Calls Try.prog 31 #[.map (some mb)] W fun e w' => ∃ m2, e = .returned (.map (some m2)) ∧ MW w' m2 S.K S.f ∧ W.heap.size ≤ m2 ∧ Below W.heap.size W w') := Lib.hid (fun W hW => clone_mw (h.map.below hW))
  have HS : Hid (∀ (W : World), Below w.heap.size w W → (W.cell? ⟨sp, 0, none⟩ = some (.int .i64 z) ∧ W.cell? ⟨sp, 1, none⟩ = some (.map (some mb)))) := Lib.hid (fun W hW => by
    have hx := blk_below h.here hW
    rw [hz] at hx
    exact ⟨cell_of hx (j := 0) rfl, cell_of hx (j := 1) rfl⟩)
  obtain ⟨c0, c1⟩ := HS.out w (Below.refl _ _)
  have HZ := Lib.hid hz
  have HG := Lib.hid h.good
  clear h hz
  go_enter Try.func21, Try.ntmps21
  go_upto_region 1 with fail
  go_region_held3 (fun W => W.cell? ⟨sp, 0, none⟩ = some (.int .i64 z) ∧ W.cell? ⟨sp, 1, none⟩ = some (.map (some mb)))
    (first
      | assumption
      | (with_reducible exact HS.out _ (Below.refl _ _).drew)
      | (with_reducible exact HS.out _ (Below.trans (by assumption) (by assumption))))
    (first
      | (go_at_call 31; (with_reducible refine (HC.out _ (Below.refl _ _).drew).mono ?_); rintro e w4 ⟨m2, rfl, hd, hu4, hb4⟩; have hB4 : Below w.heap.size w w4 := (Below.refl w.heap.size w).drew.trans (hb4.mono (Nat.le_refl _)); have hS4 := HS.out w4 hB4; have hB5 := hB4.trans ((box_below w4 (.cells #[.int .i64 z, .map (some m2)] 52)).mono hB4.size); have hS5 := HS.out _ hB5))
  have hu : w.heap.size ≤ m2 := hu4
  have he := nw_of (w := w) (w1 := w4) (S := S) hd HG.out hu hB4
  rw [HZ.out] at he
  obtain ⟨w5, hw5⟩ : ∃ x, x = w4.alloc (.cells #[.int .i64 z, .map (some m2)] 52) := ⟨_, rfl⟩
  rw [← hw5] at he
  obtain ⟨sq, esq⟩ : ∃ x, x = w4.heap.size := ⟨_, rfl⟩
  rw [← esq] at he
  have HE := Lib.hid he
  have HW5 := Lib.hid hw5
  have ESQ := Lib.hid esq
  rename_i hHeld
  clear hHeld hS5 hB5 hB4 hS4 hd hb4 hw5 esq hu hu4 c0 c1 he
  rw [← HW5.out, ← ESQ.out]
  go_wp2_with fail
  go_ret
  exact HE.out
end Go.Proofs.Ytoallenigfbkpaa
