/-
  What the laws' own test of life returns: true. Condition: the table's cells hold what its initialiser lays.
-/
import Derived.Test.YtcobgidmmfliaaaDoorWalk2
import Derived.Lib.SlBytesConst
import Derived.Below
namespace Go.Proofs.YtcobgidmmfliaaaDoor
open Go.ChangeShapes Go.WideShapes Go.ChangeAt Go.RowKit Go.Proofs.Crc

theorem table_below {w w' : World} (hT : Table w) (hb : Below w.heap.size w w') (h0 : 0 < w.heap.size) : Table w' := fun k hk =>
  (hb.cell (p := ⟨0, k, none⟩) h0).trans (hT k hk)
theorem table_lt {w : World} (hT : Table w) : 0 < w.heap.size := by
  have h := hT 0 (by omega)
  by_cases hz : w.heap.size = 0
  · simp [World.cell?, Array.getElem?_eq_none (show w.heap.size ≤ 0 by omega)] at h
  · omega
theorem table_alloc {w : World} (hT : Table w) (o : Obj) : Table (w.alloc o) :=
  table_below hT ((Below.refl _ _).alloc (Nat.le_refl _) _) (table_lt hT)
theorem reads_below {w w' : World} {B : Nat} {ad : Option Addr} {len : Nat} {zs : List Int} (hR : Reads w ad len zs) (hb : Below B w w') (hlt : ∀ b off, ad = some ⟨b, off, none⟩ → 0 < len → b < B) : Reads w' ad len zs := by
  obtain ⟨h1, h2, h3⟩ := hR
  refine ⟨h1, fun hl => ?_, h3⟩
  obtain ⟨b, off, e, hc⟩ := h2 hl
  exact ⟨b, off, e, fun i hi => (hb.cell (p := ⟨b, off + i, none⟩) (hlt b off e hl)).trans (hc i hi)⟩
theorem reads_new (w : World) (l : List Int) (C : Array Value) (t : TypeId) (fr : Nat × Nat) (hC : ∀ i, i < l.length → C[i]? = some (.int .u8 (l.getD i 0))) (hb : ∀ i, 0 ≤ l.getD i 0 ∧ l.getD i 0 ≤ 255) :
    Reads (w.alloc (.cells C t fr)) (some ⟨w.heap.size, 0, none⟩) l.length l := by
  refine ⟨rfl, fun _ => ⟨_, _, rfl, fun i hi => ?_⟩, hb⟩
  have : (w.alloc (.cells C t fr)).heap[w.heap.size]? = some (.cells C t fr) := by
    show (w.heap.push (.cells C t fr))[w.heap.size]? = _
    simp
  simp only [World.cell?, this]
  simpa using hC i hi
theorem small9 : ∀ i, 0 ≤ ([49, 50, 51, 52, 53, 54, 55, 56, 57] : List Int).getD i 0 ∧ ([49, 50, 51, 52, 53, 54, 55, 56, 57] : List Int).getD i 0 ≤ 255 := by
  intro i
  by_cases h : i < 9
  · match i, h with
    | 0, _ | 1, _ | 2, _ | 3, _ | 4, _ | 5, _ | 6, _ | 7, _ | 8, _ => decide
  · simp [List.getD_eq_getElem?_getD, List.getElem?_eq_none (show ([49, 50, 51, 52, 53, 54, 55, 56, 57] : List Int).length ≤ i by simp; omega)]
theorem small4 : ∀ i, 0 ≤ ([49, 50, 51, 52] : List Int).getD i 0 ∧ ([49, 50, 51, 52] : List Int).getD i 0 ≤ 255 := by
  intro i
  by_cases h : i < 4
  · match i, h with
    | 0, _ | 1, _ | 2, _ | 3, _ => decide
  · simp [List.getD_eq_getElem?_getD, List.getElem?_eq_none (show ([49, 50, 51, 52] : List Int).length ≤ i by simp; omega)]
theorem small5 : ∀ i, 0 ≤ ([53, 54, 55, 56, 57] : List Int).getD i 0 ∧ ([53, 54, 55, 56, 57] : List Int).getD i 0 ≤ 255 := by
  intro i
  by_cases h : i < 5
  · match i, h with
    | 0, _ | 1, _ | 2, _ | 3, _ | 4, _ => decide
  · simp [List.getD_eq_getElem?_getD, List.getElem?_eq_none (show ([53, 54, 55, 56, 57] : List Int).length ≤ i by simp; omega)]
theorem sum9 (w : World) (C : Array Value) (hC : C = #[.int .u8 49, .int .u8 50, .int .u8 51, .int .u8 52, .int .u8 53, .int .u8 54, .int .u8 55, .int .u8 56, .int .u8 57]) (t : TypeId) (fr : Nat × Nat) (hT : Table w) :
    Calls Tryd.prog 11 #[.slice (some ⟨w.heap.size, 0, none⟩) 9 9] (w.alloc (.cells C t fr)) fun e w' => e = .returned (.int .u32 3808858755) ∧ w.alloc (.cells C t fr) = w' := by
  have h := sum_any (some ⟨w.heap.size, 0, none⟩) 9 9 [49, 50, 51, 52, 53, 54, 55, 56, 57] (w.alloc (.cells C t fr))
    (reads_new w [49, 50, 51, 52, 53, 54, 55, 56, 57] C t fr (by subst hC; intro i hi; match i, hi with | 0, _ | 1, _ | 2, _ | 3, _ | 4, _ | 5, _ | 6, _ | 7, _ | 8, _ => rfl) small9) (table_alloc hT _) (by decide)
  have e : U (more 0#32 [49, 50, 51, 52, 53, 54, 55, 56, 57]) = 3808858755 := by decide +kernel
  rw [e] at h
  exact h
theorem sum4 (w : World) (n : Nat) (hn : n = w.heap.size) (C : Array Value) (hC : C = #[.int .u8 49, .int .u8 50, .int .u8 51, .int .u8 52]) (t : TypeId) (fr : Nat × Nat) (hT : Table w) :
    Calls Tryd.prog 11 #[.slice (some ⟨n, 0, none⟩) 4 4] (w.alloc (.cells C t fr)) fun e w' => e = .returned (.int .u32 (U (more 0#32 [49, 50, 51, 52]))) ∧ w.alloc (.cells C t fr) = w' := by
  subst hn
  exact sum_any (some ⟨w.heap.size, 0, none⟩) 4 4 [49, 50, 51, 52] (w.alloc (.cells C t fr))
    (reads_new w [49, 50, 51, 52] C t fr (by subst hC; intro i hi; match i, hi with | 0, _ | 1, _ | 2, _ | 3, _ => rfl) small4) (table_alloc hT _) (by decide)
theorem more5 (w : World) (n : Nat) (hn : n = w.heap.size) (C : Array Value) (hC : C = #[.int .u8 53, .int .u8 54, .int .u8 55, .int .u8 56, .int .u8 57]) (t : TypeId) (fr : Nat × Nat) (hT : Table w) :
    Calls Tryd.prog 13 #[.int .u32 (U (more 0#32 [49, 50, 51, 52])), .slice (some ⟨n, 0, none⟩) 5 5] (w.alloc (.cells C t fr)) fun e w' => e = .returned (.int .u32 3808858755) ∧ w.alloc (.cells C t fr) = w' := by
  subst hn
  have h := more_any (more 0#32 [49, 50, 51, 52]) (some ⟨w.heap.size, 0, none⟩) 5 5 [53, 54, 55, 56, 57] (w.alloc (.cells C t fr))
    (reads_new w [53, 54, 55, 56, 57] C t fr (by subst hC; intro i hi; match i, hi with | 0, _ | 1, _ | 2, _ | 3, _ | 4, _ => rfl) small5) (table_alloc hT _) (by decide)
  have e : U (more (more 0#32 [49, 50, 51, 52]) [53, 54, 55, 56, 57]) = 3808858755 := by decide +kernel
  rw [e] at h
  exact h
theorem alive_any (w : World) (hT : Table w) : Calls Tryd.prog 10 #[] w fun e w' => e = .returned (.bool true) ∧ Below w.heap.size w w' := by
  have kc := fun (w : World) (C : Array Value) (n c : Nat) => Lib.run_convert_bytes_const (P := Tryd.prog) w 22 5 C n c Tryd.underlying22 Tryd.underlying5
  have kc2 : ∀ (w : World) (o : Obj) (C : Array Value) (n c : Nat), (convert 22 22 (.slice (some ⟨w.heap.size + 1, 0, none⟩) n c)).run Tryd.prog ((w.alloc o).alloc (.cells C 5)) = Result.ok (.slice (some ⟨w.heap.size + 1, 0, none⟩) n c) ((w.alloc o).alloc (.cells C 5 (C.size, C.size + 1))) := by
    intro w o C n c
    have h := kc (w.alloc o) C n c
    rw [show (w.alloc o).heap.size = w.heap.size + 1 from by simp] at h
    exact h
  have kc3 : ∀ (w : World) (o o' : Obj) (C : Array Value) (n c : Nat), (convert 22 22 (.slice (some ⟨w.heap.size + 1 + 1, 0, none⟩) n c)).run Tryd.prog (((w.alloc o).alloc o').alloc (.cells C 5)) = Result.ok (.slice (some ⟨w.heap.size + 1 + 1, 0, none⟩) n c) (((w.alloc o).alloc o').alloc (.cells C 5 (C.size, C.size + 1))) := by
    intro w o o' C n c
    have h := kc ((w.alloc o).alloc o') C n c
    rw [show ((w.alloc o).alloc o').heap.size = w.heap.size + 1 + 1 from by simp] at h
    exact h
  have HT := Lib.hid hT
  clear hT
  go_enter Tryd.func10, Tryd.ntmps10
  go_wp2_with fail
  refine (sum9 w _ rfl _ _ HT.out).mono ?_
  rintro e w' ⟨rfl, rfl⟩
  go_wp2_with fail
  refine (sum4 (w.alloc _) (w.heap.size + 1) (by simp) _ rfl _ _ (table_alloc HT.out _)).mono ?_
  rintro e w' ⟨rfl, rfl⟩
  go_wp2_with fail
  refine (more5 ((w.alloc _).alloc _) (w.heap.size + 1 + 1) (by simp) _ rfl _ _ (table_alloc (table_alloc HT.out _) _)).mono ?_
  rintro e w' ⟨rfl, rfl⟩
  go_wp2_with fail
  go_ret
  exact ⟨rfl, (((Below.refl _ _).alloc (Nat.le_refl _) _).alloc (by simp) _).alloc (by simp; omega) _⟩
end Go.Proofs.YtcobgidmmfliaaaDoor
