/-
  A slice of slices of bytes that came in reads as lists. No condition.
-/
import Derived.Test.YtkellgofdfpjpaaDoorLaw4
import Derived.Test.YtkellgofdfpjpaaDoorFrame
import Derived.Deep.Matrix
namespace Go.Proofs.YtkellgofdfpjpaaDoor
open Go.ChangeShapes Go.WideShapes Go.ChangeAt Go.RowKit Go.Proofs.Crc

theorem cells22 : Tryd.prog.cellsOf 22 = 1 := by kernel_rfl
theorem ok31 : Tryd.prog.readableRec 31 = true ∧ 31 < Tryd.prog.types.size := ⟨by kernel_rfl, of_decide_eq_true (by kernel_rfl)⟩
theorem want31 : Tryd.pinned.checked.prog.wantsStandIn 31 = false := (show Tryd.prog.wantsStandIn 31 = false by kernel_rfl)
/-- A row of numbers whose cells are told by an address reads as them. -/
theorem reads_at {w : World} {a : Option Addr} {L C : Nat} {z : List Int} (hL : L ≤ C) (hz : z.length = C) (hw : ∀ n ∈ z, (Lit.int .u8 n).wf = true) (h0 : a = none → C = 0) (h : ∀ a', a = some a' → ∀ c, c < C → w.cell? (a'.add c) = some (.int .u8 (z.getD c 0))) : Reads w a L (z.take L) := by
  subst hz
  refine reads_mk (by rw [List.length_take]; omega) (fun hp => ?_) (fun n hn => bounds_u8 (hw n (List.mem_of_mem_take hn)))
  cases a with
  | none => have := h0 rfl; omega
  | some a' =>
    obtain ⟨b, off, rfl, hc⟩ := ints_at (h a' rfl) (by omega)
    refine ⟨b, off, rfl, fun i hi => ?_⟩
    rw [hc i (by omega), List.getD_eq_getElem?_getD, List.getD_eq_getElem?_getD, List.getElem?_take, if_pos hi]
theorem open_rows {H : Type} {enc : TypeId × Value → H} {W : World} {base : Nat} {v : Value} {d : DataW H} {ps : List MemPlace} (hv : Value.okWide Tryd.prog W .any base 31 v)
    (h : DataW.Trod enc Tryd.prog W 0 (fun _ => true) true 31 v d ps) : ∃ ad len cap ls, v = .slice ad len cap ∧ LReads W ad len ls := by
  obtain ⟨a0, len, cap, rfl⟩ := okWide_slice Tryd.underlying31 hv
  obtain ⟨fuel, hf⟩ := h
  rcases Go.Deep.open_int_rows Tryd.underlying31 Tryd.underlying22 Tryd.underlying5 cells22 cells5 hf with ⟨hcs, _⟩ | ⟨a, len', cap', A, L, C, Z, hcs, _, hl, hm, _, hx⟩
  · simp [Value.cells] at hcs
    obtain ⟨rfl, rfl, rfl⟩ := hcs
    exact ⟨none, 0, 0, [], rfl, rfl, fun h => absurd h (by omega)⟩
  · simp [Value.cells] at hcs
    obtain ⟨rfl, rfl, rfl⟩ := hcs
    refine ⟨some a, len, cap, (List.range len).map fun r => (Z r).take (L r), rfl, by rw [List.length_map, List.length_range], fun hp => ?_⟩
    obtain ⟨b, off, spot⟩ := a
    have hspot : spot = none := by simpa [Addr.add] using World.cell?_spot (hx 0 (by omega)).1
    subst hspot
    refine ⟨b, off, rfl, fun i hi => ?_⟩
    obtain ⟨h1, h2, h3, h4, h5, h6, h7⟩ := hx i (by omega)
    rw [Go.WideShapes.add_plain] at h1
    refine ⟨A i, L i, C i, h1, ?_⟩
    have e : ((List.range len).map fun r => (Z r).take (L r)).getD i [] = (Z i).take (L i) := by
      rw [List.getD_eq_getElem?_getD, List.getElem?_map, List.getElem?_range hi]; rfl
    rw [e]
    exact reads_at h2 h4 h5 h6 (fun a' ha => (h7 a' ha).2)
end Go.Proofs.YtkellgofdfpjpaaDoor
