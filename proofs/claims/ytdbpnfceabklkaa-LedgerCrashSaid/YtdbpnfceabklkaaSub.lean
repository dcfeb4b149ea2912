/-
  Parts of bytes that read; a slice of bytes that stands in a block of its own. No condition.
-/
import Derived.Test.YtdbpnfceabklkaaMem
namespace Go.Proofs.Ytdbpnfceabklkaa
open Go.ChangeShapes Go.WideShapes Go.ChangeAt Go.RowKit

set_option maxRecDepth 100000 in
/-- A part of bytes that read reads as the part. -/
theorem sub_any {w : World} {A : Option Addr} {len cap : Nat} {zs : List Int} (hR : Reads w A len zs) (hc : len ≤ cap) (l h : Nat) (hlh : l ≤ h) (hh : h ≤ len) :
    ∃ A' c', (∀ W : World, (Instr.slice 48 (.slice A len cap) (some (.int .i64 (l : Int))) (some (.int .i64 (h : Int))) none).run Try.prog W = .ok (.slice A' (h - l) c') W) ∧
      Reads w A' (h - l) ((zs.drop l).take (h - l)) ∧ h - l ≤ c' ∧ c' ≤ cap ∧ (A ≠ none → A' ≠ none) := by
  obtain ⟨i0, hi, hz0, hz1, hz2⟩ := info_parts info5
  refine ⟨if cap = l then A else A.map (·.add (l * 1)), cap - l, fun W => ?_, ?_, by omega, by omega, fun hA => ?_⟩
  · rw [run_slice_lh (P := Try.prog) (w := W) 48 A len cap Try.underlying48 .i64 .i64 (l : Int) (h : Int) (by omega) (by omega) (by omega)]
    have e : Try.prog.elem 48 = 5 := by kernel_rfl
    simp [e, sizeOf, typeInfo, hi, hz1, sliced]
  · have hB := hR.bys
    obtain ⟨h1, h2, _⟩ := hR
    refine reads_mk (by rw [List.length_take, List.length_drop]; omega) (fun hp => ?_) (bys_take _ (bys_drop _ hB))
    obtain ⟨b, off, rfl, hcell⟩ := h2 (by omega)
    rw [if_neg (by omega)]
    refine ⟨b, off + l, by simp [Go.WideShapes.add_plain], fun i hi => ?_⟩
    rw [Nat.add_assoc, hcell (l + i) (by omega), List.getD_eq_getElem?_getD, List.getD_eq_getElem?_getD, List.getElem?_take, if_pos hi, List.getElem?_drop]
  · split
    · exact hA
    · cases A with
      | none => exact absurd rfl hA
      | some a => simp
set_option maxRecDepth 100000 in
theorem sub_from {w : World} {A : Option Addr} {len cap : Nat} {zs : List Int} (hR : Reads w A len zs) (hc : len ≤ cap) (l : Nat) (hl : l ≤ len) :
    ∃ A' c', (∀ W : World, (Instr.slice 48 (.slice A len cap) (some (.int .i64 (l : Int))) none none).run Try.prog W = .ok (.slice A' (len - l) c') W) ∧
      Reads w A' (len - l) (zs.drop l) ∧ len - l ≤ c' ∧ c' ≤ cap := by
  obtain ⟨A', c', h1, h2, h3, h4, _⟩ := sub_any hR hc l len hl (Nat.le_refl _)
  refine ⟨A', c', fun W => ?_, ?_, h3, h4⟩
  · rw [← h1 W, run_slice_lh (P := Try.prog) (w := W) 48 A len cap Try.underlying48 .i64 .i64 (l : Int) (len : Int) (by omega) (by omega) (by omega),
      run_slice_l (P := Try.prog) (w := W) 48 A len cap Try.underlying48 .i64 (l : Int) (by omega) (by omega)]
    simp
  · rw [List.take_of_length_le (by rw [List.length_drop, hR.1]; exact Nat.le_refl _)] at h2
    exact h2
set_option maxRecDepth 100000 in
theorem sub_to {w : World} {A : Option Addr} {len cap : Nat} {zs : List Int} (hR : Reads w A len zs) (hc : len ≤ cap) (h : Nat) (hh : h ≤ len) :
    ∃ A' c', (∀ W : World, (Instr.slice 48 (.slice A len cap) none (some (.int .i64 (h : Int))) none).run Try.prog W = .ok (.slice A' h c') W) ∧ Reads w A' h (zs.take h) ∧ h ≤ c' ∧ c' ≤ cap := by
  obtain ⟨A', c', h1, h2, h3, h4, _⟩ := sub_any hR hc 0 h (by omega) hh
  refine ⟨A', c', fun W => ?_, h2, h3, h4⟩
  rw [show (h : Nat) - 0 = h from rfl] at h1
  rw [← h1 W, run_slice_lh (P := Try.prog) (w := W) 48 A len cap Try.underlying48 .i64 .i64 ((0 : Nat) : Int) (h : Int) (by omega) (by omega) (by omega),
    run_slice_h (P := Try.prog) (w := W) 48 A len cap Try.underlying48 .i64 (h : Int) (by omega) (by omega)]
  simp


/-- Bytes in a block of another type than the disk's are kept by what a method of the disk does. -/
theorem reads_kp {w : World} {B g len : Nat} {cs : Array Value} {fr : Nat × Nat} {zs : List Int} (hg : w.heap[g]? = some (.cells cs 5 fr)) (hc : cs = (ints zs).toArray) (hl : zs.length = len) (hb : Bys zs) : ∀ w', Kp B w w' → Reads w' (some ⟨g, 0, none⟩) len zs := fun w' hk => by
  have h := hk.tag g cs 5 fr hg (by decide) (by decide) (by decide)
  refine reads_mk hl (fun _ => ⟨g, 0, rfl, fun i hi => ?_⟩) hb
  rw [Nat.zero_add, cell_of_row w' g i cs 5 fr h, hc, getD_eq _ (by omega)]
  simp [ints, hl, hi]
end Go.Proofs.Ytdbpnfceabklkaa
