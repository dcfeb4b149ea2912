/-
  A script of calls on a disk that came in as an argument. No condition.
-/
import Derived.Test.YtdbpnfceabklkaaFrame2
import Derived.Test.YtdbpnfceabklkaaRaw
namespace Go.Proofs.Ytdbpnfceabklkaa
set_option maxRecDepth 100000
open Go.ChangeShapes Go.WideShapes Go.ChangeAt Go.RowKit

theorem cells5 : Try.prog.cellsOf 5 = 1 := by kernel_rfl
theorem cells48 : Try.prog.cellsOf 48 = 1 := by kernel_rfl
theorem cells59 : Try.prog.cellsOf 59 = 4 := by kernel_rfl
/-- A cell that reads as a slice of bytes. -/
theorem open_bytes_cell {H : Type} {enc : TypeId × Value → H} {W : World} {held : Bool} {fuel : Nat} {v : Value} {x : DataW H × List MemPlace} (h : DataW.trod enc Try.prog W 0 (fun _ => true) held fuel 48 [v] = some x) :
    ∃ A l c zs, v = .slice A l c ∧ Reads W A l zs := by
  rcases open_ints Try.underlying48 Try.underlying5 cells5 h with ⟨hcs, _⟩ | ⟨a, len', cap', zs, hcs, _, hl, hm, hz, hx, hcell, hwz⟩
  · simp at hcs
    exact ⟨none, 0, 0, [], hcs, reads_none W⟩
  · simp at hcs
    simp only [if_true] at hz
    refine ⟨some a, len', cap', zs.take len', hcs, reads_mk (by rw [List.length_take]; omega) (fun hp => ?_) (fun z hz => bounds_u8 (hwz z (List.mem_of_mem_take hz)))⟩
    obtain ⟨b, off, rfl, hc⟩ := ints_at hcell (by omega)
    refine ⟨b, off, rfl, fun i hi => ?_⟩
    rw [hc i (by omega), List.getD_eq_getElem?_getD, List.getD_eq_getElem?_getD, List.getElem?_take, if_pos hi]
instance : Inhabited Opr := ⟨op0⟩
/-- A script that came in. -/
theorem open_pops {H : Type} {enc : TypeId × Value → H} {W : World} {base : Nat} {v : Value} {d : DataW H} {ps : List MemPlace} (hv : Value.okWide Try.prog W .any base 56 v)
    (h : DataW.Trod enc Try.prog W 0 (fun _ => true) true 56 v d ps) : ∃ ad len cap os, v = .slice ad len cap ∧ PReads W W.heap.size ad len os := by
  obtain ⟨a0, len, cap, rfl⟩ := okWide_slice Try.underlying56 hv
  obtain ⟨fuel, hf⟩ := h
  rcases Go.Deep.open_slice Try.underlying56 hf with ⟨hcs, hx⟩ | ⟨a, len', cap', m, n, D, Pl, hcs, _, hl, hm, hmm, hx, hel⟩
  · simp [Value.cells] at hcs
    obtain ⟨rfl, rfl, rfl⟩ := hcs
    exact ⟨none, 0, 0, [], rfl, rfl, fun h => absurd h (by omega)⟩
  · simp [Value.cells] at hcs
    obtain ⟨rfl, rfl, rfl⟩ := hcs
    simp only [if_true] at hmm
    obtain rfl : cap = m := hmm.symm
    rw [cells59] at hel
    have each : ∀ i, i < len → ∃ o : Opr, W.cell? ((a.add (i * 4)).add 0) = some (.int .i64 o.k) ∧ W.cell? ((a.add (i * 4)).add 1) = some (.int .i64 o.n) ∧ W.cell? ((a.add (i * 4)).add 2) = some (.int .i64 o.t) ∧
        (∃ A l c, W.cell? ((a.add (i * 4)).add 3) = some (.slice A l c) ∧ Reads W A l o.b ∧ Under W.heap.size A l) ∧ o.n ≤ 9223372036854775807 := by
      intro i hi
      obtain ⟨cs, h1, h2⟩ := hel i (by omega)
      obtain ⟨_, hlen, hcell⟩ := World.cells?_some h1
      obtain ⟨xs, k, _, _, _, hxl, hfl⟩ := DataW.trod_struct Try.underlying59 h2
      match xs, hxl, cs, hlen with
      | [y0, y1, y2, y3], _, [v0, v1, v2, v3], _ =>
        have g0 := hfl 0 _ rfl
        have g1 := hfl 1 _ rfl
        have g2 := hfl 2 _ rfl
        have g3 := hfl 3 _ rfl
        simp [cells3, cells48] at g0 g1 g2 g3
        obtain ⟨x0, e0, _⟩ := DataW.trod_int Try.underlying3 g0
        obtain ⟨x1, e1, w1⟩ := DataW.trod_int Try.underlying3 g1
        obtain ⟨x2, e2, _⟩ := DataW.trod_int Try.underlying3 g2
        obtain ⟨A, l, c, zs, e3, hr⟩ := open_bytes_cell g3
        have c0 := hcell 0 (by omega)
        have c1 := hcell 1 (by omega)
        have c2 := hcell 2 (by omega)
        have c3 := hcell 3 (by omega)
        simp at e0 e1 e2 c0 c1 c2 c3
        subst e0 e1 e2 e3
        exact ⟨⟨x0, x1, x2, zs⟩, by simpa using c0, by simpa using c1, by simpa using c2, ⟨A, l, c, by simpa using c3, hr, hr.under⟩, (bounds_i64 w1.2).2⟩
    obtain ⟨q, hq⟩ := Go.Deep.choose_lt each
    refine ⟨some a, len, cap, (List.range len).map q, rfl, ⟨by simp, fun hp => ?_⟩⟩
    have hspot : a.spot = none := by
      have := World.cell?_spot (hq 0 hp).1
      simpa [Addr.add] using this
    obtain ⟨b, off, spot⟩ := a
    simp only at hspot
    subst hspot
    refine ⟨b, off, rfl, ?_, fun i hi => ?_⟩
    · have := (hq 0 hp).1
      rw [Go.WideShapes.add_plain, Go.WideShapes.add_plain] at this
      exact cell_lt this
    have e : ((List.range len).map q).getD i op0 = q i := by
      rw [List.getD_eq_getElem?_getD, List.getElem?_map, List.getElem?_range hi]; rfl
    rw [e]
    obtain ⟨h0, h1, h2, ⟨A, l, c, h3, h4⟩, h5⟩ := hq i hi
    rw [Go.WideShapes.add_plain, Go.WideShapes.add_plain] at h0 h1 h2 h3
    exact ⟨h0, h1, h2, ⟨A, l, c, h3, h4⟩, h5⟩

end Go.Proofs.Ytdbpnfceabklkaa
