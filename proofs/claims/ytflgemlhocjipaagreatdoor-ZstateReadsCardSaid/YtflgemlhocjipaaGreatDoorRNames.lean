/-
  What the document's own test says of one name: the same. No condition but a text's length.
  What the document's own functions tell of a text's names, and of the path that names make. Condition: the text has at most 2^21 bytes.
-/
import Derived.Test.YtflgemlhocjipaaGreatDoorDepth
import Derived.Test.YtflgemlhocjipaaGreatDoorNumber
import Derived.Laws.AppendOwn
import Derived.Deep.Slices
import Derived.Maps.AppendAt
namespace Go.Proofs.YtflgemlhocjipaaGreatDoor
open Go.ChangeShapes Go.WideShapes Go.ChangeAt Go.RowKit Go.Proofs.Zn

end Go.Proofs.YtflgemlhocjipaaGreatDoor
namespace Go.Proofs.YtflgemlhocjipaaGreatDoor
set_option maxRecDepth 100000
open Go.ChangeShapes Go.WideShapes Go.ChangeAt Go.RowKit Go.Proofs.Zn

abbrev SV (p : Txt) : Value := .string (B p)
/-- A slice of texts that reads so. -/
def SRd (w : World) (A : Option Addr) (n c : Nat) (ps : List Txt) : Prop :=
  ps.length = n ∧ n ≤ c ∧ c ≤ 9223372036854775807 ∧ (0 < n → ∃ b off, A = some ⟨b, off, none⟩ ∧ ∀ i x, ps[i]? = some x → w.cell? ⟨b, off + i, none⟩ = some (SV x))
theorem cell_lt {w : World} {b : Nat} {o : Nat} {v : Value} (h : w.cell? ⟨b, o, none⟩ = some v) : b < w.heap.size := by
  rcases Nat.lt_or_ge b w.heap.size with h' | h'
  · exact h'
  · simp [World.cell?, Array.getElem?_eq_none h'] at h
theorem SRd.kept {w w' : World} {A : Option Addr} {n c : Nat} {ps : List Txt} (h : SRd w A n c ps) (hb : Below w.heap.size w w') : SRd w' A n c ps := by
  obtain ⟨h1, h2, h3, h4⟩ := h
  refine ⟨h1, h2, h3, fun hn => ?_⟩
  obtain ⟨b, off, e, hc⟩ := h4 hn
  exact ⟨b, off, e, fun i x hx => (hb.cell (p := ⟨b, off + i, none⟩) (cell_lt (hc i x hx))).trans (hc i x hx)⟩
theorem SRd.take {w : World} {A : Option Addr} {n c : Nat} {ps : List Txt} (h : SRd w A n c ps) (m : Nat) (hm : m ≤ n) : SRd w A m c (ps.take m) := by
  obtain ⟨h1, h2, h3, h4⟩ := h
  refine ⟨by rw [List.length_take]; omega, by omega, h3, fun hn => ?_⟩
  obtain ⟨b, off, e, hc⟩ := h4 (by omega)
  refine ⟨b, off, e, fun i x hx => hc i x ?_⟩
  rw [List.getElem?_take] at hx
  split at hx
  · exact hx
  · cases hx
theorem own_ge {w : World} {base e size n : Nat} {v : Value} {xs : List Value} (h : w.ownsRow base e size v n xs) : ∀ k, v.ownBlock = some k → base ≤ k := fun k hk => (h.lt k hk).1
/-! ### Names -/
theorem map_snoc (ps : List Txt) (p : Txt) : (ps ++ [p]).map SV = ps.map SV ++ [SV p] := by simp
end Go.Proofs.YtflgemlhocjipaaGreatDoor
