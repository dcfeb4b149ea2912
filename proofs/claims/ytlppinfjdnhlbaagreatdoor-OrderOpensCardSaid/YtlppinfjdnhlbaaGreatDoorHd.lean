/-
  A fact that no tactic looks into. No condition.
-/
import Derived.Lib.Hide
namespace Go.Proofs.YtlppinfjdnhlbaaGreatDoor
theorem hJQ {p : Prop} (h : p) : Go.RowKit.Hid p := Lib.hid h
end Go.Proofs.YtlppinfjdnhlbaaGreatDoor
