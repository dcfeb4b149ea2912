/-
  No cell of these rows narrows 'for every input' (looked for: loops, veiled, ifaces, maps, wideKeys, modest, calm, conditions, laid).
  DERIVED. THE GIVEN ROWS OF THIS SEAT. 4 by the template 'for every input the law returns true; each argument reads behind the call as it read before'; 0 by the template 'total and deterministic' (their statements: YtoaahhgngelnaaaTotals.lean).
  GIVEN WITH THE SEED: the statements are not yours to turn. If you find one false, say at which input.
  Laid BY PROGRAM, IN A SANDBOX (cutbox-rows.mjs): the forced cells as the released guide's own fill.sh prints them over the translation 25dee2167ed9c4c2… (all of the seat's roots in one cut). By AI agents, Wed Nov 11 2026. No macro, syntax, notation, axiom, sorry.
-/
import Derived.Test.YtoaahhgngelnaaaChecked
import GoSem.Claim
import GoSem.ClaimJoined
import GoSem.ClaimMapViews
import Derived.JoinedTies
import Derived.KernelRfl
namespace Go.Proofs.Ytoaahhgngelnaaa
/- THE CELL 'sum', in the pinned program and in every row, IS THE sha256 OF THE DUMP (.gsa) THAT YtoaahhgngelnaaaProg.lean LOADS. Nothing in Lean hashes anything: it is a label: what it is worth is what the hold of that sum in a sandbox is worth. -/
noncomputable def Try.pinned : Pinned := { name := "ytoaahhgngelnaaa", sum := "25dee2167ed9c4c2d09bf7a3e0c4167bf5d376aa431678cb062d2da0cb6e71d0", checked := Try.checked }
namespace Rows
def none {H : Type} : Left H := { results := [], args := [] }

/-- 'harpsichordlaw17.FscoreHangs': WHATEVER THE INPUT: true; the input reads as it did. -/
def fscoreHangsSpec : ChangeSpec := { name := "fscoreHangs", fn := fun _ => fun
  | [d] => { results := [.lit (.bool true)], args := [d] }
  | _ => none }
def fscoreHangsRow : OpenClaim := { program := "ytoaahhgngelnaaa", sum := "25dee2167ed9c4c2d09bf7a3e0c4167bf5d376aa431678cb062d2da0cb6e71d0", func := "harpsichord/harpsichordlaw17.FscoreHangs", spec := "fscoreHangs", inPlace := ["internal/bytealg.IndexByteString"], unfollowed := true, recurses := true, apart := false }
def FscoreHangsSaid : Prop := fscoreHangsRow.holds Try.pinned (OpenSpec.ofChange fscoreHangsSpec)

/-- ITS FALSE NEIGHBOUR: 'it returns false'. Refute it at one input. -/
def fscoreHangsWrong : ChangeSpec := { name := "fscoreHangs", fn := fun _ => fun
  | [d] => { results := [.lit (.bool false)], args := [d] }
  | _ => none }
def FscoreHangsWrongFalsely : Prop := fscoreHangsRow.holds Try.pinned (OpenSpec.ofChange fscoreHangsWrong)

/-- 'harpsichordlaw17.FscoreStale': WHATEVER THE INPUT: true; the input reads as it did. -/
def fscoreStaleSpec : ChangeSpec := { name := "fscoreStale", fn := fun _ => fun
  | [d1, d2, d3] => { results := [.lit (.bool true)], args := [d1, d2, d3] }
  | _ => none }
def fscoreStaleRow : OpenClaim := { program := "ytoaahhgngelnaaa", sum := "25dee2167ed9c4c2d09bf7a3e0c4167bf5d376aa431678cb062d2da0cb6e71d0", func := "harpsichord/harpsichordlaw17.FscoreStale", spec := "fscoreStale", inPlace := ["internal/bytealg.IndexByteString"], apart := false }
def FscoreStaleSaid : Prop := fscoreStaleRow.holds Try.pinned (OpenSpec.ofChange fscoreStaleSpec)

/-- ITS FALSE NEIGHBOUR: 'it returns false'. Refute it at one input. -/
def fscoreStaleWrong : ChangeSpec := { name := "fscoreStale", fn := fun _ => fun
  | [d1, d2, d3] => { results := [.lit (.bool false)], args := [d1, d2, d3] }
  | _ => none }
def FscoreStaleWrongFalsely : Prop := fscoreStaleRow.holds Try.pinned (OpenSpec.ofChange fscoreStaleWrong)

/-- 'harpsichordlaw17.FscoreBack': WHATEVER THE INPUT: true; the input reads as it did. -/
def fscoreBackSpec : ChangeSpec := { name := "fscoreBack", fn := fun _ => fun
  | [d1, d2, d3] => { results := [.lit (.bool true)], args := [d1, d2, d3] }
  | _ => none }
def fscoreBackRow : OpenClaim := { program := "ytoaahhgngelnaaa", sum := "25dee2167ed9c4c2d09bf7a3e0c4167bf5d376aa431678cb062d2da0cb6e71d0", func := "harpsichord/harpsichordlaw17.FscoreBack", spec := "fscoreBack", inPlace := ["internal/bytealg.IndexByteString"], apart := false }
def FscoreBackSaid : Prop := fscoreBackRow.holds Try.pinned (OpenSpec.ofChange fscoreBackSpec)

/-- ITS FALSE NEIGHBOUR: 'it returns false'. Refute it at one input. -/
def fscoreBackWrong : ChangeSpec := { name := "fscoreBack", fn := fun _ => fun
  | [d1, d2, d3] => { results := [.lit (.bool false)], args := [d1, d2, d3] }
  | _ => none }
def FscoreBackWrongFalsely : Prop := fscoreBackRow.holds Try.pinned (OpenSpec.ofChange fscoreBackWrong)

/-- 'harpsichordlaw17.FscoreRoom': WHATEVER THE INPUT: true; the input reads as it did. -/
def fscoreRoomSpec : ChangeSpec := { name := "fscoreRoom", fn := fun _ => fun
  | [d1, d2] => { results := [.lit (.bool true)], args := [d1, d2] }
  | _ => none }
def fscoreRoomRow : OpenClaim := { program := "ytoaahhgngelnaaa", sum := "25dee2167ed9c4c2d09bf7a3e0c4167bf5d376aa431678cb062d2da0cb6e71d0", func := "harpsichord/harpsichordlaw17.FscoreRoom", spec := "fscoreRoom", inPlace := ["internal/bytealg.IndexByteString"], apart := false }
def FscoreRoomSaid : Prop := fscoreRoomRow.holds Try.pinned (OpenSpec.ofChange fscoreRoomSpec)

/-- ITS FALSE NEIGHBOUR: 'it returns false'. Refute it at one input. -/
def fscoreRoomWrong : ChangeSpec := { name := "fscoreRoom", fn := fun _ => fun
  | [d1, d2] => { results := [.lit (.bool false)], args := [d1, d2] }
  | _ => none }
def FscoreRoomWrongFalsely : Prop := fscoreRoomRow.holds Try.pinned (OpenSpec.ofChange fscoreRoomWrong)

/- THE SECOND FORM. 'bulk': how many values and letters a reading holds, each counted each time it is reached (what is shared counts as often as it is met; a slice's spare places count too). A statement '..UptoSaid' is the law's where the arguments, and the package variables that the reading takes, are together of bulk at most 1048576: NARROWER than '..Said'. Prove '..Said' where nothing that the law and all that it calls make is longer than what came in: it says more and counts as full. Else prove '..UptoSaid'. A law counts once. -/
mutual
def uptoBulk {H : Type} : DataW H → Nat
  | .lit (.string bytes) => bytes.length + 1
  | .lit _ => 1
  | .nil => 1
  | .ptr d => uptoBulk d + 1
  | .slice elems spare => uptoBulkAll elems + uptoBulkAll spare + 1
  | .agg parts => uptoBulkAll parts + 1
  | .iface _ d => uptoBulk d + 1
  | .map entries => uptoBulkEntries entries + 1
  | .held _ => 1
def uptoBulkAll {H : Type} : List (DataW H) → Nat
  | [] => 0
  | d :: r => uptoBulk d + uptoBulkAll r
def uptoBulkEntries {H : Type} : List (Lit × DataW H) → Nat
  | [] => 0
  | x :: r => uptoBulkEntry x + uptoBulkEntries r
def uptoBulkEntry {H : Type} : Lit × DataW H → Nat
  | (.string bytes, d) => bytes.length + uptoBulk d + 1
  | (_, d) => uptoBulk d + 1
 end
def uptoSmall : (H : Type) → List (DataW H) → Bool := fun _ ds => decide (uptoBulkAll ds ≤ 1048576)
def OpenSpec.upto (s : _root_.Go.ChangeSpec) : _root_.Go.OpenSpec := { _root_.Go.OpenSpec.ofChange s with cond := some uptoSmall }

/-- 'harpsichordlaw17.FscoreHangs', WHERE WHAT IT READS IS OF BULK AT MOST 1048576: true; the input reads as it did. -/
def fscoreHangsUptoRow : OpenClaim := { program := "ytoaahhgngelnaaa", sum := "25dee2167ed9c4c2d09bf7a3e0c4167bf5d376aa431678cb062d2da0cb6e71d0", func := "harpsichord/harpsichordlaw17.FscoreHangs", spec := "fscoreHangs", inPlace := ["internal/bytealg.IndexByteString"], unfollowed := true, recurses := true, apart := false, narrowed := true }
def FscoreHangsUptoSaid : Prop := fscoreHangsUptoRow.holds Try.pinned (OpenSpec.upto fscoreHangsSpec)

/-- 'harpsichordlaw17.FscoreStale', WHERE WHAT IT READS IS OF BULK AT MOST 1048576: true; the input reads as it did. -/
def fscoreStaleUptoRow : OpenClaim := { program := "ytoaahhgngelnaaa", sum := "25dee2167ed9c4c2d09bf7a3e0c4167bf5d376aa431678cb062d2da0cb6e71d0", func := "harpsichord/harpsichordlaw17.FscoreStale", spec := "fscoreStale", inPlace := ["internal/bytealg.IndexByteString"], apart := false, narrowed := true }
def FscoreStaleUptoSaid : Prop := fscoreStaleUptoRow.holds Try.pinned (OpenSpec.upto fscoreStaleSpec)

/-- 'harpsichordlaw17.FscoreBack', WHERE WHAT IT READS IS OF BULK AT MOST 1048576: true; the input reads as it did. -/
def fscoreBackUptoRow : OpenClaim := { program := "ytoaahhgngelnaaa", sum := "25dee2167ed9c4c2d09bf7a3e0c4167bf5d376aa431678cb062d2da0cb6e71d0", func := "harpsichord/harpsichordlaw17.FscoreBack", spec := "fscoreBack", inPlace := ["internal/bytealg.IndexByteString"], apart := false, narrowed := true }
def FscoreBackUptoSaid : Prop := fscoreBackUptoRow.holds Try.pinned (OpenSpec.upto fscoreBackSpec)

/-- 'harpsichordlaw17.FscoreRoom', WHERE WHAT IT READS IS OF BULK AT MOST 1048576: true; the input reads as it did. -/
def fscoreRoomUptoRow : OpenClaim := { program := "ytoaahhgngelnaaa", sum := "25dee2167ed9c4c2d09bf7a3e0c4167bf5d376aa431678cb062d2da0cb6e71d0", func := "harpsichord/harpsichordlaw17.FscoreRoom", spec := "fscoreRoom", inPlace := ["internal/bytealg.IndexByteString"], apart := false, narrowed := true }
def FscoreRoomUptoSaid : Prop := fscoreRoomUptoRow.holds Try.pinned (OpenSpec.upto fscoreRoomSpec)

end Rows
end Go.Proofs.Ytoaahhgngelnaaa
