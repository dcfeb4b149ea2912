/-
  No cell of these rows narrows 'for every input' (looked for: loops, veiled, ifaces, maps, wideKeys, modest, calm, conditions, laid).
  DERIVED. THE GIVEN ROWS OF THIS SEAT. 6 by the template 'for every input the law returns true; each argument reads behind the call as it read before'; 0 by the template 'total and deterministic' (their statements: YtoallenigfbkpaaTotals.lean).
  GIVEN WITH THE SEED: the statements are not yours to turn. If you find one false, say at which input.
  Laid BY PROGRAM, IN A SANDBOX (cutbox-rows.mjs): the forced cells as the released guide's own fill.sh prints them over the translation ca3b7fd6a9870b32… (all of the seat's roots in one cut). By AI agents, Wed Nov 11 2026. No macro, syntax, notation, axiom, sorry.
-/
import Derived.Test.YtoallenigfbkpaaChecked
import GoSem.Claim
import GoSem.ClaimJoined
import GoSem.ClaimMapViews
import Derived.JoinedTies
import Derived.KernelRfl
namespace Go.Proofs.Ytoallenigfbkpaa
/- THE CELL 'sum', in the pinned program and in every row, IS THE sha256 OF THE DUMP (.gsa) THAT YtoallenigfbkpaaProg.lean LOADS. Nothing in Lean hashes anything: it is a label: what it is worth is what the hold of that sum in a sandbox is worth. -/
noncomputable def Try.pinned : Pinned := { name := "ytoallenigfbkpaa", sum := "ca3b7fd6a9870b32ddbf704eb8d5c7e783c96c916463fb9b758ce8b45f0e8c89", checked := Try.checked }
namespace Rows
def none {H : Type} : Left H := { results := [], args := [] }

/-- 'harpsichordlaw16.SheetAll': WHATEVER THE INPUT: true; the input reads as it did. -/
def sheetAllSpec : ChangeSpec := { name := "sheetAll", fn := fun _ => fun
  | [d] => { results := [.lit (.bool true)], args := [d] }
  | _ => none }
def sheetAllRow : OpenClaim := { program := "ytoallenigfbkpaa", sum := "ca3b7fd6a9870b32ddbf704eb8d5c7e783c96c916463fb9b758ce8b45f0e8c89", func := "harpsichord/harpsichordlaw16.SheetAll", spec := "sheetAll", unfollowed := true, recurses := true, apart := false }
def SheetAllSaid : Prop := sheetAllRow.holds Try.pinned (OpenSpec.ofChange sheetAllSpec)

/-- ITS FALSE NEIGHBOUR: 'it returns false'. Refute it at one input. -/
def sheetAllWrong : ChangeSpec := { name := "sheetAll", fn := fun _ => fun
  | [d] => { results := [.lit (.bool false)], args := [d] }
  | _ => none }
def SheetAllWrongFalsely : Prop := sheetAllRow.holds Try.pinned (OpenSpec.ofChange sheetAllWrong)

/-- 'harpsichordlaw16.SheetReads': WHATEVER THE INPUT: true; the input reads as it did. -/
def sheetReadsSpec : ChangeSpec := { name := "sheetReads", fn := fun _ => fun
  | [d1, d2, d3] => { results := [.lit (.bool true)], args := [d1, d2, d3] }
  | _ => none }
def sheetReadsRow : OpenClaim := { program := "ytoallenigfbkpaa", sum := "ca3b7fd6a9870b32ddbf704eb8d5c7e783c96c916463fb9b758ce8b45f0e8c89", func := "harpsichord/harpsichordlaw16.SheetReads", spec := "sheetReads", apart := false }
def SheetReadsSaid : Prop := sheetReadsRow.holds Try.pinned (OpenSpec.ofChange sheetReadsSpec)

/-- ITS FALSE NEIGHBOUR: 'it returns false'. Refute it at one input. -/
def sheetReadsWrong : ChangeSpec := { name := "sheetReads", fn := fun _ => fun
  | [d1, d2, d3] => { results := [.lit (.bool false)], args := [d1, d2, d3] }
  | _ => none }
def SheetReadsWrongFalsely : Prop := sheetReadsRow.holds Try.pinned (OpenSpec.ofChange sheetReadsWrong)

/-- 'harpsichordlaw16.SheetBack': WHATEVER THE INPUT: true; the input reads as it did. -/
def sheetBackSpec : ChangeSpec := { name := "sheetBack", fn := fun _ => fun
  | [d1, d2, d3] => { results := [.lit (.bool true)], args := [d1, d2, d3] }
  | _ => none }
def sheetBackRow : OpenClaim := { program := "ytoallenigfbkpaa", sum := "ca3b7fd6a9870b32ddbf704eb8d5c7e783c96c916463fb9b758ce8b45f0e8c89", func := "harpsichord/harpsichordlaw16.SheetBack", spec := "sheetBack", apart := false }
def SheetBackSaid : Prop := sheetBackRow.holds Try.pinned (OpenSpec.ofChange sheetBackSpec)

/-- ITS FALSE NEIGHBOUR: 'it returns false'. Refute it at one input. -/
def sheetBackWrong : ChangeSpec := { name := "sheetBack", fn := fun _ => fun
  | [d1, d2, d3] => { results := [.lit (.bool false)], args := [d1, d2, d3] }
  | _ => none }
def SheetBackWrongFalsely : Prop := sheetBackRow.holds Try.pinned (OpenSpec.ofChange sheetBackWrong)

/-- 'harpsichordlaw16.SheetRoom': WHATEVER THE INPUT: true; the input reads as it did. -/
def sheetRoomSpec : ChangeSpec := { name := "sheetRoom", fn := fun _ => fun
  | [d1, d2, d3] => { results := [.lit (.bool true)], args := [d1, d2, d3] }
  | _ => none }
def sheetRoomRow : OpenClaim := { program := "ytoallenigfbkpaa", sum := "ca3b7fd6a9870b32ddbf704eb8d5c7e783c96c916463fb9b758ce8b45f0e8c89", func := "harpsichord/harpsichordlaw16.SheetRoom", spec := "sheetRoom", apart := false }
def SheetRoomSaid : Prop := sheetRoomRow.holds Try.pinned (OpenSpec.ofChange sheetRoomSpec)

/-- ITS FALSE NEIGHBOUR: 'it returns false'. Refute it at one input. -/
def sheetRoomWrong : ChangeSpec := { name := "sheetRoom", fn := fun _ => fun
  | [d1, d2, d3] => { results := [.lit (.bool false)], args := [d1, d2, d3] }
  | _ => none }
def SheetRoomWrongFalsely : Prop := sheetRoomRow.holds Try.pinned (OpenSpec.ofChange sheetRoomWrong)

/-- 'harpsichordlaw16.SheetGone': WHATEVER THE INPUT: true; the input reads as it did. -/
def sheetGoneSpec : ChangeSpec := { name := "sheetGone", fn := fun _ => fun
  | [d1, d2, d3] => { results := [.lit (.bool true)], args := [d1, d2, d3] }
  | _ => none }
def sheetGoneRow : OpenClaim := { program := "ytoallenigfbkpaa", sum := "ca3b7fd6a9870b32ddbf704eb8d5c7e783c96c916463fb9b758ce8b45f0e8c89", func := "harpsichord/harpsichordlaw16.SheetGone", spec := "sheetGone", inPlace := ["maps.clone"], apart := false }
def SheetGoneSaid : Prop := sheetGoneRow.holds Try.pinned (OpenSpec.ofChange sheetGoneSpec)

/-- ITS FALSE NEIGHBOUR: 'it returns false'. Refute it at one input. -/
def sheetGoneWrong : ChangeSpec := { name := "sheetGone", fn := fun _ => fun
  | [d1, d2, d3] => { results := [.lit (.bool false)], args := [d1, d2, d3] }
  | _ => none }
def SheetGoneWrongFalsely : Prop := sheetGoneRow.holds Try.pinned (OpenSpec.ofChange sheetGoneWrong)

/-- 'harpsichordlaw16.SheetOrder': WHATEVER THE INPUT: true; the input reads as it did. -/
def sheetOrderSpec : ChangeSpec := { name := "sheetOrder", fn := fun _ => fun
  | [d1, d2, d3] => { results := [.lit (.bool true)], args := [d1, d2, d3] }
  | _ => none }
def sheetOrderRow : OpenClaim := { program := "ytoallenigfbkpaa", sum := "ca3b7fd6a9870b32ddbf704eb8d5c7e783c96c916463fb9b758ce8b45f0e8c89", func := "harpsichord/harpsichordlaw16.SheetOrder", spec := "sheetOrder", inPlace := ["maps.clone"], unfollowed := true, recurses := true, apart := false }
def SheetOrderSaid : Prop := sheetOrderRow.holds Try.pinned (OpenSpec.ofChange sheetOrderSpec)

/-- ITS FALSE NEIGHBOUR: 'it returns false'. Refute it at one input. -/
def sheetOrderWrong : ChangeSpec := { name := "sheetOrder", fn := fun _ => fun
  | [d1, d2, d3] => { results := [.lit (.bool false)], args := [d1, d2, d3] }
  | _ => none }
def SheetOrderWrongFalsely : Prop := sheetOrderRow.holds Try.pinned (OpenSpec.ofChange sheetOrderWrong)

/- THE SECOND FORM. 'bulk': how many values and letters a reading holds, each counted each time it is reached (what is shared counts as often as it is met; a slice's spare places count too). A statement '..UptoSaid' is the law's where the arguments, and the package variables that the reading takes, are together of bulk at most 1048576: NARROWER than '..Said'. Prove '..Said' where nothing that the law and all that it calls make is longer than what came in: it says more and counts as full. Else prove '..UptoSaid'. A law counts once. -/
mutual
def uptoBulk {H : Type} : DataW H → Nat
  | .lit (.string bytes) => bytes.length + 1
  | .lit _ => 1
  | .nil => 1
  | .ptr d => uptoBulk d + 1
  | .slice elems spare => uptoBulkAll elems + uptoBulkAll spare + 1
  | .agg parts => uptoBulkAll parts + 1
  | .iface _ d => uptoBulk d + 1
  | .map entries => uptoBulkEntries entries + 1
  | .held _ => 1
def uptoBulkAll {H : Type} : List (DataW H) → Nat
  | [] => 0
  | d :: r => uptoBulk d + uptoBulkAll r
def uptoBulkEntries {H : Type} : List (Lit × DataW H) → Nat
  | [] => 0
  | x :: r => uptoBulkEntry x + uptoBulkEntries r
def uptoBulkEntry {H : Type} : Lit × DataW H → Nat
  | (.string bytes, d) => bytes.length + uptoBulk d + 1
  | (_, d) => uptoBulk d + 1
 end
def uptoSmall : (H : Type) → List (DataW H) → Bool := fun _ ds => decide (uptoBulkAll ds ≤ 1048576)
def OpenSpec.upto (s : _root_.Go.ChangeSpec) : _root_.Go.OpenSpec := { _root_.Go.OpenSpec.ofChange s with cond := some uptoSmall }

/-- 'harpsichordlaw16.SheetAll', WHERE WHAT IT READS IS OF BULK AT MOST 1048576: true; the input reads as it did. -/
def sheetAllUptoRow : OpenClaim := { program := "ytoallenigfbkpaa", sum := "ca3b7fd6a9870b32ddbf704eb8d5c7e783c96c916463fb9b758ce8b45f0e8c89", func := "harpsichord/harpsichordlaw16.SheetAll", spec := "sheetAll", unfollowed := true, recurses := true, apart := false, narrowed := true }
def SheetAllUptoSaid : Prop := sheetAllUptoRow.holds Try.pinned (OpenSpec.upto sheetAllSpec)

/-- 'harpsichordlaw16.SheetReads', WHERE WHAT IT READS IS OF BULK AT MOST 1048576: true; the input reads as it did. -/
def sheetReadsUptoRow : OpenClaim := { program := "ytoallenigfbkpaa", sum := "ca3b7fd6a9870b32ddbf704eb8d5c7e783c96c916463fb9b758ce8b45f0e8c89", func := "harpsichord/harpsichordlaw16.SheetReads", spec := "sheetReads", apart := false, narrowed := true }
def SheetReadsUptoSaid : Prop := sheetReadsUptoRow.holds Try.pinned (OpenSpec.upto sheetReadsSpec)

/-- 'harpsichordlaw16.SheetBack', WHERE WHAT IT READS IS OF BULK AT MOST 1048576: true; the input reads as it did. -/
def sheetBackUptoRow : OpenClaim := { program := "ytoallenigfbkpaa", sum := "ca3b7fd6a9870b32ddbf704eb8d5c7e783c96c916463fb9b758ce8b45f0e8c89", func := "harpsichord/harpsichordlaw16.SheetBack", spec := "sheetBack", apart := false, narrowed := true }
def SheetBackUptoSaid : Prop := sheetBackUptoRow.holds Try.pinned (OpenSpec.upto sheetBackSpec)

/-- 'harpsichordlaw16.SheetRoom', WHERE WHAT IT READS IS OF BULK AT MOST 1048576: true; the input reads as it did. -/
def sheetRoomUptoRow : OpenClaim := { program := "ytoallenigfbkpaa", sum := "ca3b7fd6a9870b32ddbf704eb8d5c7e783c96c916463fb9b758ce8b45f0e8c89", func := "harpsichord/harpsichordlaw16.SheetRoom", spec := "sheetRoom", apart := false, narrowed := true }
def SheetRoomUptoSaid : Prop := sheetRoomUptoRow.holds Try.pinned (OpenSpec.upto sheetRoomSpec)

/-- 'harpsichordlaw16.SheetGone', WHERE WHAT IT READS IS OF BULK AT MOST 1048576: true; the input reads as it did. -/
def sheetGoneUptoRow : OpenClaim := { program := "ytoallenigfbkpaa", sum := "ca3b7fd6a9870b32ddbf704eb8d5c7e783c96c916463fb9b758ce8b45f0e8c89", func := "harpsichord/harpsichordlaw16.SheetGone", spec := "sheetGone", inPlace := ["maps.clone"], apart := false, narrowed := true }
def SheetGoneUptoSaid : Prop := sheetGoneUptoRow.holds Try.pinned (OpenSpec.upto sheetGoneSpec)

/-- 'harpsichordlaw16.SheetOrder', WHERE WHAT IT READS IS OF BULK AT MOST 1048576: true; the input reads as it did. -/
def sheetOrderUptoRow : OpenClaim := { program := "ytoallenigfbkpaa", sum := "ca3b7fd6a9870b32ddbf704eb8d5c7e783c96c916463fb9b758ce8b45f0e8c89", func := "harpsichord/harpsichordlaw16.SheetOrder", spec := "sheetOrder", inPlace := ["maps.clone"], unfollowed := true, recurses := true, apart := false, narrowed := true }
def SheetOrderUptoSaid : Prop := sheetOrderUptoRow.holds Try.pinned (OpenSpec.upto sheetOrderSpec)

end Rows
end Go.Proofs.Ytoallenigfbkpaa
