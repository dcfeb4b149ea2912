/-
  NARROWER THAN 'FOR EVERY INPUT', by the rows' own cells (each row's printed sentence says how): TallySums: laid · TallyMores: laid · TallyZeros: laid · TallyJoins: laid · TallyBursts: laid · TallyTwice: laid · TallyXors: laid.
  DERIVED. THE GIVEN ROWS OF THIS SEAT. 7 by the template 'for every input the law returns true; each argument reads behind the call as it read before'; 0 by the template 'total and deterministic' (their statements: YtcobgidmmfliaaaDoorTotals.lean).
  GIVEN WITH THE SEED: the statements are not yours to turn. If you find one false, say at which input.
  Laid BY PROGRAM, IN A SANDBOX (cutbox-rows.mjs): the forced cells as the released guide's own fill.sh prints them over the translation 7ee887ca9ec9c1a0… (all of the seat's roots in one cut). By AI agents, Wed Nov 11 2026. No macro, syntax, notation, axiom, sorry.
-/
import Derived.Test.YtcobgidmmfliaaaDoorChecked
import GoSem.Claim
import GoSem.ClaimJoined
import GoSem.ClaimMapViews
import Derived.JoinedTies
import Derived.KernelRfl
namespace Go.Proofs.YtcobgidmmfliaaaDoor
/- THE CELL 'sum', in the pinned program and in every row, IS THE sha256 OF THE DUMP (.gsa) THAT YtcobgidmmfliaaaDoorProg.lean LOADS. Nothing in Lean hashes anything: it is a label: what it is worth is what the hold of that sum in a sandbox is worth. -/
noncomputable def Tryd.pinned : Pinned := { name := "ytcobgidmmfliaaadoor", sum := "7ee887ca9ec9c1a030f0b06678f7ffdd47b5611d8489c50c5f6eee86fa6e446f", checked := Tryd.checked }
namespace Rows
def none {H : Type} : Left H := { results := [], args := [] }

/- WHAT THE LISTED PACKAGE-LEVEL VARIABLES READ AS WHEN THE CALL BEGINS. Each datum BY PROGRAM (the guide's laid-datum.mjs) off the statement by which the dump's own 'gosem.cut.vars' lays the variable. In a bare row this is a premise. The card (YtcobgidmmfliaaaDoorCards.lean) ties it to the program's text. -/
def laid_harpsichord_tally_four {H : Type} : DataW H := .agg [.lit (.int .u32 0), .lit (.int .u32 274646895), .lit (.int .u32 549293790), .lit (.int .u32 820201905), .lit (.int .u32 1098587580), .lit (.int .u32 1361435347), .lit (.int .u32 1640403810), .lit (.int .u32 1905808397), .lit (.int .u32 2197175160), .lit (.int .u32 2460548119), .lit (.int .u32 2722870694), .lit (.int .u32 2987750089), .lit (.int .u32 3280807620), .lit (.int .u32 3553878443), .lit (.int .u32 3811616794), .lit (.int .u32 4084100981)]

/-- 'harpsichordlaw01.TallySums': WHATEVER THE INPUT: true; the input reads as it did. -/
def tallySumsSpec : ChangeSpec := { name := "tallySums", fn := fun _ => fun
  | [d] => { results := [.lit (.bool true)], args := [d] }
  | _ => none }
def tallySumsRow : OpenClaim := { program := "ytcobgidmmfliaaadoor", sum := "7ee887ca9ec9c1a030f0b06678f7ffdd47b5611d8489c50c5f6eee86fa6e446f", func := "harpsichord/harpsichordlaw01.TallySums", spec := "tallySums", named := ["harpsichord/tally.four"], apart := false, laid := [("harpsichord/tally.four", laid_harpsichord_tally_four)] }
def TallySumsSaid : Prop := tallySumsRow.holds Tryd.pinned (OpenSpec.ofChange tallySumsSpec)

/-- ITS FALSE NEIGHBOUR: 'it returns false'. Refute it at one input. -/
def tallySumsWrong : ChangeSpec := { name := "tallySums", fn := fun _ => fun
  | [d] => { results := [.lit (.bool false)], args := [d] }
  | _ => none }
def TallySumsWrongFalsely : Prop := tallySumsRow.holds Tryd.pinned (OpenSpec.ofChange tallySumsWrong)

/-- 'harpsichordlaw01.TallyMores': WHATEVER THE INPUT: true; the input reads as it did. -/
def tallyMoresSpec : ChangeSpec := { name := "tallyMores", fn := fun _ => fun
  | [d1, d2] => { results := [.lit (.bool true)], args := [d1, d2] }
  | _ => none }
def tallyMoresRow : OpenClaim := { program := "ytcobgidmmfliaaadoor", sum := "7ee887ca9ec9c1a030f0b06678f7ffdd47b5611d8489c50c5f6eee86fa6e446f", func := "harpsichord/harpsichordlaw01.TallyMores", spec := "tallyMores", named := ["harpsichord/tally.four"], apart := false, laid := [("harpsichord/tally.four", laid_harpsichord_tally_four)] }
def TallyMoresSaid : Prop := tallyMoresRow.holds Tryd.pinned (OpenSpec.ofChange tallyMoresSpec)

/-- ITS FALSE NEIGHBOUR: 'it returns false'. Refute it at one input. -/
def tallyMoresWrong : ChangeSpec := { name := "tallyMores", fn := fun _ => fun
  | [d1, d2] => { results := [.lit (.bool false)], args := [d1, d2] }
  | _ => none }
def TallyMoresWrongFalsely : Prop := tallyMoresRow.holds Tryd.pinned (OpenSpec.ofChange tallyMoresWrong)

/-- 'harpsichordlaw01.TallyZeros': WHATEVER THE INPUT: true; the input reads as it did. -/
def tallyZerosSpec : ChangeSpec := { name := "tallyZeros", fn := fun _ => fun
  | [d1, d2] => { results := [.lit (.bool true)], args := [d1, d2] }
  | _ => none }
def tallyZerosRow : OpenClaim := { program := "ytcobgidmmfliaaadoor", sum := "7ee887ca9ec9c1a030f0b06678f7ffdd47b5611d8489c50c5f6eee86fa6e446f", func := "harpsichord/harpsichordlaw01.TallyZeros", spec := "tallyZeros", unfollowed := true, recurses := true, named := ["harpsichord/tally.four"], apart := false, laid := [("harpsichord/tally.four", laid_harpsichord_tally_four)] }
def TallyZerosSaid : Prop := tallyZerosRow.holds Tryd.pinned (OpenSpec.ofChange tallyZerosSpec)

/-- ITS FALSE NEIGHBOUR: 'it returns false'. Refute it at one input. -/
def tallyZerosWrong : ChangeSpec := { name := "tallyZeros", fn := fun _ => fun
  | [d1, d2] => { results := [.lit (.bool false)], args := [d1, d2] }
  | _ => none }
def TallyZerosWrongFalsely : Prop := tallyZerosRow.holds Tryd.pinned (OpenSpec.ofChange tallyZerosWrong)

/-- 'harpsichordlaw01.TallyJoins': WHATEVER THE INPUT: true; the input reads as it did. -/
def tallyJoinsSpec : ChangeSpec := { name := "tallyJoins", fn := fun _ => fun
  | [d1, d2] => { results := [.lit (.bool true)], args := [d1, d2] }
  | _ => none }
def tallyJoinsRow : OpenClaim := { program := "ytcobgidmmfliaaadoor", sum := "7ee887ca9ec9c1a030f0b06678f7ffdd47b5611d8489c50c5f6eee86fa6e446f", func := "harpsichord/harpsichordlaw01.TallyJoins", spec := "tallyJoins", named := ["harpsichord/tally.four"], apart := false, laid := [("harpsichord/tally.four", laid_harpsichord_tally_four)] }
def TallyJoinsSaid : Prop := tallyJoinsRow.holds Tryd.pinned (OpenSpec.ofChange tallyJoinsSpec)

/-- ITS FALSE NEIGHBOUR: 'it returns false'. Refute it at one input. -/
def tallyJoinsWrong : ChangeSpec := { name := "tallyJoins", fn := fun _ => fun
  | [d1, d2] => { results := [.lit (.bool false)], args := [d1, d2] }
  | _ => none }
def TallyJoinsWrongFalsely : Prop := tallyJoinsRow.holds Tryd.pinned (OpenSpec.ofChange tallyJoinsWrong)

/-- 'harpsichordlaw01.TallyBursts': WHATEVER THE INPUT: true; the input reads as it did. -/
def tallyBurstsSpec : ChangeSpec := { name := "tallyBursts", fn := fun _ => fun
  | [d1, d2, d3] => { results := [.lit (.bool true)], args := [d1, d2, d3] }
  | _ => none }
def tallyBurstsRow : OpenClaim := { program := "ytcobgidmmfliaaadoor", sum := "7ee887ca9ec9c1a030f0b06678f7ffdd47b5611d8489c50c5f6eee86fa6e446f", func := "harpsichord/harpsichordlaw01.TallyBursts", spec := "tallyBursts", named := ["harpsichord/tally.four"], apart := false, laid := [("harpsichord/tally.four", laid_harpsichord_tally_four)] }
def TallyBurstsSaid : Prop := tallyBurstsRow.holds Tryd.pinned (OpenSpec.ofChange tallyBurstsSpec)

/-- ITS FALSE NEIGHBOUR: 'it returns false'. Refute it at one input. -/
def tallyBurstsWrong : ChangeSpec := { name := "tallyBursts", fn := fun _ => fun
  | [d1, d2, d3] => { results := [.lit (.bool false)], args := [d1, d2, d3] }
  | _ => none }
def TallyBurstsWrongFalsely : Prop := tallyBurstsRow.holds Tryd.pinned (OpenSpec.ofChange tallyBurstsWrong)

/-- 'harpsichordlaw01.TallyTwice': WHATEVER THE INPUT: true; the input reads as it did. -/
def tallyTwiceSpec : ChangeSpec := { name := "tallyTwice", fn := fun _ => fun
  | [d1, d2, d3] => { results := [.lit (.bool true)], args := [d1, d2, d3] }
  | _ => none }
def tallyTwiceRow : OpenClaim := { program := "ytcobgidmmfliaaadoor", sum := "7ee887ca9ec9c1a030f0b06678f7ffdd47b5611d8489c50c5f6eee86fa6e446f", func := "harpsichord/harpsichordlaw01.TallyTwice", spec := "tallyTwice", unfollowed := true, recurses := true, named := ["harpsichord/tally.four"], apart := false, laid := [("harpsichord/tally.four", laid_harpsichord_tally_four)] }
def TallyTwiceSaid : Prop := tallyTwiceRow.holds Tryd.pinned (OpenSpec.ofChange tallyTwiceSpec)

/-- ITS FALSE NEIGHBOUR: 'it returns false'. Refute it at one input. -/
def tallyTwiceWrong : ChangeSpec := { name := "tallyTwice", fn := fun _ => fun
  | [d1, d2, d3] => { results := [.lit (.bool false)], args := [d1, d2, d3] }
  | _ => none }
def TallyTwiceWrongFalsely : Prop := tallyTwiceRow.holds Tryd.pinned (OpenSpec.ofChange tallyTwiceWrong)

/-- 'harpsichordlaw01.TallyXors': WHATEVER THE INPUT: true; the input reads as it did. -/
def tallyXorsSpec : ChangeSpec := { name := "tallyXors", fn := fun _ => fun
  | [d1, d2, d3] => { results := [.lit (.bool true)], args := [d1, d2, d3] }
  | _ => none }
def tallyXorsRow : OpenClaim := { program := "ytcobgidmmfliaaadoor", sum := "7ee887ca9ec9c1a030f0b06678f7ffdd47b5611d8489c50c5f6eee86fa6e446f", func := "harpsichord/harpsichordlaw01.TallyXors", spec := "tallyXors", named := ["harpsichord/tally.four"], apart := false, laid := [("harpsichord/tally.four", laid_harpsichord_tally_four)] }
def TallyXorsSaid : Prop := tallyXorsRow.holds Tryd.pinned (OpenSpec.ofChange tallyXorsSpec)

/-- ITS FALSE NEIGHBOUR: 'it returns false'. Refute it at one input. -/
def tallyXorsWrong : ChangeSpec := { name := "tallyXors", fn := fun _ => fun
  | [d1, d2, d3] => { results := [.lit (.bool false)], args := [d1, d2, d3] }
  | _ => none }
def TallyXorsWrongFalsely : Prop := tallyXorsRow.holds Tryd.pinned (OpenSpec.ofChange tallyXorsWrong)

/- THE SECOND FORM. 'bulk': how many values and letters a reading holds, each counted each time it is reached (what is shared counts as often as it is met; a slice's spare places count too). A statement '..UptoSaid' is the law's where the arguments, and the package variables that the reading takes, are together of bulk at most 1048576: NARROWER than '..Said'. Prove '..Said' where nothing that the law and all that it calls make is longer than what came in: it says more and counts as full. Else prove '..UptoSaid'. A law counts once. -/
mutual
def uptoBulk {H : Type} : DataW H → Nat
  | .lit (.string bytes) => bytes.length + 1
  | .lit _ => 1
  | .nil => 1
  | .ptr d => uptoBulk d + 1
  | .slice elems spare => uptoBulkAll elems + uptoBulkAll spare + 1
  | .agg parts => uptoBulkAll parts + 1
  | .iface _ d => uptoBulk d + 1
  | .map entries => uptoBulkEntries entries + 1
  | .held _ => 1
def uptoBulkAll {H : Type} : List (DataW H) → Nat
  | [] => 0
  | d :: r => uptoBulk d + uptoBulkAll r
def uptoBulkEntries {H : Type} : List (Lit × DataW H) → Nat
  | [] => 0
  | x :: r => uptoBulkEntry x + uptoBulkEntries r
def uptoBulkEntry {H : Type} : Lit × DataW H → Nat
  | (.string bytes, d) => bytes.length + uptoBulk d + 1
  | (_, d) => uptoBulk d + 1
 end
def uptoSmall : (H : Type) → List (DataW H) → Bool := fun _ ds => decide (uptoBulkAll ds ≤ 1048576)
def OpenSpec.upto (s : _root_.Go.ChangeSpec) : _root_.Go.OpenSpec := { _root_.Go.OpenSpec.ofChange s with cond := some uptoSmall }

/-- 'harpsichordlaw01.TallySums', WHERE WHAT IT READS IS OF BULK AT MOST 1048576: true; the input reads as it did. -/
def tallySumsUptoRow : OpenClaim := { program := "ytcobgidmmfliaaadoor", sum := "7ee887ca9ec9c1a030f0b06678f7ffdd47b5611d8489c50c5f6eee86fa6e446f", func := "harpsichord/harpsichordlaw01.TallySums", spec := "tallySums", named := ["harpsichord/tally.four"], apart := false, laid := [("harpsichord/tally.four", laid_harpsichord_tally_four)], narrowed := true }
def TallySumsUptoSaid : Prop := tallySumsUptoRow.holds Tryd.pinned (OpenSpec.upto tallySumsSpec)

/-- 'harpsichordlaw01.TallyMores', WHERE WHAT IT READS IS OF BULK AT MOST 1048576: true; the input reads as it did. -/
def tallyMoresUptoRow : OpenClaim := { program := "ytcobgidmmfliaaadoor", sum := "7ee887ca9ec9c1a030f0b06678f7ffdd47b5611d8489c50c5f6eee86fa6e446f", func := "harpsichord/harpsichordlaw01.TallyMores", spec := "tallyMores", named := ["harpsichord/tally.four"], apart := false, laid := [("harpsichord/tally.four", laid_harpsichord_tally_four)], narrowed := true }
def TallyMoresUptoSaid : Prop := tallyMoresUptoRow.holds Tryd.pinned (OpenSpec.upto tallyMoresSpec)

/-- 'harpsichordlaw01.TallyZeros', WHERE WHAT IT READS IS OF BULK AT MOST 1048576: true; the input reads as it did. -/
def tallyZerosUptoRow : OpenClaim := { program := "ytcobgidmmfliaaadoor", sum := "7ee887ca9ec9c1a030f0b06678f7ffdd47b5611d8489c50c5f6eee86fa6e446f", func := "harpsichord/harpsichordlaw01.TallyZeros", spec := "tallyZeros", unfollowed := true, recurses := true, named := ["harpsichord/tally.four"], apart := false, laid := [("harpsichord/tally.four", laid_harpsichord_tally_four)], narrowed := true }
def TallyZerosUptoSaid : Prop := tallyZerosUptoRow.holds Tryd.pinned (OpenSpec.upto tallyZerosSpec)

/-- 'harpsichordlaw01.TallyJoins', WHERE WHAT IT READS IS OF BULK AT MOST 1048576: true; the input reads as it did. -/
def tallyJoinsUptoRow : OpenClaim := { program := "ytcobgidmmfliaaadoor", sum := "7ee887ca9ec9c1a030f0b06678f7ffdd47b5611d8489c50c5f6eee86fa6e446f", func := "harpsichord/harpsichordlaw01.TallyJoins", spec := "tallyJoins", named := ["harpsichord/tally.four"], apart := false, laid := [("harpsichord/tally.four", laid_harpsichord_tally_four)], narrowed := true }
def TallyJoinsUptoSaid : Prop := tallyJoinsUptoRow.holds Tryd.pinned (OpenSpec.upto tallyJoinsSpec)

/-- 'harpsichordlaw01.TallyBursts', WHERE WHAT IT READS IS OF BULK AT MOST 1048576: true; the input reads as it did. -/
def tallyBurstsUptoRow : OpenClaim := { program := "ytcobgidmmfliaaadoor", sum := "7ee887ca9ec9c1a030f0b06678f7ffdd47b5611d8489c50c5f6eee86fa6e446f", func := "harpsichord/harpsichordlaw01.TallyBursts", spec := "tallyBursts", named := ["harpsichord/tally.four"], apart := false, laid := [("harpsichord/tally.four", laid_harpsichord_tally_four)], narrowed := true }
def TallyBurstsUptoSaid : Prop := tallyBurstsUptoRow.holds Tryd.pinned (OpenSpec.upto tallyBurstsSpec)

/-- 'harpsichordlaw01.TallyTwice', WHERE WHAT IT READS IS OF BULK AT MOST 1048576: true; the input reads as it did. -/
def tallyTwiceUptoRow : OpenClaim := { program := "ytcobgidmmfliaaadoor", sum := "7ee887ca9ec9c1a030f0b06678f7ffdd47b5611d8489c50c5f6eee86fa6e446f", func := "harpsichord/harpsichordlaw01.TallyTwice", spec := "tallyTwice", unfollowed := true, recurses := true, named := ["harpsichord/tally.four"], apart := false, laid := [("harpsichord/tally.four", laid_harpsichord_tally_four)], narrowed := true }
def TallyTwiceUptoSaid : Prop := tallyTwiceUptoRow.holds Tryd.pinned (OpenSpec.upto tallyTwiceSpec)

/-- 'harpsichordlaw01.TallyXors', WHERE WHAT IT READS IS OF BULK AT MOST 1048576: true; the input reads as it did. -/
def tallyXorsUptoRow : OpenClaim := { program := "ytcobgidmmfliaaadoor", sum := "7ee887ca9ec9c1a030f0b06678f7ffdd47b5611d8489c50c5f6eee86fa6e446f", func := "harpsichord/harpsichordlaw01.TallyXors", spec := "tallyXors", named := ["harpsichord/tally.four"], apart := false, laid := [("harpsichord/tally.four", laid_harpsichord_tally_four)], narrowed := true }
def TallyXorsUptoSaid : Prop := tallyXorsUptoRow.holds Tryd.pinned (OpenSpec.upto tallyXorsSpec)

end Rows
end Go.Proofs.YtcobgidmmfliaaaDoor
