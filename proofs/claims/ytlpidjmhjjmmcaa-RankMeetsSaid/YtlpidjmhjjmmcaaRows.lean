/-
  No cell of these rows narrows 'for every input' (looked for: loops, veiled, ifaces, maps, wideKeys, modest, calm, conditions, laid).
  DERIVED. THE GIVEN ROWS OF THIS SEAT. 8 by the template 'for every input the law returns true; each argument reads behind the call as it read before'; 0 by the template 'total and deterministic' (their statements: YtlpidjmhjjmmcaaTotals.lean).
  GIVEN WITH THE SEED: the statements are not yours to turn. If you find one false, say at which input.
  Laid BY PROGRAM, IN A SANDBOX (cutbox-rows.mjs): the forced cells as the released guide's own fill.sh prints them over the translation 9c6f2b4b5bdfc025… (all of the seat's roots in one cut). By AI agents, Wed Nov 11 2026. No macro, syntax, notation, axiom, sorry.
-/
import Derived.Test.YtlpidjmhjjmmcaaChecked
import GoSem.Claim
import GoSem.ClaimJoined
import GoSem.ClaimMapViews
import Derived.JoinedTies
import Derived.KernelRfl
namespace Go.Proofs.Ytlpidjmhjjmmcaa
/- THE CELL 'sum', in the pinned program and in every row, IS THE sha256 OF THE DUMP (.gsa) THAT YtlpidjmhjjmmcaaProg.lean LOADS. Nothing in Lean hashes anything: it is a label: what it is worth is what the hold of that sum in a sandbox is worth. -/
noncomputable def Try.pinned : Pinned := { name := "ytlpidjmhjjmmcaa", sum := "9c6f2b4b5bdfc025dd7bf3c6f9b64662a400ca5c1aaa38846fc5cd635d84b063", checked := Try.checked }
namespace Rows
def none {H : Type} : Left H := { results := [], args := [] }

/-- 'harpsichordlaw12.RankGroups': WHATEVER THE INPUT: true; the input reads as it did. -/
def rankGroupsSpec : ChangeSpec := { name := "rankGroups", fn := fun _ => fun
  | [d1, d2, d3] => { results := [.lit (.bool true)], args := [d1, d2, d3] }
  | _ => none }
def rankGroupsRow : OpenClaim := { program := "ytlpidjmhjjmmcaa", sum := "9c6f2b4b5bdfc025dd7bf3c6f9b64662a400ca5c1aaa38846fc5cd635d84b063", func := "harpsichord/harpsichordlaw12.RankGroups", spec := "rankGroups", recurses := true, apart := false }
def RankGroupsSaid : Prop := rankGroupsRow.holds Try.pinned (OpenSpec.ofChange rankGroupsSpec)

/-- ITS FALSE NEIGHBOUR: 'it returns false'. Refute it at one input. -/
def rankGroupsWrong : ChangeSpec := { name := "rankGroups", fn := fun _ => fun
  | [d1, d2, d3] => { results := [.lit (.bool false)], args := [d1, d2, d3] }
  | _ => none }
def RankGroupsWrongFalsely : Prop := rankGroupsRow.holds Try.pinned (OpenSpec.ofChange rankGroupsWrong)

/-- 'harpsichordlaw12.RankMeets': WHATEVER THE INPUT: true; the input reads as it did. -/
def rankMeetsSpec : ChangeSpec := { name := "rankMeets", fn := fun _ => fun
  | [d1, d2, d3] => { results := [.lit (.bool true)], args := [d1, d2, d3] }
  | _ => none }
def rankMeetsRow : OpenClaim := { program := "ytlpidjmhjjmmcaa", sum := "9c6f2b4b5bdfc025dd7bf3c6f9b64662a400ca5c1aaa38846fc5cd635d84b063", func := "harpsichord/harpsichordlaw12.RankMeets", spec := "rankMeets", recurses := true, apart := false }
def RankMeetsSaid : Prop := rankMeetsRow.holds Try.pinned (OpenSpec.ofChange rankMeetsSpec)

/-- ITS FALSE NEIGHBOUR: 'it returns false'. Refute it at one input. -/
def rankMeetsWrong : ChangeSpec := { name := "rankMeets", fn := fun _ => fun
  | [d1, d2, d3] => { results := [.lit (.bool false)], args := [d1, d2, d3] }
  | _ => none }
def RankMeetsWrongFalsely : Prop := rankMeetsRow.holds Try.pinned (OpenSpec.ofChange rankMeetsWrong)

/-- 'harpsichordlaw12.RankViews': WHATEVER THE INPUT: true; the input reads as it did. -/
def rankViewsSpec : ChangeSpec := { name := "rankViews", fn := fun _ => fun
  | [d1, d2] => { results := [.lit (.bool true)], args := [d1, d2] }
  | _ => none }
def rankViewsRow : OpenClaim := { program := "ytlpidjmhjjmmcaa", sum := "9c6f2b4b5bdfc025dd7bf3c6f9b64662a400ca5c1aaa38846fc5cd635d84b063", func := "harpsichord/harpsichordlaw12.RankViews", spec := "rankViews", recurses := true, apart := false }
def RankViewsSaid : Prop := rankViewsRow.holds Try.pinned (OpenSpec.ofChange rankViewsSpec)

/-- ITS FALSE NEIGHBOUR: 'it returns false'. Refute it at one input. -/
def rankViewsWrong : ChangeSpec := { name := "rankViews", fn := fun _ => fun
  | [d1, d2] => { results := [.lit (.bool false)], args := [d1, d2] }
  | _ => none }
def RankViewsWrongFalsely : Prop := rankViewsRow.holds Try.pinned (OpenSpec.ofChange rankViewsWrong)

/-- 'harpsichordlaw12.RankLogs': WHATEVER THE INPUT: true; the input reads as it did. -/
def rankLogsSpec : ChangeSpec := { name := "rankLogs", fn := fun _ => fun
  | [d1, d2, d3] => { results := [.lit (.bool true)], args := [d1, d2, d3] }
  | _ => none }
def rankLogsRow : OpenClaim := { program := "ytlpidjmhjjmmcaa", sum := "9c6f2b4b5bdfc025dd7bf3c6f9b64662a400ca5c1aaa38846fc5cd635d84b063", func := "harpsichord/harpsichordlaw12.RankLogs", spec := "rankLogs", recurses := true, apart := false }
def RankLogsSaid : Prop := rankLogsRow.holds Try.pinned (OpenSpec.ofChange rankLogsSpec)

/-- ITS FALSE NEIGHBOUR: 'it returns false'. Refute it at one input. -/
def rankLogsWrong : ChangeSpec := { name := "rankLogs", fn := fun _ => fun
  | [d1, d2, d3] => { results := [.lit (.bool false)], args := [d1, d2, d3] }
  | _ => none }
def RankLogsWrongFalsely : Prop := rankLogsRow.holds Try.pinned (OpenSpec.ofChange rankLogsWrong)

/-- 'harpsichordlaw12.RankBest': WHATEVER THE INPUT: true; the input reads as it did. -/
def rankBestSpec : ChangeSpec := { name := "rankBest", fn := fun _ => fun
  | [d] => { results := [.lit (.bool true)], args := [d] }
  | _ => none }
def rankBestRow : OpenClaim := { program := "ytlpidjmhjjmmcaa", sum := "9c6f2b4b5bdfc025dd7bf3c6f9b64662a400ca5c1aaa38846fc5cd635d84b063", func := "harpsichord/harpsichordlaw12.RankBest", spec := "rankBest", unfollowed := true, recurses := true, apart := false }
def RankBestSaid : Prop := rankBestRow.holds Try.pinned (OpenSpec.ofChange rankBestSpec)

/-- ITS FALSE NEIGHBOUR: 'it returns false'. Refute it at one input. -/
def rankBestWrong : ChangeSpec := { name := "rankBest", fn := fun _ => fun
  | [d] => { results := [.lit (.bool false)], args := [d] }
  | _ => none }
def RankBestWrongFalsely : Prop := rankBestRow.holds Try.pinned (OpenSpec.ofChange rankBestWrong)

/-- 'harpsichordlaw12.RankHeld': WHATEVER THE INPUT: true; the input reads as it did. -/
def rankHeldSpec : ChangeSpec := { name := "rankHeld", fn := fun _ => fun
  | [d1, d2] => { results := [.lit (.bool true)], args := [d1, d2] }
  | _ => none }
def rankHeldRow : OpenClaim := { program := "ytlpidjmhjjmmcaa", sum := "9c6f2b4b5bdfc025dd7bf3c6f9b64662a400ca5c1aaa38846fc5cd635d84b063", func := "harpsichord/harpsichordlaw12.RankHeld", spec := "rankHeld", recurses := true, apart := false }
def RankHeldSaid : Prop := rankHeldRow.holds Try.pinned (OpenSpec.ofChange rankHeldSpec)

/-- ITS FALSE NEIGHBOUR: 'it returns false'. Refute it at one input. -/
def rankHeldWrong : ChangeSpec := { name := "rankHeld", fn := fun _ => fun
  | [d1, d2] => { results := [.lit (.bool false)], args := [d1, d2] }
  | _ => none }
def RankHeldWrongFalsely : Prop := rankHeldRow.holds Try.pinned (OpenSpec.ofChange rankHeldWrong)

/-- 'harpsichordlaw12.RankBegins': WHATEVER THE INPUT: true; the input reads as it did. -/
def rankBeginsSpec : ChangeSpec := { name := "rankBegins", fn := fun _ => fun
  | [d1, d2, d3] => { results := [.lit (.bool true)], args := [d1, d2, d3] }
  | _ => none }
def rankBeginsRow : OpenClaim := { program := "ytlpidjmhjjmmcaa", sum := "9c6f2b4b5bdfc025dd7bf3c6f9b64662a400ca5c1aaa38846fc5cd635d84b063", func := "harpsichord/harpsichordlaw12.RankBegins", spec := "rankBegins", recurses := true, apart := false }
def RankBeginsSaid : Prop := rankBeginsRow.holds Try.pinned (OpenSpec.ofChange rankBeginsSpec)

/-- ITS FALSE NEIGHBOUR: 'it returns false'. Refute it at one input. -/
def rankBeginsWrong : ChangeSpec := { name := "rankBegins", fn := fun _ => fun
  | [d1, d2, d3] => { results := [.lit (.bool false)], args := [d1, d2, d3] }
  | _ => none }
def RankBeginsWrongFalsely : Prop := rankBeginsRow.holds Try.pinned (OpenSpec.ofChange rankBeginsWrong)

/-- 'harpsichordlaw12.RankRises': WHATEVER THE INPUT: true; the input reads as it did. -/
def rankRisesSpec : ChangeSpec := { name := "rankRises", fn := fun _ => fun
  | [d1, d2, d3] => { results := [.lit (.bool true)], args := [d1, d2, d3] }
  | _ => none }
def rankRisesRow : OpenClaim := { program := "ytlpidjmhjjmmcaa", sum := "9c6f2b4b5bdfc025dd7bf3c6f9b64662a400ca5c1aaa38846fc5cd635d84b063", func := "harpsichord/harpsichordlaw12.RankRises", spec := "rankRises", recurses := true, apart := false }
def RankRisesSaid : Prop := rankRisesRow.holds Try.pinned (OpenSpec.ofChange rankRisesSpec)

/-- ITS FALSE NEIGHBOUR: 'it returns false'. Refute it at one input. -/
def rankRisesWrong : ChangeSpec := { name := "rankRises", fn := fun _ => fun
  | [d1, d2, d3] => { results := [.lit (.bool false)], args := [d1, d2, d3] }
  | _ => none }
def RankRisesWrongFalsely : Prop := rankRisesRow.holds Try.pinned (OpenSpec.ofChange rankRisesWrong)

/- THE SECOND FORM. 'bulk': how many values and letters a reading holds, each counted each time it is reached (what is shared counts as often as it is met; a slice's spare places count too). A statement '..UptoSaid' is the law's where the arguments, and the package variables that the reading takes, are together of bulk at most 1048576: NARROWER than '..Said'. Prove '..Said' where nothing that the law and all that it calls make is longer than what came in: it says more and counts as full. Else prove '..UptoSaid'. A law counts once. -/
mutual
def uptoBulk {H : Type} : DataW H → Nat
  | .lit (.string bytes) => bytes.length + 1
  | .lit _ => 1
  | .nil => 1
  | .ptr d => uptoBulk d + 1
  | .slice elems spare => uptoBulkAll elems + uptoBulkAll spare + 1
  | .agg parts => uptoBulkAll parts + 1
  | .iface _ d => uptoBulk d + 1
  | .map entries => uptoBulkEntries entries + 1
  | .held _ => 1
def uptoBulkAll {H : Type} : List (DataW H) → Nat
  | [] => 0
  | d :: r => uptoBulk d + uptoBulkAll r
def uptoBulkEntries {H : Type} : List (Lit × DataW H) → Nat
  | [] => 0
  | x :: r => uptoBulkEntry x + uptoBulkEntries r
def uptoBulkEntry {H : Type} : Lit × DataW H → Nat
  | (.string bytes, d) => bytes.length + uptoBulk d + 1
  | (_, d) => uptoBulk d + 1
 end
def uptoSmall : (H : Type) → List (DataW H) → Bool := fun _ ds => decide (uptoBulkAll ds ≤ 1048576)
def OpenSpec.upto (s : _root_.Go.ChangeSpec) : _root_.Go.OpenSpec := { _root_.Go.OpenSpec.ofChange s with cond := some uptoSmall }

/-- 'harpsichordlaw12.RankGroups', WHERE WHAT IT READS IS OF BULK AT MOST 1048576: true; the input reads as it did. -/
def rankGroupsUptoRow : OpenClaim := { program := "ytlpidjmhjjmmcaa", sum := "9c6f2b4b5bdfc025dd7bf3c6f9b64662a400ca5c1aaa38846fc5cd635d84b063", func := "harpsichord/harpsichordlaw12.RankGroups", spec := "rankGroups", recurses := true, apart := false, narrowed := true }
def RankGroupsUptoSaid : Prop := rankGroupsUptoRow.holds Try.pinned (OpenSpec.upto rankGroupsSpec)

/-- 'harpsichordlaw12.RankMeets', WHERE WHAT IT READS IS OF BULK AT MOST 1048576: true; the input reads as it did. -/
def rankMeetsUptoRow : OpenClaim := { program := "ytlpidjmhjjmmcaa", sum := "9c6f2b4b5bdfc025dd7bf3c6f9b64662a400ca5c1aaa38846fc5cd635d84b063", func := "harpsichord/harpsichordlaw12.RankMeets", spec := "rankMeets", recurses := true, apart := false, narrowed := true }
def RankMeetsUptoSaid : Prop := rankMeetsUptoRow.holds Try.pinned (OpenSpec.upto rankMeetsSpec)

/-- 'harpsichordlaw12.RankViews', WHERE WHAT IT READS IS OF BULK AT MOST 1048576: true; the input reads as it did. -/
def rankViewsUptoRow : OpenClaim := { program := "ytlpidjmhjjmmcaa", sum := "9c6f2b4b5bdfc025dd7bf3c6f9b64662a400ca5c1aaa38846fc5cd635d84b063", func := "harpsichord/harpsichordlaw12.RankViews", spec := "rankViews", recurses := true, apart := false, narrowed := true }
def RankViewsUptoSaid : Prop := rankViewsUptoRow.holds Try.pinned (OpenSpec.upto rankViewsSpec)

/-- 'harpsichordlaw12.RankLogs', WHERE WHAT IT READS IS OF BULK AT MOST 1048576: true; the input reads as it did. -/
def rankLogsUptoRow : OpenClaim := { program := "ytlpidjmhjjmmcaa", sum := "9c6f2b4b5bdfc025dd7bf3c6f9b64662a400ca5c1aaa38846fc5cd635d84b063", func := "harpsichord/harpsichordlaw12.RankLogs", spec := "rankLogs", recurses := true, apart := false, narrowed := true }
def RankLogsUptoSaid : Prop := rankLogsUptoRow.holds Try.pinned (OpenSpec.upto rankLogsSpec)

/-- 'harpsichordlaw12.RankBest', WHERE WHAT IT READS IS OF BULK AT MOST 1048576: true; the input reads as it did. -/
def rankBestUptoRow : OpenClaim := { program := "ytlpidjmhjjmmcaa", sum := "9c6f2b4b5bdfc025dd7bf3c6f9b64662a400ca5c1aaa38846fc5cd635d84b063", func := "harpsichord/harpsichordlaw12.RankBest", spec := "rankBest", unfollowed := true, recurses := true, apart := false, narrowed := true }
def RankBestUptoSaid : Prop := rankBestUptoRow.holds Try.pinned (OpenSpec.upto rankBestSpec)

/-- 'harpsichordlaw12.RankHeld', WHERE WHAT IT READS IS OF BULK AT MOST 1048576: true; the input reads as it did. -/
def rankHeldUptoRow : OpenClaim := { program := "ytlpidjmhjjmmcaa", sum := "9c6f2b4b5bdfc025dd7bf3c6f9b64662a400ca5c1aaa38846fc5cd635d84b063", func := "harpsichord/harpsichordlaw12.RankHeld", spec := "rankHeld", recurses := true, apart := false, narrowed := true }
def RankHeldUptoSaid : Prop := rankHeldUptoRow.holds Try.pinned (OpenSpec.upto rankHeldSpec)

/-- 'harpsichordlaw12.RankBegins', WHERE WHAT IT READS IS OF BULK AT MOST 1048576: true; the input reads as it did. -/
def rankBeginsUptoRow : OpenClaim := { program := "ytlpidjmhjjmmcaa", sum := "9c6f2b4b5bdfc025dd7bf3c6f9b64662a400ca5c1aaa38846fc5cd635d84b063", func := "harpsichord/harpsichordlaw12.RankBegins", spec := "rankBegins", recurses := true, apart := false, narrowed := true }
def RankBeginsUptoSaid : Prop := rankBeginsUptoRow.holds Try.pinned (OpenSpec.upto rankBeginsSpec)

/-- 'harpsichordlaw12.RankRises', WHERE WHAT IT READS IS OF BULK AT MOST 1048576: true; the input reads as it did. -/
def rankRisesUptoRow : OpenClaim := { program := "ytlpidjmhjjmmcaa", sum := "9c6f2b4b5bdfc025dd7bf3c6f9b64662a400ca5c1aaa38846fc5cd635d84b063", func := "harpsichord/harpsichordlaw12.RankRises", spec := "rankRises", recurses := true, apart := false, narrowed := true }
def RankRisesUptoSaid : Prop := rankRisesUptoRow.holds Try.pinned (OpenSpec.upto rankRisesSpec)

end Rows
end Go.Proofs.Ytlpidjmhjjmmcaa
