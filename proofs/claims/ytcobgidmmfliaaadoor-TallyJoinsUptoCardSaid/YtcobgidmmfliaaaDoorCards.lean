/-
  DERIVED. GIVEN WITH THE SEED: THE CARDS: each row of YtcobgidmmfliaaaDoorRows.lean that lists a variable, with what it lists TIED to the program's text (the seventh form; the later family's looks); each row that meets fmt, with fmt's text TOLD by the authors' own Lean function (tested against real Go, not proved from fmt's source: count such statements apart). THE CARD IS WHAT COUNTS. Prove the row's statement (the work); the ties are given (YtcobgidmmfliaaaDoorTie.lean); close each card by the builder's one call (the guide's Derived/Test/ToyasCard.lean, 'card_holds'). Laid BY PROGRAM, IN A SANDBOX (cutbox-door.mjs). By AI agents, Wed Nov 11 2026. No macro, syntax, notation, axiom, sorry.
-/
import Derived.Test.YtcobgidmmfliaaaDoorRows
import GoSem.ClaimSeven
namespace Go.Proofs.YtcobgidmmfliaaaDoor
namespace Rows

/-- THE TIED CARD OF 'harpsichordlaw01.TallySums'. -/
def tallySumsCard : Claim7 := { stood := { row := tallySumsRow, standIns := [], harness := (true, "90ea5d55eef9625e69e698e355f07f10a8282afc0d0e12166fb282797d7984ac"), looks := false }, kinds := [], alts := [], laidByText := true, laidKinds := [.data], laidTests := true, laidLooks := .later }
def TallySumsCardSaid : Prop := Claim7.holds Tryd.pinned (.plain (OpenSpec.ofChange tallySumsSpec)) tallySumsCard

/-- THE TIED CARD OF 'harpsichordlaw01.TallyMores'. -/
def tallyMoresCard : Claim7 := { stood := { row := tallyMoresRow, standIns := [], harness := (true, "90ea5d55eef9625e69e698e355f07f10a8282afc0d0e12166fb282797d7984ac"), looks := false }, kinds := [], alts := [], laidByText := true, laidKinds := [.data], laidTests := true, laidLooks := .later }
def TallyMoresCardSaid : Prop := Claim7.holds Tryd.pinned (.plain (OpenSpec.ofChange tallyMoresSpec)) tallyMoresCard

/-- THE TIED CARD OF 'harpsichordlaw01.TallyZeros'. -/
def tallyZerosCard : Claim7 := { stood := { row := tallyZerosRow, standIns := [], harness := (true, "90ea5d55eef9625e69e698e355f07f10a8282afc0d0e12166fb282797d7984ac"), looks := false }, kinds := [], alts := [], laidByText := true, laidKinds := [.data], laidTests := true, laidLooks := .later }
def TallyZerosCardSaid : Prop := Claim7.holds Tryd.pinned (.plain (OpenSpec.ofChange tallyZerosSpec)) tallyZerosCard

/-- THE TIED CARD OF 'harpsichordlaw01.TallyJoins'. -/
def tallyJoinsCard : Claim7 := { stood := { row := tallyJoinsRow, standIns := [], harness := (true, "90ea5d55eef9625e69e698e355f07f10a8282afc0d0e12166fb282797d7984ac"), looks := false }, kinds := [], alts := [], laidByText := true, laidKinds := [.data], laidTests := true, laidLooks := .later }
def TallyJoinsCardSaid : Prop := Claim7.holds Tryd.pinned (.plain (OpenSpec.ofChange tallyJoinsSpec)) tallyJoinsCard

/-- THE TIED CARD OF 'harpsichordlaw01.TallyBursts'. -/
def tallyBurstsCard : Claim7 := { stood := { row := tallyBurstsRow, standIns := [], harness := (true, "90ea5d55eef9625e69e698e355f07f10a8282afc0d0e12166fb282797d7984ac"), looks := false }, kinds := [], alts := [], laidByText := true, laidKinds := [.data], laidTests := true, laidLooks := .later }
def TallyBurstsCardSaid : Prop := Claim7.holds Tryd.pinned (.plain (OpenSpec.ofChange tallyBurstsSpec)) tallyBurstsCard

/-- THE TIED CARD OF 'harpsichordlaw01.TallyTwice'. -/
def tallyTwiceCard : Claim7 := { stood := { row := tallyTwiceRow, standIns := [], harness := (true, "90ea5d55eef9625e69e698e355f07f10a8282afc0d0e12166fb282797d7984ac"), looks := false }, kinds := [], alts := [], laidByText := true, laidKinds := [.data], laidTests := true, laidLooks := .later }
def TallyTwiceCardSaid : Prop := Claim7.holds Tryd.pinned (.plain (OpenSpec.ofChange tallyTwiceSpec)) tallyTwiceCard

/-- THE TIED CARD OF 'harpsichordlaw01.TallyXors'. -/
def tallyXorsCard : Claim7 := { stood := { row := tallyXorsRow, standIns := [], harness := (true, "90ea5d55eef9625e69e698e355f07f10a8282afc0d0e12166fb282797d7984ac"), looks := false }, kinds := [], alts := [], laidByText := true, laidKinds := [.data], laidTests := true, laidLooks := .later }
def TallyXorsCardSaid : Prop := Claim7.holds Tryd.pinned (.plain (OpenSpec.ofChange tallyXorsSpec)) tallyXorsCard

/-- THE SECOND FORM's CARD OF 'harpsichordlaw01.TallySums'. -/
def tallySumsUptoCard : Claim7 := { stood := { row := tallySumsUptoRow, standIns := [], harness := (true, "90ea5d55eef9625e69e698e355f07f10a8282afc0d0e12166fb282797d7984ac"), looks := false }, kinds := [], alts := [], laidByText := true, laidKinds := [.data], laidTests := true, laidLooks := .later }
def TallySumsUptoCardSaid : Prop := Claim7.holds Tryd.pinned (.plain (OpenSpec.upto tallySumsSpec)) tallySumsUptoCard

/-- THE SECOND FORM's CARD OF 'harpsichordlaw01.TallyMores'. -/
def tallyMoresUptoCard : Claim7 := { stood := { row := tallyMoresUptoRow, standIns := [], harness := (true, "90ea5d55eef9625e69e698e355f07f10a8282afc0d0e12166fb282797d7984ac"), looks := false }, kinds := [], alts := [], laidByText := true, laidKinds := [.data], laidTests := true, laidLooks := .later }
def TallyMoresUptoCardSaid : Prop := Claim7.holds Tryd.pinned (.plain (OpenSpec.upto tallyMoresSpec)) tallyMoresUptoCard

/-- THE SECOND FORM's CARD OF 'harpsichordlaw01.TallyZeros'. -/
def tallyZerosUptoCard : Claim7 := { stood := { row := tallyZerosUptoRow, standIns := [], harness := (true, "90ea5d55eef9625e69e698e355f07f10a8282afc0d0e12166fb282797d7984ac"), looks := false }, kinds := [], alts := [], laidByText := true, laidKinds := [.data], laidTests := true, laidLooks := .later }
def TallyZerosUptoCardSaid : Prop := Claim7.holds Tryd.pinned (.plain (OpenSpec.upto tallyZerosSpec)) tallyZerosUptoCard

/-- THE SECOND FORM's CARD OF 'harpsichordlaw01.TallyJoins'. -/
def tallyJoinsUptoCard : Claim7 := { stood := { row := tallyJoinsUptoRow, standIns := [], harness := (true, "90ea5d55eef9625e69e698e355f07f10a8282afc0d0e12166fb282797d7984ac"), looks := false }, kinds := [], alts := [], laidByText := true, laidKinds := [.data], laidTests := true, laidLooks := .later }
def TallyJoinsUptoCardSaid : Prop := Claim7.holds Tryd.pinned (.plain (OpenSpec.upto tallyJoinsSpec)) tallyJoinsUptoCard

/-- THE SECOND FORM's CARD OF 'harpsichordlaw01.TallyBursts'. -/
def tallyBurstsUptoCard : Claim7 := { stood := { row := tallyBurstsUptoRow, standIns := [], harness := (true, "90ea5d55eef9625e69e698e355f07f10a8282afc0d0e12166fb282797d7984ac"), looks := false }, kinds := [], alts := [], laidByText := true, laidKinds := [.data], laidTests := true, laidLooks := .later }
def TallyBurstsUptoCardSaid : Prop := Claim7.holds Tryd.pinned (.plain (OpenSpec.upto tallyBurstsSpec)) tallyBurstsUptoCard

/-- THE SECOND FORM's CARD OF 'harpsichordlaw01.TallyTwice'. -/
def tallyTwiceUptoCard : Claim7 := { stood := { row := tallyTwiceUptoRow, standIns := [], harness := (true, "90ea5d55eef9625e69e698e355f07f10a8282afc0d0e12166fb282797d7984ac"), looks := false }, kinds := [], alts := [], laidByText := true, laidKinds := [.data], laidTests := true, laidLooks := .later }
def TallyTwiceUptoCardSaid : Prop := Claim7.holds Tryd.pinned (.plain (OpenSpec.upto tallyTwiceSpec)) tallyTwiceUptoCard

/-- THE SECOND FORM's CARD OF 'harpsichordlaw01.TallyXors'. -/
def tallyXorsUptoCard : Claim7 := { stood := { row := tallyXorsUptoRow, standIns := [], harness := (true, "90ea5d55eef9625e69e698e355f07f10a8282afc0d0e12166fb282797d7984ac"), looks := false }, kinds := [], alts := [], laidByText := true, laidKinds := [.data], laidTests := true, laidLooks := .later }
def TallyXorsUptoCardSaid : Prop := Claim7.holds Tryd.pinned (.plain (OpenSpec.upto tallyXorsSpec)) tallyXorsUptoCard
end Rows
end Go.Proofs.YtcobgidmmfliaaaDoor
