/-
  DERIVED. GIVEN WITH THE SEED: THE CARDS: each row of YtkellgofdfpjpaaDoorRows.lean that lists a variable, with what it lists TIED to the program's text (the seventh form; the later family's looks); each row that meets fmt, with fmt's text TOLD by the authors' own Lean function (tested against real Go, not proved from fmt's source: count such statements apart). THE CARD IS WHAT COUNTS. Prove the row's statement (the work); the ties are given (YtkellgofdfpjpaaDoorTie.lean); close each card by the builder's one call (the guide's Derived/Test/ToyasCard.lean, 'card_holds'). Laid BY PROGRAM, IN A SANDBOX (cutbox-door.mjs). By AI agents, Wed Nov 11 2026. No macro, syntax, notation, axiom, sorry.
-/
import Derived.Test.YtkellgofdfpjpaaDoorRows
import GoSem.ClaimSeven
namespace Go.Proofs.YtkellgofdfpjpaaDoor
namespace Rows

/-- THE TIED CARD OF 'harpsichordlaw03.CratePuts'. -/
def cratePutsCard : Claim7 := { stood := { row := cratePutsRow, standIns := [], harness := (true, "186b96f3065894d1840d2b012d61d52dcee0a591930f62c35795d3d416699aeb"), looks := false }, kinds := [], alts := [], laidByText := true, laidKinds := [.data], laidTests := true, laidLooks := .later }
def CratePutsCardSaid : Prop := Claim7.holds Tryd.pinned (.plain (OpenSpec.ofChange cratePutsSpec)) cratePutsCard

/-- THE TIED CARD OF 'harpsichordlaw03.CrateGets'. -/
def crateGetsCard : Claim7 := { stood := { row := crateGetsRow, standIns := [], harness := (true, "186b96f3065894d1840d2b012d61d52dcee0a591930f62c35795d3d416699aeb"), looks := false }, kinds := [], alts := [], laidByText := true, laidKinds := [.data], laidTests := true, laidLooks := .later }
def CrateGetsCardSaid : Prop := Claim7.holds Tryd.pinned (.plain (OpenSpec.ofChange crateGetsSpec)) crateGetsCard

/-- THE TIED CARD OF 'harpsichordlaw03.CrateBack'. -/
def crateBackCard : Claim7 := { stood := { row := crateBackRow, standIns := [], harness := (true, "186b96f3065894d1840d2b012d61d52dcee0a591930f62c35795d3d416699aeb"), looks := false }, kinds := [], alts := [], laidByText := true, laidKinds := [.data], laidTests := true, laidLooks := .later }
def CrateBackCardSaid : Prop := Claim7.holds Tryd.pinned (.plain (OpenSpec.ofChange crateBackSpec)) crateBackCard

/-- THE TIED CARD OF 'harpsichordlaw03.CrateCuts'. -/
def crateCutsCard : Claim7 := { stood := { row := crateCutsRow, standIns := [], harness := (true, "186b96f3065894d1840d2b012d61d52dcee0a591930f62c35795d3d416699aeb"), looks := false }, kinds := [], alts := [], laidByText := true, laidKinds := [.data], laidTests := true, laidLooks := .later }
def CrateCutsCardSaid : Prop := Claim7.holds Tryd.pinned (.plain (OpenSpec.ofChange crateCutsSpec)) crateCutsCard

/-- THE TIED CARD OF 'harpsichordlaw03.CrateJoins'. -/
def crateJoinsCard : Claim7 := { stood := { row := crateJoinsRow, standIns := [], harness := (true, "186b96f3065894d1840d2b012d61d52dcee0a591930f62c35795d3d416699aeb"), looks := false }, kinds := [], alts := [], laidByText := true, laidKinds := [.data], laidTests := true, laidLooks := .later }
def CrateJoinsCardSaid : Prop := Claim7.holds Tryd.pinned (.plain (OpenSpec.ofChange crateJoinsSpec)) crateJoinsCard

/-- THE SECOND FORM's CARD OF 'harpsichordlaw03.CratePuts'. -/
def cratePutsUptoCard : Claim7 := { stood := { row := cratePutsUptoRow, standIns := [], harness := (true, "186b96f3065894d1840d2b012d61d52dcee0a591930f62c35795d3d416699aeb"), looks := false }, kinds := [], alts := [], laidByText := true, laidKinds := [.data], laidTests := true, laidLooks := .later }
def CratePutsUptoCardSaid : Prop := Claim7.holds Tryd.pinned (.plain (OpenSpec.upto cratePutsSpec)) cratePutsUptoCard

/-- THE SECOND FORM's CARD OF 'harpsichordlaw03.CrateGets'. -/
def crateGetsUptoCard : Claim7 := { stood := { row := crateGetsUptoRow, standIns := [], harness := (true, "186b96f3065894d1840d2b012d61d52dcee0a591930f62c35795d3d416699aeb"), looks := false }, kinds := [], alts := [], laidByText := true, laidKinds := [.data], laidTests := true, laidLooks := .later }
def CrateGetsUptoCardSaid : Prop := Claim7.holds Tryd.pinned (.plain (OpenSpec.upto crateGetsSpec)) crateGetsUptoCard

/-- THE SECOND FORM's CARD OF 'harpsichordlaw03.CrateBack'. -/
def crateBackUptoCard : Claim7 := { stood := { row := crateBackUptoRow, standIns := [], harness := (true, "186b96f3065894d1840d2b012d61d52dcee0a591930f62c35795d3d416699aeb"), looks := false }, kinds := [], alts := [], laidByText := true, laidKinds := [.data], laidTests := true, laidLooks := .later }
def CrateBackUptoCardSaid : Prop := Claim7.holds Tryd.pinned (.plain (OpenSpec.upto crateBackSpec)) crateBackUptoCard

/-- THE SECOND FORM's CARD OF 'harpsichordlaw03.CrateCuts'. -/
def crateCutsUptoCard : Claim7 := { stood := { row := crateCutsUptoRow, standIns := [], harness := (true, "186b96f3065894d1840d2b012d61d52dcee0a591930f62c35795d3d416699aeb"), looks := false }, kinds := [], alts := [], laidByText := true, laidKinds := [.data], laidTests := true, laidLooks := .later }
def CrateCutsUptoCardSaid : Prop := Claim7.holds Tryd.pinned (.plain (OpenSpec.upto crateCutsSpec)) crateCutsUptoCard

/-- THE SECOND FORM's CARD OF 'harpsichordlaw03.CrateJoins'. -/
def crateJoinsUptoCard : Claim7 := { stood := { row := crateJoinsUptoRow, standIns := [], harness := (true, "186b96f3065894d1840d2b012d61d52dcee0a591930f62c35795d3d416699aeb"), looks := false }, kinds := [], alts := [], laidByText := true, laidKinds := [.data], laidTests := true, laidLooks := .later }
def CrateJoinsUptoCardSaid : Prop := Claim7.holds Tryd.pinned (.plain (OpenSpec.upto crateJoinsSpec)) crateJoinsUptoCard
end Rows
end Go.Proofs.YtkellgofdfpjpaaDoor
