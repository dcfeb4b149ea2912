/-
  DERIVED. GIVEN WITH THE SEED: THE CARDS: each row of YtlppinfjdnhlbaaGreatDoorRows.lean that lists a variable, with what it lists TIED to the program's text (the seventh form; the later family's looks); each row that meets fmt, with fmt's text TOLD by the authors' own Lean function (tested against real Go, not proved from fmt's source: count such statements apart). THE CARD IS WHAT COUNTS. Prove the row's statement (the work); the ties are given (YtlppinfjdnhlbaaGreatDoorTie.lean); close each card by the builder's one call (the guide's Derived/Test/ToyasCard.lean, 'card_holds'). Laid BY PROGRAM, IN A SANDBOX (cutbox-door.mjs). By AI agents, Wed Nov 11 2026. No macro, syntax, notation, axiom, sorry.
-/
import Derived.Test.YtlppinfjdnhlbaaGreatDoorRows
import GoSem.ClaimSeven
namespace Go.Proofs.YtlppinfjdnhlbaaGreatDoor
namespace Rows

/-- THE TIED CARD OF 'harpsichordlaw13.OrderAll'. -/
def orderAllCard : Claim7 := { stood := { row := orderAllRow, standIns := [], harness := (true, "696f99dcd21477411a45753ef103256745001b2ea404e7b57a9b5376cb74f11a"), looks := false }, kinds := [], alts := [], laidByText := true, laidKinds := [.data, .pinned], laidTests := true, laidLooks := .later }
def OrderAllCardSaid : Prop := Claim7.holds Tryz.pinned (.plain (OpenSpec.ofChange orderAllSpec)) orderAllCard

/-- THE TIED CARD OF 'harpsichordlaw13.OrderOrigin'. -/
def orderOriginCard : Claim7 := { stood := { row := orderOriginRow, standIns := [], harness := (true, "696f99dcd21477411a45753ef103256745001b2ea404e7b57a9b5376cb74f11a"), looks := false }, kinds := [], alts := [], laidByText := true, laidKinds := [.data, .pinned], laidTests := true, laidLooks := .later }
def OrderOriginCardSaid : Prop := Claim7.holds Tryz.pinned (.plain (OpenSpec.ofChange orderOriginSpec)) orderOriginCard

/-- THE TIED CARD OF 'harpsichordlaw13.OrderCrash'. -/
def orderCrashCard : Claim7 := { stood := { row := orderCrashRow, standIns := [], harness := (true, "696f99dcd21477411a45753ef103256745001b2ea404e7b57a9b5376cb74f11a"), looks := false }, kinds := [], alts := [], laidByText := true, laidKinds := [.data, .pinned], laidTests := true, laidLooks := .later }
def OrderCrashCardSaid : Prop := Claim7.holds Tryz.pinned (.plain (OpenSpec.ofChange orderCrashSpec)) orderCrashCard

/-- THE TIED CARD OF 'harpsichordlaw13.OrderMessages'. -/
def orderMessagesCard : Claim7 := { stood := { row := orderMessagesRow, standIns := [], harness := (true, "696f99dcd21477411a45753ef103256745001b2ea404e7b57a9b5376cb74f11a"), looks := false }, kinds := [], alts := [], laidByText := true, laidKinds := [.data, .pinned], laidTests := true, laidLooks := .later }
def OrderMessagesCardSaid : Prop := Claim7.holds Tryz.pinned (.plain (OpenSpec.ofChange orderMessagesSpec)) orderMessagesCard

/-- THE TIED CARD OF 'harpsichordlaw13.OrderOpens'. -/
def orderOpensCard : Claim7 := { stood := { row := orderOpensRow, standIns := [], harness := (true, "696f99dcd21477411a45753ef103256745001b2ea404e7b57a9b5376cb74f11a"), looks := false }, kinds := [], alts := [], laidByText := true, laidKinds := [.data, .pinned], laidTests := true, laidLooks := .later }
def OrderOpensCardSaid : Prop := Claim7.holds Tryz.pinned (.plain (OpenSpec.ofChange orderOpensSpec)) orderOpensCard

/-- THE TIED CARD OF 'harpsichordlaw13.OrderLogs'. -/
def orderLogsCard : Claim7 := { stood := { row := orderLogsRow, standIns := [], harness := (true, "696f99dcd21477411a45753ef103256745001b2ea404e7b57a9b5376cb74f11a"), looks := false }, kinds := [], alts := [], laidByText := true, laidKinds := [.data, .pinned], laidTests := true, laidLooks := .later }
def OrderLogsCardSaid : Prop := Claim7.holds Tryz.pinned (.plain (OpenSpec.ofChange orderLogsSpec)) orderLogsCard

/-- THE TIED CARD OF 'harpsichordlaw13.OrderQuiet'. -/
def orderQuietCard : Claim7 := { stood := { row := orderQuietRow, standIns := [], harness := (true, "696f99dcd21477411a45753ef103256745001b2ea404e7b57a9b5376cb74f11a"), looks := false }, kinds := [], alts := [], laidByText := true, laidKinds := [.data, .pinned], laidTests := true, laidLooks := .later }
def OrderQuietCardSaid : Prop := Claim7.holds Tryz.pinned (.plain (OpenSpec.ofChange orderQuietSpec)) orderQuietCard

/-- THE SECOND FORM's CARD OF 'harpsichordlaw13.OrderAll'. -/
def orderAllUptoCard : Claim7 := { stood := { row := orderAllUptoRow, standIns := [], harness := (true, "696f99dcd21477411a45753ef103256745001b2ea404e7b57a9b5376cb74f11a"), looks := false }, kinds := [], alts := [], laidByText := true, laidKinds := [.data, .pinned], laidTests := true, laidLooks := .later }
def OrderAllUptoCardSaid : Prop := Claim7.holds Tryz.pinned (.plain (OpenSpec.upto orderAllSpec)) orderAllUptoCard

/-- THE SECOND FORM's CARD OF 'harpsichordlaw13.OrderOrigin'. -/
def orderOriginUptoCard : Claim7 := { stood := { row := orderOriginUptoRow, standIns := [], harness := (true, "696f99dcd21477411a45753ef103256745001b2ea404e7b57a9b5376cb74f11a"), looks := false }, kinds := [], alts := [], laidByText := true, laidKinds := [.data, .pinned], laidTests := true, laidLooks := .later }
def OrderOriginUptoCardSaid : Prop := Claim7.holds Tryz.pinned (.plain (OpenSpec.upto orderOriginSpec)) orderOriginUptoCard

/-- THE SECOND FORM's CARD OF 'harpsichordlaw13.OrderCrash'. -/
def orderCrashUptoCard : Claim7 := { stood := { row := orderCrashUptoRow, standIns := [], harness := (true, "696f99dcd21477411a45753ef103256745001b2ea404e7b57a9b5376cb74f11a"), looks := false }, kinds := [], alts := [], laidByText := true, laidKinds := [.data, .pinned], laidTests := true, laidLooks := .later }
def OrderCrashUptoCardSaid : Prop := Claim7.holds Tryz.pinned (.plain (OpenSpec.upto orderCrashSpec)) orderCrashUptoCard

/-- THE SECOND FORM's CARD OF 'harpsichordlaw13.OrderMessages'. -/
def orderMessagesUptoCard : Claim7 := { stood := { row := orderMessagesUptoRow, standIns := [], harness := (true, "696f99dcd21477411a45753ef103256745001b2ea404e7b57a9b5376cb74f11a"), looks := false }, kinds := [], alts := [], laidByText := true, laidKinds := [.data, .pinned], laidTests := true, laidLooks := .later }
def OrderMessagesUptoCardSaid : Prop := Claim7.holds Tryz.pinned (.plain (OpenSpec.upto orderMessagesSpec)) orderMessagesUptoCard

/-- THE SECOND FORM's CARD OF 'harpsichordlaw13.OrderOpens'. -/
def orderOpensUptoCard : Claim7 := { stood := { row := orderOpensUptoRow, standIns := [], harness := (true, "696f99dcd21477411a45753ef103256745001b2ea404e7b57a9b5376cb74f11a"), looks := false }, kinds := [], alts := [], laidByText := true, laidKinds := [.data, .pinned], laidTests := true, laidLooks := .later }
def OrderOpensUptoCardSaid : Prop := Claim7.holds Tryz.pinned (.plain (OpenSpec.upto orderOpensSpec)) orderOpensUptoCard

/-- THE SECOND FORM's CARD OF 'harpsichordlaw13.OrderLogs'. -/
def orderLogsUptoCard : Claim7 := { stood := { row := orderLogsUptoRow, standIns := [], harness := (true, "696f99dcd21477411a45753ef103256745001b2ea404e7b57a9b5376cb74f11a"), looks := false }, kinds := [], alts := [], laidByText := true, laidKinds := [.data, .pinned], laidTests := true, laidLooks := .later }
def OrderLogsUptoCardSaid : Prop := Claim7.holds Tryz.pinned (.plain (OpenSpec.upto orderLogsSpec)) orderLogsUptoCard

/-- THE SECOND FORM's CARD OF 'harpsichordlaw13.OrderQuiet'. -/
def orderQuietUptoCard : Claim7 := { stood := { row := orderQuietUptoRow, standIns := [], harness := (true, "696f99dcd21477411a45753ef103256745001b2ea404e7b57a9b5376cb74f11a"), looks := false }, kinds := [], alts := [], laidByText := true, laidKinds := [.data, .pinned], laidTests := true, laidLooks := .later }
def OrderQuietUptoCardSaid : Prop := Claim7.holds Tryz.pinned (.plain (OpenSpec.upto orderQuietSpec)) orderQuietUptoCard
end Rows
end Go.Proofs.YtlppinfjdnhlbaaGreatDoor
