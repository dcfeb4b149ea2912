/-
  NARROWER THAN 'FOR EVERY INPUT', by the rows' own cells (each row's printed sentence says how): OrderAll: laid · OrderOrigin: laid · OrderCrash: laid · OrderMessages: laid · OrderOpens: laid · OrderLogs: laid · OrderQuiet: laid.
  DERIVED. THE GIVEN ROWS OF THIS SEAT. 7 by the template 'for every input the law returns true; each argument reads behind the call as it read before'; 0 by the template 'total and deterministic' (their statements: YtlppinfjdnhlbaaGreatDoorTotals.lean).
  GIVEN WITH THE SEED: the statements are not yours to turn. If you find one false, say at which input.
  Laid BY PROGRAM, IN A SANDBOX (cutbox-rows.mjs): the forced cells as the released guide's own fill.sh prints them over the translation f8d1618ffa7ec16e… (all of the seat's roots in one cut). By AI agents, Wed Nov 11 2026. No macro, syntax, notation, axiom, sorry.
-/
import Derived.Test.YtlppinfjdnhlbaaGreatDoorChecked
import GoSem.PinnedTables
import GoSem.Claim
import GoSem.ClaimJoined
import GoSem.ClaimMapViews
import Derived.JoinedTies
import Derived.KernelRfl
namespace Go.Proofs.YtlppinfjdnhlbaaGreatDoor
/- THE CELL 'sum', in the pinned program and in every row, IS THE sha256 OF THE DUMP (.gsa) THAT YtlppinfjdnhlbaaGreatDoorProg.lean LOADS. Nothing in Lean hashes anything: it is a label: what it is worth is what the hold of that sum in a sandbox is worth. -/
noncomputable def Tryz.pinned : Pinned := { name := "ytlppinfjdnhlbaagreatdoor", sum := "f8d1618ffa7ec16e6bb8f71206e23e0f57fd89076933e8cf4d173af767ed448d", checked := Tryz.checked }
namespace Rows
def none {H : Type} : Left H := { results := [], args := [] }

/- WHAT THE LISTED PACKAGE-LEVEL VARIABLES READ AS WHEN THE CALL BEGINS. Each datum BY PROGRAM (the guide's laid-datum.mjs) off the statement by which the dump's own 'gosem.cut.vars' lays the variable. In a bare row this is a premise. The card (YtlppinfjdnhlbaaGreatDoorCards.lean) ties it to the program's text. -/
def laid_unicode_utf8_acceptRanges {H : Type} : DataW H := .agg [.agg [.lit (.int .u8 128), .lit (.int .u8 191)], .agg [.lit (.int .u8 160), .lit (.int .u8 191)], .agg [.lit (.int .u8 128), .lit (.int .u8 159)], .agg [.lit (.int .u8 144), .lit (.int .u8 191)], .agg [.lit (.int .u8 128), .lit (.int .u8 143)], .agg [.lit (.int .u8 0), .lit (.int .u8 0)], .agg [.lit (.int .u8 0), .lit (.int .u8 0)], .agg [.lit (.int .u8 0), .lit (.int .u8 0)], .agg [.lit (.int .u8 0), .lit (.int .u8 0)], .agg [.lit (.int .u8 0), .lit (.int .u8 0)], .agg [.lit (.int .u8 0), .lit (.int .u8 0)], .agg [.lit (.int .u8 0), .lit (.int .u8 0)], .agg [.lit (.int .u8 0), .lit (.int .u8 0)], .agg [.lit (.int .u8 0), .lit (.int .u8 0)], .agg [.lit (.int .u8 0), .lit (.int .u8 0)], .agg [.lit (.int .u8 0), .lit (.int .u8 0)]]
/-- One of Go's own tables, pinned by name: the form's constant. -/
def laid_unicode_utf8_first : DataW Unit := Go.Pinned.utf8First

/-- 'harpsichordlaw13.OrderAll': WHATEVER THE INPUT: true; the input reads as it did. -/
def orderAllSpec : ChangeSpec := { name := "orderAll", fn := fun _ => fun
  | [d1, d2] => { results := [.lit (.bool true)], args := [d1, d2] }
  | _ => none }
def orderAllRow : OpenClaim := { program := "ytlppinfjdnhlbaagreatdoor", sum := "f8d1618ffa7ec16e6bb8f71206e23e0f57fd89076933e8cf4d173af767ed448d", func := "harpsichord/harpsichordlaw13.OrderAll", spec := "orderAll", inPlace := ["internal/bytealg.IndexByteString", "internal/bytealg.IndexString"], unfollowed := true, recurses := true, named := ["unicode/utf8.first", "unicode/utf8.acceptRanges", "internal/bytealg.MaxLen"], apart := false, laid := [("unicode/utf8.acceptRanges", laid_unicode_utf8_acceptRanges), ("unicode/utf8.first", laid_unicode_utf8_first)] }
def OrderAllSaid : Prop := orderAllRow.holds Tryz.pinned (OpenSpec.ofChange orderAllSpec)

/-- ITS FALSE NEIGHBOUR: 'it returns false'. Refute it at one input. -/
def orderAllWrong : ChangeSpec := { name := "orderAll", fn := fun _ => fun
  | [d1, d2] => { results := [.lit (.bool false)], args := [d1, d2] }
  | _ => none }
def OrderAllWrongFalsely : Prop := orderAllRow.holds Tryz.pinned (OpenSpec.ofChange orderAllWrong)

/-- 'harpsichordlaw13.OrderOrigin': WHATEVER THE INPUT: true; the input reads as it did. -/
def orderOriginSpec : ChangeSpec := { name := "orderOrigin", fn := fun _ => fun
  | [d1, d2] => { results := [.lit (.bool true)], args := [d1, d2] }
  | _ => none }
def orderOriginRow : OpenClaim := { program := "ytlppinfjdnhlbaagreatdoor", sum := "f8d1618ffa7ec16e6bb8f71206e23e0f57fd89076933e8cf4d173af767ed448d", func := "harpsichord/harpsichordlaw13.OrderOrigin", spec := "orderOrigin", inPlace := ["internal/bytealg.IndexByteString", "internal/bytealg.IndexString"], unfollowed := true, recurses := true, named := ["unicode/utf8.first", "unicode/utf8.acceptRanges", "internal/bytealg.MaxLen"], apart := false, laid := [("unicode/utf8.acceptRanges", laid_unicode_utf8_acceptRanges), ("unicode/utf8.first", laid_unicode_utf8_first)] }
def OrderOriginSaid : Prop := orderOriginRow.holds Tryz.pinned (OpenSpec.ofChange orderOriginSpec)

/-- ITS FALSE NEIGHBOUR: 'it returns false'. Refute it at one input. -/
def orderOriginWrong : ChangeSpec := { name := "orderOrigin", fn := fun _ => fun
  | [d1, d2] => { results := [.lit (.bool false)], args := [d1, d2] }
  | _ => none }
def OrderOriginWrongFalsely : Prop := orderOriginRow.holds Tryz.pinned (OpenSpec.ofChange orderOriginWrong)

/-- 'harpsichordlaw13.OrderCrash': WHATEVER THE INPUT: true; the input reads as it did. -/
def orderCrashSpec : ChangeSpec := { name := "orderCrash", fn := fun _ => fun
  | [d1, d2] => { results := [.lit (.bool true)], args := [d1, d2] }
  | _ => none }
def orderCrashRow : OpenClaim := { program := "ytlppinfjdnhlbaagreatdoor", sum := "f8d1618ffa7ec16e6bb8f71206e23e0f57fd89076933e8cf4d173af767ed448d", func := "harpsichord/harpsichordlaw13.OrderCrash", spec := "orderCrash", inPlace := ["internal/bytealg.IndexByteString", "internal/bytealg.IndexString"], unfollowed := true, recurses := true, named := ["unicode/utf8.first", "unicode/utf8.acceptRanges", "internal/bytealg.MaxLen"], apart := false, laid := [("unicode/utf8.acceptRanges", laid_unicode_utf8_acceptRanges), ("unicode/utf8.first", laid_unicode_utf8_first)] }
def OrderCrashSaid : Prop := orderCrashRow.holds Tryz.pinned (OpenSpec.ofChange orderCrashSpec)

/-- ITS FALSE NEIGHBOUR: 'it returns false'. Refute it at one input. -/
def orderCrashWrong : ChangeSpec := { name := "orderCrash", fn := fun _ => fun
  | [d1, d2] => { results := [.lit (.bool false)], args := [d1, d2] }
  | _ => none }
def OrderCrashWrongFalsely : Prop := orderCrashRow.holds Tryz.pinned (OpenSpec.ofChange orderCrashWrong)

/-- 'harpsichordlaw13.OrderMessages': WHATEVER THE INPUT: true; the input reads as it did. -/
def orderMessagesSpec : ChangeSpec := { name := "orderMessages", fn := fun _ => fun
  | [d1, d2] => { results := [.lit (.bool true)], args := [d1, d2] }
  | _ => none }
def orderMessagesRow : OpenClaim := { program := "ytlppinfjdnhlbaagreatdoor", sum := "f8d1618ffa7ec16e6bb8f71206e23e0f57fd89076933e8cf4d173af767ed448d", func := "harpsichord/harpsichordlaw13.OrderMessages", spec := "orderMessages", inPlace := ["internal/bytealg.IndexByteString", "internal/bytealg.IndexString"], unfollowed := true, recurses := true, named := ["unicode/utf8.first", "unicode/utf8.acceptRanges", "internal/bytealg.MaxLen"], apart := false, laid := [("unicode/utf8.acceptRanges", laid_unicode_utf8_acceptRanges), ("unicode/utf8.first", laid_unicode_utf8_first)] }
def OrderMessagesSaid : Prop := orderMessagesRow.holds Tryz.pinned (OpenSpec.ofChange orderMessagesSpec)

/-- ITS FALSE NEIGHBOUR: 'it returns false'. Refute it at one input. -/
def orderMessagesWrong : ChangeSpec := { name := "orderMessages", fn := fun _ => fun
  | [d1, d2] => { results := [.lit (.bool false)], args := [d1, d2] }
  | _ => none }
def OrderMessagesWrongFalsely : Prop := orderMessagesRow.holds Tryz.pinned (OpenSpec.ofChange orderMessagesWrong)

/-- 'harpsichordlaw13.OrderOpens': WHATEVER THE INPUT: true; the input reads as it did. -/
def orderOpensSpec : ChangeSpec := { name := "orderOpens", fn := fun _ => fun
  | [d1, d2, d3] => { results := [.lit (.bool true)], args := [d1, d2, d3] }
  | _ => none }
def orderOpensRow : OpenClaim := { program := "ytlppinfjdnhlbaagreatdoor", sum := "f8d1618ffa7ec16e6bb8f71206e23e0f57fd89076933e8cf4d173af767ed448d", func := "harpsichord/harpsichordlaw13.OrderOpens", spec := "orderOpens", inPlace := ["internal/bytealg.IndexByteString", "internal/bytealg.IndexString"], unfollowed := true, recurses := true, named := ["unicode/utf8.first", "unicode/utf8.acceptRanges", "internal/bytealg.MaxLen"], apart := false, laid := [("unicode/utf8.acceptRanges", laid_unicode_utf8_acceptRanges), ("unicode/utf8.first", laid_unicode_utf8_first)] }
def OrderOpensSaid : Prop := orderOpensRow.holds Tryz.pinned (OpenSpec.ofChange orderOpensSpec)

/-- ITS FALSE NEIGHBOUR: 'it returns false'. Refute it at one input. -/
def orderOpensWrong : ChangeSpec := { name := "orderOpens", fn := fun _ => fun
  | [d1, d2, d3] => { results := [.lit (.bool false)], args := [d1, d2, d3] }
  | _ => none }
def OrderOpensWrongFalsely : Prop := orderOpensRow.holds Tryz.pinned (OpenSpec.ofChange orderOpensWrong)

/-- 'harpsichordlaw13.OrderLogs': WHATEVER THE INPUT: true; the input reads as it did. -/
def orderLogsSpec : ChangeSpec := { name := "orderLogs", fn := fun _ => fun
  | [d1, d2] => { results := [.lit (.bool true)], args := [d1, d2] }
  | _ => none }
def orderLogsRow : OpenClaim := { program := "ytlppinfjdnhlbaagreatdoor", sum := "f8d1618ffa7ec16e6bb8f71206e23e0f57fd89076933e8cf4d173af767ed448d", func := "harpsichord/harpsichordlaw13.OrderLogs", spec := "orderLogs", inPlace := ["internal/bytealg.IndexByteString", "internal/bytealg.IndexString"], unfollowed := true, recurses := true, named := ["unicode/utf8.first", "unicode/utf8.acceptRanges", "internal/bytealg.MaxLen"], apart := false, laid := [("unicode/utf8.acceptRanges", laid_unicode_utf8_acceptRanges), ("unicode/utf8.first", laid_unicode_utf8_first)] }
def OrderLogsSaid : Prop := orderLogsRow.holds Tryz.pinned (OpenSpec.ofChange orderLogsSpec)

/-- ITS FALSE NEIGHBOUR: 'it returns false'. Refute it at one input. -/
def orderLogsWrong : ChangeSpec := { name := "orderLogs", fn := fun _ => fun
  | [d1, d2] => { results := [.lit (.bool false)], args := [d1, d2] }
  | _ => none }
def OrderLogsWrongFalsely : Prop := orderLogsRow.holds Tryz.pinned (OpenSpec.ofChange orderLogsWrong)

/-- 'harpsichordlaw13.OrderQuiet': WHATEVER THE INPUT: true; the input reads as it did. -/
def orderQuietSpec : ChangeSpec := { name := "orderQuiet", fn := fun _ => fun
  | [d1, d2] => { results := [.lit (.bool true)], args := [d1, d2] }
  | _ => none }
def orderQuietRow : OpenClaim := { program := "ytlppinfjdnhlbaagreatdoor", sum := "f8d1618ffa7ec16e6bb8f71206e23e0f57fd89076933e8cf4d173af767ed448d", func := "harpsichord/harpsichordlaw13.OrderQuiet", spec := "orderQuiet", inPlace := ["internal/bytealg.IndexByteString", "internal/bytealg.IndexString"], unfollowed := true, recurses := true, named := ["unicode/utf8.first", "unicode/utf8.acceptRanges", "internal/bytealg.MaxLen"], apart := false, laid := [("unicode/utf8.acceptRanges", laid_unicode_utf8_acceptRanges), ("unicode/utf8.first", laid_unicode_utf8_first)] }
def OrderQuietSaid : Prop := orderQuietRow.holds Tryz.pinned (OpenSpec.ofChange orderQuietSpec)

/-- ITS FALSE NEIGHBOUR: 'it returns false'. Refute it at one input. -/
def orderQuietWrong : ChangeSpec := { name := "orderQuiet", fn := fun _ => fun
  | [d1, d2] => { results := [.lit (.bool false)], args := [d1, d2] }
  | _ => none }
def OrderQuietWrongFalsely : Prop := orderQuietRow.holds Tryz.pinned (OpenSpec.ofChange orderQuietWrong)

/- THE SECOND FORM. 'bulk': how many values and letters a reading holds, each counted each time it is reached (what is shared counts as often as it is met; a slice's spare places count too). A statement '..UptoSaid' is the law's where the arguments, and the package variables that the reading takes, are together of bulk at most 1048576: NARROWER than '..Said'. Prove '..Said' where nothing that the law and all that it calls make is longer than what came in: it says more and counts as full. Else prove '..UptoSaid'. A law counts once. -/
mutual
def uptoBulk {H : Type} : DataW H → Nat
  | .lit (.string bytes) => bytes.length + 1
  | .lit _ => 1
  | .nil => 1
  | .ptr d => uptoBulk d + 1
  | .slice elems spare => uptoBulkAll elems + uptoBulkAll spare + 1
  | .agg parts => uptoBulkAll parts + 1
  | .iface _ d => uptoBulk d + 1
  | .map entries => uptoBulkEntries entries + 1
  | .held _ => 1
def uptoBulkAll {H : Type} : List (DataW H) → Nat
  | [] => 0
  | d :: r => uptoBulk d + uptoBulkAll r
def uptoBulkEntries {H : Type} : List (Lit × DataW H) → Nat
  | [] => 0
  | x :: r => uptoBulkEntry x + uptoBulkEntries r
def uptoBulkEntry {H : Type} : Lit × DataW H → Nat
  | (.string bytes, d) => bytes.length + uptoBulk d + 1
  | (_, d) => uptoBulk d + 1
 end
def uptoSmall : (H : Type) → List (DataW H) → Bool := fun _ ds => decide (uptoBulkAll ds ≤ 1048576)
def OpenSpec.upto (s : _root_.Go.ChangeSpec) : _root_.Go.OpenSpec := { _root_.Go.OpenSpec.ofChange s with cond := some uptoSmall }

/-- 'harpsichordlaw13.OrderAll', WHERE WHAT IT READS IS OF BULK AT MOST 1048576: true; the input reads as it did. -/
def orderAllUptoRow : OpenClaim := { program := "ytlppinfjdnhlbaagreatdoor", sum := "f8d1618ffa7ec16e6bb8f71206e23e0f57fd89076933e8cf4d173af767ed448d", func := "harpsichord/harpsichordlaw13.OrderAll", spec := "orderAll", inPlace := ["internal/bytealg.IndexByteString", "internal/bytealg.IndexString"], unfollowed := true, recurses := true, named := ["unicode/utf8.first", "unicode/utf8.acceptRanges", "internal/bytealg.MaxLen"], apart := false, laid := [("unicode/utf8.acceptRanges", laid_unicode_utf8_acceptRanges), ("unicode/utf8.first", laid_unicode_utf8_first)], narrowed := true }
def OrderAllUptoSaid : Prop := orderAllUptoRow.holds Tryz.pinned (OpenSpec.upto orderAllSpec)

/-- 'harpsichordlaw13.OrderOrigin', WHERE WHAT IT READS IS OF BULK AT MOST 1048576: true; the input reads as it did. -/
def orderOriginUptoRow : OpenClaim := { program := "ytlppinfjdnhlbaagreatdoor", sum := "f8d1618ffa7ec16e6bb8f71206e23e0f57fd89076933e8cf4d173af767ed448d", func := "harpsichord/harpsichordlaw13.OrderOrigin", spec := "orderOrigin", inPlace := ["internal/bytealg.IndexByteString", "internal/bytealg.IndexString"], unfollowed := true, recurses := true, named := ["unicode/utf8.first", "unicode/utf8.acceptRanges", "internal/bytealg.MaxLen"], apart := false, laid := [("unicode/utf8.acceptRanges", laid_unicode_utf8_acceptRanges), ("unicode/utf8.first", laid_unicode_utf8_first)], narrowed := true }
def OrderOriginUptoSaid : Prop := orderOriginUptoRow.holds Tryz.pinned (OpenSpec.upto orderOriginSpec)

/-- 'harpsichordlaw13.OrderCrash', WHERE WHAT IT READS IS OF BULK AT MOST 1048576: true; the input reads as it did. -/
def orderCrashUptoRow : OpenClaim := { program := "ytlppinfjdnhlbaagreatdoor", sum := "f8d1618ffa7ec16e6bb8f71206e23e0f57fd89076933e8cf4d173af767ed448d", func := "harpsichord/harpsichordlaw13.OrderCrash", spec := "orderCrash", inPlace := ["internal/bytealg.IndexByteString", "internal/bytealg.IndexString"], unfollowed := true, recurses := true, named := ["unicode/utf8.first", "unicode/utf8.acceptRanges", "internal/bytealg.MaxLen"], apart := false, laid := [("unicode/utf8.acceptRanges", laid_unicode_utf8_acceptRanges), ("unicode/utf8.first", laid_unicode_utf8_first)], narrowed := true }
def OrderCrashUptoSaid : Prop := orderCrashUptoRow.holds Tryz.pinned (OpenSpec.upto orderCrashSpec)

/-- 'harpsichordlaw13.OrderMessages', WHERE WHAT IT READS IS OF BULK AT MOST 1048576: true; the input reads as it did. -/
def orderMessagesUptoRow : OpenClaim := { program := "ytlppinfjdnhlbaagreatdoor", sum := "f8d1618ffa7ec16e6bb8f71206e23e0f57fd89076933e8cf4d173af767ed448d", func := "harpsichord/harpsichordlaw13.OrderMessages", spec := "orderMessages", inPlace := ["internal/bytealg.IndexByteString", "internal/bytealg.IndexString"], unfollowed := true, recurses := true, named := ["unicode/utf8.first", "unicode/utf8.acceptRanges", "internal/bytealg.MaxLen"], apart := false, laid := [("unicode/utf8.acceptRanges", laid_unicode_utf8_acceptRanges), ("unicode/utf8.first", laid_unicode_utf8_first)], narrowed := true }
def OrderMessagesUptoSaid : Prop := orderMessagesUptoRow.holds Tryz.pinned (OpenSpec.upto orderMessagesSpec)

/-- 'harpsichordlaw13.OrderOpens', WHERE WHAT IT READS IS OF BULK AT MOST 1048576: true; the input reads as it did. -/
def orderOpensUptoRow : OpenClaim := { program := "ytlppinfjdnhlbaagreatdoor", sum := "f8d1618ffa7ec16e6bb8f71206e23e0f57fd89076933e8cf4d173af767ed448d", func := "harpsichord/harpsichordlaw13.OrderOpens", spec := "orderOpens", inPlace := ["internal/bytealg.IndexByteString", "internal/bytealg.IndexString"], unfollowed := true, recurses := true, named := ["unicode/utf8.first", "unicode/utf8.acceptRanges", "internal/bytealg.MaxLen"], apart := false, laid := [("unicode/utf8.acceptRanges", laid_unicode_utf8_acceptRanges), ("unicode/utf8.first", laid_unicode_utf8_first)], narrowed := true }
def OrderOpensUptoSaid : Prop := orderOpensUptoRow.holds Tryz.pinned (OpenSpec.upto orderOpensSpec)

/-- 'harpsichordlaw13.OrderLogs', WHERE WHAT IT READS IS OF BULK AT MOST 1048576: true; the input reads as it did. -/
def orderLogsUptoRow : OpenClaim := { program := "ytlppinfjdnhlbaagreatdoor", sum := "f8d1618ffa7ec16e6bb8f71206e23e0f57fd89076933e8cf4d173af767ed448d", func := "harpsichord/harpsichordlaw13.OrderLogs", spec := "orderLogs", inPlace := ["internal/bytealg.IndexByteString", "internal/bytealg.IndexString"], unfollowed := true, recurses := true, named := ["unicode/utf8.first", "unicode/utf8.acceptRanges", "internal/bytealg.MaxLen"], apart := false, laid := [("unicode/utf8.acceptRanges", laid_unicode_utf8_acceptRanges), ("unicode/utf8.first", laid_unicode_utf8_first)], narrowed := true }
def OrderLogsUptoSaid : Prop := orderLogsUptoRow.holds Tryz.pinned (OpenSpec.upto orderLogsSpec)

/-- 'harpsichordlaw13.OrderQuiet', WHERE WHAT IT READS IS OF BULK AT MOST 1048576: true; the input reads as it did. -/
def orderQuietUptoRow : OpenClaim := { program := "ytlppinfjdnhlbaagreatdoor", sum := "f8d1618ffa7ec16e6bb8f71206e23e0f57fd89076933e8cf4d173af767ed448d", func := "harpsichord/harpsichordlaw13.OrderQuiet", spec := "orderQuiet", inPlace := ["internal/bytealg.IndexByteString", "internal/bytealg.IndexString"], unfollowed := true, recurses := true, named := ["unicode/utf8.first", "unicode/utf8.acceptRanges", "internal/bytealg.MaxLen"], apart := false, laid := [("unicode/utf8.acceptRanges", laid_unicode_utf8_acceptRanges), ("unicode/utf8.first", laid_unicode_utf8_first)], narrowed := true }
def OrderQuietUptoSaid : Prop := orderQuietUptoRow.holds Tryz.pinned (OpenSpec.upto orderQuietSpec)

end Rows
end Go.Proofs.YtlppinfjdnhlbaaGreatDoor
