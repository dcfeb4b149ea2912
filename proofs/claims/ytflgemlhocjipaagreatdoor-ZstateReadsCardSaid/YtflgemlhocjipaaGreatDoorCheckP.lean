/-
  What the document's Check returns of any list. Condition: its paths have at most 2^21 bytes.
-/
import Derived.Test.YtflgemlhocjipaaGreatDoorRef1
import Derived.Test.YtflgemlhocjipaaGreatDoorRBase
import Derived.Test.YtflgemlhocjipaaGreatDoorTree3
import Derived.Laws.Cover1
namespace Go.Proofs.YtflgemlhocjipaaGreatDoor
set_option maxRecDepth 100000
open Go.ChangeShapes Go.WideShapes Go.ChangeAt Go.RowKit Go.Proofs.Zn Go.Proofs.Zt

theorem chkGo_at {l : Tr} {k : Nat} {z : Nd} (hz : l[k]? = some z) : chkGo (l.take k) (l.drop k) = if chk1 (l.take k) z ≠ 0 then chk1 (l.take k) z else chkGo (l.take (k + 1)) (l.drop (k + 1)) := by
  obtain ⟨hk, rfl⟩ := List.getElem?_eq_some_iff.1 hz
  rw [List.drop_eq_getElem_cons hk, chkGo, List.take_succ_eq_append_getElem hk]
end Go.Proofs.YtflgemlhocjipaaGreatDoor
