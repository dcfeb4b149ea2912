/-
  What the document's own Valid, Depth, Base, Parent, Join, Under, Number tell of any texts: the same as the program. Condition: the texts have at most 2^20 bytes.
  What the document's Base returns of any text. Condition: it has at most 2^21 bytes.
-/
import Derived.Test.YtflgemlhocjipaaGreatDoorRNames
namespace Go.Proofs.YtflgemlhocjipaaGreatDoor
set_option maxRecDepth 100000
open Go.ChangeShapes Go.WideShapes Go.ChangeAt Go.RowKit Go.Proofs.Zn

end Go.Proofs.YtflgemlhocjipaaGreatDoor
namespace Go.Proofs.YtflgemlhocjipaaGreatDoor
set_option maxRecDepth 100000
open Go.ChangeShapes Go.WideShapes Go.ChangeAt Go.RowKit Go.Proofs.Zn

end Go.Proofs.YtflgemlhocjipaaGreatDoor
