/-
  The document's kid and remove. Conditions: memory holds the step; its lists are not long.
  What the document's own ten digits and Number are: the same as the program's. Conditions: the text has at most 2^20 bytes.
  The document's create. Conditions: memory holds the list, a good tree; the path is one.
  The document's End. Conditions: memory holds the list, a good tree.
  The document's one: a change alone. Conditions: memory holds the list, a good tree; the path is not very long.
  The document's Do. Conditions: memory holds the list, a good tree, and the changes; no path is very long.
-/
import Derived.Test.YtflgemlhocjipaaGreatDoorRef6
import Derived.Test.YtflgemlhocjipaaGreatDoorRBase
import Derived.Test.YtflgemlhocjipaaGreatDoorNumber
import Derived.Laws.BytesArg
import Derived.Test.YtflgemlhocjipaaGreatDoorDoP
namespace Go.Proofs.YtflgemlhocjipaaGreatDoor
set_option maxRecDepth 100000
open Go.ChangeShapes Go.WideShapes Go.ChangeAt Go.RowKit Go.Proofs.Zn Go.Proofs.Zt

/-- A value that names a list of znodes. -/
def TrV (w : World) (v : Value) (T : Tr) : Prop := ∃ A c, v = .slice A T.length c ∧ Rd ncell 9 w A T.length T
def StPost (s : Stp) (w : World) (e : Ending) (w' : World) : Prop := ∃ v1 v2, e = .returned (.agg #[v1, .string (B s.path), v2, .int .i64 s.e]) ∧ w'.ownsRow w.heap.size 132 9 v1 s.T.length (ncells s.T) ∧ w'.ownsRow w.heap.size 165 3 v2 s.evs.length (ecells s.evs) ∧ Below w.heap.size w w'
theorem TrV.of_own {w : World} {base : Nat} {v : Value} {T : Tr} (h : w.ownsRow base 132 9 v T.length (ncells T)) : TrV w v T := by
  obtain ⟨A, c, rfl, -, -, -⟩ := own_form h
  exact ⟨A, c, rfl, Rd.of_own h (fun _ _ => rfl) (by omega)⟩
end Go.Proofs.YtflgemlhocjipaaGreatDoor
namespace Go.Proofs.YtflgemlhocjipaaGreatDoor
set_option maxRecDepth 100000
open Go.ChangeShapes Go.WideShapes Go.ChangeAt Go.RowKit Go.Proofs.Zn

end Go.Proofs.YtflgemlhocjipaaGreatDoor
namespace Go.Proofs.YtflgemlhocjipaaGreatDoor
set_option maxRecDepth 100000
open Go.ChangeShapes Go.WideShapes Go.ChangeAt Go.RowKit Go.Proofs.Zn Go.Proofs.Zt

structure Cr (w0 : World) (q r : Nat) (c : Chg) (w : World) : Prop where
  below : Below w0.heap.size w0 w
  bq : w.heap[q]? = some (.cells #[.int .i64 c.kind, .string (B c.path), .string (B c.data), .int .i64 c.ver, .bool c.eph, .bool c.sq] 79 (0, 0))
  br : w.heap[r]? = some (.cells #[.slice none 0 0, .string ⟨#[]⟩, .slice none 0 0, .int .i64 0] 229 (0, 0))
theorem Cr.go {w0 w w' : World} {q r : Nat} {c : Chg} (h : Cr w0 q r c w) (hb : Below w.heap.size w w') : Cr w0 q r c w' :=
  ⟨h.below.trans (hb.mono h.below.size), blk_below h.bq hb, blk_below h.br hb⟩
end Go.Proofs.YtflgemlhocjipaaGreatDoor
namespace Go.Proofs.YtflgemlhocjipaaGreatDoor
set_option maxRecDepth 100000
open Go.ChangeShapes Go.WideShapes Go.ChangeAt Go.RowKit Go.Proofs.Zn Go.Proofs.Zt

/-- A list of znodes: the one that came in, or one of the call's own. -/
def TRow (Q : Option Addr → Prop) (w wr : World) (v : Value) (T : Tr) : Prop := (∃ A c, v = .slice A T.length c ∧ Rd ncell 9 w A T.length T ∧ Q A) ∨ wr.ownsRow w.heap.size 132 9 v T.length (ncells T)
theorem TRow.rd {Q : Option Addr → Prop} {w wr : World} {v : Value} {T : Tr} (h : TRow Q w wr v T) (hb : Below w.heap.size w wr) : ∃ A c, v = .slice A T.length c ∧ Rd ncell 9 wr A T.length T := by
  rcases h with ⟨A, c, rfl, hr, -⟩ | h
  · exact ⟨A, c, rfl, hr.below hb⟩
  · exact TrV.of_own h
theorem TRow.below {Q : Option Addr → Prop} {w wr w' : World} {v : Value} {T : Tr} (h : TRow Q w wr v T) (hb : Below wr.heap.size wr w') : TRow Q w w' v T := by
  rcases h with h | h
  · exact .inl h
  · exact .inr (own_below h hb)
theorem TRow.gb {Q : Option Addr → Prop} {w wr w' : World} {v u : Value} {T : Tr} {base e sz n : Nat} {xs : List Value} (h : TRow Q w wr v T) (ho : wr.ownsRow base e sz u n xs) (hg : wr.grownBy w' u.ownBlock) (hne : 132 ≠ e) : TRow Q w w' v T := by
  rcases h with h | h
  · exact .inl h
  · exact .inr (own_gb' h hg (own_apart h ho hne))
theorem own_cap {w : World} {base e sz n c : Nat} {A : Option Addr} {xs : List Value} (h : w.ownsRow base e sz (.slice A n c) n xs) (hA : A = none) : c = 0 := by
  rcases h.2 with ⟨e1, _⟩ | ⟨g, cap, cur, e1, _⟩
  · injection e1
  · subst hA
    injection e1 with e1 _ _
    cases e1
end Go.Proofs.YtflgemlhocjipaaGreatDoor
namespace Go.Proofs.YtflgemlhocjipaaGreatDoor
set_option maxRecDepth 100000
open Go.ChangeShapes Go.WideShapes Go.ChangeAt Go.RowKit Go.Proofs.Zn Go.Proofs.Zt

def OnPost (vt : Value) (T : Tr) (s : Stp) (w : World) (e : Ending) (w' : World) : Prop := ∃ v1 v2, e = .returned (.agg #[v1, .string (B s.path), v2, .int .i64 s.e]) ∧ ((v1 = vt ∧ s.T = T) ∨ w'.ownsRow w.heap.size 132 9 v1 s.T.length (ncells s.T)) ∧ w'.ownsRow w.heap.size 165 3 v2 s.evs.length (ecells s.evs) ∧ Below w.heap.size w w'
theorem below_step {a b c : World} (h : Below a.heap.size a b) (k : Below b.heap.size b c) : Below a.heap.size a c := h.trans (k.mono h.size)
theorem StPost.on {s : Stp} {w w' : World} {e : Ending} {vt : Value} {T : Tr} (h : StPost s w e w') : OnPost vt T s w e w' := by
  obtain ⟨v1, v2, he, h1, h2, hb⟩ := h
  exact ⟨v1, v2, he, .inr h1, h2, hb⟩
end Go.Proofs.YtflgemlhocjipaaGreatDoor
namespace Go.Proofs.YtflgemlhocjipaaGreatDoor
set_option maxRecDepth 100000
open Go.ChangeShapes Go.WideShapes Go.ChangeAt Go.RowKit Go.Proofs.Zn Go.Proofs.Zt

end Go.Proofs.YtflgemlhocjipaaGreatDoor
