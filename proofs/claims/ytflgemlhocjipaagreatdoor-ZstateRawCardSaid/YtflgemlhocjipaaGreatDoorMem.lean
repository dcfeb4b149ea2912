/-
  Words for memory: rows of the call's own; parts of one length; a tree as a map; znodes, events, changes as cells. No condition.
-/
import Derived.Test.YtflgemlhocjipaaGreatDoorTree3
import Derived.Test.YtflgemlhocjipaaGreatDoorIter
import Derived.Test.YtflgemlhocjipaaGreatDoorRows
import Derived.WalkKit
import Derived.ProofKit
import Derived.OpenShut
import Derived.Lib.Hide
import Derived.Outline
import Derived.Below
import Derived.OwnWalk
import Derived.OneCell
import Derived.Deep.LoopGhost
import Derived.Deep.Draws
import Derived.Deep.Slices
import Derived.Deep.MidRow
import Derived.Deep.Heap
import Derived.RegionTactic
import Derived.Deep.RegionHeld3
import Derived.StillTailTactics
import Derived.BigQuiet
import Derived.Deep.QuietTactic
import Derived.IntWalk
import Derived.Laws.AppendOwnNone
import Derived.Laws.StructEq
import Derived.Laws.CopyOwn
import Derived.Lib.LazyBuf
import Derived.Lib.MinMax
import Derived.Lib.SliceRun
import Derived.Maps.OwnSet
import Derived.Maps.Views
import Derived.Maps.RangeWalk
import Derived.StringKeys
import Derived.Deep.DeepCutAuto
import Derived.Deep.AppendLies
import Derived.Maps.AppendAt
namespace Go.Proofs.YtflgemlhocjipaaGreatDoor
set_option maxRecDepth 100000
open Go.ChangeShapes Go.WideShapes Go.ChangeAt Go.RowKit Go.Proofs.Zn Go.Proofs.Zt

theorem cell_lt {w : World} {b : Nat} {o : Nat} {v : Value} (h : w.cell? ⟨b, o, none⟩ = some v) : b < w.heap.size := by
  rcases Nat.lt_or_ge b w.heap.size with h' | h'
  · exact h'
  · simp [World.cell?, Array.getElem?_eq_none h'] at h
theorem below_drewN {B : Nat} {a w : World} (h : Below B a w) (n : Nat) : Below B a (w.drewN n) := ⟨h.os, h.tape, h.output, h.size, h.block⟩
theorem new_block (w : World) (o : Obj) : (w.alloc o).heap[w.heap.size]? = some o := heap_alloc_new w o

/-! ### Rows of the call's own -/
theorem own_ge {w : World} {base e size n : Nat} {v : Value} {xs : List Value} (h : w.ownsRow base e size v n xs) : ∀ k, v.ownBlock = some k → base ≤ k := fun k hk => (h.lt k hk).1
theorem own_base {w : World} {b b' e size n : Nat} {v : Value} {xs : List Value} (h : w.ownsRow b e size v n xs) (hb : b' ≤ b) : w.ownsRow b' e size v n xs := by
  refine ⟨h.1, ?_⟩
  rcases h.2 with hn | ⟨g, cap, cur, rfl, hbg, rest⟩
  · exact .inl hn
  · exact .inr ⟨g, cap, cur, rfl, by omega, rest⟩
theorem own_below {w w' : World} {base e size n : Nat} {v : Value} {xs : List Value} (h : w.ownsRow base e size v n xs) (hb : Below w.heap.size w w') : w'.ownsRow base e size v n xs := by
  refine ⟨h.1, ?_⟩
  rcases h.2 with hn | ⟨g, cap, cur, rfl, hbg, hg, rest⟩
  · exact .inl hn
  · exact .inr ⟨g, cap, cur, rfl, hbg, (hb.block g (Array.getElem?_eq_some_iff.1 hg).1).trans hg, rest⟩
theorem own_ne {w : World} {base e size n : Nat} {v : Value} {xs : List Value} (h : w.ownsRow base e size v n xs) {k : Nat} {cs : Array Value} {t : TypeId} {fr : Nat × Nat} (hk : w.heap[k]? = some (.cells cs t fr)) (ht : t ≠ e) : v.ownBlock ≠ some k := by
  intro e'
  rcases h.2 with ⟨rfl, _⟩ | ⟨g, cap, cur, rfl, _, hg, _⟩
  · simp [Value.ownBlock] at e'
  · simp only [Value.ownBlock, Option.some.injEq] at e'
    subst e'
    rw [hk] at hg
    injection hg with hg
    injection hg with _ h2
    exact ht h2
/-- A row is a slice; where it has an element it has a block. -/
theorem own_form {w : World} {base e size n : Nat} {v : Value} {xs : List Value} (h : w.ownsRow base e size v n xs) : ∃ A c, v = .slice A n c ∧ n ≤ c ∧ c ≤ maxLen ∧ (0 < n → ∃ g, A = some ⟨g, 0, none⟩) := by
  rcases h.2 with ⟨rfl, rfl⟩ | ⟨g, cap, cur, rfl, hbg, hg, hn, hc, hs, ht⟩
  · exact ⟨none, 0, rfl, by omega, by unfold maxLen; omega, fun h => absurd h (by omega)⟩
  · exact ⟨_, cap, rfl, hn, hc, fun _ => ⟨g, rfl⟩⟩
theorem own_cell {w : World} {base e size n g c : Nat} {xs : List Value} (h : w.ownsRow base e size (.slice (some ⟨g, 0, none⟩) n c) n xs) (j : Nat) (v : Value) (hv : xs[j]? = some v) : w.cell? ⟨g, j, none⟩ = some v := by
  have := h.cells (g := g) rfl j v hv
  rwa [Go.WideShapes.add_plain, Nat.zero_add] at this
/-- A list of parts of one length: its k-th part. -/
theorem part_at {α : Type} (f : α → List Value) (m : Nat) : ∀ (l : List α) (k : Nat) (hk : k < l.length), (∀ x ∈ l, (f x).length = m) → ((l.flatMap f).drop (k * m)).take m = f l[k]
  | x :: l, 0, _, h => by
    rw [Nat.zero_mul, List.drop_zero, List.flatMap_cons, List.take_append_of_le_length (by rw [h x (by simp)]; exact Nat.le_refl _), List.take_of_length_le (by rw [h x (by simp)]; exact Nat.le_refl _)]; rfl
  | x :: l, k + 1, hk, h => by
    have hx := h x (by simp)
    rw [List.flatMap_cons, show (k + 1) * m = (f x).length + k * m by rw [hx, Nat.succ_mul]; omega, List.drop_append, List.drop_eq_nil_of_le (by omega), List.nil_append, Nat.add_sub_cancel_left]
    exact part_at f m l k (by simpa using hk) (fun y hy => h y (by simp [hy]))
theorem part_get {α : Type} (f : α → List Value) (m : Nat) (l : List α) (k : Nat) (hk : k < l.length) (h : ∀ x ∈ l, (f x).length = m) (j : Nat) (hj : j < m) : (l.flatMap f)[k * m + j]? = (f l[k])[j]? := by
  rw [← part_at f m l k hk h, List.getElem?_take, if_pos hj, List.getElem?_drop]
theorem parts_length {α : Type} (f : α → List Value) (m : Nat) : ∀ (l : List α), (∀ x ∈ l, (f x).length = m) → (l.flatMap f).length = l.length * m
  | [], _ => by simp
  | x :: l, h => by
    rw [List.flatMap_cons, List.length_append, h x (by simp), parts_length f m l (fun y hy => h y (by simp [hy])), List.length_cons, Nat.succ_mul]; omega
theorem ret_b {a b : Bool} (h : a = b) : Ending.returned (.bool a) = Ending.returned (.bool b) := by rw [h]
theorem ret_i {a b : Int} (h : a = b) : Ending.returned (.int .i64 a) = Ending.returned (.int .i64 b) := by rw [h]
theorem cell_of {w : World} {p j : Nat} {cs : Array Value} {t : TypeId} {v : Value} (h : w.heap[p]? = some (.cells cs t (0, 0))) (hv : cs[j]? = some v) : w.cell? ⟨p, j, none⟩ = some v := by
  rw [cell_of_row w p j cs t _ h]; exact hv
theorem getD_eq {α : Type} {l : List α} {k : Nat} (d : α) (h : k < l.length) : l.getD k d = l[k] := by
  rw [List.getD_eq_getElem?_getD, List.getElem?_eq_getElem h]; rfl

/-! ### Znodes, events, changes as cells -/
def ncell (z : Nd) : List Value := [.string (B z.path), .string (B z.data), .int .i64 z.cr, .int .i64 z.ch, .int .i64 z.kd, .int .i64 z.ver, .int .i64 z.ks, .int .i64 z.own, .int .i64 z.nx]
def ncells (T : Tr) : List Value := T.flatMap ncell
theorem ncells_append (a b : Tr) : ncells (a ++ b) = ncells a ++ ncells b := by simp [ncells]
def ecell (e : Evt) : List Value := [.int .i64 e.s, .int .i64 e.k, .string (B e.p)]
def ecells (l : List Evt) : List Value := l.flatMap ecell
theorem ecells_append (a b : List Evt) : ecells (a ++ b) = ecells a ++ ecells b := by simp [ecells]
def ccell (c : Chg) : List Value := [.int .i64 c.kind, .string (B c.path), .string (B c.data), .int .i64 c.ver, .bool c.eph, .bool c.sq]
def ccells (l : List Chg) : List Value := l.flatMap ccell
theorem ccells_append (a b : List Chg) : ccells (a ++ b) = ccells a ++ ccells b := by simp [ccells]
def scell (p : Txt) : List Value := [.string (B p)]
def scells (l : List Txt) : List Value := l.flatMap scell
theorem scells_map (l : List Txt) : scells l = l.map (fun p => Value.string (B p)) := by
  induction l with
  | nil => rfl
  | cons p r ih => rw [scells, List.flatMap_cons]; unfold scells at ih; rw [ih]; rfl
theorem scells_append (a b : List Txt) : scells (a ++ b) = scells a ++ scells b := by simp [scells]
theorem infoZ : (Tryz.prog.info? 132).map (fun i => (i.zero, i.size, i.bytes)) = some (some (.agg #[.string ⟨#[]⟩, .string ⟨#[]⟩, .int .i64 0, .int .i64 0, .int .i64 0, .int .i64 0, .int .i64 0, .int .i64 0, .int .i64 0]), 9, 88) := by kernel_rfl
theorem infoE : (Tryz.prog.info? 165).map (fun i => (i.zero, i.size, i.bytes)) = some (some (.agg #[.int .i64 0, .int .i64 0, .string ⟨#[]⟩]), 3, 32) := by kernel_rfl
theorem infoC : (Tryz.prog.info? 79).map (fun i => (i.zero, i.size, i.bytes)) = some (some (.agg #[.int .i64 0, .string ⟨#[]⟩, .string ⟨#[]⟩, .int .i64 0, .bool false, .bool false]), 6, 56) := by kernel_rfl
theorem infoS : (Tryz.prog.info? 9).map (fun i => (i.zero, i.size, i.bytes)) = some (some (.string ⟨#[]⟩), 1, 16) := by kernel_rfl

/-! ### A tree as a map -/
theorem law9 : Go.Maps.Keyed Tryz.prog 9 := Go.Maps.string_keyed Tryz.underlying9
def ndOf (v : Value) : Option Nd := match v with
  | .agg cs => match cs.toList with
    | [.string p, .string d, .int .i64 a, .int .i64 b, .int .i64 c, .int .i64 e, .int .i64 f, .int .i64 g, .int .i64 h] => some ⟨L p, L d, a, b, c, e, f, g, h⟩
    | _ => none
  | _ => none
def ndR (v : Value) : Option (DataW Nd × List MemPlace) := (ndOf v).map fun z => (.held z, [])
theorem ndR_mk (z : Nd) : ndR (.agg #[.string (B z.path), .string (B z.data), .int .i64 z.cr, .int .i64 z.ch, .int .i64 z.kd, .int .i64 z.ver, .int .i64 z.ks, .int .i64 z.own, .int .i64 z.nx]) = some (.held z, []) := by
  simp [ndR, ndOf]
theorem ndR_inv {v : Value} {z : Nd} {ps : List MemPlace} (h : ndR v = some (.held z, ps)) : v = .agg #[.string (B z.path), .string (B z.data), .int .i64 z.cr, .int .i64 z.ch, .int .i64 z.kd, .int .i64 z.ver, .int .i64 z.ks, .int .i64 z.own, .int .i64 z.nx] ∧ ps = [] := by
  unfold ndR at h
  rcases hz : ndOf v with _ | z'
  · rw [hz] at h; cases h
  · rw [hz] at h
    have h1 := Option.some.inj h
    have h2 := congrArg Prod.fst h1
    have h3 := congrArg Prod.snd h1
    injection h2 with h2
    dsimp only at h2 h3
    subst h2
    refine ⟨?_, h3.symm⟩
    unfold ndOf at hz
    split at hz
    · rename_i cs
      split at hz
      · rename_i p d a b c e f g hh hcs
        obtain rfl := Option.some.inj hz
        have : cs = #[.string p, .string d, .int .i64 a, .int .i64 b, .int .i64 c, .int .i64 e, .int .i64 f, .int .i64 g, .int .i64 hh] := by
          rw [← Array.toArray_toList (xs := cs), hcs]
        rw [this]
      · cases hz
    · cases hz
theorem zeroZ (w : World) : (zeroValue 132).run Tryz.prog w = .ok (.agg #[.string ⟨#[]⟩, .string ⟨#[]⟩, .int .i64 0, .int .i64 0, .int .i64 0, .int .i64 0, .int .i64 0, .int .i64 0, .int .i64 0]) w := by kernel_rfl
theorem zeroR : ndR (.agg #[.string ⟨#[]⟩, .string ⟨#[]⟩, .int .i64 0, .int .i64 0, .int .i64 0, .int .i64 0, .int .i64 0, .int .i64 0, .int .i64 0]) = some (.held nd0, []) := rfl
/-- The map of a tree. -/
def MapT (w : World) (mb : Nat) (T : Tr) : Prop := w.ownsMap Tryz.prog 9 ndR mb T.length (Dm T)
theorem tight {w : World} {mb n : Nat} {T : Tr} (h : w.ownsMap Tryz.prog 9 ndR mb n (Dm T)) : MapT w mb T := by
  obtain ⟨es, clock, h1, h2, _, h4⟩ := h
  refine ⟨es, clock, h1, h2, ?_, h4⟩
  have := congrArg Maps.size h4
  rw [dm_size] at this
  rw [this]
  show es.size ≤ ((es.toList.map _).foldr DataW.insert []).length
  rw [length_read]
  exact Nat.le_refl _
theorem MapT.lt {w : World} {mb : Nat} {T : Tr} (h : MapT w mb T) : mb < w.heap.size := World.ownsMap.lt h
theorem MapT.of_block {w w' : World} {mb : Nat} {T : Tr} (h : MapT w mb T) (hb : w'.heap[mb]? = w.heap[mb]?) : MapT w' mb T := by
  obtain ⟨es, clock, h1, h2⟩ := h
  exact ⟨es, clock, hb.trans h1, h2⟩
theorem MapT.below {w w' : World} {mb : Nat} {T : Tr} (h : MapT w mb T) (hb : Below w.heap.size w w') : MapT w' mb T := h.of_block (hb.block mb h.lt)
theorem MapT.ne_cells {w : World} {mb k : Nat} {T : Tr} (h : MapT w mb T) {cs : Array Value} {t : TypeId} {fr : Nat × Nat} (hk : w.heap[k]? = some (.cells cs t fr)) : k ≠ mb := fun e => by
  obtain ⟨es, clock, h1, _⟩ := h
  rw [e, h1] at hk
  cases hk
theorem key_of (p : Txt) (h : p.length ≤ maxLen) : keyOf Tryz.prog 9 (.string (B p)) = some (.string p) := by
  have := Go.WideMaps.keyOf_string_mk (P := Tryz.prog) (k := 9) Tryz.underlying9 (s := B p) (by rw [B_size]; exact h)
  rw [this]
/-- What stands at a key, with the word whether it is there. -/
theorem look_ok {w : World} {mb : Nat} {T : Tr} (h : MapT w mb T) (p : Txt) (hp : p.length ≤ maxLen) {z : Nd} (hz : (get T p).getD nd0 = z) {b : Bool} (hb : (get T p).isSome = b) :
    (Instr.lookup 153 (.map (some mb)) (.string (B p)) true).run Tryz.prog w = .ok (.tuple #[.agg #[.string (B z.path), .string (B z.data), .int .i64 z.cr, .int .i64 z.ch, .int .i64 z.kd, .int .i64 z.ver, .int .i64 z.ks, .int .i64 z.own, .int .i64 z.nx], .bool b]) w := by
  obtain ⟨v, ps, h1, h2⟩ := World.ownsMap.look_ok (t := 153) (e := 132) h law9 Tryz.underlying153 (zeroZ w) zeroR (key_of p hp)
  rw [dm_at, hz] at h2
  rw [h1, (ndR_inv h2).1, dm_has, hb]
theorem look_one {w : World} {mb : Nat} {T : Tr} (h : MapT w mb T) (p : Txt) (hp : p.length ≤ maxLen) {z : Nd} (hz : (get T p).getD nd0 = z) :
    (Instr.lookup 153 (.map (some mb)) (.string (B p)) false).run Tryz.prog w = .ok (.agg #[.string (B z.path), .string (B z.data), .int .i64 z.cr, .int .i64 z.ch, .int .i64 z.kd, .int .i64 z.ver, .int .i64 z.ks, .int .i64 z.own, .int .i64 z.nx]) w := by
  obtain ⟨v, ps, h1, h2⟩ := World.ownsMap.lookup (t := 153) (e := 132) h law9 Tryz.underlying153 (zeroZ w) zeroR (key_of p hp)
  rw [dm_at, hz] at h2
  rw [h1, (ndR_inv h2).1]
end Go.Proofs.YtflgemlhocjipaaGreatDoor
