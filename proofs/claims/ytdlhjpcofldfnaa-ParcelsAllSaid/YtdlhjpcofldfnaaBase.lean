/-
  Words for memory: rows of the call's own; parts of one length; messages and pairs as cells. No condition.
-/
import Derived.Test.YtdlhjpcofldfnaaRows
import Derived.Test.YtdlhjpcofldfnaaProg
import Derived.WalkKit
import Derived.ProofKit
import Derived.OpenShut
import Derived.Lib.Hide
import Derived.Outline
import Derived.Below
import Derived.OwnWalk
import Derived.OneCell
import Derived.Deep.LoopGhost
import Derived.Deep.Draws
import Derived.Deep.Slices
import Derived.Deep.MidRow
import Derived.Deep.Heap
import Derived.RegionTactic
import Derived.Deep.RegionHeld3
import Derived.StillTailTactics
import Derived.BigQuiet
import Derived.Deep.QuietTactic
import Derived.IntWalk
import Derived.Laws.AppendOwnNone
import Derived.Laws.StructEq
import Derived.Laws.CopyOwn
import Derived.Lib.LazyBuf
import Derived.Lib.MinMax
import Derived.Lib.SliceRun
import Derived.Maps.OwnSet
import Derived.Maps.Views
import Derived.WideKeyPair
import Derived.DeepKeys4
import Derived.Deep.DeepCutAuto
import Derived.Deep.AppendLies
import Derived.Maps.AppendAt
import Derived.ChangeKeysEq
namespace Go.Proofs.Ytdlhjpcofldfnaa
set_option maxRecDepth 100000
open Go.ChangeShapes Go.WideShapes Go.ChangeAt Go.RowKit

theorem cell_lt {w : World} {b : Nat} {o : Nat} {v : Value} (h : w.cell? ⟨b, o, none⟩ = some v) : b < w.heap.size := by
  rcases Nat.lt_or_ge b w.heap.size with h' | h'
  · exact h'
  · simp [World.cell?, Array.getElem?_eq_none h'] at h
theorem below_drewN {B : Nat} {a w : World} (h : Below B a w) (n : Nat) : Below B a (w.drewN n) := ⟨h.os, h.tape, h.output, h.size, h.block⟩
theorem box_below (w : World) (o : Obj) : Below w.heap.size w (w.alloc o) := (Below.refl _ _).alloc (Nat.le_refl _) _
theorem new_block (w : World) (o : Obj) : (w.alloc o).heap[w.heap.size]? = some o := heap_alloc_new w o

/-! ### Rows of the call's own -/
theorem own_ge {w : World} {base e size n : Nat} {v : Value} {xs : List Value} (h : w.ownsRow base e size v n xs) : ∀ k, v.ownBlock = some k → base ≤ k := fun k hk => (h.lt k hk).1
theorem own_base {w : World} {b b' e size n : Nat} {v : Value} {xs : List Value} (h : w.ownsRow b e size v n xs) (hb : b' ≤ b) : w.ownsRow b' e size v n xs := by
  refine ⟨h.1, ?_⟩
  rcases h.2 with hn | ⟨g, cap, cur, rfl, hbg, rest⟩
  · exact .inl hn
  · exact .inr ⟨g, cap, cur, rfl, by omega, rest⟩
theorem own_below {w w' : World} {base e size n : Nat} {v : Value} {xs : List Value} (h : w.ownsRow base e size v n xs) (hb : Below w.heap.size w w') : w'.ownsRow base e size v n xs := by
  refine ⟨h.1, ?_⟩
  rcases h.2 with hn | ⟨g, cap, cur, rfl, hbg, hg, rest⟩
  · exact .inl hn
  · exact .inr ⟨g, cap, cur, rfl, hbg, (hb.block g (Array.getElem?_eq_some_iff.1 hg).1).trans hg, rest⟩
/-- A row is kept where all blocks of its element's type are. -/
theorem own_tag {w w' : World} {base e size n : Nat} {v : Value} {xs : List Value} (h : w.ownsRow base e size v n xs) (hk : ∀ (k : Nat) (cs : Array Value), w.heap[k]? = some (Obj.cells cs e (0, 0)) → w'.heap[k]? = some (Obj.cells cs e (0, 0))) : w'.ownsRow base e size v n xs := by
  refine ⟨h.1, ?_⟩
  rcases h.2 with hn | ⟨g, cap, cur, rfl, hbg, hg, rest⟩
  · exact .inl hn
  · exact .inr ⟨g, cap, cur, rfl, hbg, hk g cur hg, rest⟩
theorem own_ne {w : World} {base e size n : Nat} {v : Value} {xs : List Value} (h : w.ownsRow base e size v n xs) {k : Nat} {cs : Array Value} {t : TypeId} {fr : Nat × Nat} (hk : w.heap[k]? = some (.cells cs t fr)) (ht : t ≠ e) : v.ownBlock ≠ some k := by
  intro e'
  rcases h.2 with ⟨rfl, _⟩ | ⟨g, cap, cur, rfl, _, hg, _⟩
  · simp [Value.ownBlock] at e'
  · simp only [Value.ownBlock, Option.some.injEq] at e'
    subst e'
    rw [hk] at hg
    injection hg with hg
    injection hg with _ h2
    exact ht h2
/-- A row is a slice; where it has an element it has a block. -/
theorem own_form {w : World} {base e size n : Nat} {v : Value} {xs : List Value} (h : w.ownsRow base e size v n xs) : ∃ A c, v = .slice A n c ∧ n ≤ c ∧ c ≤ maxLen ∧ (0 < n → ∃ g, A = some ⟨g, 0, none⟩) := by
  rcases h.2 with ⟨rfl, rfl⟩ | ⟨g, cap, cur, rfl, hbg, hg, hn, hc, hs, ht⟩
  · exact ⟨none, 0, rfl, by omega, by unfold maxLen; omega, fun h => absurd h (by omega)⟩
  · exact ⟨_, cap, rfl, hn, hc, fun _ => ⟨g, rfl⟩⟩
theorem own_cell {w : World} {base e size n g c : Nat} {xs : List Value} (h : w.ownsRow base e size (.slice (some ⟨g, 0, none⟩) n c) n xs) (j : Nat) (v : Value) (hv : xs[j]? = some v) : w.cell? ⟨g, j, none⟩ = some v := by
  have := h.cells (g := g) rfl j v hv
  rwa [Go.WideShapes.add_plain, Nat.zero_add] at this

/-- A list of parts of one length: its k-th part. -/
theorem part_at {α : Type} (f : α → List Value) (m : Nat) : ∀ (l : List α) (k : Nat) (hk : k < l.length), (∀ x ∈ l, (f x).length = m) → ((l.flatMap f).drop (k * m)).take m = f l[k]
  | x :: l, 0, _, h => by
    rw [Nat.zero_mul, List.drop_zero, List.flatMap_cons, List.take_append_of_le_length (by rw [h x (by simp)]; exact Nat.le_refl _), List.take_of_length_le (by rw [h x (by simp)]; exact Nat.le_refl _)]; rfl
  | x :: l, k + 1, hk, h => by
    have hx := h x (by simp)
    rw [List.flatMap_cons, show (k + 1) * m = (f x).length + k * m by rw [hx, Nat.succ_mul]; omega, List.drop_append, List.drop_eq_nil_of_le (by omega), List.nil_append, Nat.add_sub_cancel_left]
    exact part_at f m l k (by simpa using hk) (fun y hy => h y (by simp [hy]))
theorem part_get {α : Type} (f : α → List Value) (m : Nat) (l : List α) (k : Nat) (hk : k < l.length) (h : ∀ x ∈ l, (f x).length = m) (j : Nat) (hj : j < m) : (l.flatMap f)[k * m + j]? = (f l[k])[j]? := by
  rw [← part_at f m l k hk h, List.getElem?_take, if_pos hj, List.getElem?_drop]
theorem parts_length {α : Type} (f : α → List Value) (m : Nat) : ∀ (l : List α), (∀ x ∈ l, (f x).length = m) → (l.flatMap f).length = l.length * m
  | [], _ => by simp
  | x :: l, h => by
    rw [List.flatMap_cons, List.length_append, h x (by simp), parts_length f m l (fun y hy => h y (by simp [hy])), List.length_cons, Nat.succ_mul]; omega
theorem part_set {α : Type} (f : α → List Value) (m : Nat) : ∀ (l : List α) (k : Nat) (_ : k < l.length) (y : α), (∀ x ∈ l, (f x).length = m) → (f y).length = m → splice (l.flatMap f) (k * m) (f y) = (l.set k y).flatMap f
  | x :: l, 0, _, y, h, hy => by
    have hx := h x (by simp)
    simp only [splice, Nat.zero_mul, List.take_zero, List.nil_append, Nat.zero_add, List.flatMap_cons, List.set_cons_zero]
    rw [List.drop_append, List.drop_eq_nil_of_le (by omega), List.nil_append, hx, hy, Nat.sub_self, List.drop_zero]
  | x :: l, k + 1, hk, y, h, hy => by
    have hx := h x (by simp)
    have ih := part_set f m l k (by simpa using hk) y (fun z hz => h z (by simp [hz])) hy
    simp only [List.set_cons_succ, List.flatMap_cons]
    rw [← ih]
    have e1 : (k + 1) * m = (f x).length + k * m := by rw [hx, Nat.succ_mul]; omega
    simp only [splice]
    rw [e1, List.take_append, List.take_of_length_le (by omega), Nat.add_sub_cancel_left, List.append_assoc, Nat.add_assoc, List.drop_append, List.drop_eq_nil_of_le (by omega), List.nil_append, Nat.add_sub_cancel_left]

theorem ret_b {a b : Bool} (h : a = b) : Ending.returned (.bool a) = Ending.returned (.bool b) := by rw [h]
theorem ret_i {a b : Int} (h : a = b) : Ending.returned (.int .i64 a) = Ending.returned (.int .i64 b) := by rw [h]
theorem cell_of {w : World} {p j : Nat} {cs : Array Value} {t : TypeId} {v : Value} (h : w.heap[p]? = some (.cells cs t (0, 0))) (hv : cs[j]? = some v) : w.cell? ⟨p, j, none⟩ = some v := by
  rw [cell_of_row w p j cs t _ h]; exact hv
theorem getD_eq {α : Type} {l : List α} {k : Nat} (d : α) (h : k < l.length) : l.getD k d = l[k] := by
  rw [List.getD_eq_getElem?_getD, List.getElem?_eq_getElem h]; rfl
/-- A message. -/
structure Pk where
  f : Int
  t : Int
  b : ByteArray
def pk0 : Pk := ⟨0, 0, ⟨#[]⟩⟩
def pcell (x : Pk) : List Value := [.int .i64 x.f, .int .i64 x.t, .string x.b]
def pcells (l : List Pk) : List Value := l.flatMap pcell
def pv (x : Pk) : Value := .agg #[.int .i64 x.f, .int .i64 x.t, .string x.b]
theorem pcells_length (l : List Pk) : (pcells l).length = l.length * 3 := parts_length pcell 3 l (fun _ _ => rfl)
theorem pcells_one (l : List Pk) : ∀ u ∈ pcells l, u.oneCell' = true := fun u hu => by
  obtain ⟨x, _, hx⟩ := List.mem_flatMap.1 hu
  simp only [pcell, List.mem_cons, List.not_mem_nil, or_false] at hx
  rcases hx with rfl | rfl | rfl <;> rfl
theorem pcells_append (a b : List Pk) : pcells (a ++ b) = pcells a ++ pcells b := by simp [pcells]
/-- An int. -/
def I64 (x : Int) : Prop := -9223372036854775808 ≤ x ∧ x ≤ 9223372036854775807
def POk (x : Pk) : Prop := I64 x.f ∧ I64 x.t
theorem info31 : (Try.prog.info? 31).map (fun i => (i.zero, i.size, i.bytes)) = some (some (.agg #[.int .i64 0, .int .i64 0, .string ⟨#[]⟩]), 3, 32) := by kernel_rfl
theorem info3 : (Try.prog.info? 3).map (fun i => (i.zero, i.size, i.bytes)) = some (some (.int .i64 0), 1, 8) := by kernel_rfl
end Go.Proofs.Ytdlhjpcofldfnaa
