/-
  Words for memory: rows of the call's own; parts of one length; bytes and numbers as cells; what is read. No condition.
-/
import Derived.Test.YtoallenigfbkpaaTMath
import Derived.Test.YtoallenigfbkpaaRows
import Derived.WalkKit
import Derived.ProofKit
import Derived.OpenShut
import Derived.Lib.Hide
import Derived.Outline
import Derived.Below
import Derived.OwnWalk
import Derived.OneCell
import Derived.Deep.LoopGhost
import Derived.Deep.Draws
import Derived.Deep.Slices
import Derived.Deep.MidRow
import Derived.Deep.Heap
import Derived.RegionTactic
import Derived.Deep.RegionHeld3
import Derived.StillTailTactics
import Derived.BigQuiet
import Derived.Deep.QuietTactic
import Derived.IntWalk
import Derived.Laws.AppendOwnNone
import Derived.Laws.StructEq
import Derived.Laws.CopyOwn
import Derived.Lib.LazyBuf
import Derived.Lib.MinMax
import Derived.Lib.SliceRun
import Derived.Maps.OwnSet
import Derived.Maps.Views
import Derived.Maps.RangeWalk
import Derived.StringKeys
import Derived.Deep.DeepCutAuto
import Derived.Deep.AppendLies
import Derived.Maps.AppendAt
import Derived.Deep.AppendSrc
import Derived.Deep.Upon
import Derived.Lib.Overlaps
import Derived.Laws.Externs
import Derived.Laws.IdiomCopy
import Derived.Laws.CopyRow
import Derived.Laws.MakeOwn
import Derived.Deep.WholeRow
namespace Go.Proofs.Ytoallenigfbkpaa
set_option maxRecDepth 100000
open Go.ChangeShapes Go.WideShapes Go.ChangeAt Go.RowKit Go.Proofs.Sg

theorem cell_lt {w : World} {b : Nat} {o : Nat} {v : Value} (h : w.cell? ⟨b, o, none⟩ = some v) : b < w.heap.size := by
  rcases Nat.lt_or_ge b w.heap.size with h' | h'
  · exact h'
  · simp [World.cell?, Array.getElem?_eq_none h'] at h
theorem below_drewN {B : Nat} {a w : World} (h : Below B a w) (n : Nat) : Below B a (w.drewN n) := ⟨h.os, h.tape, h.output, h.size, h.block⟩
theorem new_block (w : World) (o : Obj) : (w.alloc o).heap[w.heap.size]? = some o := heap_alloc_new w o

/-! ### Rows of the call's own -/
theorem own_ge {w : World} {base e size n : Nat} {v : Value} {xs : List Value} (h : w.ownsRow base e size v n xs) : ∀ k, v.ownBlock = some k → base ≤ k := fun k hk => (h.lt k hk).1
theorem own_base {w : World} {b b' e size n : Nat} {v : Value} {xs : List Value} (h : w.ownsRow b e size v n xs) (hb : b' ≤ b) : w.ownsRow b' e size v n xs := by
  refine ⟨h.1, ?_⟩
  rcases h.2 with hn | ⟨g, cap, cur, rfl, hbg, rest⟩
  · exact .inl hn
  · exact .inr ⟨g, cap, cur, rfl, by omega, rest⟩
theorem own_below {w w' : World} {base e size n : Nat} {v : Value} {xs : List Value} (h : w.ownsRow base e size v n xs) (hb : Below w.heap.size w w') : w'.ownsRow base e size v n xs := by
  refine ⟨h.1, ?_⟩
  rcases h.2 with hn | ⟨g, cap, cur, rfl, hbg, hg, rest⟩
  · exact .inl hn
  · exact .inr ⟨g, cap, cur, rfl, hbg, (hb.block g (Array.getElem?_eq_some_iff.1 hg).1).trans hg, rest⟩
theorem own_ne {w : World} {base e size n : Nat} {v : Value} {xs : List Value} (h : w.ownsRow base e size v n xs) {k : Nat} {cs : Array Value} {t : TypeId} {fr : Nat × Nat} (hk : w.heap[k]? = some (.cells cs t fr)) (ht : t ≠ e) : v.ownBlock ≠ some k := by
  intro e'
  rcases h.2 with ⟨rfl, _⟩ | ⟨g, cap, cur, rfl, _, hg, _⟩
  · simp [Value.ownBlock] at e'
  · simp only [Value.ownBlock, Option.some.injEq] at e'
    subst e'
    rw [hk] at hg
    injection hg with hg
    injection hg with _ h2
    exact ht h2
/-- A row is a slice; where it has an element it has a block. -/
theorem own_form {w : World} {base e size n : Nat} {v : Value} {xs : List Value} (h : w.ownsRow base e size v n xs) : ∃ A c, v = .slice A n c ∧ n ≤ c ∧ c ≤ maxLen ∧ (0 < n → ∃ g, A = some ⟨g, 0, none⟩) := by
  rcases h.2 with ⟨rfl, rfl⟩ | ⟨g, cap, cur, rfl, hbg, hg, hn, hc, hs, ht⟩
  · exact ⟨none, 0, rfl, by omega, by unfold maxLen; omega, fun h => absurd h (by omega)⟩
  · exact ⟨_, cap, rfl, hn, hc, fun _ => ⟨g, rfl⟩⟩
theorem own_cell {w : World} {base e size n g c : Nat} {xs : List Value} (h : w.ownsRow base e size (.slice (some ⟨g, 0, none⟩) n c) n xs) (j : Nat) (v : Value) (hv : xs[j]? = some v) : w.cell? ⟨g, j, none⟩ = some v := by
  have := h.cells (g := g) rfl j v hv
  rwa [Go.WideShapes.add_plain, Nat.zero_add] at this
/-- A list of parts of one length: its k-th part. -/
theorem part_at {α : Type} (f : α → List Value) (m : Nat) : ∀ (l : List α) (k : Nat) (hk : k < l.length), (∀ x ∈ l, (f x).length = m) → ((l.flatMap f).drop (k * m)).take m = f l[k]
  | x :: l, 0, _, h => by
    rw [Nat.zero_mul, List.drop_zero, List.flatMap_cons, List.take_append_of_le_length (by rw [h x (by simp)]; exact Nat.le_refl _), List.take_of_length_le (by rw [h x (by simp)]; exact Nat.le_refl _)]; rfl
  | x :: l, k + 1, hk, h => by
    have hx := h x (by simp)
    rw [List.flatMap_cons, show (k + 1) * m = (f x).length + k * m by rw [hx, Nat.succ_mul]; omega, List.drop_append, List.drop_eq_nil_of_le (by omega), List.nil_append, Nat.add_sub_cancel_left]
    exact part_at f m l k (by simpa using hk) (fun y hy => h y (by simp [hy]))
theorem part_get {α : Type} (f : α → List Value) (m : Nat) (l : List α) (k : Nat) (hk : k < l.length) (h : ∀ x ∈ l, (f x).length = m) (j : Nat) (hj : j < m) : (l.flatMap f)[k * m + j]? = (f l[k])[j]? := by
  rw [← part_at f m l k hk h, List.getElem?_take, if_pos hj, List.getElem?_drop]
theorem parts_length {α : Type} (f : α → List Value) (m : Nat) : ∀ (l : List α), (∀ x ∈ l, (f x).length = m) → (l.flatMap f).length = l.length * m
  | [], _ => by simp
  | x :: l, h => by
    rw [List.flatMap_cons, List.length_append, h x (by simp), parts_length f m l (fun y hy => h y (by simp [hy])), List.length_cons, Nat.succ_mul]; omega
theorem ret_b {a b : Bool} (h : a = b) : Ending.returned (.bool a) = Ending.returned (.bool b) := by rw [h]
theorem ret_i {a b : Int} (h : a = b) : Ending.returned (.int .i64 a) = Ending.returned (.int .i64 b) := by rw [h]
theorem cell_of {w : World} {p j : Nat} {cs : Array Value} {t : TypeId} {v : Value} (h : w.heap[p]? = some (.cells cs t (0, 0))) (hv : cs[j]? = some v) : w.cell? ⟨p, j, none⟩ = some v := by
  rw [cell_of_row w p j cs t _ h]; exact hv
theorem getD_eq {α : Type} {l : List α} {k : Nat} (d : α) (h : k < l.length) : l.getD k d = l[k] := by
  rw [List.getD_eq_getElem?_getD, List.getElem?_eq_getElem h]; rfl

/-! ### Bytes, numbers as cells -/
def bcell (x : UInt8) : List Value := [.int .u8 (x.toNat : Int)]
def bcells (l : List UInt8) : List Value := l.flatMap bcell
theorem bcells_map (l : List UInt8) : bcells l = l.map (fun x => .int .u8 (x.toNat : Int)) := by
  induction l with
  | nil => rfl
  | cons x l ih => show bcell x ++ bcells l = _; rw [ih]; rfl
theorem bcells_length (l : List UInt8) : (bcells l).length = l.length := by rw [bcells_map, List.length_map]
theorem bcells_append (a b : List UInt8) : bcells (a ++ b) = bcells a ++ bcells b := by simp [bcells]
theorem bcells_get (l : List UInt8) (i : Nat) : (bcells l)[i]? = (l[i]?).map (fun x => .int .u8 (x.toNat : Int)) := by rw [bcells_map, List.getElem?_map]
theorem bcells_take (l : List UInt8) (i : Nat) : (bcells l).take i = bcells (l.take i) := by rw [bcells_map, bcells_map, List.map_take]
theorem bcells_drop (l : List UInt8) (i : Nat) : (bcells l).drop i = bcells (l.drop i) := by rw [bcells_map, bcells_map, List.map_drop]
theorem bcells_spl (l v : List UInt8) (o : Nat) : splice (bcells l) o (bcells v) = bcells (spl l o v) := by
  show (bcells l).take o ++ (bcells v ++ (bcells l).drop (o + (bcells v).length)) = _
  rw [bcells_take, bcells_drop, bcells_length, ← bcells_append, ← bcells_append]; rfl
theorem bcell_one (x : UInt8) : ∀ u ∈ bcell x, u.oneCell' = true := fun u hu => by
  rcases List.mem_singleton.1 hu with rfl; rfl
theorem bcells_one (l : List UInt8) : ∀ u ∈ bcells l, u.oneCell' = true := fun u hu => by
  obtain ⟨x, _, hx⟩ := List.mem_flatMap.1 hu
  exact bcell_one x u hx
def ncell (k : Nat) : List Value := [.int .i64 (k : Int)]
def ncells (l : List Nat) : List Value := l.flatMap ncell
theorem ncells_map (l : List Nat) : ncells l = l.map (fun k => .int .i64 (k : Int)) := by
  induction l with
  | nil => rfl
  | cons x l ih => show ncell x ++ ncells l = _; rw [ih]; rfl
theorem ncells_length (l : List Nat) : (ncells l).length = l.length := by rw [ncells_map, List.length_map]
theorem ncells_append (a b : List Nat) : ncells (a ++ b) = ncells a ++ ncells b := by simp [ncells]
theorem ncell_one (x : Nat) : ∀ u ∈ ncell x, u.oneCell' = true := fun u hu => by
  rcases List.mem_singleton.1 hu with rfl; rfl
theorem ncells_one (l : List Nat) : ∀ u ∈ ncells l, u.oneCell' = true := fun u hu => by
  obtain ⟨x, _, hx⟩ := List.mem_flatMap.1 hu
  exact ncell_one x u hx
def pcell (p : Nat × Nat) : List Value := [.int .i64 (p.1 : Int), .int .i64 (p.2 : Int)]
def pcells (l : List (Nat × Nat)) : List Value := l.flatMap pcell
theorem pcells_length (l : List (Nat × Nat)) : (pcells l).length = l.length * 2 := parts_length pcell 2 l (fun _ _ => rfl)
theorem pcells_append (a b : List (Nat × Nat)) : pcells (a ++ b) = pcells a ++ pcells b := by simp [pcells]
theorem pcell_one (x : Nat × Nat) : ∀ u ∈ pcell x, u.oneCell' = true := fun u hu => by
  simp only [pcell, List.mem_cons, List.not_mem_nil, or_false] at hu
  rcases hu with rfl | rfl <;> rfl
theorem pcells_one (l : List (Nat × Nat)) : ∀ u ∈ pcells l, u.oneCell' = true := fun u hu => by
  obtain ⟨x, _, hx⟩ := List.mem_flatMap.1 hu
  exact pcell_one x u hx
def zB : Value := .int .u8 0
def Z16 : Array Value := #[zB, zB, zB, zB, zB, zB, zB, zB, zB, zB, zB, zB, zB, zB, zB, zB]
theorem z16_list : Z16.toList = bcells (List.replicate 16 0) := by kernel_rfl
theorem infoB : (Try.prog.info? 5).map (fun i => (i.zero, i.size, i.bytes)) = some (some (.int .u8 0), 1, 1) := by kernel_rfl
theorem infoI : (Try.prog.info? 3).map (fun i => (i.zero, i.size, i.bytes)) = some (some (.int .i64 0), 1, 8) := by kernel_rfl
theorem infoK : (Try.prog.info? 61).map (fun i => (i.zero, i.size, i.bytes)) = some (some (.agg Z16), 16, 16) := by kernel_rfl
theorem infoT : (Try.prog.info? 46).map (fun i => (i.zero, i.size, i.bytes)) = some (some (.agg #[.int .i64 0, .int .i64 0]), 2, 16) := by kernel_rfl
theorem box_below (w : World) (o : Obj) : Below w.heap.size w (w.alloc o) := (Below.refl _ _).alloc (Nat.le_refl _) _
theorem below_step {a b c : World} (h : Below a.heap.size a b) (k : Below b.heap.size b c) : Below a.heap.size a c := h.trans (k.mono h.size)
theorem box2 (w : World) (o1 o2 : Obj) : Below w.heap.size w ((w.alloc o1).alloc o2) := ((Below.refl _ _).alloc (Nat.le_refl _) _).alloc (by simp) _
theorem blk_alloc {w : World} {q : Nat} {o : Obj} (h : w.heap[q]? = some o) (o' : Obj) : (w.alloc o').heap[q]? = some o := ((box_below w o').block q (Array.getElem?_eq_some_iff.1 h).1).trans h
theorem blk_lt {w : World} {q : Nat} {o : Obj} (h : w.heap[q]? = some o) : q < w.heap.size := (Array.getElem?_eq_some_iff.1 h).1
theorem blk_below {w w' : World} {q : Nat} {o : Obj} (h : w.heap[q]? = some o) (hb : Below w.heap.size w w') : w'.heap[q]? = some o := (hb.block q (blk_lt h)).trans h
/-- Two boxes, one behind the other. -/
theorem two_box (w : World) (o1 o2 : Obj) : ∃ w2, w2 = (w.alloc o1).alloc o2 ∧ Below w.heap.size w w2 ∧ w2.heap[w.heap.size]? = some o1 ∧ w2.heap[w.heap.size + 1]? = some o2 ∧ w2.heap.size = w.heap.size + 2 :=
  ⟨_, rfl, box2 w o1 o2, blk_alloc (new_block w o1) o2, by have := new_block (w.alloc o1) o2; simpa using this, by simp⟩
/-- Cells are laid into a box of the call's own. -/
structure Wr (r : Nat) (w w' : World) : Prop where
  below : Below r w w'
  rest : ∀ k, k ≠ r → w'.heap[k]? = w.heap[k]?
theorem Wr.refl (r : Nat) (w : World) : Wr r w w := ⟨Below.refl _ _, fun _ _ => rfl⟩
theorem Wr.set {r : Nat} {w w' : World} (h : Wr r w w') (j : Nat) (v : Value) : Wr r w (w'.setCell ⟨r, j, none⟩ v) :=
  ⟨h.below.setCell (Nat.le_refl r) v, fun k hk => (Go.Deep.blk_setCell_other w' _ _ k hk).trans (h.rest k hk)⟩
theorem Wr.gb {r : Nat} {w w' : World} (h : Wr r w w') : w.grownBy w' (some r) := ⟨h.below.os, h.below.tape, h.below.output, h.below.size, fun k _ hk => h.rest k (by simpa using hk)⟩
def setRow (r : Nat) : World → Nat → List Value → World
  | w, _, [] => w
  | w, j, v :: vs => setRow r (w.setCell ⟨r, j, none⟩ v) (j + 1) vs
theorem setRow_any {r : Nat} {t : TypeId} : ∀ (vs : List Value) {w0 w : World} (j : Nat) (pre rest : List Value), Wr r w0 w → pre.length = j → rest.length = vs.length → w.heap[r]? = some (.cells (pre ++ rest).toArray t (0, 0)) →
    Wr r w0 (setRow r w j vs) ∧ (setRow r w j vs).heap[r]? = some (.cells (pre ++ vs).toArray t (0, 0))
  | [], w0, w, j, pre, rest, hw, _, hl, hb => by
    have : rest = [] := List.eq_nil_of_length_eq_zero hl
    subst this
    exact ⟨hw, hb⟩
  | v :: vs, w0, w, j, pre, rest, hw, hj, hl, hb => by
    cases rest with
    | nil => simp at hl
    | cons x rest =>
      have h1 := heap_setCell_same w r j _ t v hb
      have e : (pre ++ x :: rest).toArray.setIfInBounds j v = ((pre ++ [v]) ++ rest).toArray := by
        apply Array.ext'
        simp [hj.symm]
      rw [e] at h1
      have := setRow_any vs (j + 1) (pre ++ [v]) rest (hw.set j v) (by simp [hj]) (by simpa using hl) h1
      rw [List.append_assoc] at this
      exact this
theorem gb_below {w w' : World} (h : Below w.heap.size w w') (row : Option Nat) : w.grownBy w' row := ⟨h.os, h.tape, h.output, h.size, fun k hk _ => h.block k hk⟩
theorem gb_trans {a b c : World} {x : Nat} (h : a.grownBy b (some x)) (k : b.grownBy c (some x)) : a.grownBy c (some x) := h.andThen k (fun _ hj => .inr hj)
theorem gb_drew {w : World} {row : Option Nat} : w.grownBy w.drew row := ⟨rfl, rfl, rfl, Nat.le_refl _, fun _ _ _ => rfl⟩
theorem gb_to {w w' : World} {x B : Nat} (h : w.grownBy w' (some x)) (hx : B ≤ x) (hw : B ≤ w.heap.size) : Below B w w' := ⟨h.os, h.tape, h.output, h.size, fun k hk => h.block k (by omega) (by simp; omega)⟩
theorem gb_cells {w w' : World} {x k : Nat} (h : w.grownBy w' (some x)) (hk : k ≠ x) {o : Obj} (ho : w.heap[k]? = some o) : w'.heap[k]? = some o := (h.block k (Array.getElem?_eq_some_iff.1 ho).1 (by simpa using hk)).trans ho
theorem own_new {w : World} {g e sz n base : Nat} {cs : Array Value} (h : w.heap[g]? = some (.cells cs e (0, 0))) (hb : base ≤ g) (hn : n ≤ maxLen) (hs : cs.size = n * sz) : w.ownsRow base e sz (.slice (some ⟨g, 0, none⟩) n n) n cs.toList :=
  ⟨by simpa using hs, .inr ⟨g, n, cs, rfl, hb, h, Nat.le_refl _, hn, hs, by rw [List.take_of_length_le (by simp [hs])]⟩⟩
/-- Memory holds a list, each of its elements in cells that stand in a row. -/
structure Rd {α : Type} (cell : α → List Value) (sz : Nat) (w : World) (A : Option Addr) (n : Nat) (l : List α) : Prop where
  len : l.length = n
  cells : 0 < n → ∃ b off, A = some ⟨b, off, none⟩ ∧ ∀ i (hi : i < l.length) j v, (cell l[i])[j]? = some v → w.cell? ⟨b, off + i * sz + j, none⟩ = some v
theorem Rd.below {α : Type} {cell : α → List Value} {sz : Nat} {w w' : World} {A : Option Addr} {n : Nat} {l : List α} (h : Rd cell sz w A n l) (hb : Below w.heap.size w w') : Rd cell sz w' A n l := by
  refine ⟨h.len, fun hn => ?_⟩
  obtain ⟨b, off, e, hc⟩ := h.cells hn
  refine ⟨b, off, e, fun i hi j v hv => ?_⟩
  have hx := hc i hi j v hv
  exact (hb.cell (p := ⟨b, off + i * sz + j, none⟩) (cell_lt hx)).trans hx
theorem Rd.at {α : Type} {cell : α → List Value} {sz : Nat} {w : World} {A : Option Addr} {n : Nat} {l : List α} (h : Rd cell sz w A n l) {k : Nat} (hk : k < n) :
    ∃ b off x, A = some ⟨b, off, none⟩ ∧ l[k]? = some x ∧ ∀ j v, (cell x)[j]? = some v → w.cell? ⟨b, off + k * sz + j, none⟩ = some v := by
  obtain ⟨b, off, e, hc⟩ := h.cells (by omega)
  have hk' : k < l.length := by rw [h.len]; exact hk
  exact ⟨b, off, l[k], e, List.getElem?_eq_getElem hk', hc k hk'⟩
theorem Rd.nil {α : Type} (cell : α → List Value) (sz : Nat) (w : World) (A : Option Addr) : Rd cell sz w A 0 [] := ⟨rfl, fun h => absurd h (by omega)⟩
theorem Rd.of_own {α : Type} {cell : α → List Value} {sz : Nat} {w : World} {base e n c : Nat} {A : Option Addr} {l : List α} (h : w.ownsRow base e sz (.slice A n c) n (l.flatMap cell)) (hl : ∀ x ∈ l, (cell x).length = sz) (hs : 0 < sz) : Rd cell sz w A n l := by
  have hlen : l.length = n := by
    have := h.1
    rw [parts_length cell sz l hl] at this
    exact Nat.eq_of_mul_eq_mul_right hs this
  refine ⟨hlen, fun hn => ?_⟩
  obtain ⟨A', c', e', -, -, hA⟩ := own_form h
  obtain ⟨g, hg⟩ := hA hn
  injection e' with e1 _ e3
  subst e1 e3
  subst hg
  refine ⟨g, 0, rfl, fun i hi j v hv => ?_⟩
  have hj : j < sz := by
    have := (List.getElem?_eq_some_iff.1 hv).1
    rw [hl l[i] (List.getElem_mem hi)] at this
    exact this
  have := part_get cell sz l i hi hl j hj
  rw [hv] at this
  rw [Nat.zero_add]
  exact own_cell h (i * sz + j) v this
/-- A row, or a list that is read, is laid behind a row. -/
theorem run_append_rd {P : Program} {α : Type} {cell : α → List Value} (w : World) (base : Nat) (t ty e : TypeId) (i : TypeInfo) (z : Value) (size bytes : Nat) (ht : P.underlying t = some (.slice e)) (hi : P.info? e = some i) (hz : i.zero = some z)
    (hsize : i.size = size) (hby : i.bytes = bytes) (hzs : z.cells.size = size) (hsz : 0 < size) (v : Value) (n : Nat) (xs : List Value) (hown : w.ownsRow base e size v n xs) (A : Option Addr) (m c : Nat) (l : List α) (hr : Rd cell size w A m l)
    (hl : ∀ x ∈ l, (cell x).length = size) (h1 : ∀ x, ∀ u ∈ cell x, u.oneCell' = true) (hA : A = none → c = 0) (h63 : n + m ≤ maxLen) (hbytes : (n + m) * bytes ≤ 140737488355328) (hbase : base ≤ w.heap.size) :
    ∃ v' w', (Builtin.append_ #[t, t] ty #[v, .slice A m c]).run P w = .ok v' w' ∧ w'.ownsRow base e size v' (n + m) (xs ++ l.flatMap cell) ∧ w.grownBy w' v.ownBlock := by
  have hlen : (l.flatMap cell).length = m * size := by rw [parts_length cell size l hl, hr.len]
  have hone : ∀ u ∈ l.flatMap cell, u.oneCell' = true := fun u hu => by
    obtain ⟨x, _, hx⟩ := List.mem_flatMap.1 hu
    exact h1 x u hx
  have hcells : 0 < m → ∃ a, A = some a ∧ ∀ j u, (l.flatMap cell)[j]? = some u → w.cell? (a.add j) = some u := fun hm => by
    obtain ⟨b, off, e, hc⟩ := hr.cells hm
    refine ⟨_, e, fun j u hu => ?_⟩
    have hj : j < (l.flatMap cell).length := (List.getElem?_eq_some_iff.1 hu).1
    have hd : j / size < l.length := by rw [hr.len]; exact Nat.div_lt_of_lt_mul (by rw [Nat.mul_comm]; omega)
    have hm' : j % size < size := Nat.mod_lt _ hsz
    have hsplit : j = j / size * size + j % size := by rw [Nat.mul_comm]; exact (Nat.div_add_mod j size).symm
    have := part_get cell size l (j / size) hd hl (j % size) hm'
    rw [← hsplit, hu] at this
    have h2 := hc (j / size) hd (j % size) u this.symm
    rw [Go.WideShapes.add_plain]
    rw [Nat.add_assoc, ← hsplit] at h2
    exact h2
  rcases Nat.eq_zero_or_pos m with h0 | h0
  · subst h0
    have hn : l = [] := List.eq_nil_of_length_eq_zero hr.len
    subst hn
    have hv : ∃ b s c', v = .slice b s c' ∧ s ≤ c' := by
      rcases hown.2 with ⟨rfl, _⟩ | ⟨g, cap, cur, rfl, _, _, hle, _⟩
      · exact ⟨none, 0, 0, rfl, Nat.le_refl _⟩
      · exact ⟨_, n, cap, rfl, hle⟩
    obtain ⟨b, s, c', rfl, hle⟩ := hv
    have hs : Src P i.size t (.slice A 0 c) 0 [] w := by
      cases A with
      | none => exact Src.ofNil w ht c
      | some a => exact Src.ofSlice w ht a 0 c [] (by simp) (fun j u hu => by simp at hu) (fun u hu => by cases hu)
    exact ⟨_, w, run_append_nothing w t t ty e i ht hi b s c' hle _ hs, by simpa using hown, World.grownBy.refl w _⟩
  · obtain ⟨a, rfl, hc⟩ := hcells h0
    obtain ⟨v', w', hrun, g2, g3, _⟩ := run_append_own (P := P) w base t ty e i z size bytes ht hi hz hsize hby hzs hsz v n xs hown a m c (l.flatMap cell) hlen hc hone h63 hbytes hbase
    exact ⟨v', w', hrun, g2, g3⟩
theorem wpList_append_rd {P : Program} {α : Type} {cell : α → List Value} {w : World} {ops : Array Oper} {rest : List Oper} {o : Oper} {a : Act} {Q : Exit → Act → World → Prop} (hgd : o.guard = none) (s x : Operand) (t : TypeId)
    (ho : o.op = .call { callee := .builtin .append, args := #[s, x], argTypes := #[t, t] }) (base : Nat) (e : TypeId) (i : TypeInfo) (z : Value) (size bytes : Nat) (ht : P.underlying t = some (.slice e)) (hi : P.info? e = some i) (hz : i.zero = some z)
    (hsize : i.size = size) (hby : i.bytes = bytes) (hzs : z.cells.size = size) (hsz : 0 < size) (v : Value) (n : Nat) (xs : List Value) (hs : a.eval s = v) (hown : w.ownsRow base e size v n xs) (A : Option Addr) (m c : Nat) (l : List α) (hx : a.eval x = .slice A m c) (hr : Rd cell size w A m l)
    (hl : ∀ x ∈ l, (cell x).length = size) (h1 : ∀ x, ∀ u ∈ cell x, u.oneCell' = true) (hA : A = none → c = 0) (h63 : n + m ≤ maxLen) (hbytes : (n + m) * bytes ≤ 140737488355328) (hbase : base ≤ w.heap.size)
    (h : ∀ v' w', w'.ownsRow base e size v' (n + m) (xs ++ l.flatMap cell) → w.grownBy w' v.ownBlock → wpList P ops Q rest (a.put o.dst v') w') : wpList P ops Q (o :: rest) a w := by
  refine wpList_plain hgd fun K hK => ?_
  obtain ⟨v', w', hr', h2, h3⟩ := run_append_rd (P := P) w base t o.type e i z size bytes ht hi hz hsize hby hzs hsz v n xs hown A m c l hr hl h1 hA h63 hbytes hbase
  unfold Oper.wp execOp
  simp only [ho, resolve, invoke, builtin, Sem.run_bind, Sem.run_pure, Result.andThen_ok, List.map_toArray, List.map_cons, List.map_nil, hs, hx, hr']
  exact hK _ _ (h v' w' h2 h3)
theorem own_gb {w w' : World} {base e sz n x : Nat} {v : Value} {xs : List Value} (h : w.ownsRow base e sz v n xs) (hg : w.grownBy w' (some x)) (hne : v.ownBlock ≠ some x) : w'.ownsRow base e sz v n xs := by
  refine ⟨h.1, ?_⟩
  rcases h.2 with hn | ⟨g, cap, cur, rfl, hbg, hgc, rest⟩
  · exact .inl hn
  · exact .inr ⟨g, cap, cur, rfl, hbg, gb_cells hg (fun e => hne (by rw [← e]; rfl)) hgc, rest⟩
theorem own_gb' {w w' : World} {base e sz n : Nat} {v u : Value} {xs : List Value} (h : w.ownsRow base e sz v n xs) (hg : w.grownBy w' u.ownBlock) (hne : ∀ k, u.ownBlock = some k → v.ownBlock ≠ some k) : w'.ownsRow base e sz v n xs := by
  rcases hu : u.ownBlock with _ | k
  · rw [hu] at hg; exact own_below h ⟨hg.os, hg.tape, hg.output, hg.size, fun k hk => hg.block k hk (by simp)⟩
  · rw [hu] at hg; exact own_gb h hg (hne k hu)
/-- Two rows of other elements lie in other blocks. -/
theorem own_apart {w : World} {b1 e1 s1 n1 b2 e2 s2 n2 : Nat} {v u : Value} {xs ys : List Value} (h : w.ownsRow b1 e1 s1 v n1 xs) (k : w.ownsRow b2 e2 s2 u n2 ys) (hne : e1 ≠ e2) : ∀ j, u.ownBlock = some j → v.ownBlock ≠ some j := fun j hj => by
  rcases k.2 with ⟨rfl, _⟩ | ⟨g, cap, cur, rfl, _, hg, _⟩
  · simp [Value.ownBlock] at hj
  · simp only [Value.ownBlock, Option.some.injEq] at hj
    subst hj
    exact own_ne h hg (Ne.symm hne)
theorem gb_own {w w' : World} {base e sz n B : Nat} {v : Value} {xs : List Value} (h : w.ownsRow base e sz v n xs) (hg : w.grownBy w' v.ownBlock) (hB : B ≤ base) (hw : B ≤ w.heap.size) : Below B w w' :=
  ⟨hg.os, hg.tape, hg.output, hg.size, fun k hk => hg.block k (by omega) (fun e => by have := own_ge h k e.symm; omega)⟩
theorem part_set {α : Type} (f : α → List Value) (m : Nat) : ∀ (l : List α) (k : Nat) (_ : k < l.length) (y : α), (∀ x ∈ l, (f x).length = m) → (f y).length = m → splice (l.flatMap f) (k * m) (f y) = (l.set k y).flatMap f
  | x :: l, 0, _, y, h, hy => by
    have hx := h x (by simp)
    simp only [splice, Nat.zero_mul, List.take_zero, List.nil_append, Nat.zero_add, List.flatMap_cons, List.set_cons_zero]
    rw [List.drop_append, List.drop_eq_nil_of_le (by omega), List.nil_append, hx, hy, Nat.sub_self, List.drop_zero]
  | x :: l, k + 1, hk, y, h, hy => by
    have hx := h x (by simp)
    have ih := part_set f m l k (by simpa using hk) y (fun z hz => h z (by simp [hz])) hy
    simp only [List.set_cons_succ, List.flatMap_cons]
    rw [← ih]
    have e1 : (k + 1) * m = (f x).length + k * m := by rw [hx, Nat.succ_mul]; omega
    simp only [splice]
    rw [e1, List.take_append, List.take_of_length_le (by omega), Nat.add_sub_cancel_left, List.append_assoc, Nat.add_assoc, List.drop_append, List.drop_eq_nil_of_le (by omega), List.nil_append, Nat.add_sub_cancel_left]

theorem setCells_grown {g : Nat} : ∀ (vs : List Value) (o : Nat) (w : World), w.grownBy (w.setCells g o vs) (some g)
  | [], _, w => World.grownBy.refl w _
  | v :: vs, o, w => by
    have h1 : w.grownBy (w.setCell ⟨g, o, none⟩ v) (some g) := ⟨rfl, rfl, rfl, by rw [Go.Deep.nblk_setCell]; exact Nat.le_refl _, fun k _ hk => Go.Deep.blk_setCell_other w _ _ k (by intro e; apply hk; rw [e])⟩
    have h2 := setCells_grown (g := g) vs (o + 1) (w.setCell ⟨g, o, none⟩ v)
    exact ⟨h2.os.trans h1.os, h2.tape.trans h1.tape, h2.output.trans h1.output, Nat.le_trans h1.size h2.size, fun k hk hn => (h2.block k (Nat.lt_of_lt_of_le hk h1.size) hn).trans (h1.block k hk hn)⟩
theorem setCells_block {g t : Nat} {fr : Nat × Nat} : ∀ (vs : List Value) (o : Nat) (w : World) (cur : Array Value), w.heap[g]? = some (.cells cur t fr) → o + vs.length ≤ cur.size → (w.setCells g o vs).heap[g]? = some (.cells (splice cur.toList o vs).toArray t fr)
  | [], o, w, cur, h, _ => by
    have : splice cur.toList o [] = cur.toList := by simp [splice]
    rw [this]; simpa [World.setCells] using h
  | v :: vs, o, w, cur, h, hl => by
    have h1 : (w.setCell ⟨g, o, none⟩ v).heap[g]? = some (.cells (cur.setIfInBounds o v) t fr) := by
      simp only [World.setCell, Array.getElem?_modify, h]
      simp
    have h2 := setCells_block vs (o + 1) _ _ h1 (by rw [Array.size_setIfInBounds]; simp at hl; omega)
    refine (show ((w.setCell ⟨g, o, none⟩ v).setCells g (o + 1) vs).heap[g]? = _ from h2).trans ?_
    congr 2
    have hlt : o < cur.size := by simp at hl; omega
    have : splice (cur.setIfInBounds o v).toList (o + 1) vs = splice cur.toList o (v :: vs) := by
      have hlt' : o < cur.toList.length := by rw [Array.length_toList]; exact hlt
      have e1 : (cur.toList.set o v).take (o + 1) = cur.toList.take o ++ [v] := by
        rw [List.take_succ_eq_append_getElem (by rw [List.length_set]; exact hlt'), List.getElem_set_self, List.take_set_of_le (Nat.le_refl _)]
      have e2 : (cur.toList.set o v).drop (o + 1 + vs.length) = cur.toList.drop (o + (v :: vs).length) := by
        rw [List.drop_set_of_lt (by omega), List.length_cons]
        congr 1
        omega
      rw [Array.toList_setIfInBounds]
      unfold splice
      rw [e1, e2, List.append_assoc]
      rfl
    rw [this]
theorem own_at {w : World} {B e size n g c : Nat} {xs : List Value} (h : w.ownsRow B e size (.slice (some ⟨g, 0, none⟩) n c) n xs) : ∃ cur, w.heap[g]? = some (.cells cur e (0, 0)) ∧ B ≤ g ∧ n ≤ c ∧ c ≤ maxLen ∧ cur.size = c * size ∧ cur.toList.take (n * size) = xs ∧ xs.length = n * size := by
  rcases h.2 with ⟨h0, _⟩ | ⟨g', cap, cur', e1, hbg, hgg, hnc, hcm, hcs, ht⟩
  · cases h0
  · simp only [Value.slice.injEq, Option.some.injEq, Addr.mk.injEq] at e1
    obtain ⟨⟨rfl, _⟩, _, rfl⟩ := e1
    exact ⟨cur', hgg, hbg, hnc, hcm, hcs, ht, h.1⟩
theorem own_set_cells {w : World} {B e size n g c : Nat} {xs : List Value} (h : w.ownsRow B e size (.slice (some ⟨g, 0, none⟩) n c) n xs) (off : Nat) (vs : List Value) (hf : off + vs.length ≤ n * size) :
    (w.setCells g off vs).ownsRow B e size (.slice (some ⟨g, 0, none⟩) n c) n (splice xs off vs) := by
  obtain ⟨cur, hg, hB, hnc, hcm, hcs, ht, hx⟩ := own_at h
  have hle : n * size ≤ c * size := Nat.mul_le_mul_right _ hnc
  have hcl : cur.toList.length = c * size := by rw [Array.length_toList]; exact hcs
  have hb := setCells_block (fr := (0, 0)) vs off w cur hg (by omega)
  refine ⟨by rw [length_splice _ _ _ (by omega)]; exact hx, .inr ⟨g, c, _, rfl, hB, hb, hnc, hcm, by rw [List.size_toArray, length_splice _ _ _ (by omega)]; exact hcl, ?_⟩⟩
  show (splice cur.toList off vs).take (n * size) = splice xs off vs
  rw [← ht]
  unfold splice
  rw [List.take_append, List.length_take, Nat.min_eq_left (by omega), List.take_take, Nat.min_eq_right (by omega), List.take_append, List.take_of_length_le (show vs.length ≤ n * size - off by omega), List.take_take, Nat.min_eq_left (by omega), List.drop_take]
  congr 3
  omega
theorem own_short {w : World} {B e size n m g c : Nat} {xs : List Value} (h : w.ownsRow B e size (.slice (some ⟨g, 0, none⟩) n c) n xs) (hm : m ≤ n) : w.ownsRow B e size (.slice (some ⟨g, 0, none⟩) m c) m (xs.take (m * size)) := by
  obtain ⟨cur, hg, hB, hnc, hcm, hcs, ht, hx⟩ := own_at h
  have hle : m * size ≤ n * size := Nat.mul_le_mul_right _ hm
  refine ⟨by rw [List.length_take]; omega, .inr ⟨g, c, cur, rfl, hB, hg, by omega, hcm, hcs, ?_⟩⟩
  rw [← ht, List.take_take, Nat.min_eq_left hle]
theorem own_cap {w : World} {base e sz n c : Nat} {A : Option Addr} {xs : List Value} (h : w.ownsRow base e sz (.slice A n c) n xs) (hA : A = none) : c = 0 := by
  rcases h.2 with ⟨e1, _⟩ | ⟨g, cap, cur, e1, _⟩
  · injection e1
  · subst hA
    injection e1 with e1 _ _
    cases e1
/-- A copy of elements of any size: all is read before anything is written. -/
theorem run_copy_size {P : Program} (w : World) (dT sT ty elem : TypeId) (b o dLen dCap : Nat) (a : Addr) (sLen sCap sz : Nat) (cs : List Value)
    (hu : P.underlying dT = some (.slice elem)) (hs : (P.info? elem).map (·.size) = some sz) (hn : cs.length = Nat.min sLen dLen * sz)
    (hsrc : ∀ j v, cs[j]? = some v → w.cell? (a.add j) = some v) (hc : ∀ j, j < cs.length → (w.cell? ⟨b, o + j, none⟩).isSome = true) (hf : ∀ j, j < cs.length → w.frozen? ⟨b, o + j, none⟩ = false) (h1 : ∀ v ∈ cs, v.oneCell' = true) :
    (Builtin.copy_ #[dT, sT] ty #[.slice (some ⟨b, o, none⟩) dLen dCap, .slice (some a) sLen sCap]).run P w = .ok (goInt (Nat.min sLen dLen)) (w.setCells b o cs) := by
  have hl := run_loadCells_list (P := P) w a cs hsrc
  have hst := run_storeCells_cells (P := P) b o cs 0 w (by simpa using hc) (by simpa using hf) h1
  rw [Nat.add_zero] at hst
  cases hq : P.info? elem with
  | none => simp [hq] at hs
  | some i =>
    have hi : i.size = sz := by simpa [hq] using hs
    rw [hn] at hl
    simp [Builtin.copy_, run_underlying hu, Builtin.lenOf, Builtin.firstCells, sizeOf, typeInfo, hq, hi, hl, hst]
/-- Bytes that read. -/
def Reads (w : World) (ad : Option Addr) (len : Nat) (zs : List Int) : Prop :=
  zs.length = len ∧ (0 < len → ∃ b off, ad = some ⟨b, off, none⟩ ∧ ∀ i, i < len → w.cell? ⟨b, off + i, none⟩ = some (.int .u8 (zs.getD i 0))) ∧ ∀ k, 0 ≤ zs.getD k 0 ∧ zs.getD k 0 ≤ 255
/-- What is read as bytes. -/
theorem rd_reads {w : World} {A : Option Addr} {n : Nat} {b : List UInt8} (h : Rd bcell 1 w A n b) : Reads w A n (b.map (fun x => (x.toNat : Int))) := by
  refine ⟨by rw [List.length_map]; exact h.len, fun hn => ?_, ?_⟩
  · obtain ⟨bl, off, e, hc⟩ := h.cells hn
    refine ⟨bl, off, e, fun i hi => ?_⟩
    have hi' : i < b.length := by rw [h.len]; exact hi
    have := hc i hi' 0 _ rfl
    rw [Nat.mul_one, Nat.add_zero] at this
    rw [this, List.getD_eq_getElem?_getD, List.getElem?_map, List.getElem?_eq_getElem hi']
    rfl
  · intro k
    rw [List.getD_eq_getElem?_getD, List.getElem?_map]
    rcases hk : b[k]? with _ | x
    · simp
    · have := x.toNat_lt
      simp
      omega
end Go.Proofs.Ytoallenigfbkpaa
