/-
  Words for memory: rows of the call's own, lists that are read, numbers, marks and entries as cells. No condition.
-/
import Derived.Test.YtbgobchmkohhnaaRMath
import Derived.Test.YtbgobchmkohhnaaRows
import Derived.WalkKit
import Derived.ProofKit
import Derived.OpenShut
import Derived.Lib.Hide
import Derived.Outline
import Derived.Below
import Derived.OwnWalk
import Derived.OneCell
import Derived.Deep.LoopGhost
import Derived.Deep.Draws
import Derived.Deep.Slices
import Derived.Deep.MidRow
import Derived.Deep.Heap
import Derived.RegionTactic
import Derived.Deep.RegionHeld3
import Derived.StillTailTactics
import Derived.BigQuiet
import Derived.Deep.QuietTactic
import Derived.IntWalk
import Derived.Laws.AppendOwnNone
import Derived.Laws.StructEq
import Derived.Laws.CopyOwn
import Derived.Lib.MinMax
import Derived.Lib.SliceRun
import Derived.Deep.AppendLies
import Derived.Deep.DeepCutAuto
import Derived.Maps.AppendAt
import Derived.Maps.Range
import Derived.Deep.AppendSrc
import Derived.Deep.Upon
namespace Go.Proofs.Ytbgobchmkohhnaa
set_option maxRecDepth 100000
open Go.ChangeShapes Go.WideShapes Go.ChangeAt Go.RowKit Go.Proofs.Rk

theorem cell_lt {w : World} {b : Nat} {o : Nat} {v : Value} (h : w.cell? ⟨b, o, none⟩ = some v) : b < w.heap.size := by
  rcases Nat.lt_or_ge b w.heap.size with h' | h'
  · exact h'
  · simp [World.cell?, Array.getElem?_eq_none h'] at h
theorem below_drewN {B : Nat} {a w : World} (h : Below B a w) (n : Nat) : Below B a (w.drewN n) := ⟨h.os, h.tape, h.output, h.size, h.block⟩
theorem new_block (w : World) (o : Obj) : (w.alloc o).heap[w.heap.size]? = some o := heap_alloc_new w o

/-! ### Rows of the call's own -/
theorem own_ge {w : World} {base e size n : Nat} {v : Value} {xs : List Value} (h : w.ownsRow base e size v n xs) : ∀ k, v.ownBlock = some k → base ≤ k := fun k hk => (h.lt k hk).1
theorem own_base {w : World} {b b' e size n : Nat} {v : Value} {xs : List Value} (h : w.ownsRow b e size v n xs) (hb : b' ≤ b) : w.ownsRow b' e size v n xs := by
  refine ⟨h.1, ?_⟩
  rcases h.2 with hn | ⟨g, cap, cur, rfl, hbg, rest⟩
  · exact .inl hn
  · exact .inr ⟨g, cap, cur, rfl, by omega, rest⟩
theorem own_below {w w' : World} {base e size n : Nat} {v : Value} {xs : List Value} (h : w.ownsRow base e size v n xs) (hb : Below w.heap.size w w') : w'.ownsRow base e size v n xs := by
  refine ⟨h.1, ?_⟩
  rcases h.2 with hn | ⟨g, cap, cur, rfl, hbg, hg, rest⟩
  · exact .inl hn
  · exact .inr ⟨g, cap, cur, rfl, hbg, (hb.block g (Array.getElem?_eq_some_iff.1 hg).1).trans hg, rest⟩
theorem own_ne {w : World} {base e size n : Nat} {v : Value} {xs : List Value} (h : w.ownsRow base e size v n xs) {k : Nat} {cs : Array Value} {t : TypeId} {fr : Nat × Nat} (hk : w.heap[k]? = some (.cells cs t fr)) (ht : t ≠ e) : v.ownBlock ≠ some k := by
  intro e'
  rcases h.2 with ⟨rfl, _⟩ | ⟨g, cap, cur, rfl, _, hg, _⟩
  · simp [Value.ownBlock] at e'
  · simp only [Value.ownBlock, Option.some.injEq] at e'
    subst e'
    rw [hk] at hg
    injection hg with hg
    injection hg with _ h2
    exact ht h2
/-- A row is a slice; where it has an element it has a block. -/
theorem own_form {w : World} {base e size n : Nat} {v : Value} {xs : List Value} (h : w.ownsRow base e size v n xs) : ∃ A c, v = .slice A n c ∧ n ≤ c ∧ c ≤ maxLen ∧ (0 < n → ∃ g, A = some ⟨g, 0, none⟩) := by
  rcases h.2 with ⟨rfl, rfl⟩ | ⟨g, cap, cur, rfl, hbg, hg, hn, hc, hs, ht⟩
  · exact ⟨none, 0, rfl, by omega, by unfold maxLen; omega, fun h => absurd h (by omega)⟩
  · exact ⟨_, cap, rfl, hn, hc, fun _ => ⟨g, rfl⟩⟩
theorem own_cell {w : World} {base e size n g c : Nat} {xs : List Value} (h : w.ownsRow base e size (.slice (some ⟨g, 0, none⟩) n c) n xs) (j : Nat) (v : Value) (hv : xs[j]? = some v) : w.cell? ⟨g, j, none⟩ = some v := by
  have := h.cells (g := g) rfl j v hv
  rwa [Go.WideShapes.add_plain, Nat.zero_add] at this
/-- A list of parts of one length: its k-th part. -/
theorem part_at {α : Type} (f : α → List Value) (m : Nat) : ∀ (l : List α) (k : Nat) (hk : k < l.length), (∀ x ∈ l, (f x).length = m) → ((l.flatMap f).drop (k * m)).take m = f l[k]
  | x :: l, 0, _, h => by
    rw [Nat.zero_mul, List.drop_zero, List.flatMap_cons, List.take_append_of_le_length (by rw [h x (by simp)]; exact Nat.le_refl _), List.take_of_length_le (by rw [h x (by simp)]; exact Nat.le_refl _)]; rfl
  | x :: l, k + 1, hk, h => by
    have hx := h x (by simp)
    rw [List.flatMap_cons, show (k + 1) * m = (f x).length + k * m by rw [hx, Nat.succ_mul]; omega, List.drop_append, List.drop_eq_nil_of_le (by omega), List.nil_append, Nat.add_sub_cancel_left]
    exact part_at f m l k (by simpa using hk) (fun y hy => h y (by simp [hy]))
theorem part_get {α : Type} (f : α → List Value) (m : Nat) (l : List α) (k : Nat) (hk : k < l.length) (h : ∀ x ∈ l, (f x).length = m) (j : Nat) (hj : j < m) : (l.flatMap f)[k * m + j]? = (f l[k])[j]? := by
  rw [← part_at f m l k hk h, List.getElem?_take, if_pos hj, List.getElem?_drop]
theorem parts_length {α : Type} (f : α → List Value) (m : Nat) : ∀ (l : List α), (∀ x ∈ l, (f x).length = m) → (l.flatMap f).length = l.length * m
  | [], _ => by simp
  | x :: l, h => by
    rw [List.flatMap_cons, List.length_append, h x (by simp), parts_length f m l (fun y hy => h y (by simp [hy])), List.length_cons, Nat.succ_mul]; omega
theorem ret_b {a b : Bool} (h : a = b) : Ending.returned (.bool a) = Ending.returned (.bool b) := by rw [h]
theorem ret_i {a b : Int} (h : a = b) : Ending.returned (.int .i64 a) = Ending.returned (.int .i64 b) := by rw [h]
theorem cell_of {w : World} {p j : Nat} {cs : Array Value} {t : TypeId} {v : Value} (h : w.heap[p]? = some (.cells cs t (0, 0))) (hv : cs[j]? = some v) : w.cell? ⟨p, j, none⟩ = some v := by
  rw [cell_of_row w p j cs t _ h]; exact hv
theorem getD_eq {α : Type} {l : List α} {k : Nat} (d : α) (h : k < l.length) : l.getD k d = l[k] := by
  rw [List.getD_eq_getElem?_getD, List.getElem?_eq_getElem h]; rfl

/-! ### Numbers, marks, entries as cells -/
def icell (n : Int) : List Value := [.int .i64 n]
def icells (l : List Int) : List Value := l.flatMap icell
theorem icells_length (l : List Int) : (icells l).length = l.length * 1 := parts_length icell 1 l (fun _ _ => rfl)
theorem icells_map (l : List Int) : icells l = l.map (Value.int .i64) := by
  unfold icells
  induction l with
  | nil => rfl
  | cons x l ih => rw [List.flatMap_cons, List.map_cons, ih]; rfl
theorem icell_one (x : Int) : ∀ u ∈ icell x, u.oneCell' = true := fun u hu => by
  simp only [icell, List.mem_cons, List.not_mem_nil, or_false] at hu
  rcases hu with rfl <;> rfl
def mcell (x : Mk) : List Value := [.int .i64 x.v, .int .i64 x.n]
def ecell (x : En) : List Value := [.int .i64 x.v, .int .i64 x.n, .string x.b]
theorem infoI : (Try.prog.info? 3).map (fun i => (i.zero, i.size, i.bytes)) = some (some (.int .i64 0), 1, 8) := by kernel_rfl
theorem box_below (w : World) (o : Obj) : Below w.heap.size w (w.alloc o) := (Below.refl _ _).alloc (Nat.le_refl _) _
theorem below_step {a b c : World} (h : Below a.heap.size a b) (k : Below b.heap.size b c) : Below a.heap.size a c := h.trans (k.mono h.size)
theorem box2 (w : World) (o1 o2 : Obj) : Below w.heap.size w ((w.alloc o1).alloc o2) := ((Below.refl _ _).alloc (Nat.le_refl _) _).alloc (by simp) _
theorem blk_alloc {w : World} {q : Nat} {o : Obj} (h : w.heap[q]? = some o) (o' : Obj) : (w.alloc o').heap[q]? = some o := ((box_below w o').block q (Array.getElem?_eq_some_iff.1 h).1).trans h
theorem blk_lt {w : World} {q : Nat} {o : Obj} (h : w.heap[q]? = some o) : q < w.heap.size := (Array.getElem?_eq_some_iff.1 h).1
theorem blk_below {w w' : World} {q : Nat} {o : Obj} (h : w.heap[q]? = some o) (hb : Below w.heap.size w w') : w'.heap[q]? = some o := (hb.block q (blk_lt h)).trans h
/-- Two boxes, one behind the other. -/
theorem two_box (w : World) (o1 o2 : Obj) : ∃ w2, w2 = (w.alloc o1).alloc o2 ∧ Below w.heap.size w w2 ∧ w2.heap[w.heap.size]? = some o1 ∧ w2.heap[w.heap.size + 1]? = some o2 ∧ w2.heap.size = w.heap.size + 2 :=
  ⟨_, rfl, box2 w o1 o2, blk_alloc (new_block w o1) o2, by have := new_block (w.alloc o1) o2; simpa using this, by simp⟩
/-- What is written into a box of the call's own. -/
structure Wr (r : Nat) (w w' : World) : Prop where
  below : Below r w w'
  rest : ∀ k, k ≠ r → w'.heap[k]? = w.heap[k]?
theorem Wr.refl (r : Nat) (w : World) : Wr r w w := ⟨Below.refl _ _, fun _ _ => rfl⟩
theorem Wr.set {r : Nat} {w w' : World} (h : Wr r w w') (j : Nat) (v : Value) : Wr r w (w'.setCell ⟨r, j, none⟩ v) :=
  ⟨h.below.setCell (Nat.le_refl r) v, fun k hk => (Go.Deep.blk_setCell_other w' _ _ k hk).trans (h.rest k hk)⟩
theorem Wr.gb {r : Nat} {w w' : World} (h : Wr r w w') : w.grownBy w' (some r) := ⟨h.below.os, h.below.tape, h.below.output, h.below.size, fun k _ hk => h.rest k (by simpa using hk)⟩
def setRow (r : Nat) : World → Nat → List Value → World
  | w, _, [] => w
  | w, j, v :: vs => setRow r (w.setCell ⟨r, j, none⟩ v) (j + 1) vs
theorem setRow_any {r : Nat} {t : TypeId} : ∀ (vs : List Value) {w0 w : World} (j : Nat) (pre rest : List Value), Wr r w0 w → pre.length = j → rest.length = vs.length → w.heap[r]? = some (.cells (pre ++ rest).toArray t (0, 0)) →
    Wr r w0 (setRow r w j vs) ∧ (setRow r w j vs).heap[r]? = some (.cells (pre ++ vs).toArray t (0, 0))
  | [], w0, w, j, pre, rest, hw, _, hl, hb => by
    have : rest = [] := List.eq_nil_of_length_eq_zero hl
    subst this
    exact ⟨hw, hb⟩
  | v :: vs, w0, w, j, pre, rest, hw, hj, hl, hb => by
    cases rest with
    | nil => simp at hl
    | cons x rest =>
      have h1 := heap_setCell_same w r j _ t v hb
      have e : (pre ++ x :: rest).toArray.setIfInBounds j v = ((pre ++ [v]) ++ rest).toArray := by
        apply Array.ext'
        simp [hj.symm]
      rw [e] at h1
      have := setRow_any vs (j + 1) (pre ++ [v]) rest (hw.set j v) (by simp [hj]) (by simpa using hl) h1
      rw [List.append_assoc] at this
      exact this
theorem gb_below {w w' : World} (h : Below w.heap.size w w') (row : Option Nat) : w.grownBy w' row := ⟨h.os, h.tape, h.output, h.size, fun k hk _ => h.block k hk⟩
theorem gb_trans {a b c : World} {x : Nat} (h : a.grownBy b (some x)) (k : b.grownBy c (some x)) : a.grownBy c (some x) := h.andThen k (fun _ hj => .inr hj)
theorem gb_drew {w : World} {row : Option Nat} : w.grownBy w.drew row := ⟨rfl, rfl, rfl, Nat.le_refl _, fun _ _ _ => rfl⟩
theorem gb_to {w w' : World} {x B : Nat} (h : w.grownBy w' (some x)) (hx : B ≤ x) (hw : B ≤ w.heap.size) : Below B w w' := ⟨h.os, h.tape, h.output, h.size, fun k hk => h.block k (by omega) (by simp; omega)⟩
theorem gb_cells {w w' : World} {x k : Nat} (h : w.grownBy w' (some x)) (hk : k ≠ x) {o : Obj} (ho : w.heap[k]? = some o) : w'.heap[k]? = some o := (h.block k (Array.getElem?_eq_some_iff.1 ho).1 (by simpa using hk)).trans ho
theorem own_new {w : World} {g e sz n base : Nat} {cs : Array Value} (h : w.heap[g]? = some (.cells cs e (0, 0))) (hb : base ≤ g) (hn : n ≤ maxLen) (hs : cs.size = n * sz) : w.ownsRow base e sz (.slice (some ⟨g, 0, none⟩) n n) n cs.toList :=
  ⟨by simpa using hs, .inr ⟨g, n, cs, rfl, hb, h, Nat.le_refl _, hn, hs, by rw [List.take_of_length_le (by simp [hs])]⟩⟩
/-- Memory holds a list, each of its elements in cells that stand in a row. -/
structure Rd {α : Type} (cell : α → List Value) (sz : Nat) (w : World) (A : Option Addr) (n : Nat) (l : List α) : Prop where
  len : l.length = n
  cells : 0 < n → ∃ b off, A = some ⟨b, off, none⟩ ∧ ∀ i (hi : i < l.length) j v, (cell l[i])[j]? = some v → w.cell? ⟨b, off + i * sz + j, none⟩ = some v
theorem Rd.below {α : Type} {cell : α → List Value} {sz : Nat} {w w' : World} {A : Option Addr} {n : Nat} {l : List α} (h : Rd cell sz w A n l) (hb : Below w.heap.size w w') : Rd cell sz w' A n l := by
  refine ⟨h.len, fun hn => ?_⟩
  obtain ⟨b, off, e, hc⟩ := h.cells hn
  refine ⟨b, off, e, fun i hi j v hv => ?_⟩
  have hx := hc i hi j v hv
  exact (hb.cell (p := ⟨b, off + i * sz + j, none⟩) (cell_lt hx)).trans hx
theorem Rd.at {α : Type} {cell : α → List Value} {sz : Nat} {w : World} {A : Option Addr} {n : Nat} {l : List α} (h : Rd cell sz w A n l) {k : Nat} (hk : k < n) :
    ∃ b off x, A = some ⟨b, off, none⟩ ∧ l[k]? = some x ∧ ∀ j v, (cell x)[j]? = some v → w.cell? ⟨b, off + k * sz + j, none⟩ = some v := by
  obtain ⟨b, off, e, hc⟩ := h.cells (by omega)
  have hk' : k < l.length := by rw [h.len]; exact hk
  exact ⟨b, off, l[k], e, List.getElem?_eq_getElem hk', hc k hk'⟩
theorem Rd.nil {α : Type} (cell : α → List Value) (sz : Nat) (w : World) (A : Option Addr) : Rd cell sz w A 0 [] := ⟨rfl, fun h => absurd h (by omega)⟩
theorem Rd.of_own {α : Type} {cell : α → List Value} {sz : Nat} {w : World} {base e n c : Nat} {A : Option Addr} {l : List α} (h : w.ownsRow base e sz (.slice A n c) n (l.flatMap cell)) (hl : ∀ x ∈ l, (cell x).length = sz) (hs : 0 < sz) : Rd cell sz w A n l := by
  have hlen : l.length = n := by
    have := h.1
    rw [parts_length cell sz l hl] at this
    exact Nat.eq_of_mul_eq_mul_right hs this
  refine ⟨hlen, fun hn => ?_⟩
  obtain ⟨A', c', e', -, -, hA⟩ := own_form h
  obtain ⟨g, hg⟩ := hA hn
  injection e' with e1 _ e3
  subst e1 e3
  subst hg
  refine ⟨g, 0, rfl, fun i hi j v hv => ?_⟩
  have hj : j < sz := by
    have := (List.getElem?_eq_some_iff.1 hv).1
    rw [hl l[i] (List.getElem_mem hi)] at this
    exact this
  have := part_get cell sz l i hi hl j hj
  rw [hv] at this
  rw [Nat.zero_add]
  exact own_cell h (i * sz + j) v this
/-- A row, or a list that is read, is laid behind a row. -/
theorem run_append_rd {P : Program} {α : Type} {cell : α → List Value} (w : World) (base : Nat) (t ty e : TypeId) (i : TypeInfo) (z : Value) (size bytes : Nat) (ht : P.underlying t = some (.slice e)) (hi : P.info? e = some i) (hz : i.zero = some z)
    (hsize : i.size = size) (hby : i.bytes = bytes) (hzs : z.cells.size = size) (hsz : 0 < size) (v : Value) (n : Nat) (xs : List Value) (hown : w.ownsRow base e size v n xs) (A : Option Addr) (m c : Nat) (l : List α) (hr : Rd cell size w A m l)
    (hl : ∀ x ∈ l, (cell x).length = size) (h1 : ∀ x, ∀ u ∈ cell x, u.oneCell' = true) (hA : A = none → c = 0) (h63 : n + m ≤ maxLen) (hbytes : (n + m) * bytes ≤ 140737488355328) (hbase : base ≤ w.heap.size) :
    ∃ v' w', (Builtin.append_ #[t, t] ty #[v, .slice A m c]).run P w = .ok v' w' ∧ w'.ownsRow base e size v' (n + m) (xs ++ l.flatMap cell) ∧ w.grownBy w' v.ownBlock := by
  have hlen : (l.flatMap cell).length = m * size := by rw [parts_length cell size l hl, hr.len]
  have hone : ∀ u ∈ l.flatMap cell, u.oneCell' = true := fun u hu => by
    obtain ⟨x, _, hx⟩ := List.mem_flatMap.1 hu
    exact h1 x u hx
  have hcells : 0 < m → ∃ a, A = some a ∧ ∀ j u, (l.flatMap cell)[j]? = some u → w.cell? (a.add j) = some u := fun hm => by
    obtain ⟨b, off, e, hc⟩ := hr.cells hm
    refine ⟨_, e, fun j u hu => ?_⟩
    have hj : j < (l.flatMap cell).length := (List.getElem?_eq_some_iff.1 hu).1
    have hd : j / size < l.length := by rw [hr.len]; exact Nat.div_lt_of_lt_mul (by rw [Nat.mul_comm]; omega)
    have hm' : j % size < size := Nat.mod_lt _ hsz
    have hsplit : j = j / size * size + j % size := by rw [Nat.mul_comm]; exact (Nat.div_add_mod j size).symm
    have := part_get cell size l (j / size) hd hl (j % size) hm'
    rw [← hsplit, hu] at this
    have h2 := hc (j / size) hd (j % size) u this.symm
    rw [Go.WideShapes.add_plain]
    rw [Nat.add_assoc, ← hsplit] at h2
    exact h2
  rcases Nat.eq_zero_or_pos m with h0 | h0
  · subst h0
    have hn : l = [] := List.eq_nil_of_length_eq_zero hr.len
    subst hn
    have hv : ∃ b s c', v = .slice b s c' ∧ s ≤ c' := by
      rcases hown.2 with ⟨rfl, _⟩ | ⟨g, cap, cur, rfl, _, _, hle, _⟩
      · exact ⟨none, 0, 0, rfl, Nat.le_refl _⟩
      · exact ⟨_, n, cap, rfl, hle⟩
    obtain ⟨b, s, c', rfl, hle⟩ := hv
    have hs : Src P i.size t (.slice A 0 c) 0 [] w := by
      cases A with
      | none => exact Src.ofNil w ht c
      | some a => exact Src.ofSlice w ht a 0 c [] (by simp) (fun j u hu => by simp at hu) (fun u hu => by cases hu)
    exact ⟨_, w, run_append_nothing w t t ty e i ht hi b s c' hle _ hs, by simpa using hown, World.grownBy.refl w _⟩
  · obtain ⟨a, rfl, hc⟩ := hcells h0
    obtain ⟨v', w', hrun, g2, g3, _⟩ := run_append_own (P := P) w base t ty e i z size bytes ht hi hz hsize hby hzs hsz v n xs hown a m c (l.flatMap cell) hlen hc hone h63 hbytes hbase
    exact ⟨v', w', hrun, g2, g3⟩
theorem wpList_append_rd {P : Program} {α : Type} {cell : α → List Value} {w : World} {ops : Array Oper} {rest : List Oper} {o : Oper} {a : Act} {Q : Exit → Act → World → Prop} (hgd : o.guard = none) (s x : Operand) (t : TypeId)
    (ho : o.op = .call { callee := .builtin .append, args := #[s, x], argTypes := #[t, t] }) (base : Nat) (e : TypeId) (i : TypeInfo) (z : Value) (size bytes : Nat) (ht : P.underlying t = some (.slice e)) (hi : P.info? e = some i) (hz : i.zero = some z)
    (hsize : i.size = size) (hby : i.bytes = bytes) (hzs : z.cells.size = size) (hsz : 0 < size) (v : Value) (n : Nat) (xs : List Value) (hs : a.eval s = v) (hown : w.ownsRow base e size v n xs) (A : Option Addr) (m c : Nat) (l : List α) (hx : a.eval x = .slice A m c) (hr : Rd cell size w A m l)
    (hl : ∀ x ∈ l, (cell x).length = size) (h1 : ∀ x, ∀ u ∈ cell x, u.oneCell' = true) (hA : A = none → c = 0) (h63 : n + m ≤ maxLen) (hbytes : (n + m) * bytes ≤ 140737488355328) (hbase : base ≤ w.heap.size)
    (h : ∀ v' w', w'.ownsRow base e size v' (n + m) (xs ++ l.flatMap cell) → w.grownBy w' v.ownBlock → wpList P ops Q rest (a.put o.dst v') w') : wpList P ops Q (o :: rest) a w := by
  refine wpList_plain hgd fun K hK => ?_
  obtain ⟨v', w', hr', h2, h3⟩ := run_append_rd (P := P) w base t o.type e i z size bytes ht hi hz hsize hby hzs hsz v n xs hown A m c l hr hl h1 hA h63 hbytes hbase
  unfold Oper.wp execOp
  simp only [ho, resolve, invoke, builtin, Sem.run_bind, Sem.run_pure, Result.andThen_ok, List.map_toArray, List.map_cons, List.map_nil, hs, hx, hr']
  exact hK _ _ (h v' w' h2 h3)
theorem own_gb {w w' : World} {base e sz n x : Nat} {v : Value} {xs : List Value} (h : w.ownsRow base e sz v n xs) (hg : w.grownBy w' (some x)) (hne : v.ownBlock ≠ some x) : w'.ownsRow base e sz v n xs := by
  refine ⟨h.1, ?_⟩
  rcases h.2 with hn | ⟨g, cap, cur, rfl, hbg, hgc, rest⟩
  · exact .inl hn
  · exact .inr ⟨g, cap, cur, rfl, hbg, gb_cells hg (fun e => hne (by rw [← e]; rfl)) hgc, rest⟩
theorem own_gb' {w w' : World} {base e sz n : Nat} {v u : Value} {xs : List Value} (h : w.ownsRow base e sz v n xs) (hg : w.grownBy w' u.ownBlock) (hne : ∀ k, u.ownBlock = some k → v.ownBlock ≠ some k) : w'.ownsRow base e sz v n xs := by
  rcases hu : u.ownBlock with _ | k
  · rw [hu] at hg; exact own_below h ⟨hg.os, hg.tape, hg.output, hg.size, fun k hk => hg.block k hk (by simp)⟩
  · rw [hu] at hg; exact own_gb h hg (hne k hu)
/-- Two rows of other elements lie in other blocks. -/
theorem own_apart {w : World} {b1 e1 s1 n1 b2 e2 s2 n2 : Nat} {v u : Value} {xs ys : List Value} (h : w.ownsRow b1 e1 s1 v n1 xs) (k : w.ownsRow b2 e2 s2 u n2 ys) (hne : e1 ≠ e2) : ∀ j, u.ownBlock = some j → v.ownBlock ≠ some j := fun j hj => by
  rcases k.2 with ⟨rfl, _⟩ | ⟨g, cap, cur, rfl, _, hg, _⟩
  · simp [Value.ownBlock] at hj
  · simp only [Value.ownBlock, Option.some.injEq] at hj
    subst hj
    exact own_ne h hg (Ne.symm hne)
theorem gb_own {w w' : World} {base e sz n B : Nat} {v : Value} {xs : List Value} (h : w.ownsRow base e sz v n xs) (hg : w.grownBy w' v.ownBlock) (hB : B ≤ base) (hw : B ≤ w.heap.size) : Below B w w' :=
  ⟨hg.os, hg.tape, hg.output, hg.size, fun k hk => hg.block k (by omega) (fun e => by have := own_ge h k e.symm; omega)⟩
end Go.Proofs.Ytbgobchmkohhnaa
