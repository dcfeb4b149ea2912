/-
  A ledger in memory; what its small methods return: most, begin, Room. No condition.
-/
import Derived.Test.YtdbpnfceabklkaaSect
import Derived.BigQuiet
import Derived.Deep.QuietTactic
import Derived.IntWalk
namespace Go.Proofs.Ytdbpnfceabklkaa
open Go.ChangeShapes Go.WideShapes Go.ChangeAt Go.RowKit

/-- A ledger's cells. -/
def lcells (p : Nat) (G : Lg) (bv : Value) : List Value := .pointer (some ⟨p, 0, none⟩) :: .int .i64 (G.fr : Int) :: .int .i64 (G.sz : Int) :: (mcells G.m ++ [bv])
structure PL (w : World) (B q p : Nat) (G : Lg) (bv : Value) (D : Dk) : Prop where
  here : w.heap[q]? = some (.cells (lcells p G bv).toArray 74 (0, 0))
  base : B ≤ q
  row : w.ownsRow B 5 1 bv G.bs.length (ints G.bs)
  disk : PDisk w B p D
  gok : Gok G D.firm.length
/-- What a ledger's method leaves of the rest. -/
structure Kl (B : Nat) (w w' : World) : Prop where
  below : Below B w w'
  kept : ∀ (k : Nat) (o : Obj), w.heap[k]? = some o → (∀ cs t fr, o = Obj.cells cs t fr → t ≠ 84 ∧ t ≠ 87 ∧ t ≠ 91 ∧ t ≠ 5 ∧ t ≠ 74) → w'.heap[k]? = some o
theorem Kl.tag {B : Nat} {w w' : World} (h : Kl B w w') (k : Nat) (cs : Array Value) (t : TypeId) (fr : Nat × Nat) (hk : w.heap[k]? = some (Obj.cells cs t fr)) (ht : t ≠ 84 ∧ t ≠ 87 ∧ t ≠ 91 ∧ t ≠ 5 ∧ t ≠ 74) : w'.heap[k]? = some (Obj.cells cs t fr) :=
  h.kept k _ hk fun _ _ _ e => by injection e with _ e _; subst e; exact ht
theorem Kl.refl (B : Nat) (w : World) : Kl B w w := ⟨Below.refl _ _, fun _ _ h _ => h⟩
theorem Kl.trans {B : Nat} {a b c : World} (h : Kl B a b) (k : Kl B b c) : Kl B a c := ⟨h.below.trans k.below, fun i o hi h1 => k.kept i o (h.kept i o hi h1) h1⟩
theorem Kl.of_below {B : Nat} {w w' : World} (h : Below w.heap.size w w') (hB : B ≤ w.heap.size) : Kl B w w' :=
  ⟨h.mono hB, fun k _ hk _ => (h.block k (Array.getElem?_eq_some_iff.1 hk).1).trans hk⟩
theorem Kl.of_kp {B : Nat} {w w' : World} (h : Kp B w w') : Kl B w w' := ⟨h.below, fun k o hk ht => h.kept k o hk fun cs t fr e => ⟨(ht cs t fr e).1, (ht cs t fr e).2.1, (ht cs t fr e).2.2.1⟩⟩
theorem PL.lt {w : World} {B q p : Nat} {G : Lg} {bv : Value} {D : Dk} (h : PL w B q p G bv D) : q < w.heap.size := (Array.getElem?_eq_some_iff.1 h.here).1
theorem PL.size {w : World} {B q p : Nat} {G : Lg} {bv : Value} {D : Dk} (h : PL w B q p G bv D) : B ≤ w.heap.size := Nat.le_trans h.base (Nat.le_of_lt h.lt)
theorem PL.kept {w w' : World} {B q p : Nat} {G : Lg} {bv : Value} {D : Dk} (h : PL w B q p G bv D) (hb : Below w.heap.size w w') : PL w' B q p G bv D :=
  ⟨(hb.block q h.lt).trans h.here, h.base, own_below h.row hb, h.disk.kept hb, h.gok⟩
theorem PL.mono {w : World} {B B' q p : Nat} {G : Lg} {bv : Value} {D : Dk} (h : PL w B q p G bv D) (hb : B' ≤ B) : PL w B' q p G bv D :=
  ⟨h.here, Nat.le_trans hb h.base, own_base h.row hb, h.disk.mono hb, h.gok⟩
theorem lcells_len {p : Nat} {G : Lg} {bv : Value} (h : Nok G.m.num) : (lcells p G bv).length = 15 := by simp [lcells, mcells_len h]
theorem lcells_mark {p : Nat} {G : Lg} {bv : Value} (h : Nok G.m.num) (j : Nat) (hj : j < 11) : (lcells p G bv)[3 + j]? = (mcells G.m)[j]? := by
  unfold lcells
  rw [Nat.add_comm, List.getElem?_cons_succ, List.getElem?_cons_succ, List.getElem?_cons_succ, List.getElem?_append_left (by rw [mcells_len h]; exact hj)]
theorem lcells_bytes {p : Nat} {G : Lg} {bv : Value} (h : Nok G.m.num) : (lcells p G bv)[14]? = some bv := by
  unfold lcells
  rw [List.getElem?_cons_succ, List.getElem?_cons_succ, List.getElem?_cons_succ, List.getElem?_append_right (by rw [mcells_len h]; exact Nat.le_refl _), mcells_len h]; rfl
/-- What the methods read of the struct. -/
structure LCells (w : World) (q p : Nat) (G : Lg) (bv : Value) : Prop where
  c0 : w.cell? ⟨q, 0, none⟩ = some (.pointer (some ⟨p, 0, none⟩))
  c1 : w.cell? ⟨q, 1, none⟩ = some (.int .i64 (G.fr : Int))
  c2 : w.cell? ⟨q, 2, none⟩ = some (.int .i64 (G.sz : Int))
  c3 : w.cell? ⟨q, 3, none⟩ = some (.int .i64 (G.m.slot : Int))
  c12 : w.cell? ⟨q, 12, none⟩ = some (.int .i64 (G.m.half : Int))
  c13 : w.cell? ⟨q, 13, none⟩ = some (.int .i64 (G.m.used : Int))
  c14 : w.cell? ⟨q, 14, none⟩ = some bv
  num : w.rangeAt q 4 (ints G.m.num)
theorem LCells.of {w : World} {q p : Nat} {G : Lg} {bv : Value} {t : TypeId} {fr : Nat × Nat} (h : w.heap[q]? = some (.cells (lcells p G bv).toArray t fr)) (hN : Nok G.m.num) : LCells w q p G bv := by
  have e : ∀ j v, (lcells p G bv)[j]? = some v → w.cell? ⟨q, j, none⟩ = some v := fun j v hv => by
    rw [cell_of_row w q j _ t fr h, List.getElem?_toArray]; exact hv
  refine ⟨e 0 _ rfl, e 1 _ rfl, e 2 _ rfl, e 3 _ ((lcells_mark hN 0 (by decide)).trans (mcells_slot _)), e 12 _ ((lcells_mark hN 9 (by decide)).trans (mcells_half hN)), e 13 _ ((lcells_mark hN 10 (by decide)).trans (mcells_used hN)), e 14 _ (lcells_bytes hN), fun j v hv => ?_⟩
  have hj : j < 8 := by have := (List.getElem?_eq_some_iff.1 hv).1; rw [ints_length, hN.1] at this; exact this
  have := (lcells_mark (p := p) (bv := bv) hN (1 + j) (by omega)).trans (mcells_num hN j hj)
  rw [show 3 + (1 + j) = 4 + j by omega] at this
  exact e (4 + j) _ (this.trans hv)
theorem LCells.kept {w w' : World} {q p : Nat} {G : Lg} {bv : Value} (h : LCells w q p G bv) (hb : Below w.heap.size w w') : LCells w' q p G bv := by
  have e : ∀ j v, w.cell? ⟨q, j, none⟩ = some v → w'.cell? ⟨q, j, none⟩ = some v := fun j v hv => (hb.cell (p := ⟨q, j, none⟩) (cell_lt hv)).trans hv
  exact ⟨e _ _ h.c0, e _ _ h.c1, e _ _ h.c2, e _ _ h.c3, e _ _ h.c12, e _ _ h.c13, e _ _ h.c14, fun j v hv => e _ _ (h.num j v hv)⟩
theorem PL.cells {w : World} {B q p : Nat} {G : Lg} {bv : Value} {D : Dk} (h : PL w B q p G bv D) : LCells w q p G bv := LCells.of h.here h.gok.num
theorem PL.free {w : World} {B q p : Nat} {G : Lg} {bv : Value} {D : Dk} (h : PL w B q p G bv D) (j : Nat) : w.frozen? ⟨q, j, none⟩ = false := frozen_of_row w q j _ _ h.here
theorem Gok.small {G : Lg} {n : Nat} (h : Gok G n) : G.fr ≤ 65536 ∧ G.sz ≤ 65536 ∧ G.bs.length ≤ 4194304 ∧ G.m.used ≤ 4194304 := by
  have := h.fit; have := h.n; have := h.room; have := h.used
  omega

theorem most_any (q p : Nat) (G : Lg) (bv : Value) (w : World) (h : LCells w q p G bv) (hs : G.sz ≤ 65536) :
    Calls Try.prog 32 #[.pointer (some ⟨q, 0, none⟩)] w fun e w' => e = .returned (.int .i64 ((G.sz : Int) * 64)) ∧ w = w' := by
  have c2 := h.c2
  have h0 : (0 : Int) ≤ (G.sz : Int) := by omega
  have h1 : (G.sz : Int) ≤ 65536 := by omega
  clear h
  go_enter Try.func32, Try.ntmps32
  go_wp2
  go_ret
  exact ⟨rfl, rfl⟩
theorem begin_any (q p : Nat) (G : Lg) (bv : Value) (half : Nat) (w : World) (h : LCells w q p G bv) (hf : G.fr ≤ 65536) (hs : G.sz ≤ 65536) (hh : half ≤ 1) :
    Calls Try.prog 46 #[.pointer (some ⟨q, 0, none⟩), .int .i64 (half : Int)] w fun e w' => e = .returned (.int .i64 ((G.fr + 2 + half * G.sz : Nat) : Int)) ∧ ∃ n, w' = w.drewN n := by
  have c1 := h.c1
  have c2 := h.c2
  clear h
  have hc : half = 0 ∨ half = 1 := by omega
  rcases hc with rfl | rfl
  · have e1 : IntKind.i64.wrap ((G.fr : Int) + 2) = (G.fr : Int) + 2 := by rw [IntKind.wrap_i64]; omega
    have e2 : IntKind.i64.wrap ((G.fr : Int) + 2 + 0) = (G.fr : Int) + 2 + 0 := by rw [IntKind.wrap_i64]; omega
    go_enter Try.func46, Try.ntmps46
    go_wp2
    go_quiet (fail)
    go_wp2
    go_ret
    exact ⟨ret_i (by omega), _, rfl⟩
  · have e1 : IntKind.i64.wrap ((G.fr : Int) + 2) = (G.fr : Int) + 2 := by rw [IntKind.wrap_i64]; omega
    have e2 : IntKind.i64.wrap ((G.fr : Int) + 2 + (G.sz : Int)) = (G.fr : Int) + 2 + (G.sz : Int) := by rw [IntKind.wrap_i64]; omega
    have e3 : IntKind.i64.wrap (G.sz : Int) = (G.sz : Int) := by rw [IntKind.wrap_i64]; omega
    go_enter Try.func46, Try.ntmps46
    go_wp2
    go_quiet (fail)
    go_wp2
    go_ret
    exact ⟨ret_i (by omega), _, rfl⟩
end Go.Proofs.Ytdbpnfceabklkaa
