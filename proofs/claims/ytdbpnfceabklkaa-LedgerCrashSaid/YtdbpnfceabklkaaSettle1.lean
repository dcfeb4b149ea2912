/-
  Words for ledger.settle: what its loop keeps, and what is left when it returns out of it; that neither hangs on what is no cells. No condition.
-/
import Derived.Test.YtdbpnfceabklkaaChunk
namespace Go.Proofs.Ytdbpnfceabklkaa
set_option maxRecDepth 100000
open Go.ChangeShapes Go.WideShapes Go.ChangeAt Go.RowKit

/-- All cells are as they were. -/
def KC (W W' : World) : Prop := ∀ (k : Nat) (cs : Array Value) (t : TypeId) (fr : Nat × Nat), W.heap[k]? = some (Obj.cells cs t fr) → W'.heap[k]? = some (Obj.cells cs t fr)
theorem kc_of {W W' : World} {row : Option Nat} (hg : W.grownBy W' row) (hr : ∀ r, row = some r → ∃ o : Obj, W.heap[r]? = some o ∧ o.isCells = false) : KC W W' := fun k cs t fr hk => by
  refine (hg.block k (Array.getElem?_eq_some_iff.1 hk).1 (fun e => ?_)).trans hk
  obtain ⟨o, ho, hc⟩ := hr k e.symm
  rw [hk] at ho
  cases ho
  cases hc
theorem PL.kc {W W' : World} {B q p : Nat} {G : Lg} {bv : Value} {D : Dk} (h : PL W B q p G bv D) (hk : KC W W') : PL W' B q p G bv D :=
  ⟨hk _ _ _ _ h.here, h.base, own_tag h.row (fun _ _ hx => hk _ _ _ _ hx), h.disk.tags (fun _ _ _ _ hx _ => hk _ _ _ _ hx), h.gok⟩
theorem kp_keeps {B B' : Nat} {W W' : World} (h : Kp B W W') : KeepsFrom B' W W' := ⟨h.below.size, fun k o _ hk ho => h.kept k o hk (fun cs t fr e => by subst e; cases ho)⟩
theorem kp_on {B : Nat} {w W W' : World} {row : Option Nat} (h : Kp B w W) (hB : B ≤ w.heap.size) (hg : W.grownBy W' row) (hr : ∀ r, row = some r → w.heap.size ≤ r) : Kp B w W' :=
  ⟨h.below.grown hg (Nat.le_trans hB h.below.size) (fun k e => Nat.le_trans hB (hr k e)), fun k o hk ht => by
    refine (hg.block k (Nat.lt_of_lt_of_le (Array.getElem?_eq_some_iff.1 hk).1 h.below.size) (fun e => ?_)).trans (h.kept k o hk ht)
    have h1 := hr k e.symm
    have h2 := (Array.getElem?_eq_some_iff.1 hk).1
    omega⟩
/-- The call's givens. -/
structure SG where
  B : Nat
  q : Nat
  p : Nat
  G : Lg
  bv : Value
  half : Nat
  there : Nat
  bb : Value
  b : List Int
  D : Dk
/-- The boxes of the call. -/
structure SBox (s : SG) (b4 : Nat) (n : Nat) (er : Int) (W : World) : Prop where
  x4 : W.heap[b4]? = some (.cells #[.pointer (some ⟨s.q, 0, none⟩)] 26 (0, 0))
  x8 : W.heap[b4 + 1]? = some (.cells #[.int .i64 er] 35 (0, 0))
  x10 : W.heap[b4 + 2]? = some (.cells #[.int .i64 (n : Int)] 3 (0, 0))
theorem SBox.kc {s : SG} {b4 n : Nat} {er : Int} {W W' : World} (h : SBox s b4 n er W) (hk : KC W W') : SBox s b4 n er W' := ⟨hk _ _ _ _ h.x4, hk _ _ _ _ h.x8, hk _ _ _ _ h.x10⟩
def SG.ws (s : SG) : List Wr := setW s.G.fr s.G.sz s.G.m s.half s.there s.b
/-- What the loop keeps. -/
def SI (s : SG) (w : World) (n0 : Nat) (A : Option Addr) (len cap : Nat) (pre : List Ck) (W : World) : Prop :=
  ∃ Dk, SBox s w.heap.size (n0 + pre.length) 0 W ∧ W.heap[w.heap.size + 3]? = some (.cells #[.slice A len cap] 48 (0, 0)) ∧ W.heap[w.heap.size + 4]? = some (.cells #[.int .i64 64] 3 (0, 0)) ∧
    PL W s.B s.q s.p s.G s.bv Dk ∧ W.ownsRow s.B 5 1 s.bb s.b.length (ints s.b) ∧ Kp s.B w W ∧ runW s.D s.ws = runW Dk (s.ws.drop pre.length) ∧ Dk.wait.length ≤ s.D.wait.length + pre.length ∧ Dk.firm.length = s.D.firm.length
/-- What is left where a write was refused. -/
def SX (s : SG) (w : World) (W : World) : Prop :=
  ∃ Dk er n, SBox s w.heap.size n er W ∧ PL W s.B s.q s.p s.G s.bv Dk ∧ Kp s.B w W ∧ runW s.D s.ws = (Dk, er) ∧ er ≠ 0
theorem si_own (s : SG) (w : World) (n0 : Nat) (A : Option Addr) (len cap B' : Nat) (hB' : w.heap.size ≤ B') (hB : s.B ≤ w.heap.size) : OwnFrom B' (SI s w n0 A len cap) := by
  rintro pre X Y row ⟨Dk, h1, h2, h3, h4, h5, h6, h7⟩ hg hr
  have hk := kc_of hg (fun r e => (hr r e).2)
  exact ⟨Dk, h1.kc hk, hk _ _ _ _ h2, hk _ _ _ _ h3, h4.kc hk, own_tag h5 (fun k cs hx => hk _ _ _ _ hx), kp_on h6 hB hg (fun r e => Nat.le_trans hB' (hr r e).1), h7⟩
theorem sx_own {β : Type} (s : SG) (w : World) (B' : Nat) (hB' : w.heap.size ≤ B') (hB : s.B ≤ w.heap.size) : OwnFrom B' (fun (_ : β) W => SX s w W) := by
  rintro _ X Y row ⟨Dk, er, n, h1, h4, h6, h7⟩ hg hr
  have hk := kc_of hg (fun r e => (hr r e).2)
  exact ⟨Dk, er, n, h1.kc hk, h4.kc hk, kp_on h6 hB hg (fun r e => Nat.le_trans hB' (hr r e).1), h7⟩
theorem runW_cons (D : Dk) (x : Wr) (ws : List Wr) : runW D (x :: ws) = if (doD D 0 (x.1 : Int) 0 x.2).2.2 = 0 then runW (doD D 0 (x.1 : Int) 0 x.2).1 ws else ((doD D 0 (x.1 : Int) 0 x.2).1, (doD D 0 (x.1 : Int) 0 x.2).2.2) := rfl
theorem drop_at {l : List Wr} {k : Nat} (h : k < l.length) : l.drop k = l[k] :: l.drop (k + 1) := List.drop_eq_getElem_cons h
/-- The k-th write is of a sector of bytes. -/
theorem ws_at (s : SG) (k : Nat) (h : s.there / 64 * 64 + 64 * k < s.b.length) : ∃ hk : k < s.ws.length, s.ws[k] = (s.G.fr + 2 + s.half * s.G.sz + s.there / 64 + k, ((s.b.drop (s.there / 64 * 64)).drop (64 * k)).take 64) := by
  have hc : k < (chunkW (s.G.fr + 2 + s.half * s.G.sz + s.there / 64) (s.b.drop (s.there / 64 * 64))).length := by rw [chunkW_length, List.length_drop]; omega
  refine ⟨by unfold SG.ws; rw [setW_length]; omega, ?_⟩
  unfold SG.ws setW
  exact (List.getElem_append_left hc).trans (chunkW_at _ _ _ (by rw [List.length_drop]; omega))
theorem ws_last (s : SG) (c : Nat) (hc : c = (s.b.length - s.there / 64 * 64 + 63) / 64) : s.ws.drop c = [(s.G.fr + (1 - s.G.m.slot), secOf (nextMk s.G.m s.half s.b.length))] := by
  unfold SG.ws setW
  rw [List.drop_append, List.drop_eq_nil_of_le (by rw [chunkW_length, List.length_drop]; omega), chunkW_length, List.length_drop, show c - (s.b.length - s.there / 64 * 64 + 63) / 64 = 0 by omega]
  rfl
theorem do_wait' (D : Dk) (n : Int) (b : List Int) : (doD D 0 n 0 b).1.wait.length ≤ D.wait.length + 1 := do_wait D 0 n 0 b
theorem PL.write {W W' : World} {B q p : Nat} {G : Lg} {bv : Value} {D D' : Dk} (h : PL W B q p G bv D) (hk : Kp B W W') (hd : PDisk W' B p D') (hf : D'.firm.length = D.firm.length) : PL W' B q p G bv D' :=
  ⟨hk.tag _ _ _ _ h.here (by decide) (by decide) (by decide), h.base, own_tag h.row (fun k cs hx => hk.tag _ _ _ _ hx (by decide) (by decide) (by decide)), hd, by rw [hf]; exact h.gok⟩
theorem SBox.kp {s : SG} {b4 n B : Nat} {er : Int} {W W' : World} (h : SBox s b4 n er W) (hk : Kp B W W') : SBox s b4 n er W' :=
  ⟨hk.tag _ _ _ _ h.x4 (by decide) (by decide) (by decide), hk.tag _ _ _ _ h.x8 (by decide) (by decide) (by decide), hk.tag _ _ _ _ h.x10 (by decide) (by decide) (by decide)⟩
/-- A round that goes on. -/
theorem si_next {s : SG} {w W W' : World} {n0 len cap : Nat} {A : Option Addr} {pre : List Ck} {x : Ck} {Dk : Dk} {e : Ending} (hB : s.B ≤ w.heap.size) (hn0 : n0 = s.G.fr + 2 + s.half * s.G.sz + s.there / 64) (hlen : len = s.b.length - s.there / 64 * 64) (hx : 64 * pre.length < len)
    (hbx : SBox s w.heap.size (n0 + pre.length) 0 W) (hs : W.heap[w.heap.size + 3]? = some (.cells #[.slice A len cap] 48 (0, 0))) (hn : W.heap[w.heap.size + 4]? = some (.cells #[.int .i64 64] 3 (0, 0))) (hpl : PL W s.B s.q s.p s.G s.bv Dk) (hrow : W.ownsRow s.B 5 1 s.bb s.b.length (ints s.b)) (hkp : Kp s.B w W)
    (hrun : runW s.D s.ws = runW Dk (s.ws.drop pre.length)) (hwt : Dk.wait.length ≤ s.D.wait.length + pre.length) (hfl : Dk.firm.length = s.D.firm.length) (h : WrPost W s.B s.p Dk ((n0 + pre.length : Nat) : Int) (((s.b.drop (s.there / 64 * 64)).drop (64 * pre.length)).take 64) e W') :
    ((doD Dk 0 ((n0 + pre.length : Nat) : Int) 0 (((s.b.drop (s.there / 64 * 64)).drop (64 * pre.length)).take 64)).2.2 = 0 → SI s w n0 A len cap (pre ++ [x]) (W'.setCell ⟨w.heap.size + 2, 0, none⟩ (.int .i64 (((n0 + pre.length : Nat) : Int) + 1)))) ∧
    (∀ er, er = (doD Dk 0 ((n0 + pre.length : Nat) : Int) 0 (((s.b.drop (s.there / 64 * 64)).drop (64 * pre.length)).take 64)).2.2 → er ≠ 0 → SX s w (W'.setCell ⟨w.heap.size + 1, 0, none⟩ (.int .i64 er))) := by
  obtain ⟨_, hpd, hk⟩ := h
  obtain ⟨hlt, hat⟩ := ws_at s pre.length (by omega)
  rw [drop_at hlt, hat, ← hn0, runW_cons] at hrun
  have hbx' := hbx.kp hk
  have hpl' := hpl.write hk hpd (do_len _ _ _ _ _)
  have hkp' : Kp s.B w W' := hkp.trans hk
  have hset : ∀ (j : Nat) (v : Value) (cs : Array Value) (t : TypeId), W'.heap[w.heap.size + j]? = some (.cells cs t (0, 0)) → t ≠ 74 → t ≠ 84 → t ≠ 87 → t ≠ 91 → t ≠ 5 → PL (W'.setCell ⟨w.heap.size + j, 0, none⟩ v) s.B s.q s.p s.G s.bv (doD Dk 0 ((n0 + pre.length : Nat) : Int) 0 (((s.b.drop (s.there / 64 * 64)).drop (64 * pre.length)).take 64)).1 ∧ Kp s.B w (W'.setCell ⟨w.heap.size + j, 0, none⟩ v) := by
    intro j v cs t hj h1 h2 h3 h4 h5
    refine ⟨⟨?_, hpl'.base, ownsRow_setCell_other hpl'.row (own_ne hpl'.row hj h5) v, hpl'.disk.setCell hj h2 h3 h4 v, hpl'.gok⟩, kp_on hkp' hB (setCells_grown [v] 0 W') (fun r e => by injection e with e; omega)⟩
    rw [heap_setCell_other W' _ _ _ (fun e => ?_)]
    · exact hpl'.here
    · have hh := hpl'.here
      simp only at e
      rw [e, hj] at hh
      injection hh with hh
      injection hh with _ hh _
      exact h1 hh
  have hother : ∀ (j k : Nat) (v : Value) (o : Obj), k ≠ j → W'.heap[w.heap.size + k]? = some o → (W'.setCell ⟨w.heap.size + j, 0, none⟩ v).heap[w.heap.size + k]? = some o := fun j k v o hne ho => by
    rw [heap_setCell_other W' _ _ _ (by show w.heap.size + k ≠ w.heap.size + j; omega)]; exact ho
  refine ⟨fun he => ?_, fun er her hne => ?_⟩
  · rw [if_pos he] at hrun
    obtain ⟨p1, p2⟩ := hset 2 (.int .i64 (((n0 + pre.length : Nat) : Int) + 1)) _ _ hbx'.x10 (by decide) (by decide) (by decide) (by decide) (by decide)
    refine ⟨_, ⟨hother 2 0 _ _ (by decide) hbx'.x4, hother 2 1 _ _ (by decide) hbx'.x8, ?_⟩, hother 2 3 _ _ (by decide) (hk.tag _ _ _ _ hs (by decide) (by decide) (by decide)), hother 2 4 _ _ (by decide) (hk.tag _ _ _ _ hn (by decide) (by decide) (by decide)), p1, ?_, p2, ?_, ?_, ?_⟩
    · have := one_setCell (u := .int .i64 (((n0 + pre.length : Nat) : Int) + 1)) hbx'.x10
      rw [List.length_append, this]
      congr 1
    · exact ownsRow_setCell_other (own_tag hrow (fun k cs hx => hk.tag _ _ _ _ hx (by decide) (by decide) (by decide))) (own_ne (own_tag hrow (fun k cs hx => hk.tag _ _ _ _ hx (by decide) (by decide) (by decide))) hbx'.x10 (by decide)) _
    · rw [List.length_append]; exact hrun
    · have := do_wait' Dk ((n0 + pre.length : Nat) : Int) (((s.b.drop (s.there / 64 * 64)).drop (64 * pre.length)).take 64)
      rw [List.length_append]; show _ ≤ _ + (_ + 1); omega
    · rw [do_len]; exact hfl
  · subst her
    rw [if_neg hne] at hrun
    obtain ⟨p1, p2⟩ := hset 1 (.int .i64 (doD Dk 0 ((n0 + pre.length : Nat) : Int) 0 (((s.b.drop (s.there / 64 * 64)).drop (64 * pre.length)).take 64)).2.2) _ _ hbx'.x8 (by decide) (by decide) (by decide) (by decide) (by decide)
    exact ⟨_, _, _, ⟨hother 1 0 _ _ (by decide) hbx'.x4, one_setCell hbx'.x8, hother 1 2 _ _ (by decide) hbx'.x10⟩, p1, p2, hrun, hne⟩
end Go.Proofs.Ytdbpnfceabklkaa
