/-
  Words for the end of ledger.settle. No condition.
-/
import Derived.Test.YtdbpnfceabklkaaSettle1
namespace Go.Proofs.Ytdbpnfceabklkaa
set_option maxRecDepth 100000
open Go.ChangeShapes Go.WideShapes Go.ChangeAt Go.RowKit

/-- The ledger behind a call that went through. -/
def SG.next (s : SG) : Lg := ⟨s.G.fr, s.G.sz, nextMk s.G.m s.half s.b.length, s.b⟩
/-- What settle leaves. -/
structure SePost (s : SG) (w : World) (e : Ending) (w' : World) : Prop where
  ret : e = .returned (.int .i64 (runW s.D s.ws).2)
  kl : Kl s.B w w'
  pl : ((runW s.D s.ws).2 = 0 ∧ PL w' s.B s.q s.p s.next s.bb (runW s.D s.ws).1) ∨ ((runW s.D s.ws).2 ≠ 0 ∧ PL w' s.B s.q s.p s.G s.bv (runW s.D s.ws).1)
theorem put_kc {W : World} {D : Nat} {o : Obj} (h : W.heap[D]? = some (.deferred (some []))) : KC W (W.putObj D o) :=
  kc_of (row := some D) (grownBy_putObj' W D o) (fun r e => by cases e; exact ⟨_, h, rfl⟩)
theorem put_kp {B : Nat} {w W : World} {D : Nat} {o : Obj} (h : Kp B w W) (hB : B ≤ w.heap.size) (hD : w.heap.size ≤ D) : Kp B w (W.putObj D o) :=
  kp_on h hB (grownBy_putObj' W D o) (fun r e => by cases e; exact hD)
theorem results_i {fn : Func} {p : Tmp} (h : fn.results = #[.cell p 35]) (tmps : Array Value) (w : World) (g : Nat) (v : Value) (hp : tmps.getD p undef = .pointer (some ⟨g, 0, none⟩)) (hg : w.cell? ⟨g, 0, none⟩ = some v) : (results fn tmps).run Try.prog w = .ok v w := by
  have hp' : tmps[p]?.getD undef = .pointer (some ⟨g, 0, none⟩) := by simpa using hp
  simp [results, h, hp', asAddr, go_sem, hg]
/-- A write was refused. -/
theorem se_stop {s : SG} {w W : World} {D : Nat} (hB : s.B ≤ w.heap.size) (hD : w.heap.size ≤ D) (h : SX s w W) (hK : W.heap[D]? = some (.deferred (some []))) :
    ∃ er, (W.putObj D (.deferred none)).cell? ⟨w.heap.size + 1, 0, none⟩ = some (.int .i64 er) ∧ SePost s w (.returned (.int .i64 er)) (W.putObj D (.deferred none)) := by
  obtain ⟨Dk, er, n, hbx, hpl, hkp, hrun, hne⟩ := h
  have hk := put_kc (o := .deferred none) hK
  refine ⟨er, cell_of (hbx.kc hk).x8 rfl, by rw [hrun], Kl.of_kp (put_kp hkp hB hD), .inr ⟨by rw [hrun]; exact hne, by rw [hrun]; exact hpl.kc hk⟩⟩
/-- What the regions behind the loop read. -/
structure S9 (s : SG) (b4 : Nat) (W : World) : Prop where
  x4 : W.heap[b4]? = some (.cells #[.pointer (some ⟨s.q, 0, none⟩)] 26 (0, 0))
  lq : W.heap[s.q]? = some (.cells (lcells s.p s.G s.bv).toArray 74 (0, 0))
theorem S9.kept {s : SG} {b4 : Nat} {W W' : World} (h : S9 s b4 W) (hb : Below W.heap.size W W') : S9 s b4 W' :=
  ⟨(hb.block _ (Array.getElem?_eq_some_iff.1 h.x4).1).trans h.x4, (hb.block _ (Array.getElem?_eq_some_iff.1 h.lq).1).trans h.lq⟩
structure S10 (s : SG) (b4 g : Nat) (m' : Mk) (W : World) : Prop where
  s9 : S9 s b4 W
  mg : W.heap[g]? = some (.cells (mcells m').toArray 72 (0, 0))
theorem S10.kept {s : SG} {b4 g : Nat} {m' : Mk} {W W' : World} (h : S10 s b4 g m' W) (hb : Below W.heap.size W W') : S10 s b4 g m' W' :=
  ⟨h.s9.kept hb, (hb.block _ (Array.getElem?_eq_some_iff.1 h.mg).1).trans h.mg⟩
theorem S10.kp {s : SG} {b4 g B : Nat} {m' : Mk} {W W' : World} (h : S10 s b4 g m' W) (hb : Kp B W W') : S10 s b4 g m' W' :=
  ⟨⟨hb.tag _ _ _ _ h.s9.x4 (by decide) (by decide) (by decide), hb.tag _ _ _ _ h.s9.lq (by decide) (by decide) (by decide)⟩, hb.tag _ _ _ _ h.mg (by decide) (by decide) (by decide)⟩
/-- What region 9 leaves. -/
structure M9 (wB : World) (m' : Mk) (v : Value) (W : World) : Prop where
  g : ∃ g, v = .pointer (some ⟨g, 0, none⟩) ∧ W.heap[g]? = some (.cells (mcells m').toArray 72 (0, 0))
  below : Below wB.heap.size wB W
theorem m9_of {wB W : World} {m' : Mk} {g : Nat} (hN : Nok m'.num) (hg : W.heap[g]? = some (.cells Z11 72 (0, 0))) (hge : wB.heap.size ≤ g) (hb : Below wB.heap.size wB W) : M9 wB m' (.pointer (some ⟨g, 0, none⟩)) (W.setCells g 0 (mcells m')) :=
  ⟨⟨g, rfl, set_whole hg (by rw [mcells_len hN, z11_size])⟩, hb.grown (setCells_grown _ _ _) hb.size (fun k e => by injection e with e; omega)⟩
/-- Behind the loop. -/
structure SL (s : SG) (w : World) (E : Dk) (n : Nat) (er : Int) (W : World) : Prop where
  bx : SBox s w.heap.size n er W
  pl : PL W s.B s.q s.p s.G s.bv E
  row : W.ownsRow s.B 5 1 s.bb s.b.length (ints s.b)
  kp : Kp s.B w W
theorem SL.below {s : SG} {w W W' : World} {Dk : Dk} {n : Nat} {er : Int} (h : SL s w Dk n er W) (hb : Below W.heap.size W W') : SL s w Dk n er W' :=
  ⟨⟨(hb.block _ (Array.getElem?_eq_some_iff.1 h.bx.x4).1).trans h.bx.x4, (hb.block _ (Array.getElem?_eq_some_iff.1 h.bx.x8).1).trans h.bx.x8, (hb.block _ (Array.getElem?_eq_some_iff.1 h.bx.x10).1).trans h.bx.x10⟩, h.pl.kept hb, own_below h.row hb, h.kp.trans (Kp.of_below hb h.pl.size)⟩
theorem SL.disk {s : SG} {w W W' : World} {D' E : Dk} {n : Nat} {er : Int} (h : SL s w E n er W) (hk : Kp s.B W W') (hd : PDisk W' s.B s.p D') (hf : D'.firm.length = E.firm.length) : SL s w D' n er W' :=
  ⟨h.bx.kp hk, h.pl.write hk hd hf, own_tag h.row (fun _ _ hx => hk.tag _ _ _ _ hx (by decide) (by decide) (by decide)), h.kp.trans hk⟩
/-- The result's box is set. -/
theorem SL.ret {s : SG} {w W : World} {Dk : Dk} {n : Nat} {er : Int} (h : SL s w Dk n er W) (hB : s.B ≤ w.heap.size) (x : Int) : SL s w Dk n x (W.setCell ⟨w.heap.size + 1, 0, none⟩ (.int .i64 x)) := by
  have ho : ∀ (k : Nat) (o : Obj), k ≠ w.heap.size + 1 → W.heap[k]? = some o → (W.setCell ⟨w.heap.size + 1, 0, none⟩ (.int .i64 x)).heap[k]? = some o := fun k o hne hk => by
    rw [heap_setCell_other W _ _ _ hne]; exact hk
  have hq : s.q ≠ w.heap.size + 1 := fun e => by
    have := h.pl.here
    rw [e, h.bx.x8] at this
    injection this with this
    injection this with _ this _
    cases this
  exact ⟨⟨ho _ _ (by omega) h.bx.x4, one_setCell h.bx.x8, ho _ _ (by omega) h.bx.x10⟩, ⟨ho _ _ hq h.pl.here, h.pl.base, ownsRow_setCell_other h.pl.row (own_ne h.pl.row h.bx.x8 (by decide)) _, h.pl.disk.setCell h.bx.x8 (by decide) (by decide) (by decide) _, h.pl.gok⟩,
    ownsRow_setCell_other h.row (own_ne h.row h.bx.x8 (by decide)) _, kp_on h.kp hB (setCells_grown [_] 0 W) (fun r e => by injection e with e; omega)⟩
/-- The way out behind the loop, where the mark, or the Sync, was refused. -/
theorem se_bad {s : SG} {w W : World} {Dk : Dk} {D n : Nat} {er : Int} (hB : s.B ≤ w.heap.size) (hD : w.heap.size ≤ D) (h : SL s w Dk n er W) (hK : W.heap[D]? = some (.deferred (some []))) (hrun : runW s.D s.ws = (Dk, er)) (hne : er ≠ 0) :
    (W.putObj D (.deferred none)).cell? ⟨w.heap.size + 1, 0, none⟩ = some (.int .i64 er) ∧ SePost s w (.returned (.int .i64 er)) (W.putObj D (.deferred none)) := by
  have hk := put_kc (o := .deferred none) hK
  exact ⟨cell_of (h.bx.kc hk).x8 rfl, by rw [hrun], Kl.of_kp (put_kp h.kp hB hD), .inr ⟨by rw [hrun]; exact hne, by rw [hrun]; exact h.pl.kc hk⟩⟩
/-- The ledger's struct laid over: the new mark, the new bytes. -/
theorem sl_turn {s : SG} {w W : World} {Dk : Dk} {n : Nat} (h : SL s w Dk n 0 W) (hhf : s.half ≤ 1) (hbl : s.b.length ≤ s.G.sz * 64) (hby : Bys s.b) :
    PL ((W.setCells s.q 3 (mcells (nextMk s.G.m s.half s.b.length))).setCell ⟨s.q, 14, none⟩ s.bb) s.B s.q s.p s.next s.bb Dk ∧ Kl s.B w ((W.setCells s.q 3 (mcells (nextMk s.G.m s.half s.b.length))).setCell ⟨s.q, 14, none⟩ s.bb) ∧
      ∀ (k : Nat) (o : Obj), k ≠ s.q → W.heap[k]? = some o → ((W.setCells s.q 3 (mcells (nextMk s.G.m s.half s.b.length))).setCell ⟨s.q, 14, none⟩ s.bb).heap[k]? = some o := by
  have hN := h.pl.gok.num
  have hN' : Nok (nextMk s.G.m s.half s.b.length).num := nok_nxt hN
  have h1 := set_mark hN hN' h.pl.here
  have h2 := set_bytes (v := s.bb) hN' h1
  have hg : W.grownBy ((W.setCells s.q 3 (mcells (nextMk s.G.m s.half s.b.length))).setCell ⟨s.q, 14, none⟩ s.bb) (some s.q) := (setCells_grown _ _ _).trans (setCells_grown [s.bb] 14 _)
  have hg' := h.pl.gok
  refine ⟨⟨h2, h.pl.base, ?_, h.pl.disk.grown h.pl.here hg, ⟨hg'.fit, hg'.n, by show 1 - s.G.m.slot ≤ 1; omega, hN', hhf, Nat.le_refl _, hbl, hby⟩⟩, (Kl.of_kp h.kp).trans (Kl.of_grown h.pl.here h.pl.base hg), fun k o hk ho => (hg.block k (Array.getElem?_eq_some_iff.1 ho).1 (fun e => hk (Option.some.inj e))).trans ho⟩
  refine h.row.kept hg ?_
  rcases h.row.2 with ⟨e, _⟩ | ⟨g, cap, cur, e, _, hgg, _⟩
  · rw [e]; exact .inl rfl
  · refine .inr fun e' => ?_
    rw [e] at e'
    simp only [Value.ownBlock, Option.some.injEq] at e'
    rw [e', h.pl.here] at hgg
    injection hgg with hgg
    injection hgg with _ hgg _
    cases hgg
/-- The way out where all went through. -/
theorem se_good {s : SG} {w W W' : World} {Dk : Dk} {D n : Nat} (hB : s.B ≤ w.heap.size) (hD : w.heap.size ≤ D) (h : SL s w Dk n 0 W) (hhf : s.half ≤ 1) (hbl : s.b.length ≤ s.G.sz * 64) (hby : Bys s.b) (hK : W.heap[D]? = some (.deferred (some []))) (hrun : runW s.D s.ws = (Dk, 0))
    (hW : W' = (((W.setCells s.q 3 (mcells (nextMk s.G.m s.half s.b.length))).setCell ⟨s.q, 14, none⟩ s.bb).setCell ⟨w.heap.size + 1, 0, none⟩ (.int .i64 0))) :
    (W'.putObj D (.deferred none)).cell? ⟨w.heap.size + 1, 0, none⟩ = some (.int .i64 0) ∧ SePost s w (.returned (.int .i64 0)) (W'.putObj D (.deferred none)) ∧ W'.heap[D]? = some (.deferred (some [])) := by
  obtain ⟨t1, t2, t3⟩ := sl_turn h hhf hbl hby
  obtain ⟨W2, hW2⟩ : ∃ W2, W2 = (W.setCells s.q 3 (mcells (nextMk s.G.m s.half s.b.length))).setCell ⟨s.q, 14, none⟩ s.bb := ⟨_, rfl⟩
  rw [← hW2] at t1 t2 t3 hW
  have hne8 : w.heap.size + 1 ≠ s.q := fun e => by
    have := h.pl.here
    rw [← e, h.bx.x8] at this
    injection this with this
    injection this with _ this _
    cases this
  have x8 := t3 _ _ hne8 h.bx.x8
  have hDq : D ≠ s.q := fun e => by
    have := h.pl.here
    rw [← e, hK] at this
    cases this
  have hK2 := t3 _ _ hDq hK
  have hD8 : D ≠ w.heap.size + 1 := fun e => by rw [← e, hK2] at x8; cases x8
  have hK3 : W'.heap[D]? = some (.deferred (some [])) := by rw [hW, heap_setCell_other W2 _ _ _ hD8]; exact hK2
  have x8' : W'.heap[w.heap.size + 1]? = some (.cells #[.int .i64 0] 35 (0, 0)) := by rw [hW]; exact one_setCell x8
  have p3 : PL W' s.B s.q s.p s.next s.bb Dk := by
    rw [hW]
    refine ⟨?_, t1.base, ownsRow_setCell_other t1.row (own_ne t1.row x8 (by decide)) _, t1.disk.setCell x8 (by decide) (by decide) (by decide) _, t1.gok⟩
    rw [heap_setCell_other W2 _ _ _ (fun e => hne8 e.symm)]; exact t1.here
  have k3 : Kl s.B w W' := by
    rw [hW]
    refine ⟨t2.below.setCell (p := ⟨w.heap.size + 1, 0, none⟩) (show s.B ≤ w.heap.size + 1 by omega) _, fun k o hk ht => ?_⟩
    have hkl := (Array.getElem?_eq_some_iff.1 hk).1
    rw [heap_setCell_other W2 _ _ _ (by show k ≠ w.heap.size + 1; omega)]
    exact t2.kept k o hk ht
  have hk := put_kc (o := .deferred none) hK3
  have hk2 := put_kc (o := .deferred none) hK3
  refine ⟨cell_of (hk _ _ _ _ x8') rfl, ⟨by rw [hrun], ?_, .inl ⟨by rw [hrun], by rw [hrun]; exact p3.kc hk⟩⟩, hK3⟩
  refine ⟨k3.below.grown (grownBy_putObj' W' D (.deferred none)) (Nat.le_trans hB k3.below.size) (fun r e => by cases e; omega), fun k o hk' ht => ?_⟩
  have hkl := (Array.getElem?_eq_some_iff.1 hk').1
  exact (World.putObj_heap_other (by omega)).trans (k3.kept k o hk' ht)
end Go.Proofs.Ytdbpnfceabklkaa
