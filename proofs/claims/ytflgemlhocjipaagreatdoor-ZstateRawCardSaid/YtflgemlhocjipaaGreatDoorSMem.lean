/-
  Words for memory: what was last done as a map has it; a state of the program's; what a call on it leaves of the rest; a state of the document's. No condition.
-/
import Derived.Test.YtflgemlhocjipaaGreatDoorSMath
import Derived.Test.YtflgemlhocjipaaGreatDoorRows8
import Derived.Test.YtflgemlhocjipaaGreatDoorLDoc2
namespace Go.Proofs.YtflgemlhocjipaaGreatDoor
set_option maxRecDepth 100000
open Go.ChangeShapes Go.WideShapes Go.ChangeAt Go.RowKit Go.Proofs.Zn Go.Proofs.Zt
open Go.Proofs.Zs (St Lst Rep)

/-! ### What was last done, as the map has it -/
structure Dn where
  n : Int
  c : Int
  s : Int
  A : Option Addr
  m : Nat
  k : Nat
def dn0 : Dn := ⟨0, 0, 0, none, 0, 0⟩
def dnOf (v : Value) : Option Dn := match v with
  | .agg cs => match cs.toList with
    | [.int .i64 n, .int .i64 c, .int .i64 s, .slice A m k] => some ⟨n, c, s, A, m, k⟩
    | _ => none
  | _ => none
def dnR (v : Value) : Option (DataW Dn × List MemPlace) := (dnOf v).map fun z => (.held z, [])
theorem dnR_mk (d : Dn) : dnR (.agg #[.int .i64 d.n, .int .i64 d.c, .int .i64 d.s, .slice d.A d.m d.k]) = some (.held d, []) := by simp [dnR, dnOf]
theorem dnR_inv {v : Value} {d : Dn} {ps : List MemPlace} (h : dnR v = some (.held d, ps)) : v = .agg #[.int .i64 d.n, .int .i64 d.c, .int .i64 d.s, .slice d.A d.m d.k] := by
  unfold dnR at h
  rcases hz : dnOf v with _ | z'
  · rw [hz] at h; cases h
  · rw [hz] at h
    have h2 := congrArg Prod.fst (Option.some.inj h)
    injection h2 with h2
    subst h2
    unfold dnOf at hz
    split at hz
    · rename_i cs
      split at hz
      · rename_i n c s A m k hcs
        obtain rfl := Option.some.inj hz
        have : cs = #[.int .i64 n, .int .i64 c, .int .i64 s, .slice A m k] := by rw [← Array.toArray_toList (xs := cs), hcs]
        rw [this]
      · cases hz
    · cases hz
theorem zeroD (w : World) : (zeroValue 149).run Tryz.prog w = .ok (.agg #[.int .i64 0, .int .i64 0, .int .i64 0, .slice none 0 0]) w := by kernel_rfl
theorem zeroDR : dnR (.agg #[.int .i64 0, .int .i64 0, .int .i64 0, .slice none 0 0]) = some (.held dn0, []) := rfl
theorem law3 : Go.Maps.Keyed Tryz.prog 3 := Go.Maps.int_keyed Tryz.underlying3
theorem key_int {a : Int} (h0 : 0 ≤ a) (h1 : a ≤ 4611686018427387904) : keyOf Tryz.prog 3 (.int .i64 a) = some (.int .i64 a) :=
  Go.Maps.keyOf_int_mk Tryz.underlying3 (by
    unfold Lit.wf; simp
    exact ⟨by rw [show IntKind.i64.min = -9223372036854775808 from rfl]; omega, by omega⟩)
theorem tightD {H : Type} {P : Program} {k : TypeId} {R : Value → Option (DataW H × List MemPlace)} {w : World} {mb n : Nat} {D : DataW H} (h : w.ownsMap P k R mb n D) : w.ownsMap P k R mb (Maps.size D) D := by
  obtain ⟨es, clock, h1, h2, _, h4⟩ := h
  refine ⟨es, clock, h1, h2, ?_, h4⟩
  rw [h4]
  show es.size ≤ ((es.toList.map _).foldr DataW.insert []).length
  rw [length_read]
  exact Nat.le_refl _
/-- The map, for these leases, and what was last done for each. -/
def DW (w : World) (mb : Nat) (L : Le.Tb) (D : List Lst) : Prop := ∃ M : DataW Dn, w.ownsMap Tryz.prog 3 dnR mb (Maps.size M) M ∧ Maps.size M = L.length ∧ (∀ a, Maps.has M (.int .i64 a) = (Le.has L a).isSome) ∧
  ∀ a, ∃ d : Dn, M.atKey (.int .i64 a) (.held dn0) = .held d ∧ d.n = (Zs.fd D a).n ∧ d.c = (Zs.fd D a).r.c ∧ d.s = (Zs.fd D a).r.s ∧ w.ownsRow 0 9 1 (.slice d.A d.m d.k) (Zs.fd D a).r.ps.length (scells (Zs.fd D a).r.ps)
theorem DW.lt {w : World} {mb : Nat} {L : Le.Tb} {D : List Lst} (h : DW w mb L D) : mb < w.heap.size := by
  obtain ⟨M, h1, -⟩ := h
  exact World.ownsMap.lt h1
theorem DW.ne_cells {w : World} {mb k : Nat} {L : Le.Tb} {D : List Lst} (h : DW w mb L D) {cs : Array Value} {t : TypeId} {fr : Nat × Nat} (hk : w.heap[k]? = some (.cells cs t fr)) : k ≠ mb := fun e => by
  obtain ⟨M, ⟨es, clock, h1, _⟩, -⟩ := h
  rw [e, h1] at hk
  cases hk
theorem DW.is_map {w : World} {mb : Nat} {L : Le.Tb} {D : List Lst} (h : DW w mb L D) : ∃ es clock, w.heap[mb]? = some (.map es clock) := by
  obtain ⟨M, ⟨es, clock, h1, _⟩, -⟩ := h
  exact ⟨es, clock, h1⟩
/-- A tree's map is another one. -/
theorem DW.ne_tree {w : World} {mb tmb : Nat} {L : Le.Tb} {D : List Lst} {T : Tr} (h : DW w mb L D) (ht : MapT w tmb T) (hT : 0 < T.length) : tmb ≠ mb := fun e => by
  obtain ⟨M, ⟨es, clock, h1, h2, -, -⟩, -⟩ := h
  obtain ⟨es', clock', h1', h2', h3', h4'⟩ := ht
  rw [e, h1] at h1'
  injection h1' with h1'
  injection h1' with e1 e2
  subst e1
  have hl : 0 < es.size := by
    have h5 := congrArg Maps.size h4'
    rw [dm_size] at h5
    have h6 := length_read (P := Tryz.prog) (k := 9) (R0 := ndR) es
    have h7 : Maps.size (DataW.map ((es.toList.map (WideElems.rg Tryz.prog 9 ndR)).foldr DataW.insert [])) = ((es.toList.map (WideElems.rg Tryz.prog 9 ndR)).foldr DataW.insert []).length := rfl
    omega
  have hm : es[0] ∈ es.toList := by simp
  obtain ⟨y, hy⟩ := h2.reads _ hm
  obtain ⟨y', hy'⟩ := h2'.reads _ hm
  have k1 := WideElems.rd_key hy
  have k2 := WideElems.rd_key hy'
  obtain ⟨x, e3, -⟩ := Maps.keyOf_int_inv Tryz.underlying3 k1
  rw [e3] at k2
  simp [keyOf, mapKey, Tryz.underlying9] at k2
theorem dlook_all {w : World} {mb : Nat} {L : Le.Tb} {D : List Lst} (h : DW w mb L D) {a : Int} (h0 : 0 ≤ a) (h1 : a ≤ 4611686018427387904) :
    ∃ d : Dn, (∀ W : World, W.heap[mb]? = w.heap[mb]? → (∀ b, (Le.has L a).isSome = b → (Instr.lookup 90 (.map (some mb)) (.int .i64 a) true).run Tryz.prog W = .ok (.tuple #[.agg #[.int .i64 d.n, .int .i64 d.c, .int .i64 d.s, .slice d.A d.m d.k], .bool b]) W) ∧
      (Instr.lookup 90 (.map (some mb)) (.int .i64 a) false).run Tryz.prog W = .ok (.agg #[.int .i64 d.n, .int .i64 d.c, .int .i64 d.s, .slice d.A d.m d.k]) W) ∧
      d.n = (Zs.fd D a).n ∧ d.c = (Zs.fd D a).r.c ∧ d.s = (Zs.fd D a).r.s ∧ w.ownsRow 0 9 1 (.slice d.A d.m d.k) (Zs.fd D a).r.ps.length (scells (Zs.fd D a).r.ps) := by
  obtain ⟨M, hm, -, hh, hr⟩ := h
  obtain ⟨d, hd, e1, e2, e3, e4⟩ := hr a
  refine ⟨d, fun W hW => ?_, e1, e2, e3, e4⟩
  have hm' : W.ownsMap Tryz.prog 3 dnR mb (Maps.size M) M := by
    obtain ⟨es, clock, g1, g2⟩ := hm
    exact ⟨es, clock, hW.trans g1, g2⟩
  refine ⟨fun b hb => ?_, ?_⟩
  · obtain ⟨v, ps, g1, g2⟩ := World.ownsMap.look_ok (t := 90) (e := 149) hm' law3 Tryz.underlying90 (zeroD W) zeroDR (key_int h0 h1)
    rw [hd] at g2
    rw [g1, dnR_inv g2, hh, hb]
  · obtain ⟨v, ps, g1, g2⟩ := World.ownsMap.lookup (t := 90) (e := 149) hm' law3 Tryz.underlying90 (zeroD W) zeroDR (key_int h0 h1)
    rw [hd] at g2
    rw [g1, dnR_inv g2]
theorem dlook_ok {w : World} {mb : Nat} {L : Le.Tb} {D : List Lst} (h : DW w mb L D) {a : Int} (h0 : 0 ≤ a) (h1 : a ≤ 4611686018427387904) :
    ∃ d : Dn, (∀ b, (Le.has L a).isSome = b → (Instr.lookup 90 (.map (some mb)) (.int .i64 a) true).run Tryz.prog w = .ok (.tuple #[.agg #[.int .i64 d.n, .int .i64 d.c, .int .i64 d.s, .slice d.A d.m d.k], .bool b]) w) ∧
      (Instr.lookup 90 (.map (some mb)) (.int .i64 a) false).run Tryz.prog w = .ok (.agg #[.int .i64 d.n, .int .i64 d.c, .int .i64 d.s, .slice d.A d.m d.k]) w ∧
      d.n = (Zs.fd D a).n ∧ d.c = (Zs.fd D a).r.c ∧ d.s = (Zs.fd D a).r.s ∧ w.ownsRow 0 9 1 (.slice d.A d.m d.k) (Zs.fd D a).r.ps.length (scells (Zs.fd D a).r.ps) := by
  obtain ⟨d, h2, h3⟩ := dlook_all h h0 h1
  exact ⟨d, (h2 w rfl).1, (h2 w rfl).2, h3⟩
theorem row_gb {w w' : World} {base e sz n x : Nat} {v : Value} {xs : List Value} (h : w.ownsRow base e sz v n xs) (hg : w.grownBy w' (some x)) (hx : ∀ cs t fr, w.heap[x]? ≠ some (.cells cs t fr)) : w'.ownsRow base e sz v n xs := by
  refine own_gb h hg (fun e' => ?_)
  rcases h.2 with ⟨rfl, _⟩ | ⟨g, cap, cur, rfl, _, hgc, _⟩
  · simp [Value.ownBlock] at e'
  · simp only [Value.ownBlock, Option.some.injEq] at e'
    subst e'
    exact hx _ _ _ hgc
theorem DW.store {w : World} {mb : Nat} {L L' : Le.Tb} {D D' : List Lst} (h : DW w mb L D) (hl : L.length ≤ 1000) {a : Int} (h0 : 0 ≤ a) (h1 : a ≤ 4611686018427387904) (d : Dn) (r : Rep) (e1 : d.c = r.c) (e2 : d.s = r.s)
    (e3 : w.ownsRow 0 9 1 (.slice d.A d.m d.k) r.ps.length (scells r.ps)) (hL : ∀ x, (Le.has L' x).isSome = (decide (x = a) || (Le.has L x).isSome)) (hn : L'.length = if (Le.has L a).isSome = true then L.length else L.length + 1)
    (hD : ∀ x, if x = a then (Zs.fd D' x).n = d.n ∧ (Zs.fd D' x).r = r else (Zs.fd D' x) = Zs.fd D x) :
    ∃ w', (Instr.mapUpdate 90 (.map (some mb)) (.int .i64 a) (.agg #[.int .i64 d.n, .int .i64 d.c, .int .i64 d.s, .slice d.A d.m d.k])).run Tryz.prog w = .ok () w' ∧ DW w' mb L' D' ∧ w.grownBy w' (some mb) := by
  obtain ⟨es0, ck0, hmap⟩ := h.is_map
  obtain ⟨M, hm, hs, hh, hr⟩ := h
  obtain ⟨w', g1, g2, g3⟩ := World.ownsMap.store (t := 90) (e := 149) hm law3 Tryz.underlying90 (by unfold maxLen; omega) (key_int h0 h1) (dnR_mk d)
  have hg := g3.grown
  have hk : WideAt.IsKeyLit (.int .i64 a) := by trivial
  have hnc : ∀ cs t fr, w.heap[mb]? ≠ some (.cells cs t fr) := fun cs t fr e => by rw [hmap] at e; cases e
  refine ⟨w', g1, ⟨M.put (.int .i64 a) (.held d), tightD g2, ?_, fun x => ?_, fun x => ?_⟩, hg⟩
  · rw [Maps.size_put (hm.tidy law3), hh, hn, hs]
  · rw [hL]
    by_cases hx : x = a
    · subst hx; rw [Maps.has_put_same hm.isMap hk]; simp
    · rw [Maps.has_put_other (by intro e; injection e with _ e; exact hx e), hh]; simp [hx]
  · have hDx := hD x
    by_cases hx : x = a
    · subst hx
      rw [if_pos rfl] at hDx
      refine ⟨d, Maps.atKey_put_same hm.isMap hk _ _, hDx.1.symm, by rw [hDx.2]; exact e1, by rw [hDx.2]; exact e2, ?_⟩
      rw [hDx.2]; exact row_gb e3 hg hnc
    · rw [if_neg hx] at hDx
      obtain ⟨d', k1, k2, k3, k4, k5⟩ := hr x
      rw [hDx]
      exact ⟨d', by rw [Maps.atKey_put_other (by intro e; injection e with _ e; exact hx e)]; exact k1, k2, k3, k4, row_gb k5 hg hnc⟩
theorem DW.drop {w : World} {mb : Nat} {L L' : Le.Tb} {D : List Lst} (h : DW w mb L D) {a : Int} (h0 : 0 ≤ a) (h1 : a ≤ 4611686018427387904) (hL : ∀ x, (Le.has L' x).isSome = (!decide (x = a) && (Le.has L x).isSome)) (hi : (Le.has L a).isSome = true) (hn : L'.length + 1 = L.length) (ty : TypeId) :
    ∃ w', (Builtin.delete_ #[90, 3] ty #[.map (some mb), .int .i64 a]).run Tryz.prog w = .ok (.tuple #[]) w' ∧ DW w' mb L' (Zs.fg D a) ∧ w.grownBy w' (some mb) := by
  obtain ⟨es0, ck0, hmap⟩ := h.is_map
  obtain ⟨M, hm, hs, hh, hr⟩ := h
  obtain ⟨w', g1, g2, g3⟩ := World.ownsMap.drop (t := 90) (e := 149) hm law3 Tryz.underlying90 (key_int h0 h1) ty
  have hg := g3.grown
  have hnc : ∀ cs t fr, w.heap[mb]? ≠ some (.cells cs t fr) := fun cs t fr e => by rw [hmap] at e; cases e
  refine ⟨w', g1, ⟨M.del (.int .i64 a), tightD g2, ?_, fun x => ?_, fun x => ?_⟩, hg⟩
  · have := Maps.size_del (hm.tidy law3) (k := .int .i64 a)
    rw [hh, hi] at this
    simp at this
    omega
  · rw [hL]
    by_cases hx : x = a
    · subst hx; rw [Maps.has_del_same]; simp
    · rw [Maps.has_del_other (by intro e; injection e with _ e; exact hx e), hh]; simp [hx]
  · rw [Zs.fd_fg]
    by_cases hx : x = a
    · subst hx
      rw [if_pos rfl]
      exact ⟨dn0, Maps.atKey_del_same _, rfl, rfl, rfl, ⟨rfl, .inl ⟨rfl, rfl⟩⟩⟩
    · rw [if_neg hx]
      obtain ⟨d', k1, k2, k3, k4, k5⟩ := hr x
      exact ⟨d', by rw [Maps.atKey_del_other (by intro e; injection e with _ e; exact hx e)]; exact k1, k2, k3, k4, row_gb k5 hg hnc⟩
/-- Another block has turned, that is no row of texts. -/
theorem DW.keep {w w' : World} {mb : Nat} {L : Le.Tb} {D : List Lst} (h : DW w mb L D) (hb : w'.heap[mb]? = w.heap[mb]?) (hr : ∀ (v : Value) (n : Nat) (xs : List Value), w.ownsRow 0 9 1 v n xs → w'.ownsRow 0 9 1 v n xs) : DW w' mb L D := by
  obtain ⟨M, ⟨es, clock, h1, h2⟩, h3, h4, h5⟩ := h
  refine ⟨M, ⟨es, clock, hb.trans h1, h2⟩, h3, h4, fun a => ?_⟩
  obtain ⟨d, k1, k2, k3, k4, k5⟩ := h5 a
  exact ⟨d, k1, k2, k3, k4, hr _ _ _ k5⟩
theorem DW.same {w : World} {mb : Nat} {L L' : Le.Tb} {D : List Lst} (h : DW w mb L D) (hL : ∀ x, (Le.has L' x).isSome = (Le.has L x).isSome) (hn : L'.length = L.length) : DW w mb L' D := by
  obtain ⟨M, h1, h2, h3, h4⟩ := h
  exact ⟨M, h1, h2.trans hn.symm, fun a => (h3 a).trans (hL a).symm, h4⟩

/-! ### What a call on a state leaves of the rest -/
def okTy (t : TypeId) : Bool := t != 92 && t != 155 && t != 160 && t != 100
structure SK (B : Nat) (w w' : World) : Prop where
  os : w'.os = w.os
  tape : w'.tape = w.tape
  output : w'.output = w.output
  size : w.heap.size ≤ w'.heap.size
  block : ∀ k o, w.heap[k]? = some o → (k < B ∨ ∃ cs t fr, o = .cells cs t fr ∧ okTy t = true) → w'.heap[k]? = some o
theorem SK.of_below {B : Nat} {w w' : World} (h : Below w.heap.size w w') : SK B w w' := ⟨h.os, h.tape, h.output, h.size, fun k _ ho _ => (h.block k (Array.getElem?_eq_some_iff.1 ho).1).trans ho⟩
theorem SK.refl (B : Nat) (w : World) : SK B w w := .of_below (Below.refl _ _)
theorem SK.trans {B : Nat} {a b c : World} (h : SK B a b) (k : SK B b c) : SK B a c :=
  ⟨k.os.trans h.os, k.tape.trans h.tape, k.output.trans h.output, Nat.le_trans h.size k.size, fun j o ho hk => k.block j o (h.block j o ho hk) hk⟩
theorem SK.below {B : Nat} {w w' : World} (h : SK B w w') (hB : B ≤ w.heap.size) : Below B w w' :=
  ⟨h.os, h.tape, h.output, h.size, fun k hk => by
    have hlt : k < w.heap.size := Nat.lt_of_lt_of_le hk hB
    rw [Array.getElem?_eq_getElem hlt]
    exact h.block k _ (Array.getElem?_eq_getElem hlt) (.inl hk)⟩
theorem SK.blk {B : Nat} {w w' : World} (h : SK B w w') {q : Nat} {cs : Array Value} {t : TypeId} {fr : Nat × Nat} (hq : w.heap[q]? = some (.cells cs t fr)) (ht : okTy t = true) : w'.heap[q]? = some (.cells cs t fr) := h.block q _ hq (.inr ⟨cs, t, fr, rfl, ht⟩)
theorem SK.own {B : Nat} {w w' : World} (h : SK B w w') {base e sz n : Nat} {v : Value} {xs : List Value} (hv : w.ownsRow base e sz v n xs) (he : okTy e = true) : w'.ownsRow base e sz v n xs := by
  refine ⟨hv.1, ?_⟩
  rcases hv.2 with hn | ⟨g, cap, cur, rfl, hbg, hg, rest⟩
  · exact .inl hn
  · exact .inr ⟨g, cap, cur, rfl, hbg, h.blk hg he, rest⟩
theorem SK.gb {B x : Nat} {w w' : World} (h : w.grownBy w' (some x)) (hB : B ≤ x) (hx : ∀ cs t fr, w.heap[x]? = some (.cells cs t fr) → okTy t = false) : SK B w w' :=
  ⟨h.os, h.tape, h.output, h.size, fun k o ho hk => by
    refine (h.block k (Array.getElem?_eq_some_iff.1 ho).1 (fun e => ?_)).trans ho
    injection e with e
    subst e
    rcases hk with hk | ⟨cs, t, fr, rfl, ht⟩
    · omega
    · rw [hx cs t fr ho] at ht; cases ht⟩
theorem SK.kp {B lp : Nat} {w w' : World} {lv : Value} {L M : Le.Tb} (h : Lq.KpPost B lp lv M w w') (ht : Lq.TabW w B lp lv L) : SK B w w' := by
  obtain ⟨v', -, k, -⟩ := h
  refine ⟨k.os, k.tape, k.output, k.size, fun j o ho hk => ?_⟩
  refine (k.block j (Array.getElem?_eq_some_iff.1 ho).1 (fun e => ?_) (fun e => ?_)).trans ho
  · subst e
    rcases hk with hk | ⟨cs, t, fr, rfl, hk⟩
    · have := ht.ge; omega
    · rw [ht.here] at ho
      injection ho with ho
      injection ho with _ e _
      rw [← e] at hk; exact absurd hk (by decide)
  · have hge := own_ge ht.row j e
    rcases hk with hk | ⟨cs, t, fr, rfl, hk⟩
    · omega
    · rcases ht.row.2 with ⟨e1, _⟩ | ⟨g, cap, cur, e1, _, hg, _⟩
      · rw [e1] at e; simp [Value.ownBlock] at e
      · rw [e1] at e
        simp only [Value.ownBlock, Option.some.injEq] at e
        subst e
        rw [hg] at ho
        injection ho with ho
        injection ho with _ e _
        rw [← e] at hk; exact absurd hk (by decide)
/-- A state: the box, the tree, the leases, the map. -/
structure SVw (w : World) (B sp tp tmb lp : Nat) (lv : Value) (mb : Nat) (LM : Le.Tb) (S : St) : Prop where
  here : w.heap[sp]? = some (.cells #[.int .i64 S.z, .pointer (some ⟨tp, 0, none⟩), .pointer (some ⟨lp, 0, none⟩), .map (some mb)] 92 (0, 0))
  tree : TreeW w tp tmb S.T
  tab : Lq.TabW w B lp lv S.L
  map : DW w mb LM S.D
  g1 : B ≤ sp
  g2 : B ≤ tp
  g3 : B ≤ mb
def StW (w : World) (B sp : Nat) (S : St) : Prop := ∃ tp tmb lp lv mb, SVw w B sp tp tmb lp lv mb S.L S
theorem str_ok : okTy 9 = true := by decide
theorem SVw.below {w w' : World} {B sp tp tmb lp mb : Nat} {lv : Value} {LM : Le.Tb} {S : St} (h : SVw w B sp tp tmb lp lv mb LM S) (hb : Below w.heap.size w w') : SVw w' B sp tp tmb lp lv mb LM S :=
  ⟨blk_below h.here hb, h.tree.below hb, h.tab.below hb, h.map.keep (hb.block _ h.map.lt) (fun _ _ _ hv => own_below hv hb), h.g1, h.g2, h.g3⟩
theorem StW.below {w w' : World} {B sp : Nat} {S : St} (h : StW w B sp S) (hb : Below w.heap.size w w') : StW w' B sp S := by
  obtain ⟨tp, tmb, lp, lv, mb, h⟩ := h
  exact ⟨tp, tmb, lp, lv, mb, h.below hb⟩
theorem StW.lt {w : World} {B sp : Nat} {S : St} (h : StW w B sp S) : sp < w.heap.size ∧ B ≤ w.heap.size := by
  obtain ⟨tp, tmb, lp, lv, mb, h⟩ := h
  have := blk_lt h.here
  have := h.g1
  exact ⟨by omega, by omega⟩
/-- The number is set. -/
theorem SVw.setz {w : World} {B sp tp tmb lp mb : Nat} {lv : Value} {LM : Le.Tb} {S : St} (h : SVw w B sp tp tmb lp lv mb LM S) (z : Int) :
    SVw (w.setCell ⟨sp, 0, none⟩ (.int .i64 z)) B sp tp tmb lp lv mb LM ⟨z, S.T, S.L, S.D⟩ ∧ SK B w (w.setCell ⟨sp, 0, none⟩ (.int .i64 z)) := by
  have hwr : Wr sp w (w.setCell ⟨sp, 0, none⟩ (.int .i64 z)) := (Wr.refl sp w).set 0 _
  have hg := hwr.gb
  have hh := h.here
  have htt := h.tab.here
  have ht1 := h.tree.here
  refine ⟨⟨heap_setCell_same w sp 0 _ 92 (.int .i64 z) hh, h.tree.gb hg (fun e => ?_) (Ne.symm (h.tree.map.ne_cells hh)), ⟨gb_cells hg (fun e => ?_) htt, own_gb h.tab.row hg (own_ne h.tab.row hh (by decide)), h.tab.ge⟩, h.map.keep (hwr.rest _ (Ne.symm (h.map.ne_cells hh))) (fun v n xs hv => own_gb hv hg (own_ne hv hh (by decide))), h.g1, h.g2, h.g3⟩, .gb hg h.g1 (fun cs t fr e => ?_)⟩
  · rw [e, hh] at ht1; injection ht1 with ht1; injection ht1 with _ e _; exact absurd e (by decide)
  · rw [e, hh] at htt; injection htt with htt; injection htt with _ e _; exact absurd e (by decide)
  · rw [hh] at e; injection e with e; injection e with _ e _; rw [← e]; decide
/-- The tree has turned. -/
theorem SVw.setT {w w' : World} {B sp tp tmb tmb' lp mb : Nat} {lv : Value} {LM : Le.Tb} {S : St} (h : SVw w B sp tp tmb lp lv mb LM S) {T : Tr} (ht : TreeW w' tp tmb' T) (hg : w.grownBy w' (some tp)) :
    SVw w' B sp tp tmb' lp lv mb LM ⟨S.z, T, S.L, S.D⟩ ∧ SK B w w' := by
  have hh := h.here
  have htt := h.tab.here
  have ht1 := h.tree.here
  refine ⟨⟨gb_cells hg (fun e => ?_) hh, ht, ⟨gb_cells hg (fun e => ?_) htt, own_gb h.tab.row hg (own_ne h.tab.row ht1 (by decide)), h.tab.ge⟩, h.map.keep (hg.block _ h.map.lt (by simpa using Ne.symm (h.map.ne_cells ht1))) (fun v n xs hv => own_gb hv hg (own_ne hv ht1 (by decide))), h.g1, h.g2, h.g3⟩, .gb hg h.g2 (fun cs t fr e => ?_)⟩
  · rw [e, ht1] at hh; injection hh with hh; injection hh with _ e _; exact absurd e (by decide)
  · rw [e, ht1] at htt; injection htt with htt; injection htt with _ e _; exact absurd e (by decide)
  · rw [ht1] at e; injection e with e; injection e with _ e _; rw [← e]; decide
/-- The leases have turned. -/
theorem SVw.setL {w w' : World} {B sp tp tmb lp mb : Nat} {lv : Value} {LM M : Le.Tb} {S : St} (h : SVw w B sp tp tmb lp lv mb LM S) (hk : Lq.KpPost B lp lv M w w') :
    (∃ lv', SVw w' B sp tp tmb lp lv' mb LM ⟨S.z, S.T, M, S.D⟩) ∧ SK B w w' := by
  have hsk := SK.kp hk h.tab
  obtain ⟨v', h1, k, h2⟩ := hk
  have hh := k.blk h.tab h.here (by decide) (by decide)
  have ht := k.blk h.tab h.tree.here (by decide) (by decide)
  have hmap : ∀ m, (∃ (es : Array MapEntry) (ck : Nat), w.heap[m]? = some (Obj.map es ck)) → w'.heap[m]? = w.heap[m]? := fun m hex => by
    obtain ⟨es, ck, hm⟩ := hex
    refine k.block m (Array.getElem?_eq_some_iff.1 hm).1 (fun e => ?_) (fun e => ?_)
    · rw [e, h.tab.here] at hm; cases hm
    · rcases h.tab.row.2 with ⟨e1, _⟩ | ⟨g, cap, cur, e1, _, hg, _⟩
      · rw [e1] at e; simp [Value.ownBlock] at e
      · rw [e1] at e
        simp only [Value.ownBlock, Option.some.injEq] at e
        subst e
        rw [hg] at hm; cases hm
  refine ⟨⟨v', ⟨hh, ⟨ht, h.tree.map.of_block (hmap _ ?_)⟩, h1, h.map.keep (hmap _ h.map.is_map) (fun v n xs hv => hsk.own hv str_ok), h.g1, h.g2, h.g3⟩⟩, hsk⟩
  obtain ⟨es, ck, hm, -⟩ := h.tree.map
  exact ⟨es, ck, hm⟩
/-- The map has turned. -/
theorem SVw.setM {w w' : World} {B sp tp tmb lp mb : Nat} {lv : Value} {LM LM' : Le.Tb} {S : St} {D' : List Lst} (h : SVw w B sp tp tmb lp lv mb LM S) (hT : 0 < S.T.length) (hd : DW w' mb LM' D') (hg : w.grownBy w' (some mb)) :
    SVw w' B sp tp tmb lp lv mb LM' ⟨S.z, S.T, S.L, D'⟩ ∧ SK B w w' := by
  obtain ⟨es, ck, hm⟩ := h.map.is_map
  have hnc : ∀ cs t fr, w.heap[mb]? ≠ some (.cells cs t fr) := fun cs t fr e => by rw [hm] at e; cases e
  exact ⟨⟨gb_cells hg (h.map.ne_cells h.here) h.here, h.tree.gb hg (h.map.ne_cells h.tree.here) (h.map.ne_tree h.tree.map hT), ⟨gb_cells hg (h.map.ne_cells h.tab.here) h.tab.here, row_gb h.tab.row hg hnc, h.tab.ge⟩, hd, h.g1, h.g2, h.g3⟩,
    .gb hg h.g3 (fun cs t fr e => absurd e (hnc cs t fr))⟩

/-! ### Rows that are only read -/
def rowTy (t : TypeId) : Bool := t == 132 || t == 82 || t == 102 || t == 9 || t == 165 || t == 79
theorem row_ok {t : TypeId} (h : rowTy t = true) : okTy t = true := by
  unfold rowTy at h
  simp only [Bool.or_eq_true, beq_iff_eq] at h
  rcases h with ((((h | h) | h) | h) | h) | h <;> (rw [h]; decide)
def Tg (w : World) (B : Nat) (A : Option Addr) (n : Nat) : Prop := 0 < n → ∀ a, A = some a → a.block < B ∨ ∃ cs t fr, w.heap[a.block]? = some (.cells cs t fr) ∧ rowTy t = true
theorem Tg.sk {w w' : World} {B : Nat} {A : Option Addr} {n : Nat} (h : Tg w B A n) (hs : SK B w w') : Tg w' B A n := fun h0 a e => by
  rcases h h0 a e with h1 | ⟨cs, t, fr, h1, h2⟩
  · exact .inl h1
  · exact .inr ⟨cs, t, fr, hs.blk h1 (row_ok h2), h2⟩
theorem Tg.below {w w' : World} {B : Nat} {A : Option Addr} {n : Nat} (h : Tg w B A n) (hb : Below w.heap.size w w') : Tg w' B A n := h.sk (.of_below hb)
theorem Tg.of_own {w : World} {base e sz n c B : Nat} {A : Option Addr} {xs : List Value} (h : w.ownsRow base e sz (.slice A n c) n xs) (he : rowTy e = true) : Tg w B A n := fun h0 a ea => by
  rcases h.2 with ⟨e1, _⟩ | ⟨g, cap, cur, e1, _, hg, _⟩
  · injection e1 with e1; rw [ea] at e1; cases e1
  · injection e1 with e1
    rw [ea] at e1
    injection e1 with e1
    subst e1
    exact .inr ⟨cur, e, _, hg, he⟩
theorem Rd.kept {α : Type} {cell : α → List Value} {sz : Nat} {w w' : World} {B : Nat} {A : Option Addr} {n : Nat} {l : List α} (h : Rd cell sz w A n l) (ht : Tg w B A n) (hs : ∀ b o, w.heap[b]? = some o → (b < B ∨ ∃ cs t fr, o = .cells cs t fr ∧ rowTy t = true) → w'.heap[b]? = some o) : Rd cell sz w' A n l := by
  refine ⟨h.len, fun hn => ?_⟩
  obtain ⟨b, off, e, hc⟩ := h.cells hn
  refine ⟨b, off, e, fun i hi j v hv => ?_⟩
  have h1 := hc i hi j v hv
  have hlt := cell_lt h1
  have hb : w'.heap[b]? = w.heap[b]? := by
    rw [Array.getElem?_eq_getElem hlt]
    refine hs b _ (Array.getElem?_eq_getElem hlt) ?_
    rcases ht hn _ e with h2 | ⟨cs, t, fr, h2, h3⟩
    · exact .inl h2
    · refine .inr ⟨cs, t, fr, ?_, h3⟩
      rw [Array.getElem?_eq_getElem hlt] at h2
      exact Option.some.inj h2
  simp only [World.cell?] at h1 ⊢
  rw [hb]; exact h1
theorem Rd.sk {α : Type} {cell : α → List Value} {sz : Nat} {w w' : World} {B : Nat} {A : Option Addr} {n : Nat} {l : List α} (h : Rd cell sz w A n l) (ht : Tg w B A n) (hs : SK B w w') : Rd cell sz w' A n l :=
  h.kept ht (fun b o ho hk => hs.block b o ho (hk.imp id (fun ⟨cs, t, fr, e, h2⟩ => ⟨cs, t, fr, e, row_ok h2⟩)))
/-- A box that holds no row is written into. -/
theorem wr_rows {B r : Nat} {w w' : World} (h : Wr r w w') (hB : B ≤ r) {cs : Array Value} {t : TypeId} {fr : Nat × Nat} (hr : w.heap[r]? = some (.cells cs t fr)) (ht : rowTy t = false) : ∀ b o, w.heap[b]? = some o → (b < B ∨ ∃ cs t fr, o = .cells cs t fr ∧ rowTy t = true) → w'.heap[b]? = some o := fun b o ho hk => by
  refine (h.rest b (fun e => ?_)).trans ho
  subst e
  rcases hk with hk | ⟨cs', t', fr', rfl, hk⟩
  · omega
  · rw [hr] at ho
    injection ho with ho
    injection ho with _ e _
    rw [e] at ht
    rw [ht] at hk; cases hk
theorem Tg.wr {B r : Nat} {w w' : World} {A : Option Addr} {n : Nat} (hg : Tg w B A n) (h : Wr r w w') (hB : B ≤ r) {cs : Array Value} {t : TypeId} {fr : Nat × Nat} (hr : w.heap[r]? = some (.cells cs t fr)) (ht : rowTy t = false) : Tg w' B A n := fun h0 a e => by
  rcases hg h0 a e with h1 | ⟨cs, t, fr, h1, h2⟩
  · exact .inl h1
  · exact .inr ⟨cs, t, fr, wr_rows h hB hr ht _ _ h1 (.inr ⟨cs, t, fr, rfl, h2⟩), h2⟩
theorem Rd.wr {α : Type} {cell : α → List Value} {sz : Nat} {B r : Nat} {w w' : World} {A : Option Addr} {n : Nat} {l : List α} (hd : Rd cell sz w A n l) (hg : Tg w B A n) (h : Wr r w w') (hB : B ≤ r) {cs : Array Value} {t : TypeId} {fr : Nat × Nat} (hr : w.heap[r]? = some (.cells cs t fr)) (ht : rowTy t = false) : Rd cell sz w' A n l := hd.kept hg (wr_rows h hB hr ht)
/-- Texts, events, as a value. -/
def PsW (w : World) (B : Nat) (v : Value) (ps : List Txt) : Prop := ∃ A c, v = .slice A ps.length c ∧ Rd scell 1 w A ps.length ps ∧ Tg w B A ps.length
def EvW (w : World) (B : Nat) (v : Value) (es : List Evt) : Prop := ∃ A c, v = .slice A es.length c ∧ Rd ecell 3 w A es.length es ∧ Tg w B A es.length
def TrW (w : World) (B : Nat) (v : Value) (T : Tr) : Prop := ∃ A c, v = .slice A T.length c ∧ Rd ncell 9 w A T.length T ∧ Tg w B A T.length
theorem PsW.sk {w w' : World} {B : Nat} {v : Value} {ps : List Txt} (h : PsW w B v ps) (hs : SK B w w') : PsW w' B v ps := by
  obtain ⟨A, c, e, h1, h2⟩ := h
  exact ⟨A, c, e, h1.sk h2 hs, h2.sk hs⟩
theorem EvW.sk {w w' : World} {B : Nat} {v : Value} {ps : List Evt} (h : EvW w B v ps) (hs : SK B w w') : EvW w' B v ps := by
  obtain ⟨A, c, e, h1, h2⟩ := h
  exact ⟨A, c, e, h1.sk h2 hs, h2.sk hs⟩
theorem TrW.sk {w w' : World} {B : Nat} {v : Value} {T : Tr} (h : TrW w B v T) (hs : SK B w w') : TrW w' B v T := by
  obtain ⟨A, c, e, h1, h2⟩ := h
  exact ⟨A, c, e, h1.sk h2 hs, h2.sk hs⟩
theorem PsW.of_own {w : World} {base B : Nat} {v : Value} {ps : List Txt} (h : w.ownsRow base 9 1 v ps.length (scells ps)) : PsW w B v ps := by
  obtain ⟨A, c, rfl, -, -, -⟩ := own_form h
  exact ⟨A, c, rfl, Rd.of_own (cell := scell) h (fun _ _ => rfl) (by omega), Tg.of_own h (by decide)⟩
theorem EvW.of_own {w : World} {base B : Nat} {v : Value} {ps : List Evt} (h : w.ownsRow base 165 3 v ps.length (ecells ps)) : EvW w B v ps := by
  obtain ⟨A, c, rfl, -, -, -⟩ := own_form h
  exact ⟨A, c, rfl, Rd.of_own (cell := ecell) h (fun _ _ => rfl) (by omega), Tg.of_own h (by decide)⟩
theorem TrW.of_own {w : World} {base B : Nat} {v : Value} {T : Tr} (h : w.ownsRow base 132 9 v T.length (ncells T)) : TrW w B v T := by
  obtain ⟨A, c, rfl, -, -, -⟩ := own_form h
  exact ⟨A, c, rfl, Rd.of_own (cell := ncell) h (fun _ _ => rfl) (by omega), Tg.of_own h (by decide)⟩
theorem PsW.nil (w : World) (B : Nat) : PsW w B (.slice none 0 0) [] := ⟨none, 0, rfl, Rd.nil _ _ _ _, fun h => absurd h (by simp)⟩
theorem EvW.nil (w : World) (B : Nat) : EvW w B (.slice none 0 0) [] := ⟨none, 0, rfl, Rd.nil _ _ _ _, fun h => absurd h (by simp)⟩
theorem DR.sk {w w' : World} {B : Nat} {A : Option Addr} {T : Le.Tb} (h : Lq.DR w B A T) (hs : SK B w w') : Lq.DR w' B A T := by
  have ht : Tg w B A T.length := fun h0 a e => by
    rcases h.apart h0 a e with h1 | ⟨cs, h1⟩
    · exact .inl h1
    · exact .inr ⟨cs, _, _, h1, by decide⟩
  have hr : Rd Lq.lcell 3 w A T.length T := ⟨h.rd.len, h.rd.cells⟩
  have h2 := hr.sk ht hs
  refine ⟨⟨h2.len, h2.cells⟩, fun h0 a e => ?_⟩
  rcases h.apart h0 a e with h1 | ⟨cs, h1⟩
  · exact .inl h1
  · exact .inr ⟨cs, hs.blk h1 (by decide)⟩
theorem DV.sk {w w' : World} {B : Nat} {v : Value} {T : Le.Tb} (h : Lq.DV w B v T) (hs : SK B w w') : Lq.DV w' B v T := by
  obtain ⟨A, c, e, h1⟩ := h
  exact ⟨A, c, e, DR.sk h1 hs⟩

/-! ### A state of the document's -/
structure Lv where
  s : Int
  n : Int
  c : Int
  rs : Int
  A : Option Addr
  m : Nat
  k : Nat
  ps : List Txt
def lvcell (x : Lv) : List Value := [.int .i64 x.s, .int .i64 x.n, .int .i64 x.c, .int .i64 x.rs, .slice x.A x.m x.k]
def lvL (x : Lv) : Lst := ⟨x.s, x.n, ⟨x.c, x.rs, x.ps⟩⟩
structure LvOk (w : World) (B : Nat) (x : Lv) : Prop where
  rd : Rd scell 1 w x.A x.m x.ps
  tg : Tg w B x.A x.m
theorem LvOk.sk {w w' : World} {B : Nat} {x : Lv} (h : LvOk w B x) (hs : SK B w w') : LvOk w' B x := ⟨h.rd.sk h.tg hs, h.tg.sk hs⟩
structure LsR (w : World) (B : Nat) (A : Option Addr) (l : List Lv) : Prop where
  rd : Rd lvcell 5 w A l.length l
  tg : Tg w B A l.length
  each : ∀ x ∈ l, LvOk w B x
theorem LsR.sk {w w' : World} {B : Nat} {A : Option Addr} {l : List Lv} (h : LsR w B A l) (hs : SK B w w') : LsR w' B A l := ⟨h.rd.sk h.tg hs, h.tg.sk hs, fun x hx => (h.each x hx).sk hs⟩
def LsW (w : World) (B : Nat) (v : Value) (D : List Lst) : Prop := ∃ A c l, v = .slice A l.length c ∧ LsR w B A l ∧ l.map lvL = D
theorem LsW.sk {w w' : World} {B : Nat} {v : Value} {D : List Lst} (h : LsW w B v D) (hs : SK B w w') : LsW w' B v D := by
  obtain ⟨A, c, l, e, h1, h2⟩ := h
  exact ⟨A, c, l, e, h1.sk hs, h2⟩
structure RW (w : World) (B : Nat) (vT vL vD : Value) (S : St) : Prop where
  tree : TrW w B vT S.T
  tab : Lq.DV w B vL S.L
  last : LsW w B vD S.D
theorem RW.sk {w w' : World} {B : Nat} {vT vL vD : Value} {S : St} (h : RW w B vT vL vD S) (hs : SK B w w') : RW w' B vT vL vD S := ⟨h.tree.sk hs, DV.sk h.tab hs, h.last.sk hs⟩
theorem RW.below {w w' : World} {B : Nat} {vT vL vD : Value} {S : St} (h : RW w B vT vL vD S) (hb : Below w.heap.size w w') : RW w' B vT vL vD S := h.sk (.of_below hb)
theorem PsW.wr {B r : Nat} {w w' : World} {v : Value} {ps : List Txt} (hd : PsW w B v ps) (h : Wr r w w') (hB : B ≤ r) {cs : Array Value} {t : TypeId} {fr : Nat × Nat} (hr : w.heap[r]? = some (.cells cs t fr)) (ht : rowTy t = false) : PsW w' B v ps := by
  obtain ⟨A, c, e, h1, h2⟩ := hd
  exact ⟨A, c, e, h1.wr h2 h hB hr ht, h2.wr h hB hr ht⟩
theorem EvW.wr {B r : Nat} {w w' : World} {v : Value} {ps : List Evt} (hd : EvW w B v ps) (h : Wr r w w') (hB : B ≤ r) {cs : Array Value} {t : TypeId} {fr : Nat × Nat} (hr : w.heap[r]? = some (.cells cs t fr)) (ht : rowTy t = false) : EvW w' B v ps := by
  obtain ⟨A, c, e, h1, h2⟩ := hd
  exact ⟨A, c, e, h1.wr h2 h hB hr ht, h2.wr h hB hr ht⟩
theorem TrW.wr {B r : Nat} {w w' : World} {v : Value} {ps : Tr} (hd : TrW w B v ps) (h : Wr r w w') (hB : B ≤ r) {cs : Array Value} {t : TypeId} {fr : Nat × Nat} (hr : w.heap[r]? = some (.cells cs t fr)) (ht : rowTy t = false) : TrW w' B v ps := by
  obtain ⟨A, c, e, h1, h2⟩ := hd
  exact ⟨A, c, e, h1.wr h2 h hB hr ht, h2.wr h hB hr ht⟩
theorem DV.wr {B r : Nat} {w w' : World} {v : Value} {T : Le.Tb} (hd : Lq.DV w B v T) (h : Wr r w w') (hB : B ≤ r) {cs : Array Value} {t : TypeId} {fr : Nat × Nat} (hr : w.heap[r]? = some (.cells cs t fr)) (ht : rowTy t = false) : Lq.DV w' B v T := by
  obtain ⟨A, c, e, h1⟩ := hd
  have hg : Tg w B A T.length := fun h0 a e => by
    rcases h1.apart h0 a e with h2 | ⟨cs, h2⟩
    · exact .inl h2
    · exact .inr ⟨cs, _, _, h2, by decide⟩
  have h3 := Rd.wr (cell := Lq.lcell) (sz := 3) ⟨h1.rd.len, h1.rd.cells⟩ hg h hB hr ht
  refine ⟨A, c, e, ⟨h3.len, h3.cells⟩, fun h0 a e => ?_⟩
  rcases h1.apart h0 a e with h2 | ⟨cs, h2⟩
  · exact .inl h2
  · exact .inr ⟨cs, wr_rows h hB hr ht _ _ h2 (.inr ⟨cs, _, _, rfl, by decide⟩)⟩
theorem LsW.wr {B r : Nat} {w w' : World} {v : Value} {D : List Lst} (hd : LsW w B v D) (h : Wr r w w') (hB : B ≤ r) {cs : Array Value} {t : TypeId} {fr : Nat × Nat} (hr : w.heap[r]? = some (.cells cs t fr)) (ht : rowTy t = false) : LsW w' B v D := by
  obtain ⟨A, c, l, e, h1, h2⟩ := hd
  exact ⟨A, c, l, e, ⟨h1.rd.wr h1.tg h hB hr ht, h1.tg.wr h hB hr ht, fun x hx => ⟨(h1.each x hx).rd.wr (h1.each x hx).tg h hB hr ht, (h1.each x hx).tg.wr h hB hr ht⟩⟩, h2⟩
theorem RW.wr {B r : Nat} {w w' : World} {vT vL vD : Value} {S : St} (hd : RW w B vT vL vD S) (h : Wr r w w') (hB : B ≤ r) {cs : Array Value} {t : TypeId} {fr : Nat × Nat} (hr : w.heap[r]? = some (.cells cs t fr)) (ht : rowTy t = false) : RW w' B vT vL vD S :=
  ⟨hd.tree.wr h hB hr ht, DV.wr hd.tab h hB hr ht, hd.last.wr h hB hr ht⟩
theorem infoLast : (Tryz.prog.info? 102).map (fun i => (i.zero, i.size, i.bytes)) = some (some (.agg #[.int .i64 0, .int .i64 0, .int .i64 0, .int .i64 0, .slice none 0 0]), 5, 56) := by kernel_rfl

/-! ### Cells of a box are set -/
theorem set3 {w : World} {r : Nat} {t : TypeId} {a b c : Value} (hb : w.heap[r]? = some (.cells #[a, b, c] t (0, 0))) (x y z : Value) : Wr r w (((w.setCell ⟨r, 0, none⟩ (x)).setCell ⟨r, 1, none⟩ (y)).setCell ⟨r, 2, none⟩ (z)) ∧ (((w.setCell ⟨r, 0, none⟩ (x)).setCell ⟨r, 1, none⟩ (y)).setCell ⟨r, 2, none⟩ (z)).heap[r]? = some (.cells #[x, y, z] t (0, 0)) :=
  setRow_any [x, y, z] 0 [] [a, b, c] (Wr.refl r w) rfl rfl hb
theorem set4 {w : World} {r : Nat} {t : TypeId} {a b c d : Value} (hb : w.heap[r]? = some (.cells #[a, b, c, d] t (0, 0))) (x y z u : Value) : Wr r w ((((w.setCell ⟨r, 0, none⟩ (x)).setCell ⟨r, 1, none⟩ (y)).setCell ⟨r, 2, none⟩ (z)).setCell ⟨r, 3, none⟩ (u)) ∧ ((((w.setCell ⟨r, 0, none⟩ (x)).setCell ⟨r, 1, none⟩ (y)).setCell ⟨r, 2, none⟩ (z)).setCell ⟨r, 3, none⟩ (u)).heap[r]? = some (.cells #[x, y, z, u] t (0, 0)) :=
  setRow_any [x, y, z, u] 0 [] [a, b, c, d] (Wr.refl r w) rfl rfl hb
theorem set5 {w : World} {r : Nat} {t : TypeId} {a b c d e : Value} (hb : w.heap[r]? = some (.cells #[a, b, c, d, e] t (0, 0))) (x y z u v : Value) : Wr r w (((((w.setCell ⟨r, 0, none⟩ (x)).setCell ⟨r, 1, none⟩ (y)).setCell ⟨r, 2, none⟩ (z)).setCell ⟨r, 3, none⟩ (u)).setCell ⟨r, 4, none⟩ (v)) ∧ (((((w.setCell ⟨r, 0, none⟩ (x)).setCell ⟨r, 1, none⟩ (y)).setCell ⟨r, 2, none⟩ (z)).setCell ⟨r, 3, none⟩ (u)).setCell ⟨r, 4, none⟩ (v)).heap[r]? = some (.cells #[x, y, z, u, v] t (0, 0)) :=
  setRow_any [x, y, z, u, v] 0 [] [a, b, c, d, e] (Wr.refl r w) rfl rfl hb
theorem seti {w : World} {r : Nat} {t : TypeId} {cs : Array Value} (hb : w.heap[r]? = some (.cells cs t (0, 0))) (i : Nat) (x : Value) : Wr r w (w.setCell ⟨r, i, none⟩ x) ∧ (w.setCell ⟨r, i, none⟩ x).heap[r]? = some (.cells (cs.setIfInBounds i x) t (0, 0)) :=
  ⟨(Wr.refl r w).set i x, heap_setCell_same w r i cs t x hb⟩
theorem Wr.blk {r q : Nat} {w w' : World} (h : Wr r w w') (hne : q ≠ r) {o : Obj} (ho : w.heap[q]? = some o) : w'.heap[q]? = some o := (h.rest q hne).trans ho
theorem Wr.sk {B r : Nat} {w w' : World} (h : Wr r w w') (hB : w.heap.size ≤ r ∨ B ≤ r) {cs : Array Value} {t : TypeId} {fr : Nat × Nat} (hr : w.heap[r]? = some (.cells cs t fr)) (ht : okTy t = false) : SK B w w' := by
  refine .gb h.gb ?_ (fun cs' t' fr' e => ?_)
  · rcases hB with h1 | h1
    · have := blk_lt hr; omega
    · exact h1
  · rw [hr] at e; injection e with e; injection e with _ e _; rw [← e]; exact ht
theorem lq_rd {α : Type} {cell : α → List Value} {sz : Nat} {w : World} {A : Option Addr} {n : Nat} {l : List α} (h : Rd cell sz w A n l) : Lq.Rd cell sz w A n l := ⟨h.len, h.cells⟩
end Go.Proofs.YtflgemlhocjipaaGreatDoor
