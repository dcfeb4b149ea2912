/-
  A file in memory: its box, its map of blocks; what calls on the map do; what a call on a file leaves of the rest. No condition.
-/
import Derived.Test.YtoallenigfbkpaaTArr
namespace Go.Proofs.Ytoallenigfbkpaa
set_option maxRecDepth 100000
open Go.ChangeShapes Go.WideShapes Go.ChangeAt Go.RowKit Go.Proofs.Sg

/-- A block's cells as the map has them. -/
def blR (v : Value) : Option (DataW (Array Value) × List MemPlace) := match v with
  | .agg C => some (.held C, [])
  | _ => none
theorem blR_mk (C : Array Value) : blR (.agg C) = some (.held C, []) := rfl
theorem blR_inv {v : Value} {C : Array Value} {ps : List MemPlace} (h : blR v = some (.held C, ps)) : v = .agg C := by
  unfold blR at h
  split at h
  · have h2 := congrArg Prod.fst (Option.some.inj h)
    injection h2 with h2
    rw [h2]
  · cases h
theorem zeroK (w : World) : (zeroValue 61).run Try.prog w = .ok (.agg Z16) w := by
  obtain ⟨i0, hi, hz0, hz1, hz2⟩ := info_parts infoK
  simp [zeroValue, typeInfo, hi, hz0]
theorem lawI : Go.Maps.Keyed Try.prog 3 := Go.Maps.int_keyed Try.underlying3
theorem key_nat {a : Nat} (h1 : a ≤ 4611686018427387904) : keyOf Try.prog 3 (.int .i64 (a : Int)) = some (.int .i64 (a : Int)) :=
  Go.Maps.keyOf_int_mk Try.underlying3 (by
    unfold Lit.wf; simp
    exact ⟨by rw [show IntKind.i64.min = -9223372036854775808 from rfl]; omega, by omega⟩)
theorem tightM {H : Type} {P : Program} {k : TypeId} {R : Value → Option (DataW H × List MemPlace)} {w : World} {mb n : Nat} {D : DataW H} (h : w.ownsMap P k R mb n D) : w.ownsMap P k R mb (Maps.size D) D := by
  obtain ⟨es, clock, h1, h2, _, h4⟩ := h
  refine ⟨es, clock, h1, h2, ?_, h4⟩
  rw [h4]
  show es.size ≤ ((es.toList.map _).foldr DataW.insert []).length
  rw [length_read]
  exact Nat.le_refl _
/-- The cells of a block. -/
def bv (f : Byt) (k : Nat) : Array Value := (bcells (bk f k)).toArray
theorem bv_size (f : Byt) (k : Nat) : (bv f k).size = 16 := by unfold bv; rw [List.size_toArray, bcells_length, bk_len]
theorem bv_one (f : Byt) (k : Nat) : (bv f k).all (·.oneCell') = true := all_oneCell_toArray (bcells_one _)
theorem bv_zero {f : Byt} {k : Nat} (h : bk f k = List.replicate 16 0) : bv f k = Z16 := by
  unfold bv; rw [h, ← z16_list]
/-- The map: the blocks that are there, and their bytes. -/
structure MW (w : World) (mb : Nat) (K : List Nat) (f : Byt) : Prop where
  ex : ∃ M : DataW (Array Value), w.ownsMap Try.prog 3 blR mb (Maps.size M) M ∧ Maps.size M = K.length ∧ (∀ a : Int, Maps.has M (.int .i64 a) = true ↔ ∃ k ∈ K, a = (k : Int)) ∧ ∀ k : Nat, M.atKey (.int .i64 (k : Int)) (.held Z16) = .held (bv f k)
  srt : Srt K
  lim : ∀ k ∈ K, k < 65536
theorem MW.len {w : World} {mb : Nat} {K : List Nat} {f : Byt} (h : MW w mb K f) : K.length ≤ 65536 := srt_len h.srt h.lim
theorem MW.lt {w : World} {mb : Nat} {K : List Nat} {f : Byt} (h : MW w mb K f) : mb < w.heap.size := by
  obtain ⟨M, h1, -⟩ := h.ex
  exact World.ownsMap.lt h1
theorem MW.is_map {w : World} {mb : Nat} {K : List Nat} {f : Byt} (h : MW w mb K f) : ∃ es clock, w.heap[mb]? = some (.map es clock) := by
  obtain ⟨M, ⟨es, clock, h1, _⟩, -⟩ := h.ex
  exact ⟨es, clock, h1⟩
theorem MW.ne_cells {w : World} {mb k : Nat} {K : List Nat} {f : Byt} (h : MW w mb K f) {cs : Array Value} {t : TypeId} {fr : Nat × Nat} (hk : w.heap[k]? = some (.cells cs t fr)) : k ≠ mb := fun e => by
  obtain ⟨es, clock, h1⟩ := h.is_map
  rw [e, h1] at hk
  cases hk
theorem MW.keep {w w' : World} {mb : Nat} {K : List Nat} {f : Byt} (h : MW w mb K f) (hb : w'.heap[mb]? = w.heap[mb]?) : MW w' mb K f := by
  obtain ⟨⟨M, ⟨es, clock, h1, h2⟩, h3⟩, h4, h5⟩ := h
  exact ⟨⟨M, ⟨es, clock, hb.trans h1, h2⟩, h3⟩, h4, h5⟩
theorem MW.below {w w' : World} {mb : Nat} {K : List Nat} {f : Byt} (h : MW w mb K f) (hb : Below w.heap.size w w') : MW w' mb K f := h.keep (hb.block _ h.lt)
theorem MW.gb {w w' : World} {mb x : Nat} {K : List Nat} {f : Byt} (h : MW w mb K f) (hg : w.grownBy w' (some x)) (hx : x ≠ mb) : MW w' mb K f := h.keep (hg.block _ h.lt (by simpa using Ne.symm hx))
/-- Bytes that no block has may be any: the same map. -/
theorem MW.congr {w : World} {mb : Nat} {K : List Nat} {f g : Byt} (h : MW w mb K f) (he : ∀ k, bk f k = bk g k) : MW w mb K g := by
  obtain ⟨⟨M, h1, h2, h3, h4⟩, h5, h6⟩ := h
  exact ⟨⟨M, h1, h2, h3, fun k => by rw [h4]; unfold bv; rw [he]⟩, h5, h6⟩
theorem MW.look {w : World} {mb : Nat} {K : List Nat} {f : Byt} (h : MW w mb K f) {k : Nat} (hk : k < 65536) :
    (∀ b, decide (k ∈ K) = b → (Instr.lookup 50 (.map (some mb)) (.int .i64 (k : Int)) true).run Try.prog w = .ok (.tuple #[.agg (bv f k), .bool b]) w) ∧
    (Instr.lookup 50 (.map (some mb)) (.int .i64 (k : Int)) false).run Try.prog w = .ok (.agg (bv f k)) w := by
  obtain ⟨M, h1, h2, h3, h4⟩ := h.ex
  refine ⟨fun b hb => ?_, ?_⟩
  · obtain ⟨v, ps, g1, g2⟩ := World.ownsMap.look_ok (t := 50) (e := 61) h1 lawI Try.underlying50 (zeroK w) (blR_mk Z16) (key_nat (by omega : k ≤ 4611686018427387904))
    rw [h4] at g2
    have : Maps.has M (.int .i64 (k : Int)) = b := by
      rw [← hb, Bool.eq_iff_iff, h3, decide_eq_true_eq]
      exact ⟨fun ⟨x, hx, e⟩ => by have : k = x := by omega
                                  subst this; exact hx, fun hx => ⟨k, hx, rfl⟩⟩
    rw [g1, blR_inv g2, this]
  · obtain ⟨v, ps, g1, g2⟩ := World.ownsMap.lookup (t := 50) (e := 61) h1 lawI Try.underlying50 (zeroK w) (blR_mk Z16) (key_nat (by omega : k ≤ 4611686018427387904))
    rw [h4] at g2
    rw [g1, blR_inv g2]
theorem MW.size {w : World} {mb : Nat} {K : List Nat} {f : Byt} (h : MW w mb K f) (ty : TypeId) : (Builtin.len_ #[50] ty #[.map (some mb)]).run Try.prog w = .ok (.int .i64 (K.length : Int)) w := by
  obtain ⟨M, h1, h2, h3, h4⟩ := h.ex
  have := World.ownsMap.len (e := 61) h1 Try.underlying50 ty
  rw [h2] at this
  exact this
theorem MW.store {w : World} {mb : Nat} {K : List Nat} {f g : Byt} (h : MW w mb K f) {k : Nat} (hk : k < 65536) (he : ∀ x, x ≠ k → bk g x = bk f x) :
    ∃ w', (Instr.mapUpdate 50 (.map (some mb)) (.int .i64 (k : Int)) (.agg (bv g k))).run Try.prog w = .ok () w' ∧ MW w' mb (ins k K) g ∧ w.grownBy w' (some mb) := by
  have hl := h.len
  obtain ⟨⟨M, hm, hs, hh, hr⟩, hsrt, hlim⟩ := h
  obtain ⟨w', g1, g2, g3⟩ := World.ownsMap.store (t := 50) (e := 61) hm lawI Try.underlying50 (by unfold maxLen; omega) (key_nat (by omega : k ≤ 4611686018427387904)) (blR_mk (bv g k))
  have hg := g3.grown
  have hkl : WideAt.IsKeyLit (.int .i64 (k : Int)) := by trivial
  have hhk : Maps.has M (.int .i64 (k : Int)) = decide (k ∈ K) := by
    rw [Bool.eq_iff_iff, hh, decide_eq_true_eq]
    exact ⟨fun ⟨x, hx, e⟩ => by have : k = x := by omega
                                subst this; exact hx, fun hx => ⟨k, hx, rfl⟩⟩
  refine ⟨w', g1, ⟨⟨M.put (.int .i64 (k : Int)) (.held (bv g k)), tightM g2, ?_, fun x => ?_, fun x => ?_⟩, srt_ins hsrt k, fun x hx => ?_⟩, hg⟩
  · rw [Maps.size_put (hm.tidy lawI), hhk, len_ins hsrt, hs]
    by_cases hx : k ∈ K <;> simp [hx]
  · by_cases hx : x = (k : Int)
    · subst hx
      rw [Maps.has_put_same hm.isMap hkl]
      simp only [true_iff]
      exact ⟨k, mem_ins.2 (.inl rfl), rfl⟩
    · rw [Maps.has_put_other (by intro e; injection e with _ e; exact hx e), hh]
      constructor
      · rintro ⟨y, hy, rfl⟩; exact ⟨y, mem_ins.2 (.inr hy), rfl⟩
      · rintro ⟨y, hy, rfl⟩
        rcases mem_ins.1 hy with rfl | hy
        · exact absurd rfl hx
        · exact ⟨y, hy, rfl⟩
  · by_cases hx : x = k
    · subst hx
      exact Maps.atKey_put_same hm.isMap hkl _ _
    · rw [Maps.atKey_put_other (by intro e; injection e with _ e; omega), hr]
      unfold bv; rw [he x hx]
  · rcases mem_ins.1 hx with rfl | hx
    · exact hk
    · exact hlim x hx
theorem MW.drop {w : World} {mb : Nat} {K : List Nat} {f g : Byt} (h : MW w mb K f) {k : Nat} (hk : k < 65536) (h0 : bk g k = List.replicate 16 0) (he : ∀ x, x ≠ k → bk g x = bk f x) (ty : TypeId) :
    ∃ w', (Builtin.delete_ #[50, 3] ty #[.map (some mb), .int .i64 (k : Int)]).run Try.prog w = .ok (.tuple #[]) w' ∧ MW w' mb (K.filter (fun x => !decide (x = k))) g ∧ w.grownBy w' (some mb) := by
  obtain ⟨⟨M, hm, hs, hh, hr⟩, hsrt, hlim⟩ := h
  obtain ⟨w', g1, g2, g3⟩ := World.ownsMap.drop (t := 50) (e := 61) hm lawI Try.underlying50 (key_nat (by omega : k ≤ 4611686018427387904)) ty
  have hg := g3.grown
  have hhk : Maps.has M (.int .i64 (k : Int)) = decide (k ∈ K) := by
    rw [Bool.eq_iff_iff, hh, decide_eq_true_eq]
    exact ⟨fun ⟨x, hx, e⟩ => by have : k = x := by omega
                                subst this; exact hx, fun hx => ⟨k, hx, rfl⟩⟩
  have hsf := srt_filter hsrt (fun x => !decide (x = k))
  refine ⟨w', g1, ⟨⟨M.del (.int .i64 (k : Int)), tightM g2, ?_, fun x => ?_, fun x => ?_⟩, hsf, fun x hx => hlim x (List.mem_filter.1 hx).1⟩, hg⟩
  · have h1 := Maps.size_del (hm.tidy lawI) (k := .int .i64 (k : Int))
    rw [hhk] at h1
    by_cases hx : k ∈ K
    · have h2 : (ins k (K.filter (fun x => !decide (x = k)))) = K := srt_ext (srt_ins hsf k) hsrt (fun x => by
        rw [mem_ins, List.mem_filter]
        by_cases e : x = k
        · subst e; simp [hx]
        · simp [e])
      have h3 := len_ins_new hsf (k := k) (by simp)
      rw [h2] at h3
      simp [hx] at h1
      omega
    · have h2 : K.filter (fun x => !decide (x = k)) = K := List.filter_eq_self.2 (fun x hx' => by
        have : x ≠ k := fun e => hx (e ▸ hx')
        simp [this])
      rw [h2]
      simp [hx] at h1
      omega
  · by_cases hx : x = (k : Int)
    · subst hx
      rw [Maps.has_del_same]
      simp only [Bool.false_eq_true, false_iff]
      rintro ⟨y, hy, e⟩
      have : y = k := by omega
      simp [this] at hy
    · rw [Maps.has_del_other (by intro e; injection e with _ e; exact hx e), hh]
      constructor
      · rintro ⟨y, hy, rfl⟩; exact ⟨y, List.mem_filter.2 ⟨hy, by simp; omega⟩, rfl⟩
      · rintro ⟨y, hy, rfl⟩; exact ⟨y, (List.mem_filter.1 hy).1, rfl⟩
  · by_cases hx : x = k
    · subst hx
      rw [Maps.atKey_del_same, bv_zero h0]
    · rw [Maps.atKey_del_other (by intro e; injection e with _ e; omega), hr]
      unfold bv; rw [he x hx]
/-- A file: its box, its map. -/
structure SW (w : World) (B sp mb : Nat) (S : Sh) : Prop where
  here : w.heap[sp]? = some (.cells #[.int .i64 (S.n : Int), .map (some mb)] 52 (0, 0))
  map : MW w mb S.K S.f
  good : GoodS S
  gsp : B ≤ sp
  gmb : B ≤ mb
theorem SW.ne {w : World} {B sp mb : Nat} {S : Sh} (h : SW w B sp mb S) : sp ≠ mb := h.map.ne_cells h.here
theorem SW.below {w w' : World} {B sp mb : Nat} {S : Sh} (h : SW w B sp mb S) (hb : Below w.heap.size w w') : SW w' B sp mb S := ⟨blk_below h.here hb, h.map.below hb, h.good, h.gsp, h.gmb⟩
/-- What a call on a file leaves: all blocks but the file's own two. -/
structure SK (w w' : World) (sp mb : Nat) : Prop where
  os : w'.os = w.os
  tape : w'.tape = w.tape
  output : w'.output = w.output
  size : w.heap.size ≤ w'.heap.size
  block : ∀ k, k < w.heap.size → k ≠ sp → k ≠ mb → w'.heap[k]? = w.heap[k]?
theorem SK.of_below {w w' : World} {sp mb : Nat} (h : Below w.heap.size w w') : SK w w' sp mb := ⟨h.os, h.tape, h.output, h.size, fun k hk _ _ => h.block k hk⟩
theorem SK.refl {w : World} {sp mb : Nat} : SK w w sp mb := SK.of_below (Below.refl _ _)
theorem SK.trans {a b c : World} {sp mb : Nat} (h : SK a b sp mb) (k : SK b c sp mb) : SK a c sp mb :=
  ⟨k.os.trans h.os, k.tape.trans h.tape, k.output.trans h.output, Nat.le_trans h.size k.size, fun j hj h1 h2 => (k.block j (Nat.lt_of_lt_of_le hj h.size) h1 h2).trans (h.block j hj h1 h2)⟩
theorem SK.gb_sp {w w' : World} {sp mb : Nat} (h : w.grownBy w' (some sp)) : SK w w' sp mb := ⟨h.os, h.tape, h.output, h.size, fun k hk h1 _ => h.block k hk (by simpa using h1)⟩
theorem SK.gb_mb {w w' : World} {sp mb : Nat} (h : w.grownBy w' (some mb)) : SK w w' sp mb := ⟨h.os, h.tape, h.output, h.size, fun k hk _ h2 => h.block k hk (by simpa using h2)⟩
theorem SK.below {w w' : World} {B sp mb : Nat} (h : SK w w' sp mb) (hB : B ≤ w.heap.size) (h1 : B ≤ sp) (h2 : B ≤ mb) : Below B w w' := ⟨h.os, h.tape, h.output, h.size, fun k hk => h.block k (by omega) (by omega) (by omega)⟩
theorem SW.lts {w : World} {B sp mb : Nat} {S : Sh} (h : SW w B sp mb S) : sp < w.heap.size := blk_lt h.here
/-- Rows stay, boxes of another kind stay. -/
theorem SK.own {w w' : World} {B sp mb : Nat} {S : Sh} (h : SK w w' sp mb) (hs : SW w B sp mb S) {base e sz n : Nat} {u : Value} {xs : List Value} (hu : w.ownsRow base e sz u n xs) (h1 : e ≠ 52) : w'.ownsRow base e sz u n xs := by
  refine ⟨hu.1, ?_⟩
  rcases hu.2 with hn | ⟨g, cap, cur, rfl, hbg, hg, rest⟩
  · exact .inl hn
  · refine .inr ⟨g, cap, cur, rfl, hbg, (h.block g (blk_lt hg) (fun e1 => ?_) (hs.map.ne_cells hg)).trans hg, rest⟩
    rw [e1, hs.here] at hg
    injection hg with hg
    injection hg with _ hg _
    exact h1 hg.symm
theorem SK.blk {w w' : World} {B sp mb : Nat} {S : Sh} (h : SK w w' sp mb) (hs : SW w B sp mb S) {q : Nat} {cs : Array Value} {t : TypeId} {fr : Nat × Nat} (hq : w.heap[q]? = some (.cells cs t fr)) (h1 : t ≠ 52) : w'.heap[q]? = some (.cells cs t fr) := by
  refine (h.block q (blk_lt hq) (fun e1 => ?_) (hs.map.ne_cells hq)).trans hq
  rw [e1, hs.here] at hq
  injection hq with hq
  injection hq with _ hq _
  exact h1 hq.symm
/-- Another file stays. -/
theorem SK.other {w w' : World} {B sp mb B2 sp2 mb2 : Nat} {S S2 : Sh} (h : SK w w' sp mb) (hs : SW w B sp mb S) (h2 : SW w B2 sp2 mb2 S2) (h1 : sp2 ≠ sp) (h3 : mb2 ≠ mb) : SW w' B2 sp2 mb2 S2 :=
  ⟨(h.block _ h2.lts h1 (hs.map.ne_cells h2.here)).trans h2.here, h2.map.keep (h.block _ h2.map.lt (Ne.symm (h2.map.ne_cells hs.here)) h3), h2.good, h2.gsp, h2.gmb⟩
end Go.Proofs.Ytoallenigfbkpaa
