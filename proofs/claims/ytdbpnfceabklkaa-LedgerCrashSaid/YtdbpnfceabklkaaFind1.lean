/-
  Words for ledger.find: a ledger's struct laid over; appends of bytes as a step of a region; what is found and what is not. No condition.
-/
import Derived.Test.YtdbpnfceabklkaaCount
namespace Go.Proofs.Ytdbpnfceabklkaa
open Go.ChangeShapes Go.WideShapes Go.ChangeAt Go.RowKit

theorem lcells_splice {p : Nat} {G : Lg} {bv : Value} {m' : Mk} (h : Nok G.m.num) (h' : Nok m'.num) : splice (lcells p G bv) 3 (mcells m') = lcells p { G with m := m' } bv := by
  unfold splice lcells
  rw [mcells_len h']
  simp [mcells_len h]
theorem lcells_set {p : Nat} {G : Lg} {bv v : Value} (h : Nok G.m.num) : (lcells p G bv).set 14 v = lcells p G v := by
  unfold lcells
  simp only [List.set_cons_succ]
  rw [List.set_append_right _ _ (by rw [mcells_len h]; decide), mcells_len h]
  rfl
theorem set_mark {w : World} {q p : Nat} {G : Lg} {bv : Value} {m' : Mk} (hN : Nok G.m.num) (hN' : Nok m'.num) (h : w.heap[q]? = some (.cells (lcells p G bv).toArray 74 (0, 0))) : (w.setCells q 3 (mcells m')).heap[q]? = some (.cells (lcells p { G with m := m' } bv).toArray 74 (0, 0)) := by
  rw [setCells_splice (mcells m') 3 (lcells p G bv) w h (by rw [mcells_len hN', lcells_len hN]; decide), lcells_splice hN hN']
theorem set_bytes {w : World} {q p : Nat} {G : Lg} {bv v : Value} (hN : Nok G.m.num) (h : w.heap[q]? = some (.cells (lcells p G bv).toArray 74 (0, 0))) : (w.setCell ⟨q, 14, none⟩ v).heap[q]? = some (.cells (lcells p G v).toArray 74 (0, 0)) := by
  have := heap_setCell_same w q 14 _ 74 v h
  rwa [List.setIfInBounds_toArray, lcells_set hN] at this
theorem there_part {w : World} {g o n : Nat} {cs : Array Value} {t : TypeId} (h : w.heap[g]? = some (.cells cs t (0, 0))) (hn : o + n ≤ cs.size) : w.there g o n := fun j hj => by
  refine ⟨?_, frozen_of_row w g _ _ _ h⟩
  rw [cell_of_row w g _ _ t _ h, Array.getElem?_eq_getElem (by omega)]; rfl
theorem Kl.of_grown {B q : Nat} {w w' : World} {cs : Array Value} {fr : Nat × Nat} (hq : w.heap[q]? = some (.cells cs 74 fr)) (hB : B ≤ q) (hg : w.grownBy w' (some q)) : Kl B w w' :=
  ⟨(Below.refl _ _).grown hg (Nat.le_trans hB (Nat.le_of_lt (Array.getElem?_eq_some_iff.1 hq).1)) (fun k e => by injection e with e; omega), fun k o hk ht => by
    refine (hg.block k (Array.getElem?_eq_some_iff.1 hk).1 (fun e => ?_)).trans hk
    injection e with e
    subst e
    rw [hq] at hk
    injection hk with hk
    exact (ht _ _ _ hk.symm).2.2.2.2 rfl⟩
theorem PDisk.grown {w w' : World} {B p q : Nat} {D : Dk} {cs : Array Value} {fr : Nat × Nat} (h : PDisk w B p D) (hq : w.heap[q]? = some (.cells cs 74 fr)) (hg : w.grownBy w' (some q)) : PDisk w' B p D :=
  h.tags fun k cs' t fr' hk ht => by
    refine (hg.block k (Array.getElem?_eq_some_iff.1 hk).1 (fun e => ?_)).trans hk
    injection e with e
    subst e
    rw [hq] at hk
    injection hk with hk
    injection hk with _ hk _
    subst hk
    rcases ht with h | h | h <;> cases h
/-- An append of bytes as a step of a region. -/
theorem app5_l {l : List Value} {ds : List Deferred} {o : Oper} {w : World} {K : Act → World → Prop} {Q : Exit → Act → World → Prop} (d : Nat) (hd : o.dst = some d) (s x : Operand)
    (ho : o.op = .call { callee := .builtin .append, args := #[s, x], argTypes := #[48, 48] }) (B : Nat) (v : Value) (n : Nat) (xs : List Value) (hs : (Act.mk l.toArray ds).eval s = v) (hown : w.ownsRow B 5 1 v n xs) (A : Option Addr) (m c : Nat) (zs : List Int)
    (hx : (Act.mk l.toArray ds).eval x = .slice A m c) (hr : Reads w A m zs) (h47 : n + m ≤ 140737488355328) (hB : B ≤ w.heap.size)
    (h : ∀ v' w', w'.ownsRow B 5 1 v' (n + m) (xs ++ ints zs) → w.grownBy w' v.ownBlock → K (Act.mk (l.set d v').toArray ds) w') : o.wp Try.prog (Act.mk l.toArray ds) w K Q := by
  obtain ⟨i0, hi, hz0, hz1, hz2⟩ := info_parts info5
  obtain ⟨v', w', hrun, h2, h3⟩ := run_append_rd w B o.type i0 hi hz0 hz1 hz2 v n xs hown A m c zs hr h47 hB
  unfold Oper.wp execOp
  simp only [ho, resolve, invoke, builtin, Sem.run_bind, Sem.run_pure, Result.andThen_ok, List.map_toArray, List.map_cons, List.map_nil, hs, hx, hrun]
  have e := put_lit l ds o.dst d v' hd
  show K ((Act.mk l.toArray ds).put o.dst v') w'
  rw [e]; exact h v' w' h2 h3
theorem grown_of_below' {w w3 : World} {q : Option Nat} (h : Below w.heap.size w w3) (n : Nat) : w.grownBy (w3.drewN n) q := ⟨h.os, h.tape, h.output, h.size, fun k hk _ => h.block k hk⟩
/-- What find leaves. -/
def FdPost (w : World) (q p fr sz : Nat) (D : Dk) (e : Ending) (w' : World) : Prop :=
  w.grownBy w' (some q) ∧ ((∃ m bs bv, e = .returned (.bool true) ∧ Found (cur D) fr sz m bs ∧ w'.heap[q]? = some (.cells (lcells p ⟨fr, sz, m, bs⟩ bv).toArray 74 (0, 0)) ∧ w'.ownsRow w.heap.size 5 1 bv bs.length (ints bs)) ∨
    (e = .returned (.bool false) ∧ ∀ m bs, ¬ Found (cur D) fr sz m bs))
/-- What the loop keeps. -/
def FdRel (w : World) (q p fr sz : Nat) (m : Mk) (L : List (List Int)) (b0 g3 : Nat) (v5 : Value) (wr : World) : Prop :=
  ∃ (i t : Nat) (bv : Value), t = b0 + i ∧ v5 = .int .i64 (t : Int) ∧ 64 * i < m.used + 64 ∧ wr.heap[q]? = some (.cells (lcells p ⟨fr, sz, m, []⟩ bv).toArray 74 (0, 0)) ∧ wr.ownsRow w.heap.size 5 1 bv (min m.used (64 * i)) (ints (rd L b0 (min m.used (64 * i)))) ∧
    wr.heap[g3]? = some (.cells (mcells m).toArray 72 (0, 0)) ∧ w.grownBy wr (some q)
theorem grown_block {w wr : World} {q g : Nat} {o : Obj} {cs : Array Value} {fr : Nat × Nat} (hg : w.grownBy wr (some q)) (hq : w.heap[q]? = some (.cells cs 74 fr)) (ho : w.heap[g]? = some o) (hne : ∀ cs fr, o ≠ .cells cs 74 fr) : wr.heap[g]? = some o := by
  refine (hg.block g (Array.getElem?_eq_some_iff.1 ho).1 (fun e => ?_)).trans ho
  injection e with e
  subst e
  rw [hq] at ho
  injection ho with ho
  exact hne _ _ ho.symm
/-- A round's end. -/
theorem fd_next {w wr w1 w2 : World} {q p fr sz i c n b0 g3 : Nat} {m : Mk} {L : List (List Int)} {bv v2 : Value} {sv : List Int} (hN : Nok m.num) (hn : n = min m.used (64 * i)) (hlt : n < m.used) (hc : c = min 64 (m.used - n)) (hq : wr.heap[q]? = some (.cells (lcells p ⟨fr, sz, m, []⟩ bv).toArray 74 (0, 0)))
    (hsv : sv = L.getD (b0 + i) []) (hsl : sv.length = 64) (hg3 : wr.heap[g3]? = some (.cells (mcells m).toArray 72 (0, 0))) (hg : w.grownBy wr (some q)) (hrow : wr.ownsRow w.heap.size 5 1 bv n (ints (rd L b0 n))) (hb : Below wr.heap.size wr w1) (ho : w2.ownsRow w.heap.size 5 1 v2 (n + c) (ints (rd L b0 n) ++ ints (sv.take c))) (hgr : w1.grownBy w2 bv.ownBlock) :
    FdRel w q p fr sz m L b0 g3 (.int .i64 (((b0 + i : Nat) : Int) + 1)) (w2.setCell ⟨q, 14, none⟩ v2) := by
  have hq1 := (hb.block q (Array.getElem?_eq_some_iff.1 hq).1).trans hq
  have hrow1 := own_below hrow hb
  have hq2 : w2.heap[q]? = some (.cells (lcells p ⟨fr, sz, m, []⟩ bv).toArray 74 (0, 0)) := by
    refine (hgr.block q (Array.getElem?_eq_some_iff.1 hq1).1 (fun e => ?_)).trans hq1
    exact own_ne hrow1 hq1 (by decide) e.symm
  have hg31 := (hb.block g3 (Array.getElem?_eq_some_iff.1 hg3).1).trans hg3
  have hg32 : w2.heap[g3]? = some (.cells (mcells m).toArray 72 (0, 0)) := by
    refine (hgr.block g3 (Array.getElem?_eq_some_iff.1 hg31).1 (fun e => ?_)).trans hg31
    exact own_ne hrow1 hg31 (by decide) e.symm
  have hn64 : n = 64 * i := by omega
  have hnc : n + c = min m.used (64 * (i + 1)) := by omega
  have hrd : rd L b0 (n + c) = rd L b0 n ++ sv.take c := by
    rw [hn64, hsv]
    exact rd_more L _ i c (by omega) (by rw [← hsv]; exact hsl)
  have hne : g3 ≠ q := fun e => by rw [e, hq2] at hg32; injection hg32 with hg32; injection hg32 with _ h _; cases h
  have hgw : w.grownBy w2 (some q) := by
    refine ⟨hgr.os.trans (hb.os.trans hg.os), hgr.tape.trans (hb.tape.trans hg.tape), hgr.output.trans (hb.output.trans hg.output), Nat.le_trans hg.size (Nat.le_trans hb.size hgr.size), fun k hk hkq => ?_⟩
    refine ((hgr.block k (Nat.lt_of_lt_of_le hk (Nat.le_trans hg.size hb.size)) (fun e => ?_)).trans (hb.block k (Nat.lt_of_lt_of_le hk hg.size))).trans (hg.block k hk hkq)
    have := own_ge hrow k e.symm
    omega
  refine ⟨i + 1, b0 + i + 1, v2, by omega, by go_num, by omega, set_bytes hN hq2, ?_, ?_, ?_⟩
  · rw [← hnc, hrd]
    have h := ownsRow_setCell_other ho (own_ne ho hq2 (by decide)) v2 (a := ⟨q, 14, none⟩)
    have e : ints (rd L b0 n ++ sv.take c) = ints (rd L b0 n) ++ ints (sv.take c) := by simp [ints]
    rw [e]; exact h
  · rw [heap_setCell_other w2 _ _ _ hne]; exact hg32
  · exact hgw.trans (setCells_grown [v2] 14 w2)
/-- The head of an array as a slice. -/
theorem arr_to {W : World} {g : Nat} {s : List Int} (hs : Sok s) (hg : W.heap[g]? = some (.cells (ints s).toArray 86 (0, 0))) (c : Nat) (hc : c ≤ 64) :
    ∃ S : Value, (∀ w' : World, (Instr.sliceAt 86 (.pointer (some ⟨g, 0, none⟩)) none (some (.int .i64 (c : Int))) none).run Try.prog w' = .ok S w') ∧ ∃ (A : Option Addr) (k : Nat), S = .slice A c k ∧ Reads W A c (s.take c) := by
  obtain ⟨i0, hi, hz0, hz1, hz2⟩ := info_parts info5
  have ha : Try.prog.arrayLen 86 = 64 := by kernel_rfl
  have he : Try.prog.elem 86 = 5 := by kernel_rfl
  have hu : Try.prog.underlying 86 = some (.array (Try.prog.arrayLen 86) (Try.prog.elem 86)) := by kernel_rfl
  refine ⟨.slice (some ⟨g, 0, none⟩) c 64, fun w' => ?_, some ⟨g, 0, none⟩, 64, rfl, ?_⟩
  · rw [run_sliceAt_array_h (P := Try.prog) w' 86 ⟨g, 0, none⟩ hu .i64 (c : Int) (by omega) (by rw [ha]; omega), ha, he]
    simp [sizeOf, typeInfo, hi, hz1, slicedAt, Go.WideShapes.add_plain]
  · exact reads_mk (by rw [List.length_take, hs.1]; omega) (fun _ => ⟨g, 0, rfl, fun i hi => by
      rw [cell_of_row W g _ _ _ _ hg, List.getElem?_toArray, take_getD _ _ _ hi, Nat.zero_add]
      unfold ints
      rw [List.getElem?_map, List.getElem?_eq_getElem (by rw [hs.1]; omega), getD_eq _ (by rw [hs.1]; omega)]; rfl⟩) (bys_take _ hs.2)
/-- Cells behind the append. -/
theorem fd_cells {wr w1 w2 : World} {q p fr sz n g3 base : Nat} {m : Mk} {bv : Value} {xs : List Value} (hN : Nok m.num) (hq : wr.heap[q]? = some (.cells (lcells p ⟨fr, sz, m, []⟩ bv).toArray 74 (0, 0))) (hg3 : wr.heap[g3]? = some (.cells (mcells m).toArray 72 (0, 0))) (hrow : wr.ownsRow base 5 1 bv n xs) (hb : Below wr.heap.size wr w1) (hgr : w1.grownBy w2 bv.ownBlock) :
    w2.cell? ⟨q, 14, none⟩ = some bv ∧ w2.cell? ⟨g3, 10, none⟩ = some (.int .i64 (m.used : Int)) ∧ w2.frozen? ⟨q, 14, none⟩ = false ∧ ∀ v, (w2.setCell ⟨q, 14, none⟩ v).cell? ⟨g3, 10, none⟩ = some (.int .i64 (m.used : Int)) := by
  have hq1 := (hb.block q (Array.getElem?_eq_some_iff.1 hq).1).trans hq
  have hrow1 := own_below hrow hb
  have hq2 : w2.heap[q]? = some (.cells (lcells p ⟨fr, sz, m, []⟩ bv).toArray 74 (0, 0)) :=
    (hgr.block q (Array.getElem?_eq_some_iff.1 hq1).1 (fun e => own_ne hrow1 hq1 (by decide) e.symm)).trans hq1
  have hg31 := (hb.block g3 (Array.getElem?_eq_some_iff.1 hg3).1).trans hg3
  have hg32 : w2.heap[g3]? = some (.cells (mcells m).toArray 72 (0, 0)) :=
    (hgr.block g3 (Array.getElem?_eq_some_iff.1 hg31).1 (fun e => own_ne hrow1 hg31 (by decide) e.symm)).trans hg31
  have hne : g3 ≠ q := fun e => by rw [e, hq2] at hg32; injection hg32 with hg32; injection hg32 with _ h _; cases h
  have hu : ∀ W : World, W.heap[g3]? = some (.cells (mcells m).toArray 72 (0, 0)) → W.cell? ⟨g3, 10, none⟩ = some (.int .i64 (m.used : Int)) := fun W h => by
    rw [cell_of_row W _ _ _ _ _ h, List.getElem?_toArray]; exact mcells_used hN
  exact ⟨(LCells.of (G := ⟨fr, sz, m, []⟩) hq2 hN).c14, hu _ hg32, frozen_of_row _ _ _ _ _ hq2, fun v => hu _ ((heap_setCell_other w2 _ _ _ hne).trans hg32)⟩
/-- The way out. -/
theorem fd_end {w wr w9 : World} {q p fr sz n b0 : Nat} {m : Mk} {D : Dk} {bv : Value} {l : List (List Int)} {r : List Int} (hpk : rdMk (cur D) fr = (m, true)) (hh : m.half ≤ 1) (hu : m.used ≤ sz * 64) (hb0 : b0 = fr + 2 + m.half * sz) (hn : n = m.used) (hq : wr.heap[q]? = some (.cells (lcells p ⟨fr, sz, m, []⟩ bv).toArray 74 (0, 0)))
    (hrow : wr.ownsRow w.heap.size 5 1 bv n (ints (rd (cur D) b0 n))) (hgr : w.grownBy wr (some q)) (hb : Below wr.heap.size wr w9) (hr : Rc (rd (cur D) b0 n) l r) (hg : gt r = none) : FdPost w q p fr sz D (.returned (.bool (decide (r = [])))) w9 := by
  have hgw : w.grownBy w9 (some q) := by
    refine ⟨hb.os.trans hgr.os, hb.tape.trans hgr.tape, hb.output.trans hgr.output, Nat.le_trans hgr.size hb.size, fun k hk hkq => (hb.block k (Nat.lt_of_lt_of_le hk hgr.size)).trans (hgr.block k hk hkq)⟩
  subst hn hb0
  refine ⟨hgw, ?_⟩
  by_cases he : r = []
  · subst he
    refine .inl ⟨m, rd (cur D) (fr + 2 + m.half * sz) m.used, bv, rfl, ⟨hpk, hh, hu, rfl, l, hr⟩, (hb.block q (Array.getElem?_eq_some_iff.1 hq).1).trans hq, ?_⟩
    rw [rd_len]; exact own_below hrow hb
  · refine .inr ⟨by rw [decide_eq_false he], fun m' bs' hf => ?_⟩
    have e := hpk.symm.trans hf.pk
    injection e with e _
    subst e
    obtain ⟨l', hl'⟩ := hf.whole
    rw [← hf.data] at hl'
    exact he (hr.same hl' hg gt_nil).2
end Go.Proofs.Ytdbpnfceabklkaa
