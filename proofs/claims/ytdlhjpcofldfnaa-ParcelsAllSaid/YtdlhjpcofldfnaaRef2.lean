/-
  What the laws' own Send and Double return and leave. Condition: not too many pairs.
-/
import Derived.Test.YtdlhjpcofldfnaaRef1
import Derived.Test.YtdlhjpcofldfnaaSent
namespace Go.Proofs.Ytdlhjpcofldfnaa
set_option maxRecDepth 100000
open Go.ChangeShapes Go.WideShapes Go.ChangeAt Go.RowKit

/-- What a call of the laws' own leaves. -/
structure RNet (w : World) (A1 A2 : Option Addr) (w' : World) (A1' A2' : Option Addr) (n1 n2 : Nat) (L : List Pk) (qs : List (Int × Int)) : Prop where
  pk : PReads w' A1' n1 L
  qk : QReads w' A2' n2 qs
  at1 : ∀ a, A1' = some a → A1 = some a ∨ (w.heap.size ≤ a.block ∧ a.block < w'.heap.size)
  at2 : ∀ a, A2' = some a → A2 = some a ∨ (w.heap.size ≤ a.block ∧ a.block < w'.heap.size)
  below : Below w.heap.size w w'
theorem RNet.same {w w' : World} {A1 A2 : Option Addr} {n1 n2 : Nat} {L : List Pk} {qs : List (Int × Int)} (hp : PReads w A1 n1 L) (hq : QReads w A2 n2 qs) (hb : Below w.heap.size w w') : RNet w A1 A2 w' A1 A2 n1 n2 L qs :=
  ⟨hp.kept hb, hq.kept hb, fun _ e => .inl e, fun _ e => .inl e, hb⟩
theorem set_two {w : World} {r : Nat} {a b : Value} {t : TypeId} (h : w.heap[r]? = some (.cells #[a, b] t (0, 0))) (x y : Value) :
    Wr r w ((w.setCell ⟨r, 0, none⟩ x).setCell ⟨r, 1, none⟩ y) ∧ ((w.setCell ⟨r, 0, none⟩ x).setCell ⟨r, 1, none⟩ y).heap[r]? = some (.cells #[x, y] t (0, 0)) := by
  have h1 := heap_setCell_same w r 0 _ t x h
  have h2 := heap_setCell_same _ r 1 _ t y h1
  exact ⟨(Wr.refl r w).set 0 _ |>.set 1 _, h2⟩
/-- A copy. -/
theorem run_copy {w : World} {A1 : Option Addr} {n1 c1 g : Nat} {L : List Pk} (hp : PReads w A1 n1 L) (hg : w.heap[g]? = some (.cells #[] 31 (0, 0))) (B : Nat) (hBg : B ≤ g) (hB : B ≤ w.heap.size) (hn : n1 ≤ 100000) (ty : TypeId) :
    ∃ g' c' w', (Builtin.append_ #[26, 26] ty #[.slice (some ⟨g, 0, none⟩) 0 0, .slice A1 n1 c1]).run Try.prog w = .ok (.slice (some ⟨g', 0, none⟩) n1 c') w' ∧ SRow w' B (some ⟨g', 0, none⟩) n1 c' L ∧ w.grownBy w' none := by
  obtain ⟨i0, hi, hz0, hz1, hz2⟩ := info_parts info31
  have hl := hp.len
  by_cases h0 : n1 = 0
  · subst h0
    obtain rfl : L = [] := List.eq_nil_of_length_eq_zero hl
    have hsrc : Src Try.prog i0.size 26 (.slice A1 0 c1) 0 [] w := by
      cases A1 with
      | none => exact Src.ofNil w Try.underlying26 c1
      | some a => exact Src.ofSlice w Try.underlying26 a 0 c1 [] (by simp) (fun j u hu => by simp at hu) (fun u hu => by cases hu)
    refine ⟨g, 0, w, run_append_nothing (P := Try.prog) w 26 26 ty 31 i0 Try.underlying26 hi (some ⟨g, 0, none⟩) 0 0 (Nat.le_refl _) _ hsrc, ⟨rfl, 0, ⟨rfl, .inr ⟨g, 0, #[], rfl, hBg, hg, Nat.le_refl _, by unfold maxLen; omega, rfl, rfl⟩⟩, .inl rfl⟩, ⟨rfl, rfl, rfl, Nat.le_refl _, fun _ _ _ => rfl⟩⟩
  · obtain ⟨b, off, rfl, hc⟩ := hp.cells (by omega)
    have hcl : ∀ j u, (pcells L)[j]? = some u → w.cell? ((⟨b, off, none⟩ : Addr).add j) = some u := fun j u hu => by
      have hj := (List.getElem?_eq_some_iff.1 hu).1
      rw [pcells_length] at hj
      rw [Go.WideShapes.add_plain]
      have hi3 : j / 3 < L.length := by omega
      have e := part_get pcell 3 L (j / 3) hi3 (fun _ _ => rfl) (j % 3) (by omega)
      have hjj : j / 3 * 3 + j % 3 = j := by omega
      rw [hjj] at e
      have hu' : (pcell L[j / 3])[j % 3]? = some u := by rw [← e]; exact hu
      obtain ⟨c0, c1, c2⟩ := hc (j / 3) (by omega)
      rw [getD_eq pk0 hi3] at c0 c1 c2
      have h3 : j % 3 = 0 ∨ j % 3 = 1 ∨ j % 3 = 2 := by omega
      rcases h3 with h | h | h
      · rw [h] at hu'; rw [show off + j = off + j / 3 * 3 by omega, c0]; exact hu'
      · rw [h] at hu'; rw [show off + j = off + j / 3 * 3 + 1 by omega, c1]; exact hu'
      · rw [h] at hu'; rw [show off + j = off + j / 3 * 3 + 2 by omega, c2]; exact hu'
    obtain ⟨v', w', hrun, r1, r2⟩ := run_append_arg_grows (P := Try.prog) w 26 ty 31 i0 _ 3 32 Try.underlying26 hi hz0 hz1 hz2 rfl (by decide) ⟨g, 0, none⟩ 0 0 [] rfl (fun j u hu => by simp at hu) ⟨b, off, none⟩ n1 c1 (pcells L) (by rw [pcells_length, hl]) hcl (by omega) (by unfold maxLen; omega) (by omega)
    rw [Nat.zero_add, List.nil_append] at r1
    obtain ⟨g', cap, rfl, hbg, hlt⟩ := r1.form (by omega)
    exact ⟨g', cap, w', hrun, SRow.of_own hl (own_base r1 hB), r2⟩
theorem wpList_copy {w : World} {ops : Array Oper} {rest : List Oper} {o : Oper} {a : Act} {Q : Exit → Act → World → Prop} (hgd : o.guard = none) (s x : Operand)
    (ho : o.op = .call { callee := .builtin .append, args := #[s, x], argTypes := #[26, 26] }) {A1 : Option Addr} {n1 c1 g : Nat} {L : List Pk} (hs : a.eval s = .slice (some ⟨g, 0, none⟩) 0 0) (hx : a.eval x = .slice A1 n1 c1)
    (hp : PReads w A1 n1 L) (hg : w.heap[g]? = some (.cells #[] 31 (0, 0))) (B : Nat) (hBg : B ≤ g) (hB : B ≤ w.heap.size) (hn : n1 ≤ 100000)
    (hK : ∀ g' c' w', SRow w' B (some ⟨g', 0, none⟩) n1 c' L → w.grownBy w' none → wpList Try.prog ops Q rest (a.put o.dst (.slice (some ⟨g', 0, none⟩) n1 c')) w') :
    wpList Try.prog ops Q (o :: rest) a w := by
  refine wpList_plain hgd fun K hK' => ?_
  obtain ⟨g', c', w', hrun, r1, r2⟩ := run_copy (c1 := c1) hp hg B hBg hB hn o.type
  unfold Oper.wp
  simp [execOp, ho, resolve, invoke, builtin, hs, hx, hrun, Result.andThen]
  exact hK' _ _ (hK g' c' w' r1 r2)
/-- The new list is laid into the net, the net into the result. -/
theorem fin_net {w W : World} {A1 A2 A : Option Addr} {bz r n2 c2 m c : Nat} {z0 a0 a1 : Value} {L' : List Pk} {qs : List (Int × Int)} (hz : W.heap[bz]? = some (.cells #[z0, .slice A2 n2 c2] 29 (0, 0))) (hr : W.heap[r]? = some (.cells #[a0, a1] 29 (0, 0))) (hne : bz ≠ r)
    (ho : W.ownsRow w.heap.size 31 3 (.slice A m c) m (pcells L')) (hl : L'.length = m) (hok : ∀ x ∈ L', POk x) (hq : ∀ W' : World, (∀ k, k ≠ bz → k ≠ r → W'.heap[k]? = W.heap[k]?) → QReads W' A2 n2 qs) {A2o : Option Addr} (hq2 : ∀ a, A2 = some a → A2o = some a ∨ (w.heap.size ≤ a.block ∧ a.block < W.heap.size)) (hb : Below w.heap.size w W) (hbz : w.heap.size ≤ bz) (hrs : w.heap.size ≤ r) :
    (W.setCell ⟨bz, 0, none⟩ (.slice A m c)).heap[bz]? = some (.cells #[.slice A m c, .slice A2 n2 c2] 29 (0, 0)) ∧ (W.setCell ⟨bz, 0, none⟩ (.slice A m c)).heap[r]? = some (.cells #[a0, a1] 29 (0, 0)) ∧
    (((W.setCell ⟨bz, 0, none⟩ (.slice A m c)).setCell ⟨r, 0, none⟩ (.slice A m c)).setCell ⟨r, 1, none⟩ (.slice A2 n2 c2)).heap[r]? = some (.cells #[.slice A m c, .slice A2 n2 c2] 29 (0, 0)) ∧
    RNet w A1 A2o (((W.setCell ⟨bz, 0, none⟩ (.slice A m c)).setCell ⟨r, 0, none⟩ (.slice A m c)).setCell ⟨r, 1, none⟩ (.slice A2 n2 c2)) A A2 m n2 L' qs := by
  have h1 := heap_setCell_same W bz 0 _ 29 (.slice A m c) hz
  have h2 := (Go.Deep.blk_setCell_other W ⟨bz, 0, none⟩ (.slice A m c) r (Ne.symm hne)).trans hr
  obtain ⟨hw, h3⟩ := set_two h2 (.slice A m c) (.slice A2 n2 c2)
  have hoth : ∀ k, k ≠ bz → k ≠ r → (((W.setCell ⟨bz, 0, none⟩ (.slice A m c)).setCell ⟨r, 0, none⟩ (.slice A m c)).setCell ⟨r, 1, none⟩ (.slice A2 n2 c2)).heap[k]? = W.heap[k]? := fun k k1 k2 => (hw.rest k k2).trans (Go.Deep.blk_setCell_other W ⟨bz, 0, none⟩ (.slice A m c) k k1)
  have hsz : W.heap.size ≤ (((W.setCell ⟨bz, 0, none⟩ (.slice A m c)).setCell ⟨r, 0, none⟩ (.slice A m c)).setCell ⟨r, 1, none⟩ (.slice A2 n2 c2)).heap.size := by simp only [Go.Deep.nblk_setCell]; exact Nat.le_refl _
  refine ⟨h1, h2, h3, ⟨?_, hq _ hoth, fun a e => .inr ⟨(ho.lt a.block (by rw [e]; rfl)).1, Nat.lt_of_lt_of_le (ho.lt a.block (by rw [e]; rfl)).2 hsz⟩, fun a e => (hq2 a e).imp id (fun h => ⟨h.1, Nat.lt_of_lt_of_le h.2 hsz⟩), ((hb.setCell hbz _).setCell hrs _).setCell hrs _⟩⟩
  have hk := (SRow.of_own hl ho).kept (w' := (((W.setCell ⟨bz, 0, none⟩ (.slice A m c)).setCell ⟨r, 0, none⟩ (.slice A m c)).setCell ⟨r, 1, none⟩ (.slice A2 n2 c2))) (fun a e => hoth _ (fun e2 => own_ne ho hz (by decide) (by rw [e, ← e2]; rfl)) (fun e2 => own_ne ho hr (by decide) (by rw [e, ← e2]; rfl)))
  obtain ⟨c0, ho2, -⟩ := hk.own
  exact row_reads ho2 hl hok
theorem grow_other {W W' : World} {B n c k : Nat} {A : Option Addr} {S : List Pk} {cs : Array Value} {t : TypeId} {fr : Nat × Nat} (hg : W.grownBy W' (Value.slice A n c).ownBlock) (hs : SRow W B A n c S) (hk : W.heap[k]? = some (.cells cs t fr)) (ht : t ≠ 31) : W'.heap[k]? = some (.cells cs t fr) := by
  obtain ⟨c0, ho, -⟩ := hs.own
  exact (hg.block k (Array.getElem?_eq_some_iff.1 hk).1 (fun e => own_ne ho hk ht (by cases A <;> exact e.symm))).trans hk
theorem grow_below {w W W' : World} {B n c : Nat} {A : Option Addr} {S : List Pk} (hg : W.grownBy W' (Value.slice A n c).ownBlock) (hs : SRow W B A n c S) (hb : Below B w W) (hB : B ≤ W.heap.size) : Below B w W' := by
  obtain ⟨c0, ho, -⟩ := hs.own
  exact hb.grown hg hB (fun k e => (ho.lt k (by cases A <;> exact e)).1)
theorem row_more {W : World} {B g n c : Nat} {S : List Pk} {x : Pk} (h : W.ownsRow B 31 3 (.slice (some ⟨g, 0, none⟩) (n + 1) c) (n + 1) (pcells S ++ pcell x)) : W.ownsRow B 31 3 (.slice (some ⟨g, 0, none⟩) (n + 1) c) (n + 1) (pcells (S ++ [x])) := by
  rw [pcells_append]; simpa [pcells] using h
theorem ok_more {S : List Pk} {x : Pk} (h : ∀ y ∈ S, POk y) (hx : POk x) : ∀ y ∈ S ++ [x], POk y := fun y hy => by
  rcases List.mem_append.1 hy with h1 | h1
  · exact h y h1
  · rw [List.mem_singleton.1 h1]; exact hx
theorem q_far {w W : World} {A2 : Option Addr} {n2 bz r : Nat} {qs : List (Int × Int)} (hq : QReads w A2 n2 qs) (hb : Below w.heap.size w W) (hbz : w.heap.size ≤ bz) (hrs : w.heap.size ≤ r) : ∀ W' : World, (∀ k, k ≠ bz → k ≠ r → W'.heap[k]? = W.heap[k]?) → QReads W' A2 n2 qs := fun W' hk => by
  refine ⟨hq.len, fun hn => ?_⟩
  obtain ⟨b, off, e, hc⟩ := hq.cells hn
  have hlt := cell_lt (hc 0 hn).1
  have hbk := (hk b (by omega) (by omega)).trans (hb.block b hlt)
  exact ⟨b, off, e, fun i hi => ⟨(World.cell?_of_block (a := ⟨b, _, none⟩) hbk).trans (hc i hi).1, (World.cell?_of_block (a := ⟨b, _, none⟩) hbk).trans (hc i hi).2⟩⟩
def rsend (L : List Pk) (qs : List (Int × Int)) (x : Pk) : Bool := decide (L.length < 2000) && !qs.any (mtq x.f x.t)
def RSPost (w : World) (A1 A2 : Option Addr) (n2 c2 : Nat) (L' : List Pk) (qs : List (Int × Int)) (is : Bool) (e : Ending) (w' : World) : Prop :=
  ∃ A1' m c1', e = .returned (.tuple #[.agg #[.slice A1' m c1', .slice A2 n2 c2], .bool is]) ∧ RNet w A1 A2 w' A1' A2 m n2 L' qs
set_option maxHeartbeats 8000000 in
theorem rsend_any {w : World} {A1 A2 : Option Addr} {n1 c1 n2 c2 : Nat} {L : List Pk} {qs : List (Int × Int)} (hp : PReads w A1 n1 L) (hq : QReads w A2 n2 qs) (hn1 : n1 ≤ 2000) (hn2 : n2 ≤ 100000) (x : Pk) (hx : POk x) :
    Calls Try.prog 21 #[.agg #[.slice A1 n1 c1, .slice A2 n2 c2], .agg #[.int .i64 x.f, .int .i64 x.t, .string x.b]] w (RSPost w A1 A2 n2 c2 (if rsend L qs x = true then L ++ [x] else L) qs (rsend L qs x)) := by
  obtain ⟨bz, hbz⟩ : ∃ b, b = w.heap.size := ⟨_, rfl⟩
  obtain ⟨wbz, hwbz⟩ : ∃ q, q = w.alloc (.cells #[.slice A1 n1 c1, .slice A2 n2 c2] 29) := ⟨_, rfl⟩
  have ebz : bz = w.heap.size := by rw [hbz]
  have hbwbz : Below w.heap.size w wbz := by rw [hwbz]; exact (Below.refl _ _).alloc (by omega) _
  obtain ⟨bp, hbp⟩ : ∃ b, b = w.heap.size + 1 := ⟨_, rfl⟩
  obtain ⟨wbp, hwbp⟩ : ∃ q, q = wbz.alloc (.cells #[.int .i64 x.f, .int .i64 x.t, .string x.b] 31) := ⟨_, rfl⟩
  have ebp : bp = wbz.heap.size := by rw [hbp, hwbz]; simp
  have hbwbp : Below w.heap.size w wbp := by rw [hwbp]; exact (hbwbz).alloc (by omega) _
  obtain ⟨br, hbr⟩ : ∃ b, b = w.heap.size + 2 := ⟨_, rfl⟩
  obtain ⟨wbr, hwbr⟩ : ∃ q, q = wbp.alloc (.cells #[.slice none 0 0, .slice none 0 0] 29) := ⟨_, rfl⟩
  have ebr : br = wbp.heap.size := by rw [hbr, hwbp, hwbz]; simp
  have hbwbr : Below w.heap.size w wbr := by rw [hwbr]; exact (hbwbp).alloc (by omega) _
  have xbz : wbz.heap[bz]? = some (.cells #[.slice A1 n1 c1, .slice A2 n2 c2] 29 (0, 0)) := by rw [hwbz, ebz]; exact new_block _ _
  replace xbz : wbp.heap[bz]? = some (.cells #[.slice A1 n1 c1, .slice A2 n2 c2] 29 (0, 0)) := by rw [hwbp]; exact ((box_below _ _).block _ (Array.getElem?_eq_some_iff.1 xbz).1).trans xbz
  replace xbz : wbr.heap[bz]? = some (.cells #[.slice A1 n1 c1, .slice A2 n2 c2] 29 (0, 0)) := by rw [hwbr]; exact ((box_below _ _).block _ (Array.getElem?_eq_some_iff.1 xbz).1).trans xbz
  have xbp : wbp.heap[bp]? = some (.cells #[.int .i64 x.f, .int .i64 x.t, .string x.b] 31 (0, 0)) := by rw [hwbp, ebp]; exact new_block _ _
  replace xbp : wbr.heap[bp]? = some (.cells #[.int .i64 x.f, .int .i64 x.t, .string x.b] 31 (0, 0)) := by rw [hwbr]; exact ((box_below _ _).block _ (Array.getElem?_eq_some_iff.1 xbp).1).trans xbp
  have xbr : wbr.heap[br]? = some (.cells #[.slice none 0 0, .slice none 0 0] 29 (0, 0)) := by rw [hwbr, ebr]; exact new_block _ _
  have Xbz := Lib.hid xbz
  have Ebz := Lib.hid hbz
  have Wbz := Lib.hid hwbz
  have Sbz : Hid (w.heap.size ≤ bz) := Lib.hid (by rw [hbz]; omega)
  have Xbp := Lib.hid xbp
  have Ebp := Lib.hid hbp
  have Wbp := Lib.hid hwbp
  have Sbp : Hid (w.heap.size ≤ bp) := Lib.hid (by rw [hbp]; omega)
  have Xbr := Lib.hid xbr
  have Ebr := Lib.hid hbr
  have Wbr := Lib.hid hwbr
  have Sbr : Hid (w.heap.size ≤ br) := Lib.hid (by rw [hbr]; omega)
  have HB := Lib.hid hbwbr
  clear hbwbz hwbz hbwbp hwbp hbwbr hwbr hbz ebz xbz hbp ebp xbp hbr ebr xbr
  have HP := Lib.hid hp
  have HQ := Lib.hid hq
  have HL := Lib.hid hp.len
  have HX := Lib.hid hx
  have HNE : Hid (bz ≠ br) := Lib.hid (by have := Ebz.out; have := Ebr.out; omega)
  have XZ1 := Xbz
  have XP1 := Xbp
  have XR1 := Xbr
  clear hp hq hx Xbz Xbp Xbr
  have z0 := cell_of XZ1.out (j := 0) rfl
  have z1 := cell_of XZ1.out (j := 1) rfl
  have p0 := cell_of XP1.out (j := 0) rfl
  have p1 := cell_of XP1.out (j := 1) rfl
  have p2 := cell_of XP1.out (j := 2) rfl
  obtain ⟨is, his⟩ : ∃ q, q = rsend L qs x := ⟨_, rfl⟩
  obtain ⟨L2, hl2⟩ : ∃ q, q = if rsend L qs x = true then L ++ [x] else L := ⟨_, rfl⟩
  rw [← hl2, ← his]
  have HIS := Lib.hid his
  have HLL := Lib.hid hl2
  clear his hl2
  by_cases hf : n1 < 2000
  · have hf2 : ¬ (2000 : Int) ≤ (n1 : Int) := by omega
    have hf3 : decide ((2000 : Int) ≤ (n1 : Int)) = false := decide_eq_false hf2
    have HF : Hid (rsend L qs x = !qs.any (mtq x.f x.t)) := Lib.hid (by unfold rsend; rw [decide_eq_true (by rw [HL.out]; exact hf)]; rfl)
    have HAP := Lib.hid (rapart_any (A1 := A1) (n1 := n1) (c1 := c1) (c2 := c2) (HQ.out.kept HB.out) hn2 x.f x.t)
    go_enter Try.func21, Try.ntmps21
    go_upto_region 1 with fail
    rw [← Wbz.out, ← Wbp.out, ← Wbr.out, ← Ebr.out, ← Ebp.out, ← Ebz.out]
    go_wp2_with fail
    refine HAP.out.mono ?_
    rintro e w5 ⟨rfl, hb5⟩
    have XZ5 := Lib.hid ((hb5.block _ (Array.getElem?_eq_some_iff.1 XZ1.out).1).trans XZ1.out)
    have XP5 := Lib.hid ((hb5.block _ (Array.getElem?_eq_some_iff.1 XP1.out).1).trans XP1.out)
    have XR5 := Lib.hid ((hb5.block _ (Array.getElem?_eq_some_iff.1 XR1.out).1).trans XR1.out)
    have HB5 := Lib.hid (HB.out.trans (hb5.mono HB.out.size))
    obtain ⟨qb, hqb⟩ : ∃ q, q = qs.any (mtq x.f x.t) := ⟨_, rfl⟩
    rw [← hqb] at HF
    rw [← hqb]
    clear hb5 hqb z0 z1 p0 p1 p2 HAP
    cases qb with
    | true =>
      have HF2 : Hid (rsend L qs x = false) := HF
      have z0 := cell_of XZ5.out (j := 0) rfl
      have z1 := cell_of XZ5.out (j := 1) rfl
      have r0 := cell_of XR5.out (j := 0) rfl
      have r1 := cell_of XR5.out (j := 1) rfl
      have f0 := frozen_of_row w5 br 0 _ _ XR5.out
      have f1 := frozen_of_row w5 br 1 _ _ XR5.out
      obtain ⟨w9, hw9⟩ : ∃ q, q = (w5.setCell ⟨br, 0, none⟩ (.slice A1 n1 c1)).setCell ⟨br, 1, none⟩ (.slice A2 n2 c2) := ⟨_, rfl⟩
      obtain ⟨hwr, hx9⟩ := set_two XR5.out (.slice A1 n1 c1) (.slice A2 n2 c2)
      rw [← hw9] at hwr hx9
      have t0 := cell_of hx9 (j := 0) rfl
      have t1 := cell_of hx9 (j := 1) rfl
      have HE : Hid (RSPost w A1 A2 n2 c2 L2 qs is (.returned (.tuple #[.agg #[.slice A1 n1 c1, .slice A2 n2 c2], .bool false])) w9) := Lib.hid (by rw [HLL.out, HIS.out, HF2.out]; exact ⟨_, _, _, rfl, RNet.same HP.out HQ.out (HB5.out.trans (hwr.below.mono Sbr.out))⟩)
      have HW9 := Lib.hid hw9
      clear hwr hx9 hw9
      go_wp2_with fail
      rw [← HW9.out]
      exact bodyPost_ret (v := .tuple #[.agg #[.slice A1 n1 c1, .slice A2 n2 c2], .bool false]) (by simp [results, Try.results21, go_sem, t0, t1]) rfl HE.out
    | false =>
      have HF2 : Hid (rsend L qs x = true) := HF
      have HP6 := Lib.hid ((HP.out.kept HB5.out).kept (box_below w5 (.cells #[] 31)))
      have HG6 := Lib.hid (new_block w5 (.cells #[] 31))
      have HB6 : Hid (Below w.heap.size w (w5.alloc (.cells #[] 31))) := Lib.hid (HB5.out.trans ((box_below w5 (.cells #[] 31)).mono HB5.out.size))
      have XZ6 := Lib.hid (((box_below w5 (.cells #[] 31)).block _ (Array.getElem?_eq_some_iff.1 XZ5.out).1).trans XZ5.out)
      have XP6 := Lib.hid (((box_below w5 (.cells #[] 31)).block _ (Array.getElem?_eq_some_iff.1 XP5.out).1).trans XP5.out)
      have XR6 := Lib.hid (((box_below w5 (.cells #[] 31)).block _ (Array.getElem?_eq_some_iff.1 XR5.out).1).trans XR5.out)
      have z0 := cell_of XZ6.out (j := 0) rfl
      go_wp2_with (first
        | (at_builtin; (refine wpList_copy rfl (.tmp 20) (.tmp 22) rfl rfl rfl HP6.out HG6.out w.heap.size HB5.out.size HB6.out.size (by omega) ?_; intro g6 c6 w6 hrow hgrow; have XZ7 := Lib.hid ((hgrow.block _ (Array.getElem?_eq_some_iff.1 XZ6.out).1 (by simp)).trans XZ6.out); have XP7 := Lib.hid ((hgrow.block _ (Array.getElem?_eq_some_iff.1 XP6.out).1 (by simp)).trans XP6.out); have XR7 := Lib.hid ((hgrow.block _ (Array.getElem?_eq_some_iff.1 XR6.out).1 (by simp)).trans XR6.out); have HB7 := Lib.hid (HB6.out.grown hgrow HB6.out.size (fun _ e => by cases e)); have HS7 := Lib.hid (hrow.kept (w' := w6.alloc (.cells #[.int .i64 x.f, .int .i64 x.t, .string x.b] 31)) (fun a e => (box_below w6 _).block _ (hrow.blk a e).2)); have p0 := cell_of XP7.out (j := 0) rfl; have p1 := cell_of XP7.out (j := 1) rfl; have p2 := cell_of XP7.out (j := 2) rfl; clear hrow hgrow z0))
        | (at_builtin; (refine wpList_append_sent rfl (.tmp 24) (.tmp 26) rfl rfl HS7.out ⟨w6.heap.size, 0, none⟩ 1 1 (pcell x) rfl rfl (World.news_of_block (new_block w6 _)) (by intro u hu; simp [pcell] at hu; rcases hu with rfl | rfl | rfl <;> rfl) (by decide) (by omega) (Nat.le_trans HB7.out.size (box_below w6 _).size) ?_; intro g8 c8 w8 hown hgrow hat hlt8; have XB := box_below w6 (.cells #[.int .i64 x.f, .int .i64 x.t, .string x.b] 31); have XZ8 := Lib.hid (grow_other hgrow HS7.out ((XB.block _ (Array.getElem?_eq_some_iff.1 XZ7.out).1).trans XZ7.out) (by decide)); have XR8 := Lib.hid (grow_other hgrow HS7.out ((XB.block _ (Array.getElem?_eq_some_iff.1 XR7.out).1).trans XR7.out) (by decide)); have HB8 := Lib.hid (grow_below hgrow HS7.out (HB7.out.trans (XB.mono HB7.out.size)) (Nat.le_trans HB7.out.size XB.size)); have HO8 := Lib.hid (row_more hown); clear hown hgrow hat hlt8 XB; have z0 := cell_of XZ8.out (j := 0) rfl; have fz := frozen_of_row w8 bz 0 _ _ XZ8.out; obtain ⟨f1z, f1r, f2r, fnet⟩ := fin_net (A1 := A1) (A2o := A2) XZ8.out XR8.out HNE.out HO8.out (by simp [HL.out]) (ok_more HP.out.ok HX.out) (q_far HQ.out HB8.out Sbz.out Sbr.out) (fun _ e => .inl e) HB8.out Sbz.out Sbr.out; obtain ⟨w9, hw9⟩ : ∃ q, q = ((w8.setCell ⟨bz, 0, none⟩ (.slice (some ⟨g8, 0, none⟩) (n1 + 1) c8)).setCell ⟨br, 0, none⟩ (.slice (some ⟨g8, 0, none⟩) (n1 + 1) c8)).setCell ⟨br, 1, none⟩ (.slice A2 n2 c2) := ⟨_, rfl⟩; rw [← hw9] at f2r fnet; have y0 := cell_of f1z (j := 0) rfl; have y1 := cell_of f1z (j := 1) rfl; have r0 := cell_of f1r (j := 0) rfl; have r1 := cell_of f1r (j := 1) rfl; have f0 := frozen_of_row _ br 0 _ _ f1r; have f1 := frozen_of_row _ br 1 _ _ f1r; have t0 := cell_of f2r (j := 0) rfl; have t1 := cell_of f2r (j := 1) rfl; have HE : Hid (RSPost w A1 A2 n2 c2 L2 qs is (.returned (.tuple #[.agg #[.slice (some ⟨g8, 0, none⟩) (n1 + 1) c8, .slice A2 n2 c2], .bool true])) w9) := Lib.hid (by rw [HLL.out, HIS.out, HF2.out]; exact ⟨_, _, _, rfl, fnet⟩); have HW9 := Lib.hid hw9; clear f1z f1r f2r fnet hw9))
        | fail)
      rw [← HW9.out]
      exact bodyPost_ret (v := .tuple #[.agg #[.slice (some ⟨g8, 0, none⟩) (n1 + 1) c8, .slice A2 n2 c2], .bool true]) (by simp [results, Try.results21, go_sem, t0, t1]) rfl HE.out
  · have hf2 : (2000 : Int) ≤ (n1 : Int) := by omega
    have hf3 : decide ((2000 : Int) ≤ (n1 : Int)) = true := decide_eq_true hf2
    have HF2 : Hid (rsend L qs x = false) := Lib.hid (by unfold rsend; rw [decide_eq_false (by rw [HL.out]; exact hf)]; rfl)
    go_enter Try.func21, Try.ntmps21
    go_upto_region 1 with fail
    rw [← Wbz.out, ← Wbp.out, ← Wbr.out, ← Ebr.out, ← Ebp.out, ← Ebz.out]
    have z0 := cell_of XZ1.out (j := 0) rfl
    have z1 := cell_of XZ1.out (j := 1) rfl
    have r0 := cell_of XR1.out (j := 0) rfl
    have r1 := cell_of XR1.out (j := 1) rfl
    have f0 := frozen_of_row wbr br 0 _ _ XR1.out
    have f1 := frozen_of_row wbr br 1 _ _ XR1.out
    obtain ⟨w9, hw9⟩ : ∃ q, q = (wbr.setCell ⟨br, 0, none⟩ (.slice A1 n1 c1)).setCell ⟨br, 1, none⟩ (.slice A2 n2 c2) := ⟨_, rfl⟩
    obtain ⟨hwr, hx9⟩ := set_two XR1.out (.slice A1 n1 c1) (.slice A2 n2 c2)
    rw [← hw9] at hwr hx9
    have t0 := cell_of hx9 (j := 0) rfl
    have t1 := cell_of hx9 (j := 1) rfl
    have HE : Hid (RSPost w A1 A2 n2 c2 L2 qs is (.returned (.tuple #[.agg #[.slice A1 n1 c1, .slice A2 n2 c2], .bool false])) w9) := Lib.hid (by rw [HLL.out, HIS.out, HF2.out]; exact ⟨_, _, _, rfl, RNet.same HP.out HQ.out (HB.out.trans (hwr.below.mono Sbr.out))⟩)
    have HW9 := Lib.hid hw9
    clear hwr hx9 hw9
    go_wp2_with fail
    rw [← HW9.out]
    exact bodyPost_ret (v := .tuple #[.agg #[.slice A1 n1 c1, .slice A2 n2 c2], .bool false]) (by simp [results, Try.results21, go_sem, t0, t1]) rfl HE.out
def rdbl (L : List Pk) (k : Int) : Bool := (atL L k).2 && decide (L.length < 2000)
theorem at_ok2 {L : List Pk} {k : Int} (h : (atL L k).2 = true) (hok : ∀ x ∈ L, POk x) : POk (atL L k).1 := by
  obtain ⟨n, rfl, hn⟩ := at_true h
  unfold atL
  rw [if_pos ⟨by omega, by omega⟩]
  show POk (L.getD n pk0)
  rw [getD_eq pk0 hn]
  exact hok _ (List.getElem_mem hn)
set_option maxHeartbeats 8000000 in
theorem rdouble_any {w : World} {A1 A2 : Option Addr} {n1 c1 n2 c2 : Nat} {L : List Pk} {qs : List (Int × Int)} (hp : PReads w A1 n1 L) (hq : QReads w A2 n2 qs) (hn1 : n1 ≤ 2000) (k : Int) :
    Calls Try.prog 23 #[.agg #[.slice A1 n1 c1, .slice A2 n2 c2], .int .i64 k] w (RSPost w A1 A2 n2 c2 (if rdbl L k = true then L ++ [(atL L k).1] else L) qs (rdbl L k)) := by
  obtain ⟨bz, hbz⟩ : ∃ b, b = w.heap.size := ⟨_, rfl⟩
  obtain ⟨wbz, hwbz⟩ : ∃ q, q = w.alloc (.cells #[.slice A1 n1 c1, .slice A2 n2 c2] 29) := ⟨_, rfl⟩
  have ebz : bz = w.heap.size := by rw [hbz]
  have hbwbz : Below w.heap.size w wbz := by rw [hwbz]; exact (Below.refl _ _).alloc (by omega) _
  obtain ⟨br, hbr⟩ : ∃ b, b = w.heap.size + 1 := ⟨_, rfl⟩
  obtain ⟨wbr, hwbr⟩ : ∃ q, q = wbz.alloc (.cells #[.slice none 0 0, .slice none 0 0] 29) := ⟨_, rfl⟩
  have ebr : br = wbz.heap.size := by rw [hbr, hwbz]; simp
  have hbwbr : Below w.heap.size w wbr := by rw [hwbr]; exact (hbwbz).alloc (by omega) _
  have xbz : wbz.heap[bz]? = some (.cells #[.slice A1 n1 c1, .slice A2 n2 c2] 29 (0, 0)) := by rw [hwbz, ebz]; exact new_block _ _
  replace xbz : wbr.heap[bz]? = some (.cells #[.slice A1 n1 c1, .slice A2 n2 c2] 29 (0, 0)) := by rw [hwbr]; exact ((box_below _ _).block _ (Array.getElem?_eq_some_iff.1 xbz).1).trans xbz
  have xbr : wbr.heap[br]? = some (.cells #[.slice none 0 0, .slice none 0 0] 29 (0, 0)) := by rw [hwbr, ebr]; exact new_block _ _
  have Xbz := Lib.hid xbz
  have Ebz := Lib.hid hbz
  have Wbz := Lib.hid hwbz
  have Sbz : Hid (w.heap.size ≤ bz) := Lib.hid (by rw [hbz]; omega)
  have Xbr := Lib.hid xbr
  have Ebr := Lib.hid hbr
  have Wbr := Lib.hid hwbr
  have Sbr : Hid (w.heap.size ≤ br) := Lib.hid (by rw [hbr]; omega)
  have HB := Lib.hid hbwbr
  clear hbwbz hwbz hbwbr hwbr hbz ebz xbz hbr ebr xbr
  have HP := Lib.hid hp
  have HQ := Lib.hid hq
  have HL := Lib.hid hp.len
  have HNE : Hid (bz ≠ br) := Lib.hid (by have := Ebz.out; have := Ebr.out; omega)
  have XZ1 := Xbz
  have XR1 := Xbr
  clear hp hq Xbz Xbr
  obtain ⟨is, his⟩ : ∃ q, q = rdbl L k := ⟨_, rfl⟩
  obtain ⟨L2, hl2⟩ : ∃ q, q = if rdbl L k = true then L ++ [(atL L k).1] else L := ⟨_, rfl⟩
  rw [← hl2, ← his]
  have HIS := Lib.hid his
  have HLL := Lib.hid hl2
  clear his hl2
  have HAT := Lib.hid (rat_any (A2 := A2) (n2 := n2) (c1 := c1) (c2 := c2) (HP.out.kept HB.out) k)
  obtain ⟨x, hx⟩ : ∃ x, x = (atL L k).1 := ⟨_, rfl⟩
  obtain ⟨qb, hqb⟩ : ∃ q, q = (atL L k).2 := ⟨_, rfl⟩
  have HX := Lib.hid hx
  have HQB := Lib.hid hqb
  clear hx hqb
  have z0 := cell_of XZ1.out (j := 0) rfl
  have z1 := cell_of XZ1.out (j := 1) rfl
  go_enter Try.func23, Try.ntmps23
  go_upto_region 1 with fail
  rw [← Wbz.out, ← Wbr.out, ← Ebr.out, ← Ebz.out]
  go_wp2_with fail
  refine HAT.out.mono ?_
  rintro e w3 ⟨rfl, hb3⟩
  rw [← HX.out, ← HQB.out]
  obtain ⟨bp, hbp⟩ : ∃ b, b = w3.heap.size := ⟨_, rfl⟩
  obtain ⟨w5, hw5⟩ : ∃ q, q = w3.alloc (.cells #[.int .i64 x.f, .int .i64 x.t, .string x.b] 31) := ⟨_, rfl⟩
  have hb5 : Below w3.heap.size w3 w5 := by rw [hw5]; exact box_below w3 _
  have XP5 : Hid (w5.heap[bp]? = some (.cells #[.int .i64 x.f, .int .i64 x.t, .string x.b] 31 (0, 0))) := Lib.hid (by rw [hw5, hbp]; exact new_block w3 _)
  have hb35 := hb3.trans (hb5.mono hb3.size)
  have XZ5 := Lib.hid ((hb35.block _ (Array.getElem?_eq_some_iff.1 XZ1.out).1).trans XZ1.out)
  have XR5 := Lib.hid ((hb35.block _ (Array.getElem?_eq_some_iff.1 XR1.out).1).trans XR1.out)
  have HB5 := Lib.hid (HB.out.trans (hb35.mono HB.out.size))
  have HW5 := Lib.hid hw5
  have HBP := Lib.hid hbp
  clear hb3 hb5 hb35 hw5 hbp z0 z1 HAT
  unfold pv
  go_upto_region 2 with fail
  rw [← HW5.out, ← HBP.out]
  cases qb with
  | false =>
    have HF2 : Hid (rdbl L k = false) := Lib.hid (by unfold rdbl; rw [← HQB.out]; rfl)
    have z0 := cell_of XZ5.out (j := 0) rfl
    have z1 := cell_of XZ5.out (j := 1) rfl
    have r0 := cell_of XR5.out (j := 0) rfl
    have r1 := cell_of XR5.out (j := 1) rfl
    have f0 := frozen_of_row w5 br 0 _ _ XR5.out
    have f1 := frozen_of_row w5 br 1 _ _ XR5.out
    obtain ⟨w9, hw9⟩ : ∃ q, q = (w5.setCell ⟨br, 0, none⟩ (.slice A1 n1 c1)).setCell ⟨br, 1, none⟩ (.slice A2 n2 c2) := ⟨_, rfl⟩
    obtain ⟨hwr, hx9⟩ := set_two XR5.out (.slice A1 n1 c1) (.slice A2 n2 c2)
    rw [← hw9] at hwr hx9
    have t0 := cell_of hx9 (j := 0) rfl
    have t1 := cell_of hx9 (j := 1) rfl
    have HE : Hid (RSPost w A1 A2 n2 c2 L2 qs is (.returned (.tuple #[.agg #[.slice A1 n1 c1, .slice A2 n2 c2], .bool false])) w9) := Lib.hid (by rw [HLL.out, HIS.out, HF2.out]; exact ⟨_, _, _, rfl, RNet.same HP.out HQ.out (HB5.out.trans (hwr.below.mono Sbr.out))⟩)
    have HW9 := Lib.hid hw9
    clear hwr hx9 hw9
    go_wp2_with fail
    rw [← HW9.out]
    exact bodyPost_ret (v := .tuple #[.agg #[.slice A1 n1 c1, .slice A2 n2 c2], .bool false]) (by simp [results, Try.results23, go_sem, t0, t1]) rfl HE.out
  | true =>
    have HXO : Hid (POk x) := Lib.hid (by rw [HX.out]; exact at_ok2 HQB.out.symm HP.out.ok)
    by_cases hf : n1 < 2000
    · have hf2 : ¬ (2000 : Int) ≤ (n1 : Int) := by omega
      have hf3 : decide ((2000 : Int) ≤ (n1 : Int)) = false := decide_eq_false hf2
      have HF2 : Hid (rdbl L k = true) := Lib.hid (by unfold rdbl; rw [← HQB.out, decide_eq_true (by rw [HL.out]; exact hf)]; rfl)
      have zz0 := cell_of XZ5.out (j := 0) rfl
      have HP6 := Lib.hid ((HP.out.kept HB5.out).kept (box_below w5 (.cells #[] 31)))
      have HG6 := Lib.hid (new_block w5 (.cells #[] 31))
      have HB6 : Hid (Below w.heap.size w (w5.alloc (.cells #[] 31))) := Lib.hid (HB5.out.trans ((box_below w5 (.cells #[] 31)).mono HB5.out.size))
      have XZ6 := Lib.hid (((box_below w5 (.cells #[] 31)).block _ (Array.getElem?_eq_some_iff.1 XZ5.out).1).trans XZ5.out)
      have XP6 := Lib.hid (((box_below w5 (.cells #[] 31)).block _ (Array.getElem?_eq_some_iff.1 XP5.out).1).trans XP5.out)
      have XR6 := Lib.hid (((box_below w5 (.cells #[] 31)).block _ (Array.getElem?_eq_some_iff.1 XR5.out).1).trans XR5.out)
      have z0 := cell_of XZ6.out (j := 0) rfl
      go_wp2_with (first
        | (at_builtin; (refine wpList_copy rfl (.tmp 24) (.tmp 26) rfl rfl rfl HP6.out HG6.out w.heap.size HB5.out.size HB6.out.size (by omega) ?_; intro g6 c6 w6 hrow hgrow; have XZ7 := Lib.hid ((hgrow.block _ (Array.getElem?_eq_some_iff.1 XZ6.out).1 (by simp)).trans XZ6.out); have XP7 := Lib.hid ((hgrow.block _ (Array.getElem?_eq_some_iff.1 XP6.out).1 (by simp)).trans XP6.out); have XR7 := Lib.hid ((hgrow.block _ (Array.getElem?_eq_some_iff.1 XR6.out).1 (by simp)).trans XR6.out); have HB7 := Lib.hid (HB6.out.grown hgrow HB6.out.size (fun _ e => by cases e)); have HS7 := Lib.hid (hrow.kept (w' := w6.alloc (.cells #[.int .i64 x.f, .int .i64 x.t, .string x.b] 31)) (fun a e => (box_below w6 _).block _ (hrow.blk a e).2)); have p0 := cell_of XP7.out (j := 0) rfl; have p1 := cell_of XP7.out (j := 1) rfl; have p2 := cell_of XP7.out (j := 2) rfl; clear hrow hgrow z0 zz0))
        | (at_builtin; (refine wpList_append_sent rfl (.tmp 28) (.tmp 30) rfl rfl HS7.out ⟨w6.heap.size, 0, none⟩ 1 1 (pcell x) rfl rfl (World.news_of_block (new_block w6 _)) (by intro u hu; simp [pcell] at hu; rcases hu with rfl | rfl | rfl <;> rfl) (by decide) (by omega) (Nat.le_trans HB7.out.size (box_below w6 _).size) ?_; intro g8 c8 w8 hown hgrow hat hlt8; have XB := box_below w6 (.cells #[.int .i64 x.f, .int .i64 x.t, .string x.b] 31); have XZ8 := Lib.hid (grow_other hgrow HS7.out ((XB.block _ (Array.getElem?_eq_some_iff.1 XZ7.out).1).trans XZ7.out) (by decide)); have XR8 := Lib.hid (grow_other hgrow HS7.out ((XB.block _ (Array.getElem?_eq_some_iff.1 XR7.out).1).trans XR7.out) (by decide)); have HB8 := Lib.hid (grow_below hgrow HS7.out (HB7.out.trans (XB.mono HB7.out.size)) (Nat.le_trans HB7.out.size XB.size)); have HO8 := Lib.hid (row_more hown); clear hown hgrow hat hlt8 XB; have z0 := cell_of XZ8.out (j := 0) rfl; have fz := frozen_of_row w8 bz 0 _ _ XZ8.out; obtain ⟨f1z, f1r, f2r, fnet⟩ := fin_net (A1 := A1) (A2o := A2) XZ8.out XR8.out HNE.out HO8.out (by simp [HL.out]) (ok_more HP.out.ok HXO.out) (q_far HQ.out HB8.out Sbz.out Sbr.out) (fun _ e => .inl e) HB8.out Sbz.out Sbr.out; obtain ⟨w9, hw9⟩ : ∃ q, q = ((w8.setCell ⟨bz, 0, none⟩ (.slice (some ⟨g8, 0, none⟩) (n1 + 1) c8)).setCell ⟨br, 0, none⟩ (.slice (some ⟨g8, 0, none⟩) (n1 + 1) c8)).setCell ⟨br, 1, none⟩ (.slice A2 n2 c2) := ⟨_, rfl⟩; rw [← hw9] at f2r fnet; have y0 := cell_of f1z (j := 0) rfl; have y1 := cell_of f1z (j := 1) rfl; have r0 := cell_of f1r (j := 0) rfl; have r1 := cell_of f1r (j := 1) rfl; have f0 := frozen_of_row _ br 0 _ _ f1r; have f1 := frozen_of_row _ br 1 _ _ f1r; have t0 := cell_of f2r (j := 0) rfl; have t1 := cell_of f2r (j := 1) rfl; have HE : Hid (RSPost w A1 A2 n2 c2 L2 qs is (.returned (.tuple #[.agg #[.slice (some ⟨g8, 0, none⟩) (n1 + 1) c8, .slice A2 n2 c2], .bool true])) w9) := Lib.hid (by rw [HLL.out, HIS.out, HF2.out, ← HX.out]; exact ⟨_, _, _, rfl, fnet⟩); have HW9 := Lib.hid hw9; clear f1z f1r f2r fnet hw9))
        | fail)
      rw [← HW9.out]
      exact bodyPost_ret (v := .tuple #[.agg #[.slice (some ⟨g8, 0, none⟩) (n1 + 1) c8, .slice A2 n2 c2], .bool true]) (by simp [results, Try.results23, go_sem, t0, t1]) rfl HE.out
    · have hf2 : (2000 : Int) ≤ (n1 : Int) := by omega
      have hf3 : decide ((2000 : Int) ≤ (n1 : Int)) = true := decide_eq_true hf2
      have HF2 : Hid (rdbl L k = false) := Lib.hid (by unfold rdbl; rw [decide_eq_false (by rw [HL.out]; exact hf), Bool.and_false])
      have z0 := cell_of XZ5.out (j := 0) rfl
      have z1 := cell_of XZ5.out (j := 1) rfl
      have r0 := cell_of XR5.out (j := 0) rfl
      have r1 := cell_of XR5.out (j := 1) rfl
      have f0 := frozen_of_row w5 br 0 _ _ XR5.out
      have f1 := frozen_of_row w5 br 1 _ _ XR5.out
      obtain ⟨w9, hw9⟩ : ∃ q, q = (w5.setCell ⟨br, 0, none⟩ (.slice A1 n1 c1)).setCell ⟨br, 1, none⟩ (.slice A2 n2 c2) := ⟨_, rfl⟩
      obtain ⟨hwr, hx9⟩ := set_two XR5.out (.slice A1 n1 c1) (.slice A2 n2 c2)
      rw [← hw9] at hwr hx9
      have t0 := cell_of hx9 (j := 0) rfl
      have t1 := cell_of hx9 (j := 1) rfl
      have HE : Hid (RSPost w A1 A2 n2 c2 L2 qs is (.returned (.tuple #[.agg #[.slice A1 n1 c1, .slice A2 n2 c2], .bool false])) w9) := Lib.hid (by rw [HLL.out, HIS.out, HF2.out]; exact ⟨_, _, _, rfl, RNet.same HP.out HQ.out (HB5.out.trans (hwr.below.mono Sbr.out))⟩)
      have HW9 := Lib.hid hw9
      clear hwr hx9 hw9
      go_wp2_with fail
      rw [← HW9.out]
      exact bodyPost_ret (v := .tuple #[.agg #[.slice A1 n1 c1, .slice A2 n2 c2], .bool false]) (by simp [results, Try.results23, go_sem, t0, t1]) rfl HE.out
end Go.Proofs.Ytdlhjpcofldfnaa
