/-
  What the document's Do returns: the disk behind a call, and what is told. Condition: not too many sectors and writes.
-/
import Derived.Test.YtogofgfdkkjnlaaRCrash
import Derived.Test.YtogofgfdkkjnlaaRPut
import Derived.Deep.DeepCutAuto
import Derived.Deep.RegionHeld3
namespace Go.Proofs.Ytogofgfdkkjnlaa
open Go.ChangeShapes Go.WideShapes Go.ChangeAt Go.RowKit

/-- Two structs as results. -/
theorem results_two {fn : Func} {p q : Tmp} (h : fn.results = #[.cell p 28, .cell q 48]) (tmps : Array Value) (w : World) (g1 g2 : Nat) (c1 c2 : Array Value)
    (hp : tmps.getD p undef = .pointer (some ⟨g1, 0, none⟩)) (hq : tmps.getD q undef = .pointer (some ⟨g2, 0, none⟩)) (h1 : w.heap[g1]? = some (.cells c1 28 (0, 0))) (h2 : w.heap[g2]? = some (.cells c2 48 (0, 0))) (hc1 : c1.size = 4) (hc2 : c2.size = 2) :
    (results fn tmps).run Try.prog w = .ok (.tuple #[.agg c1, .agg c2]) w := by
  have hp' : tmps[p]?.getD undef = .pointer (some ⟨g1, 0, none⟩) := by simpa using hp
  have hq' : tmps[q]?.getD undef = .pointer (some ⟨g2, 0, none⟩) := by simpa using hq
  have r1 := run_loadVar_row (P := Try.prog) w g1 28 28 c1 (0, 0) _ h1 Try.underlying28 rfl (by rw [hc1]; kernel_rfl)
  have r2 := run_loadVar_row (P := Try.prog) w g2 48 48 c2 (0, 0) _ h2 Try.underlying48 rfl (by rw [hc2]; kernel_rfl)
  simp [results, h, hp', hq', asAddr, r1, r2]
/-- What Do leaves. -/
def DoPost (w : World) (B : Nat) (D : Dk) (k n t : Int) (zs : List Int) (e : Ending) (w' : World) : Prop :=
  ∃ Af cf Aw cw, e = .returned (.tuple #[.agg #[.slice Af (doD D k n t zs).1.firm.length cf, .slice Aw (doD D k n t zs).1.wait.length cw, .int .i64 (doD D k n t zs).1.armed, .bool (doD D k n t zs).1.dead], .agg #[.string (strOfNums (doD D k n t zs).2.1), .int .i64 (doD D k n t zs).2.2]]) ∧
    RDisk w' B (.slice Af (doD D k n t zs).1.firm.length cf) (.slice Aw (doD D k n t zs).1.wait.length cw) (doD D k n t zs).1 ∧ Below w.heap.size w w'
/-- The boxes of Do. -/
structure DoBox (w : World) (C0 : Array Value) (k n t : Int) (A : Option Addr) (len cap : Nat) (wc : World) : Prop where
  b0 : wc.heap[w.heap.size]? = some (.cells C0 28 (0, 0))
  b1 : wc.heap[w.heap.size + 1]? = some (.cells #[.int .i64 k, .int .i64 n, .int .i64 t, .slice A len cap] 46 (0, 0))
  b2 : wc.heap[w.heap.size + 1 + 1]? = some (.cells #[.slice none 0 0, .slice none 0 0, .int .i64 0, .bool false] 28 (0, 0))
  b3 : wc.heap[w.heap.size + 1 + 1 + 1]? = some (.cells #[.string ⟨#[]⟩, .int .i64 0] 48 (0, 0))
  below : Below w.heap.size w wc
theorem four_boxes (w : World) (C0 C1 C2 C3 : Array Value) (t0 t1 t2 t3 : TypeId) :
    ((((w.alloc (.cells C0 t0)).alloc (.cells C1 t1)).alloc (.cells C2 t2)).alloc (.cells C3 t3)).heap[w.heap.size]? = some (.cells C0 t0 (0, 0)) ∧ ((((w.alloc (.cells C0 t0)).alloc (.cells C1 t1)).alloc (.cells C2 t2)).alloc (.cells C3 t3)).heap[w.heap.size + 1]? = some (.cells C1 t1 (0, 0)) ∧
    ((((w.alloc (.cells C0 t0)).alloc (.cells C1 t1)).alloc (.cells C2 t2)).alloc (.cells C3 t3)).heap[w.heap.size + 1 + 1]? = some (.cells C2 t2 (0, 0)) ∧ ((((w.alloc (.cells C0 t0)).alloc (.cells C1 t1)).alloc (.cells C2 t2)).alloc (.cells C3 t3)).heap[w.heap.size + 1 + 1 + 1]? = some (.cells C3 t3 (0, 0)) ∧
    Below w.heap.size w ((((w.alloc (.cells C0 t0)).alloc (.cells C1 t1)).alloc (.cells C2 t2)).alloc (.cells C3 t3)) := by
  have h1 := two_boxes w C0 C1 t0 t1
  have h2 := two_boxes ((w.alloc (.cells C0 t0)).alloc (.cells C1 t1)) C2 C3 t2 t3
  have hs : ((w.alloc (.cells C0 t0)).alloc (.cells C1 t1)).heap.size = w.heap.size + 1 + 1 := by simp
  rw [hs] at h2
  have hb : Below (w.heap.size + 1 + 1) ((w.alloc (.cells C0 t0)).alloc (.cells C1 t1)) ((((w.alloc (.cells C0 t0)).alloc (.cells C1 t1)).alloc (.cells C2 t2)).alloc (.cells C3 t3)) := by
    rw [← hs]; exact (box_below _ _).alloc (by simp) _
  exact ⟨(hb.block _ (by omega)).trans h1.1, (hb.block _ (by omega)).trans h1.2, h2.1, h2.2, ((box_below w _).alloc (by simp) _).trans (hb.mono (by omega))⟩
theorem set2 {w : World} {b : Nat} {t : TypeId} {a0 a1 : Value} (h : w.heap[b]? = some (.cells #[a0, a1] t (0, 0))) (x0 x1 : Value) :
    ((w.setCell ⟨b, 0, none⟩ x0).setCell ⟨b, 1, none⟩ x1).heap[b]? = some (.cells #[x0, x1] t (0, 0)) ∧ (∀ k, k ≠ b → ((w.setCell ⟨b, 0, none⟩ x0).setCell ⟨b, 1, none⟩ x1).heap[k]? = w.heap[k]?) ∧ (∀ B, B ≤ b → Below B w ((w.setCell ⟨b, 0, none⟩ x0).setCell ⟨b, 1, none⟩ x1)) := by
  have h1 := heap_setCell_same w b 0 _ t x0 h
  have h2 := heap_setCell_same _ b 1 _ t x1 h1
  exact ⟨h2, fun k hk => by rw [heap_setCell_other _ _ _ _ hk, heap_setCell_other _ _ _ _ hk], fun B hB => ((Below.refl _ _).setCell hB _).setCell hB _⟩
/-- The stores into both results. -/
theorem do_sets {wx : World} {H : Nat} (h2 : wx.heap[H + 1 + 1]? = some (.cells #[.slice none 0 0, .slice none 0 0, .int .i64 0, .bool false] 28 (0, 0))) (h3 : wx.heap[H + 1 + 1 + 1]? = some (.cells #[.string ⟨#[]⟩, .int .i64 0] 48 (0, 0))) (x0 x1 x2 x3 y0 y1 : Value) :
    ∃ w9, w9 = ((((((wx.setCell ⟨H + 1 + 1, 0, none⟩ x0).setCell ⟨H + 1 + 1, 1, none⟩ x1).setCell ⟨H + 1 + 1, 2, none⟩ x2).setCell ⟨H + 1 + 1, 3, none⟩ x3).setCell ⟨H + 1 + 1 + 1, 0, none⟩ y0).setCell ⟨H + 1 + 1 + 1, 1, none⟩ y1) ∧
      w9.heap[H + 1 + 1]? = some (.cells #[x0, x1, x2, x3] 28 (0, 0)) ∧ w9.heap[H + 1 + 1 + 1]? = some (.cells #[y0, y1] 48 (0, 0)) ∧ (∀ k, k ≠ H + 1 + 1 → k ≠ H + 1 + 1 + 1 → w9.heap[k]? = wx.heap[k]?) ∧ (∀ B, B ≤ H → Below B wx w9) := by
  have s := set4 h2 x0 x1 x2 x3
  have h3' := (s.2.1 (H + 1 + 1 + 1) (by omega)).trans h3
  have r := set2 h3' y0 y1
  exact ⟨_, rfl, (r.2.1 _ (by omega)).trans s.1, r.1, fun k hk hk' => (r.2.1 k hk').trans (s.2.1 k hk), fun B hB => (s.2.2 B (by omega)).trans (r.2.2 B (by omega))⟩
theorem do_end {w wx w9 : World} {B : Nat} {D D' : Dk} {k n t : Int} {zs a : List Int} {er ar : Int} {de : Bool} {lf lw : Nat} {Af Aw : Option Addr} {cf cw : Nat} (hdo : doD D k n t zs = (D', a, er)) (hlf : lf = D'.firm.length) (hlw : lw = D'.wait.length) (har : ar = D'.armed) (hde : de = D'.dead)
    (hf : wx.ownsRow B 9 1 (.slice Af lf cf) lf (strs D'.firm)) (hw : wx.ownsRow B 71 2 (.slice Aw lw cw) lw (rcells D'.wait)) (hb : Below w.heap.size w wx)
    (h2 : wx.heap[w.heap.size + 1 + 1]? = some (.cells #[.slice none 0 0, .slice none 0 0, .int .i64 0, .bool false] 28 (0, 0))) (h3 : wx.heap[w.heap.size + 1 + 1 + 1]? = some (.cells #[.string ⟨#[]⟩, .int .i64 0] 48 (0, 0)))
    (h9 : ∀ k, k ≠ w.heap.size + 1 + 1 → k ≠ w.heap.size + 1 + 1 + 1 → w9.heap[k]? = wx.heap[k]?) (hb9 : ∀ B, B ≤ w.heap.size → Below B wx w9) (S : ByteArray) (hS : S = strOfNums a) :
    DoPost w B D k n t zs (.returned (.tuple #[.agg #[.slice Af lf cf, .slice Aw lw cw, .int .i64 ar, .bool de], .agg #[.string S, .int .i64 er]])) w9 := by
  subst hlf hlw har hde
  unfold DoPost
  rw [hdo, hS]
  have hr : RDisk wx B (.slice Af D'.firm.length cf) (.slice Aw D'.wait.length cw) D' := ⟨hf, hw⟩
  refine ⟨Af, cf, Aw, cw, rfl, hr.tags fun j cs t fr hj ht => ?_, hb.trans (hb9 _ (Nat.le_refl _))⟩
  rw [h9 j (fun e => ?_) (fun e => ?_)]
  · exact hj
  · subst e; rw [h2] at hj; injection hj with hj; injection hj with _ e _; subst e; rcases ht with ht | ht <;> cases ht
  · subst e; rw [h3] at hj; injection hj with hj; injection hj with _ e _; subst e; rcases ht with ht | ht <;> cases ht
theorem DoBox.kept {w wc w2 : World} {C0 : Array Value} {k n t : Int} {A : Option Addr} {len cap : Nat} (h : DoBox w C0 k n t A len cap wc) (hb : Below wc.heap.size wc w2) : DoBox w C0 k n t A len cap w2 :=
  ⟨(hb.block _ (lt_of_block h.b0)).trans h.b0, (hb.block _ (lt_of_block h.b1)).trans h.b1, (hb.block _ (lt_of_block h.b2)).trans h.b2, (hb.block _ (lt_of_block h.b3)).trans h.b3, h.below.trans (hb.mono h.below.size)⟩
/-- The boxes' slots. -/
def DCut (w : World) (C0 : Array Value) (k n t : Int) (A : Option Addr) (len cap : Nat) (s2 s3 s4 s5 : Value) (wc : World) : Prop :=
  s2 = .pointer (some ⟨w.heap.size, 0, none⟩) ∧ s3 = .pointer (some ⟨w.heap.size + 1, 0, none⟩) ∧ s4 = .pointer (some ⟨w.heap.size + 1 + 1, 0, none⟩) ∧ s5 = .pointer (some ⟨w.heap.size + 1 + 1 + 1, 0, none⟩) ∧ DoBox w C0 k n t A len cap wc
theorem dcut_mk (w : World) (C0 : Array Value) (k n t : Int) (A : Option Addr) (len cap : Nat) : DCut w C0 k n t A len cap (.pointer (some ⟨w.heap.size, 0, none⟩)) (.pointer (some ⟨w.heap.size + 1, 0, none⟩)) (.pointer (some ⟨w.heap.size + 1 + 1, 0, none⟩)) (.pointer (some ⟨w.heap.size + 1 + 1 + 1, 0, none⟩))
    ((((w.alloc (.cells C0 28)).alloc (.cells #[.int .i64 k, .int .i64 n, .int .i64 t, .slice A len cap] 46)).alloc (.cells #[.slice none 0 0, .slice none 0 0, .int .i64 0, .bool false] 28)).alloc (.cells #[.string ⟨#[]⟩, .int .i64 0] 48)) := by
  have h := four_boxes w C0 #[.int .i64 k, .int .i64 n, .int .i64 t, .slice A len cap] #[.slice none 0 0, .slice none 0 0, .int .i64 0, .bool false] #[.string ⟨#[]⟩, .int .i64 0] 28 46 28 48
  exact ⟨rfl, rfl, rfl, rfl, h.1, h.2.1, h.2.2.1, h.2.2.2.1, h.2.2.2.2⟩
/-- One operation is taken first. -/
theorem take_op' {ops : Array Oper} {Q : Exit → Act → World → Prop} {S : World → Prop} {fuel : Nat} {listed : Array Bool} {l : List Value} {ds : List Deferred} {w : World} (i d : Nat) (v : Value) {o : Oper} (hi : ops[i]? = some o) (hd : o.dst = some d)
    (hs : Region.noSelect ops = true) (hf : Region.free .any ops listed i = true) (hr : (Region.ready .any ops listed).contains i = true) (hQ : ∀ c a w, Q (.panic c) (a.put o.dst v) w → Q (.panic c) a w)
    (hy : YieldsIf Try.prog ops S o v (Act.mk l.toArray ds)) (hS : S w) (h : wpAnyH Try.prog .any ops Q S fuel (listed.setIfInBounds i true) (Act.mk (l.set d v).toArray ds) w) : wpAnyH Try.prog .any ops Q S (fuel + 1) listed (Act.mk l.toArray ds) w := by
  refine wpAnyH_take hi hs hf hr hQ hy hS ?_
  rw [hd]
  simpa [Act.put] using h
/-- What the region of a read reads. -/
def RdS (H : Nat) (fv wv : Value) (a : Int) (m : Nat) (w' : World) : Prop :=
  w'.cell? ⟨H, 0, none⟩ = some fv ∧ w'.cell? ⟨H, 1, none⟩ = some wv ∧ w'.cell? ⟨H, 2, none⟩ = some (.int .i64 a) ∧ w'.cell? ⟨H, 3, none⟩ = some (.bool false) ∧ w'.cell? ⟨H + 1, 1, none⟩ = some (.int .i64 (m : Int))
theorem rds_set {H m q j : Nat} {fv wv v : Value} {a : Int} {w' : World} (hq : H + 1 < q) (h : RdS H fv wv a m w') : RdS H fv wv a m (w'.setCell ⟨q, j, none⟩ v) := by
  obtain ⟨h0, h1, h2, h3, h4⟩ := h
  have k : ∀ b o u, b < q → w'.cell? ⟨b, o, none⟩ = some u → (w'.setCell ⟨q, j, none⟩ v).cell? ⟨b, o, none⟩ = some u := fun b o u hb hx => by
    rw [World.cell?_of_block (w := w') (heap_setCell_other w' _ _ _ (by show b ≠ q; omega))]; exact hx
  exact ⟨k _ _ _ (by omega) h0, k _ _ _ (by omega) h1, k _ _ _ (by omega) h2, k _ _ _ (by omega) h3, k _ _ _ hq h4⟩
end Go.Proofs.Ytogofgfdkkjnlaa
