/-
  What find returns of any id. Condition: the table is good.
-/
import Derived.Test.YtocobanallohjaaLRise
import Derived.RegionIn
namespace Go.Proofs.Ytocobanallohjaa
set_option maxRecDepth 100000
open Go.ChangeShapes Go.WideShapes Go.ChangeAt Go.RowKit Go.Shelf Go.Proofs.Le

attribute [local go_sem] Oper.semAt_some

def fnd (L : Tb) (id : Int) : Ls := (has L id).getD z0
/-- The three boxes of find. -/
structure FB (w W : World) (b3 b4 b5 : Nat) (id : Int) (r : Nat) (f : Ls) : Prop where
  below : Below w.heap.size w W
  x3 : W.heap[b3]? = some (.cells #[.int .i64 id] 3 (0, 0))
  x4 : W.heap[b4]? = some (.cells #[.int .i64 (r : Nat)] 3 (0, 0))
  x5 : W.heap[b5]? = some (.cells #[.int .i64 f.i, .int .i64 f.s, .int .i64 f.l] 30 (0, 0))
theorem grown_blk {W W' : World} {row : Option Nat} {B b : Nat} {o : Obj} (hg : W.grownBy W' row) (hr : ∀ r, row = some r → B ≤ r) (hb : b < B) (h : W.heap[b]? = some o) : W'.heap[b]? = some o :=
  (hg.block b (blk_lt h) (fun e => by have := hr b e.symm; omega)).trans h
theorem FB.grown {w W W' : World} {b3 b4 b5 r B : Nat} {id : Int} {f : Ls} {row : Option Nat} (h : FB w W b3 b4 b5 id r f) (hg : W.grownBy W' row) (hr : ∀ r, row = some r → B ≤ r) (h3 : b3 < B) (h4 : b4 < B) (h5 : b5 < B) (hw : w.heap.size ≤ B) : FB w W' b3 b4 b5 id r f :=
  ⟨h.below.grown hg h.below.size (fun k e => Nat.le_trans hw (hr k e)), grown_blk hg hr h3 h.x3, grown_blk hg hr h4 h.x4, grown_blk hg hr h5 h.x5⟩
theorem FB.set4 {w W : World} {b3 b4 b5 r : Nat} {id : Int} {f : Ls} (h : FB w W b3 b4 b5 id r f) (n0 : b3 ≠ b4) (n1 : b4 ≠ b5) (k : Nat) (hw : w.heap.size ≤ b4) : FB w (W.setCell ⟨b4, 0, none⟩ (.int .i64 (k : Nat))) b3 b4 b5 id k f :=
  ⟨h.below.setCell hw _, (Go.Deep.blk_setCell_other _ _ _ _ n0).trans h.x3, heap_setCell_same W b4 0 _ 3 _ h.x4, (Go.Deep.blk_setCell_other _ _ _ _ (Ne.symm n1)).trans h.x5⟩
theorem FB.set50 {w W : World} {b3 b4 b5 r : Nat} {id : Int} {f : Ls} (h : FB w W b3 b4 b5 id r f) (n0 : b3 ≠ b5) (n1 : b4 ≠ b5) (z : Int) (hw : w.heap.size ≤ b5) : FB w (W.setCell ⟨b5, 0, none⟩ (.int .i64 z)) b3 b4 b5 id r ⟨z, f.s, f.l⟩ :=
  ⟨h.below.setCell hw _, (Go.Deep.blk_setCell_other _ _ _ _ n0).trans h.x3, (Go.Deep.blk_setCell_other _ _ _ _ n1).trans h.x4, heap_setCell_same W b5 0 _ 30 _ h.x5⟩
theorem FB.set51 {w W : World} {b3 b4 b5 r : Nat} {id : Int} {f : Ls} (h : FB w W b3 b4 b5 id r f) (n0 : b3 ≠ b5) (n1 : b4 ≠ b5) (z : Int) (hw : w.heap.size ≤ b5) : FB w (W.setCell ⟨b5, 1, none⟩ (.int .i64 z)) b3 b4 b5 id r ⟨f.i, z, f.l⟩ :=
  ⟨h.below.setCell hw _, (Go.Deep.blk_setCell_other _ _ _ _ n0).trans h.x3, (Go.Deep.blk_setCell_other _ _ _ _ n1).trans h.x4, heap_setCell_same W b5 1 _ 30 _ h.x5⟩
theorem FB.set52 {w W : World} {b3 b4 b5 r : Nat} {id : Int} {f : Ls} (h : FB w W b3 b4 b5 id r f) (n0 : b3 ≠ b5) (n1 : b4 ≠ b5) (z : Int) (hw : w.heap.size ≤ b5) : FB w (W.setCell ⟨b5, 2, none⟩ (.int .i64 z)) b3 b4 b5 id r ⟨f.i, f.s, z⟩ :=
  ⟨h.below.setCell hw _, (Go.Deep.blk_setCell_other _ _ _ _ n0).trans h.x3, (Go.Deep.blk_setCell_other _ _ _ _ n1).trans h.x4, heap_setCell_same W b5 2 _ 30 _ h.x5⟩
theorem FB.drew {w W : World} {b3 b4 b5 r : Nat} {id : Int} {f : Ls} (h : FB w W b3 b4 b5 id r f) : FB w W.drew b3 b4 b5 id r f := ⟨h.below.drew, h.x3, h.x4, h.x5⟩
theorem kf_set {B : Nat} {W X : World} (h : KeepsFrom B W X) (p : Addr) (v : Value) : KeepsFrom B W (X.setCell p v) := h.trans ((KeepsOthers.setCell X p v).from B)
theorem kf_drew {B : Nat} {W X : World} (h : KeepsFrom B W X) : KeepsFrom B W X.drew := ⟨h.size, h.same⟩
def FiPost (w : World) (L : Tb) (id : Int) (e : Ending) (w' : World) : Prop :=
  e = .returned (.tuple #[.int .i64 (pos L id : Nat), .agg #[.int .i64 (fnd L id).i, .int .i64 (fnd L id).s, .int .i64 (fnd L id).l]]) ∧ Below w.heap.size w w'
theorem three_box (w : World) (id : Int) : ∃ W, W = ((w.alloc (.cells #[.int .i64 id] 3)).alloc (.cells #[.int .i64 0] 3)).alloc (.cells #[.int .i64 0, .int .i64 0, .int .i64 0] 30) ∧ FB w W w.heap.size (w.heap.size + 1) (w.heap.size + 1 + 1) id 0 z0 ∧ W.heap.size = w.heap.size + 3 := by
  obtain ⟨w2, hw2, hB2, hq, hr, hs2⟩ := two_box w (.cells #[.int .i64 id] 3) (.cells #[.int .i64 0] 3)
  refine ⟨_, rfl, ?_, by rw [← hw2]; simp [hs2]⟩
  rw [← hw2]
  have h3 := new_block w2 (.cells #[.int .i64 0, .int .i64 0, .int .i64 0] 30)
  rw [hs2] at h3
  exact ⟨hB2.trans ((box_below w2 _).mono hB2.size), blk_alloc hq _, blk_alloc hr _, h3⟩
theorem res_two {fn : Func} {p q : Tmp} (h : fn.results = #[.cell p 3, .cell q 30]) (tmps : Array Value) (w : World) (b4 b5 r : Nat) (f : Ls) (hp : tmps.getD p undef = .pointer (some ⟨b4, 0, none⟩)) (hq : tmps.getD q undef = .pointer (some ⟨b5, 0, none⟩))
    (h4 : w.heap[b4]? = some (.cells #[.int .i64 (r : Nat)] 3 (0, 0))) (h5 : w.heap[b5]? = some (.cells #[.int .i64 f.i, .int .i64 f.s, .int .i64 f.l] 30 (0, 0))) :
    (results fn tmps).run Try.prog w = .ok (.tuple #[.int .i64 (r : Nat), .agg #[.int .i64 f.i, .int .i64 f.s, .int .i64 f.l]]) w := by
  have hp' : tmps[p]?.getD undef = .pointer (some ⟨b4, 0, none⟩) := by simpa using hp
  have hq' : tmps[q]?.getD undef = .pointer (some ⟨b5, 0, none⟩) := by simpa using hq
  have c4 := cell_of h4 (j := 0) rfl
  have c0 := cell_of h5 (j := 0) rfl
  have c1 := cell_of h5 (j := 1) rfl
  have c2 := cell_of h5 (j := 2) rfl
  simp [results, h, hp', hq', asAddr, go_sem, c4, c0, c1, c2]
/-- What the boxes say at last. -/
theorem fi_end {w W : World} {b3 b4 b5 D r : Nat} {id : Int} {f : Ls} (h : FB w W b3 b4 b5 id r f) (hw : w.heap.size ≤ D) (hK : W.heap[D]? = some (.deferred (some []))) :
    (W.putObj D (.deferred none)).heap[b4]? = some (.cells #[.int .i64 (r : Nat)] 3 (0, 0)) ∧ (W.putObj D (.deferred none)).heap[b5]? = some (.cells #[.int .i64 f.i, .int .i64 f.s, .int .i64 f.l] 30 (0, 0)) ∧ Below w.heap.size w (W.putObj D (.deferred none)) := by
  refine ⟨?_, ?_, h.below.grown (grownBy_putObj' W D _) h.below.size (fun k e => by cases e; exact hw)⟩
  · exact (World.putObj_heap_other (fun e => by have h4 := h.x4; rw [e, hK] at h4; cases h4)).trans h.x4
  · exact (World.putObj_heap_other (fun e => by have h5 := h.x5; rw [e, hK] at h5; cases h5)).trans h.x5
/-- What the body of the loop keeps. -/
def FI (w : World) (b3 b4 b5 : Nat) (id : Int) (L : Tb) (pre : List El) (W : World) : Prop := FB w W b3 b4 b5 id 0 z0 ∧ (∀ y ∈ pre, y.2.i < id) ∧ pre.map (·.2) = L.take pre.length
theorem map_fst {L : Tb} {id : Int} {pre : List El} (h : pre.map (·.2) = L.take pre.length) (hp : ∀ y ∈ pre, y.2.i < id) : ∀ y ∈ L.take pre.length, y.i < id := fun y hy => by
  rw [← h] at hy
  obtain ⟨z, hz, rfl⟩ := List.mem_map.1 hy
  exact hp z hz
set_option maxHeartbeats 4000000 in
theorem find_any {w : World} {Bs tp : Nat} {v : Value} {L : Tb} (ht : TabW w Bs tp v L) (hg : Le.Good L) (id : Int) : Calls Try.prog 28 #[.pointer (some ⟨tp, 0, none⟩), .int .i64 id] w (FiPost w L id) := by
  obtain ⟨W0, hW0, hFB, hs0⟩ := three_box w id
  obtain ⟨b3, e3⟩ : ∃ b, b = w.heap.size := ⟨_, rfl⟩
  obtain ⟨b4, e4⟩ : ∃ b, b = w.heap.size + 1 := ⟨_, rfl⟩
  obtain ⟨b5, e5⟩ : ∃ b, b = w.heap.size + 1 + 1 := ⟨_, rfl⟩
  rw [← e5, ← e4, ← e3] at hFB
  have HSZ : Hid (w.heap.size ≤ W0.heap.size ∧ b3 < W0.heap.size ∧ b4 < W0.heap.size ∧ b5 < W0.heap.size ∧ w.heap.size ≤ b3 ∧ b3 ≠ b4 ∧ b3 ≠ b5 ∧ b4 ≠ b5 ∧ w.heap.size ≤ b4 ∧ w.heap.size ≤ b5) := Lib.hid (by omega)
  have HFB := Lib.hid hFB
  have HW0 := Lib.hid hW0
  have E3 := Lib.hid e3
  have E4 := Lib.hid e4
  have E5 := Lib.hid e5
  obtain ⟨A, c, rfl, -, -, -⟩ := ht.rd
  have HT := Lib.hid ht
  have HG := Lib.hid hg
  have HLL : Hid (L.length ≤ 100) := Lib.hid hg.len
  clear hW0 hFB hs0 e3 e4 e5 ht hg
  refine (callsIn_wide (n := 3)).1 ?_
  refine callsIn_of_wp_marks Try.func28 rfl trivial ?_ rfl
  simp only [Try.ntmps28, List.size_toArray, List.length_cons, List.length_nil, Nat.reduceAdd, Nat.reduceSub, Array.replicate_succ, Array.replicate_zero, List.push_toArray, List.append_toArray, List.nil_append, List.cons_append]
  gi_wp2
  rw [← HW0.out, ← E5.out, ← E4.out, ← E3.out]
  refine range_ret (n := 3) (gf := 29) (bd := #[.pointer (some ⟨tp, 0, none⟩)]) (encs := encE) rfl (enters_of Try.func29 (by kernel_rfl) rfl) (fun _ => rfl) obE (R := RE L) (S := SE L) (I := FI w b3 b4 b5 id L) (X := fun _ W => FB w W b3 b4 b5 id (pos L id) (fnd L id)) ?ownI ?ownX ⟨HFB.out, fun y hy => (by cases hy), rfl⟩ ?seq
    (fun x b => { tmps := #[.pointer (some ⟨tp, 0, none⟩), .int .i64 id, undef, .pointer (some ⟨b3, 0, none⟩), .pointer (some ⟨b4, 0, none⟩), .pointer (some ⟨b5, 0, none⟩), .int .i64 (x.1 : Nat), .pointer (some ⟨b, 0, none⟩), .pointer (some ⟨tp, 0, none⟩), .func (.func 29) #[.pointer (some ⟨tp, 0, none⟩)] #[], .int .i64 (x.1 : Nat), .agg #[.int .i64 x.2.i, .int .i64 x.2.s, .int .i64 x.2.l], undef, undef, undef, undef, undef, undef, undef, undef, undef, undef, undef, undef, undef, undef, undef, undef, undef, undef, undef, undef], defers := [] }) ?assign ?body ?done ?stop
  case ownI => exact fun pre W W' row h hg hr => ⟨h.1.grown hg (fun r e => (hr r e).1) HSZ.out.2.1 HSZ.out.2.2.1 HSZ.out.2.2.2.1 HSZ.out.1, h.2⟩
  case ownX => exact fun pre W W' row h hg hr => h.grown hg (fun r e => (hr r e).1) HSZ.out.2.1 HSZ.out.2.2.1 HSZ.out.2.2.2.1 HSZ.out.1
  case seq =>
    intro l J JX hJ hJI hY W hb h0
    exact rise_any 2 l tp (by omega) A c L (by have := HLL.out; omega) J JX hJ (fun pre X h => by
      have ht := HT.out.below (hJI pre X h).1.below
      obtain ⟨A2, c2, e, -, -, hr⟩ := ht.rd
      injection e with e1 _ e2
      subst e1; subst e2
      exact ⟨cell_of ht.here rfl, hr⟩) hY W h0
  case assign =>
    intro l x W K hK
    unfold encE
    unfold obE at hK
    gi_wp2
    exact hK
  case body =>
    rintro l pre ⟨k, y⟩ W b ⟨hfb, hpre, hmap⟩ ⟨hk, hy⟩ hb hx
    replace hk : k = pre.length := hk
    replace hy : L[pre.length]? = some y := hy
    replace hx : W.heap[b]? = some (.cells #[.int .i64 y.i, .int .i64 y.s, .int .i64 y.l] 30 (0, 0)) := hx
    subst hk
    obtain ⟨k, hk⟩ : ∃ k, pre.length = k := ⟨_, rfl⟩
    rw [hk] at hy hmap
    have HK := Lib.hid hk
    have q0 := cell_of hx (j := 0) rfl
    have q1 := cell_of hx (j := 1) rfl
    have q2 := cell_of hx (j := 2) rfl
    have d3 := cell_of hfb.x3 (j := 0) rfl
    have d4 := cell_of hfb.x4 (j := 0) rfl
    have f4 := frozen_of_row W b4 0 _ _ hfb.x4
    have d50 := cell_of hfb.x5 (j := 0) rfl
    have d51 := cell_of hfb.x5 (j := 1) rfl
    have d52 := cell_of hfb.x5 (j := 2) rfl
    have f50 := frozen_of_row W b5 0 _ _ hfb.x5
    have f51 := frozen_of_row W b5 1 _ _ hfb.x5
    have f52 := frozen_of_row W b5 2 _ _ hfb.x5
    have HB := Lib.hid hfb
    have HX := Lib.hid hx
    have HY := Lib.hid hy
    have HP := Lib.hid hpre
    have HM := Lib.hid hmap
    have n1 : b4 ≠ b5 := HSZ.out.2.2.2.2.2.2.2.1
    have z4 : w.heap.size ≤ b4 := HSZ.out.2.2.2.2.2.2.2.2.1
    have z5 : w.heap.size ≤ b5 := HSZ.out.2.2.2.2.2.2.2.2.2
    have n2 : b4 ≠ b := by have := HSZ.out; omega
    have n3 : b5 ≠ b := by have := HSZ.out; omega
    clear hk hfb hpre hmap hy hx
    rw [HK.out]
    have HQ : Hid (∀ y ∈ L.take k, y.i < id) := Lib.hid (fun z hz => by rw [← HM.out] at hz; obtain ⟨u, hu, rfl⟩ := List.mem_map.1 hz; exact HP.out u hu)
    have hA := Lib.hid (((((HB.out.set4 HSZ.out.2.2.2.2.2.1 n1 k z4).set50 HSZ.out.2.2.2.2.2.2.1 n1 y.i z5).set51 HSZ.out.2.2.2.2.2.2.1 n1 y.s z5).set52 HSZ.out.2.2.2.2.2.2.1 n1 y.l z5).drew)
    have hB := Lib.hid (((((HB.out.set50 HSZ.out.2.2.2.2.2.2.1 n1 y.i z5).set51 HSZ.out.2.2.2.2.2.2.1 n1 y.s z5).set52 HSZ.out.2.2.2.2.2.2.1 n1 y.l z5).set4 HSZ.out.2.2.2.2.2.1 n1 k z4).drew)
    have hC := Lib.hid ((((HB.out.set4 HSZ.out.2.2.2.2.2.1 n1 k z4).set50 HSZ.out.2.2.2.2.2.2.1 n1 0 z5).set51 HSZ.out.2.2.2.2.2.2.1 n1 0 z5).set52 HSZ.out.2.2.2.2.2.2.1 n1 0 z5)
    by_cases h1 : y.i = id
    · have HF : Hid (pos L id = k ∧ fnd L id = y) := Lib.hid (by have h := find_hit HG.out.srt HY.out HQ.out h1; exact ⟨h.1, by unfold fnd; rw [h.2]; rfl⟩)
      have h1' : (y.i == id) = true := by simpa using h1
      clear h1
      gi_wp2
      gi_region
      all_goals
        gi_wp2
        refine ⟨by repeat (first | exact KeepsFrom.refl _ _ | apply kf_drew | apply kf_set), ?_⟩
        rw [HF.out.1, HF.out.2]
        first | exact hA.out | exact hB.out
    · have h1' : (y.i == id) = false := by simpa using h1
      by_cases h2 : id < y.i
      · have HF : Hid (pos L id = k ∧ fnd L id = z0) := Lib.hid (by have h := find_over HG.out.srt HY.out HQ.out h2; exact ⟨h.1, by unfold fnd; rw [h.2]; rfl⟩)
        have h2' : decide (id < y.i) = true := by simpa using h2
        clear h1 h2
        gi_wp2
        refine ⟨by repeat (first | exact KeepsFrom.refl _ _ | apply kf_drew | apply kf_set), ?_⟩
        rw [HF.out.1, HF.out.2]
        exact hC.out
      · have h2' : decide (id < y.i) = false := by simpa using h2
        have HE : Hid (FI w b3 b4 b5 id L (pre ++ [(k, y)]) W) := Lib.hid ⟨HB.out, fun z hz => by
          rcases List.mem_append.1 hz with hz | hz
          · exact HP.out z hz
          · rcases List.mem_singleton.1 hz with rfl; show y.i < id; omega, by
          rw [List.map_append, HM.out, List.length_append, HK.out]
          exact (take_some HY.out).symm⟩
        clear h1 h2
        gi_wp2
        exact ⟨KeepsFrom.refl _ _, HE.out⟩
  case done =>
    rintro D xs W hD hS ⟨hfb, hpre, hmap⟩ hK
    have hS' : xs.length = L.length := hS
    rw [hS', List.take_length] at hmap
    have HF : Hid (pos L id = L.length ∧ fnd L id = z0) := Lib.hid (by
      have h := find_end (T := L) (id := id) (fun y hy => by
        rw [← hmap] at hy
        obtain ⟨z, hz, rfl⟩ := List.mem_map.1 hy
        exact hpre z hz)
      exact ⟨h.1, by unfold fnd; rw [h.2]; rfl⟩)
    have d4 := cell_of hfb.x4 (j := 0) rfl
    have f4 := frozen_of_row W b4 0 _ _ hfb.x4
    have d50 := cell_of hfb.x5 (j := 0) rfl
    have d51 := cell_of hfb.x5 (j := 1) rfl
    have d52 := cell_of hfb.x5 (j := 2) rfl
    have f50 := frozen_of_row W b5 0 _ _ hfb.x5
    have f51 := frozen_of_row W b5 1 _ _ hfb.x5
    have f52 := frozen_of_row W b5 2 _ _ hfb.x5
    have t0 := cell_of (HT.out.below hfb.below).here (j := 0) rfl
    have n1 : b4 ≠ b5 := HSZ.out.2.2.2.2.2.2.2.1
    have z4 : w.heap.size ≤ b4 := HSZ.out.2.2.2.2.2.2.2.2.1
    have z5 : w.heap.size ≤ b5 := HSZ.out.2.2.2.2.2.2.2.2.2
    have hC := ((((hfb.set4 HSZ.out.2.2.2.2.2.1 n1 L.length z4).set50 HSZ.out.2.2.2.2.2.2.1 n1 0 z5).set51 HSZ.out.2.2.2.2.2.2.1 n1 0 z5).set52 HSZ.out.2.2.2.2.2.2.1 n1 0 z5)
    have hKC : (((((W.setCell ⟨b4, 0, none⟩ (.int .i64 (L.length : Nat))).setCell ⟨b5, 0, none⟩ (.int .i64 0)).setCell ⟨b5, 1, none⟩ (.int .i64 0)).setCell ⟨b5, 2, none⟩ (.int .i64 0))).heap[D]? = some (.deferred (some [])) := by
      have m4 : b4 ≠ D := by have := HSZ.out; omega
      have m5 : b5 ≠ D := by have := HSZ.out; omega
      rw [Go.Deep.blk_setCell_other _ _ _ _ (Ne.symm m5), Go.Deep.blk_setCell_other _ _ _ _ (Ne.symm m5), Go.Deep.blk_setCell_other _ _ _ _ (Ne.symm m5), Go.Deep.blk_setCell_other _ _ _ _ (Ne.symm m4)]
      exact hK
    have HE := Lib.hid (fi_end hC (Nat.le_trans HSZ.out.1 hD) hKC)
    have HKC := Lib.hid hKC
    clear hC hKC hK hfb hpre hmap hS hS'
    gi_wp2
    refine ⟨by simp, .inl ⟨_, _, rfl, run_takeDeferred HKC.out, ?_⟩⟩
    exact ⟨_, res_two rfl _ _ b4 b5 _ _ rfl rfl HE.out.1 HE.out.2.1, by rw [HF.out.1, HF.out.2], HE.out.2.2⟩
  case stop =>
    rintro D xs W hD hX hK
    have HE := Lib.hid (fi_end hX (Nat.le_trans HSZ.out.1 hD) hK)
    have HK := Lib.hid hK
    clear hX hK
    gi_wp2
    refine ⟨by simp, .inl ⟨_, _, rfl, run_takeDeferred (w := W) HK.out, ?_⟩⟩
    exact ⟨_, res_two rfl _ _ b4 b5 _ _ rfl rfl HE.out.1 HE.out.2.1, rfl, HE.out.2.2⟩
end Go.Proofs.Ytocobanallohjaa
