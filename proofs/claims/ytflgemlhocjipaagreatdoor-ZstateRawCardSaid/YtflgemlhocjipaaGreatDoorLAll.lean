/-
  A table in memory; what a call leaves of it and of the rest; isTime, clock, valid, right. No condition.
  What valid and right return of any lease. No condition.
  A range over a method value whose body lays a box for what it is handed, and goes on or returns. No condition.
  What the iterator rising does: it hands over the leases, one by one, each with its place, till the body of the loop returns. No condition.
  What find returns of any id. Condition: the table is good.
  What All, and Ended of any time, return. Condition: the table is good.
-/
import Derived.Test.YtflgemlhocjipaaGreatDoorLEq
import Derived.Test.YtflgemlhocjipaaGreatDoorRows
import Derived.RangeFuncNested
import Derived.RangeFuncBound
import Derived.RangeFuncCalls
import Derived.RangeFuncLeaves
import Derived.RangeFuncBox
import Derived.Shelf.Abstract
import Derived.Shelf.RegionOpen
import Derived.OwnWalkIn
import Derived.TacticsInMore
import Derived.LoopNIn
import Derived.LoopIn
import Derived.Sort.QuietIn
import Derived.Sort.CutIn
import Derived.RegionIn
namespace Go.Proofs.YtflgemlhocjipaaGreatDoor.Lq
set_option maxRecDepth 100000
open Go.ChangeShapes Go.WideShapes Go.ChangeAt Go.RowKit Go.Proofs.Le

/-- A table: the box, its row. -/
structure TabW (w : World) (B tp : Nat) (v : Value) (L : Tb) : Prop where
  here : w.heap[tp]? = some (.cells #[v] 160 (0, 0))
  row : w.ownsRow B 100 3 v L.length (lcells L)
  ge : B ≤ tp
theorem TabW.below {w w' : World} {B tp : Nat} {v : Value} {L : Tb} (h : TabW w B tp v L) (hb : Below w.heap.size w w') : TabW w' B tp v L := ⟨blk_below h.here hb, own_below h.row hb, h.ge⟩
theorem TabW.rd {w : World} {Bs tp : Nat} {v : Value} {L : Tb} (h : TabW w Bs tp v L) : ∃ A c, v = .slice A L.length c ∧ L.length ≤ c ∧ c ≤ maxLen ∧ Rd lcell 3 w A L.length L := by
  have hr := h.row
  obtain ⟨A, c, rfl, h1, h2, -⟩ := own_form hr
  exact ⟨A, c, rfl, h1, h2, Rd.of_own hr (fun _ _ => rfl) (by omega)⟩
/-- What a call on a table leaves of the rest: all blocks but the table's own two. -/
structure TK (w w' : World) (tp : Nat) (v : Value) : Prop where
  os : w'.os = w.os
  tape : w'.tape = w.tape
  output : w'.output = w.output
  size : w.heap.size ≤ w'.heap.size
  block : ∀ k, k < w.heap.size → k ≠ tp → v.ownBlock ≠ some k → w'.heap[k]? = w.heap[k]?
theorem TK.of_below {w w' : World} {tp : Nat} {v : Value} (h : Below w.heap.size w w') : TK w w' tp v := ⟨h.os, h.tape, h.output, h.size, fun k hk _ _ => h.block k hk⟩
theorem TK.below {w w' : World} {Bs tp : Nat} {v : Value} {L : Tb} (h : TK w w' tp v) (ht : TabW w Bs tp v L) (hB : Bs ≤ w.heap.size) : Below Bs w w' :=
  ⟨h.os, h.tape, h.output, h.size, fun k hk => h.block k (by omega) (by have := ht.ge; omega) (fun e => by have := own_ge ht.row k e; omega)⟩
/-- A row of other elements, a box of another kind stay. -/
theorem TK.own {w w' : World} {Bs tp : Nat} {v : Value} {L : Tb} (h : TK w w' tp v) (ht : TabW w Bs tp v L) {base e sz n : Nat} {u : Value} {xs : List Value} (hu : w.ownsRow base e sz u n xs) (h1 : e ≠ 100) (h2 : e ≠ 160) : w'.ownsRow base e sz u n xs := by
  refine ⟨hu.1, ?_⟩
  rcases hu.2 with hn | ⟨g, cap, cur, rfl, hbg, hg, rest⟩
  · exact .inl hn
  · refine .inr ⟨g, cap, cur, rfl, hbg, (h.block g (blk_lt hg) (fun e1 => ?_) (own_ne ht.row hg h1)).trans hg, rest⟩
    rw [e1, ht.here] at hg
    injection hg with hg
    injection hg with _ hg _
    exact h2 hg.symm
theorem TK.blk {w w' : World} {Bs tp : Nat} {v : Value} {L : Tb} (h : TK w w' tp v) (ht : TabW w Bs tp v L) {q : Nat} {cs : Array Value} {t : TypeId} {fr : Nat × Nat} (hq : w.heap[q]? = some (.cells cs t fr)) (h1 : t ≠ 100) (h2 : t ≠ 160) : w'.heap[q]? = some (.cells cs t fr) := by
  refine (h.block q (blk_lt hq) (fun e1 => ?_) (own_ne ht.row hq h1)).trans hq
  rw [e1, ht.here] at hq
  injection hq with hq
  injection hq with _ hq _
  exact h2 hq.symm
theorem own_long_ne {A : Option Addr} {n c vb : Nat} {w : World} {B e sz : Nat} {xs : List Value} (h : w.ownsRow B e sz (.slice A n c) n xs) (hv : w.heap.size ≤ vb) : ∀ g, A = some g → g.block ≠ vb := fun g hg e => by
  subst hg
  have := (h.lt g.block rfl).2
  omega
theorem gb_trans' {a b c : World} {v : Value} (h : Below a.heap.size a b) (k : b.grownBy c v.ownBlock) : a.grownBy c v.ownBlock :=
  ⟨k.os.trans h.os, k.tape.trans h.tape, k.output.trans h.output, Nat.le_trans h.size k.size, fun j hj hn => (k.block j (Nat.lt_of_lt_of_le hj h.size) hn).trans (h.block j hj)⟩
theorem gb_blk {w w' : World} {Bs tp : Nat} {v : Value} {L : Tb} (hg : w.grownBy w' v.ownBlock) (ht : TabW w Bs tp v L) : w'.heap[tp]? = some (.cells #[v] 160 (0, 0)) :=
  (hg.block tp (blk_lt ht.here) (fun e => own_ne ht.row ht.here (by decide) e.symm)).trans ht.here
/-- What a call on a table leaves: the table, and of the rest what stood there. -/
def KpPost (Bs tp : Nat) (v : Value) (M : Tb) (w w' : World) : Prop := ∃ v', TabW w' Bs tp v' M ∧ TK w w' tp v ∧ ∀ g, v'.ownBlock = some g → v.ownBlock = some g ∨ w.heap.size ≤ g
theorem TK.then {a b c : World} {tp : Nat} {v v' : Value} (h : TK a b tp v) (k : TK b c tp v') (hv : ∀ g, v'.ownBlock = some g → v.ownBlock = some g ∨ a.heap.size ≤ g) : TK a c tp v :=
  ⟨k.os.trans h.os, k.tape.trans h.tape, k.output.trans h.output, Nat.le_trans h.size k.size, fun j hj hjt hjv => (k.block j (Nat.lt_of_lt_of_le hj h.size) hjt (fun e => by
    rcases hv j e with h1 | h1
    · exact hjv h1
    · omega)).trans (h.block j hj hjt hjv)⟩
theorem kp_refl {a b : World} {Bs tp : Nat} {v : Value} {M : Tb} (h : TabW a Bs tp v M) (hb : Below a.heap.size a b) : KpPost Bs tp v M a b := ⟨v, h.below hb, TK.of_below hb, fun _ hg => .inl hg⟩
theorem kp_below {w w' : World} {Bs tp : Nat} {v : Value} {L M : Tb} (h : KpPost Bs tp v M w w') (ht : TabW w Bs tp v L) (hB : Bs ≤ w.heap.size) : Below Bs w w' := by
  obtain ⟨v', -, k, -⟩ := h
  exact k.below ht hB
/-- A new row is laid into the table. -/
theorem kp_end {w w6 w8 : World} {Bs tp B0 : Nat} {v v8 : Value} {L M : Tb} (ht : TabW w Bs tp v L) (hb : Below w.heap.size w w6) (ht6 : TabW w6 Bs tp v L) (h1 : w8.ownsRow Bs 100 3 v8 M.length (lcells M)) (h2 : w6.grownBy w8 v.ownBlock) (h3 : ∀ g, v8.ownBlock = some g → v.ownBlock = some g ∨ B0 ≤ g) (h0 : w.heap.size ≤ B0) :
    KpPost Bs tp v M w (w8.setCell ⟨tp, 0, none⟩ v8) := by
  have hh := gb_blk h2 ht6
  have hwr : Wr tp w8 (w8.setCell ⟨tp, 0, none⟩ v8) := (Wr.refl tp w8).set 0 _
  refine ⟨v8, ⟨heap_setCell_same w8 tp 0 _ 160 v8 hh, own_gb h1 hwr.gb (own_ne h1 hh (by decide)), ht.ge⟩, ⟨?_, ?_, ?_, ?_, ?_⟩, fun g hg => ?_⟩
  · exact hwr.below.os.trans (h2.os.trans hb.os)
  · exact hwr.below.tape.trans (h2.tape.trans hb.tape)
  · exact hwr.below.output.trans (h2.output.trans hb.output)
  · exact Nat.le_trans hb.size (Nat.le_trans h2.size hwr.below.size)
  · intro k hk hkt hkv
    exact (hwr.rest k hkt).trans ((h2.block k (Nat.lt_of_lt_of_le hk hb.size) (fun e => hkv e.symm)).trans (hb.block k hk))
  · rcases h3 g hg with h | h
    · exact .inl h
    · exact .inr (by omega)
theorem istime_any (n : Int) (w : World) : Calls Tryz.prog 84 #[.int .i64 n] w fun e w' => e = .returned (.bool (okT n)) ∧ w = w' := by
  obtain ⟨r, hr⟩ : ∃ r, okT n = r := ⟨_, rfl⟩
  rw [hr]
  by_cases h0 : 0 ≤ n
  · obtain ⟨b, hb⟩ : ∃ b, decide (n ≤ 1099511627776) = b := ⟨_, rfl⟩
    have HE : Hid (b = r) := Lib.hid (by rw [← hr, ← hb]; unfold okT; simp [h0])
    have h0' : decide (0 ≤ n) = true := by simpa using h0
    clear h0 hr
    go_enter Tryz.func84, Tryz.ntmps84
    go_wp2_with fail
    go_ret
    exact ⟨ret_b HE.out, rfl⟩
  · have HE : Hid (false = r) := Lib.hid (by rw [← hr]; unfold okT; simp [h0])
    have h0' : decide (0 ≤ n) = false := by simpa using h0
    clear h0 hr
    go_enter Tryz.func84, Tryz.ntmps84
    go_wp2_with fail
    go_ret
    exact ⟨ret_b HE.out, rfl⟩
theorem clock_any (n : Int) (w : World) : Calls Tryz.prog 111 #[.int .i64 n] w fun e w' => e = .returned (.bool (okT n)) ∧ w = w' := by
  obtain ⟨r, hr⟩ : ∃ r, okT n = r := ⟨_, rfl⟩
  rw [hr]
  by_cases h0 : 0 ≤ n
  · obtain ⟨b, hb⟩ : ∃ b, decide (n ≤ 1099511627776) = b := ⟨_, rfl⟩
    have HE : Hid (b = r) := Lib.hid (by rw [← hr, ← hb]; unfold okT; simp [h0])
    have h0' : decide (0 ≤ n) = true := by simpa using h0
    clear h0 hr
    go_enter Tryz.func111, Tryz.ntmps111
    go_wp2_with fail
    go_ret
    exact ⟨ret_b HE.out, rfl⟩
  · have HE : Hid (false = r) := Lib.hid (by rw [← hr]; unfold okT; simp [h0])
    have h0' : decide (0 ≤ n) = false := by simpa using h0
    clear h0 hr
    go_enter Tryz.func111, Tryz.ntmps111
    go_wp2_with fail
    go_ret
    exact ⟨ret_b HE.out, rfl⟩
end Go.Proofs.YtflgemlhocjipaaGreatDoor.Lq
namespace Go.Proofs.YtflgemlhocjipaaGreatDoor.Lq
set_option maxRecDepth 100000
open Go.ChangeShapes Go.WideShapes Go.ChangeAt Go.RowKit Go.Proofs.Le

set_option maxHeartbeats 1000000 in
theorem valid_any (x : Ls) (w : World) : Calls Tryz.prog 81 #[.agg #[.int .i64 x.i, .int .i64 x.s, .int .i64 x.l]] w fun e w' => e = .returned (.bool (okL x)) ∧ Below w.heap.size w w' := by
  obtain ⟨w1, hw1⟩ : ∃ w1, w1 = w.alloc (.cells #[.int .i64 x.i, .int .i64 x.s, .int .i64 x.l] 100) := ⟨_, rfl⟩
  obtain ⟨q, eq⟩ : ∃ q, q = w.heap.size := ⟨_, rfl⟩
  have hb1 : Below w.heap.size w w1 := by rw [hw1]; exact box_below w _
  have hq : w1.heap[q]? = some (.cells #[.int .i64 x.i, .int .i64 x.s, .int .i64 x.l] 100 (0, 0)) := by rw [hw1, eq]; exact new_block w _
  have q0 := cell_of hq (j := 0) rfl
  have q1 := cell_of hq (j := 1) rfl
  have q2 := cell_of hq (j := 2) rfl
  have HW1 := Lib.hid hw1
  have EQ := Lib.hid eq
  have HB1 := Lib.hid hb1
  have HC := Lib.hid (istime_any x.l w1)
  clear hw1 eq hb1 hq
  obtain ⟨r, hr⟩ : ∃ r, okT x.l = r := ⟨_, rfl⟩
  rw [hr] at HC
  obtain ⟨t1, h1⟩ : ∃ b, decide (1 ≤ x.i) = b := ⟨_, rfl⟩
  obtain ⟨t2, h2⟩ : ∃ b, decide (x.i ≤ 4611686018427387904) = b := ⟨_, rfl⟩
  obtain ⟨t3, h3⟩ : ∃ b, decide (1 ≤ x.s) = b := ⟨_, rfl⟩
  obtain ⟨t4, h4⟩ : ∃ b, decide (x.s ≤ 1000000) = b := ⟨_, rfl⟩
  have HE : Hid (okL x = (t1 && t2 && t3 && t4 && r)) := Lib.hid (by unfold okL; rw [h1, h2, h3, h4, hr])
  clear hr
  cases t1 with
  | false =>
    go_enter Tryz.func81, Tryz.ntmps81
    go_upto_region 1 with fail
    rw [← HW1.out, ← EQ.out]
    go_wp2_with fail
    go_ret
    exact ⟨ret_b (by rw [HE.out]; simp), HB1.out⟩
  | true =>
    cases t2 with
    | false =>
      go_enter Tryz.func81, Tryz.ntmps81
      go_upto_region 1 with fail
      rw [← HW1.out, ← EQ.out]
      go_wp2_with fail
      go_ret
      exact ⟨ret_b (by rw [HE.out]; simp), HB1.out⟩
    | true =>
      cases t3 with
      | false =>
        go_enter Tryz.func81, Tryz.ntmps81
        go_upto_region 1 with fail
        rw [← HW1.out, ← EQ.out]
        go_wp2_with fail
        go_ret
        exact ⟨ret_b (by rw [HE.out]; simp), HB1.out⟩
      | true =>
        cases t4 with
        | false =>
          go_enter Tryz.func81, Tryz.ntmps81
          go_upto_region 1 with fail
          rw [← HW1.out, ← EQ.out]
          go_wp2_with fail
          go_ret
          exact ⟨ret_b (by rw [HE.out]; simp), HB1.out⟩
        | true =>
          go_enter Tryz.func81, Tryz.ntmps81
          go_upto_region 1 with fail
          rw [← HW1.out, ← EQ.out]
          go_wp2_with fail
          refine HC.out.mono ?_
          rintro e w2 ⟨rfl, rfl⟩
          go_wp2_with fail
          go_ret
          exact ⟨ret_b (by rw [HE.out]; simp), HB1.out⟩
set_option maxHeartbeats 1000000 in
theorem right_any (x : Ls) (w : World) : Calls Tryz.prog 69 #[.agg #[.int .i64 x.i, .int .i64 x.s, .int .i64 x.l]] w fun e w' => e = .returned (.bool (okL x)) ∧ Below w.heap.size w w' := by
  obtain ⟨w1, hw1⟩ : ∃ w1, w1 = w.alloc (.cells #[.int .i64 x.i, .int .i64 x.s, .int .i64 x.l] 82) := ⟨_, rfl⟩
  obtain ⟨q, eq⟩ : ∃ q, q = w.heap.size := ⟨_, rfl⟩
  have hb1 : Below w.heap.size w w1 := by rw [hw1]; exact box_below w _
  have hq : w1.heap[q]? = some (.cells #[.int .i64 x.i, .int .i64 x.s, .int .i64 x.l] 82 (0, 0)) := by rw [hw1, eq]; exact new_block w _
  have q0 := cell_of hq (j := 0) rfl
  have q1 := cell_of hq (j := 1) rfl
  have q2 := cell_of hq (j := 2) rfl
  have HW1 := Lib.hid hw1
  have EQ := Lib.hid eq
  have HB1 := Lib.hid hb1
  have HC := Lib.hid (clock_any x.l w1)
  clear hw1 eq hb1 hq
  obtain ⟨r, hr⟩ : ∃ r, okT x.l = r := ⟨_, rfl⟩
  rw [hr] at HC
  obtain ⟨t1, h1⟩ : ∃ b, decide (1 ≤ x.i) = b := ⟨_, rfl⟩
  obtain ⟨t2, h2⟩ : ∃ b, decide (x.i ≤ 4611686018427387904) = b := ⟨_, rfl⟩
  obtain ⟨t3, h3⟩ : ∃ b, decide (1 ≤ x.s) = b := ⟨_, rfl⟩
  obtain ⟨t4, h4⟩ : ∃ b, decide (x.s ≤ 1000000) = b := ⟨_, rfl⟩
  have HE : Hid (okL x = (t1 && t2 && t3 && t4 && r)) := Lib.hid (by unfold okL; rw [h1, h2, h3, h4, hr])
  clear hr
  cases t1 with
  | false =>
    go_enter Tryz.func69, Tryz.ntmps69
    go_upto_region 1 with fail
    rw [← HW1.out, ← EQ.out]
    go_wp2_with fail
    go_ret
    exact ⟨ret_b (by rw [HE.out]; simp), HB1.out⟩
  | true =>
    cases t2 with
    | false =>
      go_enter Tryz.func69, Tryz.ntmps69
      go_upto_region 1 with fail
      rw [← HW1.out, ← EQ.out]
      go_wp2_with fail
      go_ret
      exact ⟨ret_b (by rw [HE.out]; simp), HB1.out⟩
    | true =>
      cases t3 with
      | false =>
        go_enter Tryz.func69, Tryz.ntmps69
        go_upto_region 1 with fail
        rw [← HW1.out, ← EQ.out]
        go_wp2_with fail
        go_ret
        exact ⟨ret_b (by rw [HE.out]; simp), HB1.out⟩
      | true =>
        cases t4 with
        | false =>
          go_enter Tryz.func69, Tryz.ntmps69
          go_upto_region 1 with fail
          rw [← HW1.out, ← EQ.out]
          go_wp2_with fail
          go_ret
          exact ⟨ret_b (by rw [HE.out]; simp), HB1.out⟩
        | true =>
          go_enter Tryz.func69, Tryz.ntmps69
          go_upto_region 1 with fail
          rw [← HW1.out, ← EQ.out]
          go_wp2_with fail
          refine HC.out.mono ?_
          rintro e w2 ⟨rfl, rfl⟩
          go_wp2_with fail
          go_ret
          exact ⟨ret_b (by rw [HE.out]; simp), HB1.out⟩
end Go.Proofs.YtflgemlhocjipaaGreatDoor.Lq
namespace Go.Proofs.YtflgemlhocjipaaGreatDoor.Lq
open Go.RowKit

/-- How a round's body may end: where it goes on, or returns. -/
def goesOr {α : Type} (B : Nat) (I X : List α → World → Prop) (xs : List α) (W : World) : Exit → Act → World → Prop
  | .normal, _, W' => KeepsFrom B W W' ∧ I xs W'
  | .ret, _, W' => KeepsFrom B W W' ∧ X xs W'
  | _, _, _ => False
theorem grown_below {X Y : World} (h : Below X.heap.size X Y) : X.grownBy Y none := ⟨h.os, h.tape, h.output, h.size, fun k hk _ => h.block k hk⟩
theorem range_ret {P : Program} {α : Type} {n : Nat} {g : Operand} {ps : Array Tmp} {assign body : Code} {Q : Exit → Act → World → Prop} {a : Act} {w : World} {gf : Nat} {bd : Array Value}
    (hg : a.eval g = .func (.func gf) bd #[]) (eg : ∀ args w, (callFunc gf args).run P w = .ok (.enter gf args) w) {encs : α → Array Value} (hps : ∀ x, (encs x).size = ps.size) (ob : α → Obj)
    {R : List α → α → Prop} {S : List α → Prop} {I X : List α → World → Prop} (hI : OwnFrom w.heap.size I) (hX : OwnFrom w.heap.size X) (h0 : I [] w)
    (hseq : ∀ (l : Nat) (J JX : List α → World → Prop), (∀ pre Y Z, J pre Y → Below Y.heap.size Y Z → J pre Z) → (∀ pre Y, J pre Y → I pre Y) →
      (∀ pre x Y, J pre Y → R pre x → YieldAt Fence.wide (n - 1 - 1) P l (encs x) Y fun e Z => (e = .returned (.bool true) ∧ J (pre ++ [x]) Z) ∨ (e = .returned (.bool false) ∧ JX (pre ++ [x]) Z)) →
      ∀ W, Below w.heap.size w W → J [] W → CallsIn Fence.wide (n - 1) P gf (bd ++ #[.func (.yield l) #[] #[]]) W fun e Y => (∃ v, e = .returned v) ∧ ((∃ xs, S xs ∧ J xs Y) ∨ ∃ xs, JX xs Y))
    (a₁ : α → Nat → Act)
    (hassign : ∀ (l : Nat) (x : α) (W : World) (K : Act → World → Prop), K (a₁ x W.heap.size) (W.alloc (ob x)) →
      assign.wpIn (Fence.wide.inRound l) (n - 1 - 1) P (Exit.then K (fun _ _ _ => False)) { tmps := (ps.zip (encs x)).foldl (fun t (p, v) => t.setIfInBounds p v) a.tmps, defers := [] } W)
    (hbody : ∀ (l : Nat) (pre : List α) (x : α) (W : World) (b : Nat), I pre W → R pre x → w.heap.size ≤ b → W.heap[b]? = some (ob x) → body.wpIn (Fence.wide.inRound l) (n - 1 - 1) P (goesOr w.heap.size I X (pre ++ [x]) W) (a₁ x b) W)
    (hdone : ∀ (D : Nat) (xs : List α) (W : World), w.heap.size ≤ D → S xs → I xs W → W.heap[D]? = some (.deferred (some [])) → Q .normal { a with defers := { target := .collected D, args := #[] } :: a.defers } W)
    (hstop : ∀ (D : Nat) (xs : List α) (W : World), w.heap.size ≤ D → X xs W → W.heap[D]? = some (.deferred (some [])) → Code.ret.wpIn Fence.wide n P Q { a with defers := { target := .collected D, args := #[] } :: a.defers } W) :
    (Code.rangeFunc g ps assign body).wpIn Fence.wide n P Q a w := by
  refine wpIn_rangeFunc fun fn hfn => ?_
  obtain ⟨D, hD⟩ : ∃ D, D = w.heap.size := ⟨_, rfl⟩
  obtain ⟨rc, hrc⟩ : ∃ rc : LoopState → Option Code → Loop, rc = fun st pe => { state := st, pending := pe, fn, tmps := a.tmps, params := ps, assign, body, defers := D } := ⟨_, rfl⟩
  obtain ⟨w1, hw1⟩ : ∃ w1, w1 = (w.alloc (.deferred (some []))).alloc (.loop (rc .ready none)) := ⟨_, rfl⟩
  have hl1 : w1.heap[D + 1]? = some (.loop (rc .ready none)) := by
    have h := World.alloc_heap_new (w.alloc (.deferred (some []))) (.loop (rc .ready none))
    rw [World.size_alloc, ← hw1, ← hD] at h
    exact h
  have hk1 : w1.heap[D]? = some (.deferred (some [])) := by
    rw [hw1, hD]; exact (Below.heap_alloc _ _ _ (by simp)).trans (World.alloc_heap_new w _)
  have hi1 : I [] w1 := by rw [hw1]; exact hI.alloc _ (hI.alloc _ h0)
  have hb1 : Below w.heap.size w w1 := by rw [hw1]; exact ((Below.refl _ w).alloc (Nat.le_refl _) _).alloc (by simp) _
  have hent : (Instr.enterLoop fn a.tmps ps assign body none).run P w = .ok (D + 1, [{ target := .collected D, args := #[] }]) w1 := by
    rw [hw1, hrc, hD]; exact run_enterLoop_outer _ _ _ _ _
  refine ⟨D + 1, [{ target := .collected D, args := #[] }], w1, { target := .fn (.func gf) #[], args := bd ++ #[.func (.yield (D + 1)) #[] #[]] }, w1, gf, bd ++ #[.func (.yield (D + 1)) #[] #[]], w1, hent, ?_, fun _ _ => trivial, ?_, (fun h => by cases h), ?_⟩
  · simp only [resolve, hg]
    simp [go_sem]
  · simp [invoke, go_sem, eg]
  · refine (hseq (D + 1) (fun pre Y => I pre Y ∧ Y.heap[D + 1]? = some (.loop (rc .ready none)) ∧ Y.heap[D]? = some (.deferred (some [])))
      (fun pre Y => X pre Y ∧ Y.heap[D + 1]? = some (.loop (rc .done (some .ret))) ∧ Y.heap[D]? = some (.deferred (some []))) ?_ (fun _ _ h => h.1) ?_ w1 hb1 ⟨hi1, hl1, hk1⟩).mono ?_
    · rintro pre Y Z ⟨hi, hl, hk⟩ hb
      exact ⟨hI pre Y Z none hi (grown_below hb) (fun r e => by cases e), (hb.block _ (Array.getElem?_eq_some_iff.1 hl).1).trans hl, (hb.block _ (Array.getElem?_eq_some_iff.1 hk).1).trans hk⟩
    · rintro pre x Y ⟨hi, hl, hk⟩ hr
      have hlt := (Array.getElem?_eq_some_iff.1 hl).1
      have hy := run_yield (P := P) (args := encs x) hl (by rw [hrc]; exact hps x)
      rw [hrc] at hy
      obtain ⟨b, hbe⟩ : ∃ b, b = Y.heap.size := ⟨_, rfl⟩
      obtain ⟨Ya, hYa⟩ : ∃ Ya, Ya = Y.alloc (ob x) := ⟨_, rfl⟩
      have hba : Below Y.heap.size Y Ya := by rw [hYa]; exact (Below.refl _ Y).alloc (Nat.le_refl _) _
      have hla : Ya.heap[D + 1]? = some (.loop (rc .ready none)) := (hba.block _ hlt).trans hl
      have hka : Ya.heap[D]? = some (.deferred (some [])) := (hba.block _ (Array.getElem?_eq_some_iff.1 hk).1).trans hk
      have hxa : Ya.heap[b]? = some (ob x) := by rw [hYa, hbe]; exact World.alloc_heap_new Y _
      have hia : I pre Ya := by rw [hYa]; exact hI.alloc _ hi
      have hlta := (Array.getElem?_eq_some_iff.1 hla).1
      obtain ⟨Y2, hY2⟩ : ∃ Y2, Y2 = Ya.putObj (D + 1) (.loop (rc .busy none)) := ⟨_, rfl⟩
      have hbr : (Instr.beginRound (D + 1)).run P Ya = .ok () Y2 := by rw [hY2, run_beginRound hla (by rw [hrc]), hrc]
      have hl2 : Y2.heap[D + 1]? = some (.loop (rc .busy none)) := by rw [hY2]; exact World.putObj_heap_same hlta
      have hk2 : Y2.heap[D]? = some (.deferred (some [])) := by rw [hY2]; exact (World.putObj_heap_other (by omega)).trans hka
      have hx2 : Y2.heap[b]? = some (ob x) := by rw [hY2]; exact (World.putObj_heap_other (by omega)).trans hxa
      have hi2 : I pre Y2 := by rw [hY2]; exact hI.putObj _ hia (by omega) hla rfl
      have hbr' : (Instr.beginRound (D + 1)).run P (Y.alloc (ob x)) = .ok () Y2 := by rw [← hYa]; exact hbr
      have hbd := hbody (D + 1) pre x Y2 Y.heap.size hi2 hr (by omega) (by rw [← hbe]; exact hx2)
      refine ⟨fn, _, assign, body, hy, roundIn_of_wpIn hfn (hassign _ x Y _ ⟨Y2, hbr', wpIn_mono hbd ?_⟩)⟩
      intro e a3 Y3 hp
      have fin : ∀ (jump : Option Code), KeepsFrom w.heap.size Y2 Y3 → (Instr.endRound (D + 1) jump).run P Y3 = .ok (.bool jump.isNone) (Y3.putObj (D + 1) (.loop (rc (if jump.isNone then .ready else .done) jump))) ∧ Y3.heap[D + 1]? = some (.loop (rc .busy none)) ∧ Y3.heap[D]? = some (.deferred (some [])) := fun jump hk3 => by
        have hl3 := hk3.same _ _ (by omega) hl2 rfl
        have := run_endRound (P := P) jump hl3
        rw [hrc] at this hl3 ⊢
        exact ⟨this, hl3, hk3.same _ _ (by omega) hk2 rfl⟩
      cases e with
      | normal =>
        obtain ⟨hkf, hi3⟩ := hp
        obtain ⟨her, hl3, hk3⟩ := fin none hkf
        exact ⟨_, _, her, .inl ⟨rfl, hI.putObj _ hi3 (by omega) hl3 rfl, World.putObj_heap_same (Array.getElem?_eq_some_iff.1 hl3).1, (World.putObj_heap_other (by omega)).trans hk3⟩⟩
      | ret =>
        obtain ⟨hkf, hx3⟩ := hp
        obtain ⟨her, hl3, hk3⟩ := fin (some .ret) hkf
        exact ⟨_, _, her, .inr ⟨rfl, hX.putObj _ hx3 (by omega) hl3 rfl, World.putObj_heap_same (Array.getElem?_eq_some_iff.1 hl3).1, (World.putObj_heap_other (by omega)).trans hk3⟩⟩
      | exit id => exact hp.elim
      | goto t => exact hp.elim
      | panic ch => exact hp.elim
      | outgrown => exact hp.elim
    · rintro e Y ⟨⟨v, rfl⟩, (⟨xs, hS, hi, hl, hk⟩ | ⟨xs, hx, hl, hk⟩)⟩
      · have hen := run_endLoop (P := P) hl (by rw [hrc]; simp)
        refine ⟨none, _, (by rw [hrc] at hen; exact hen), ?_⟩
        exact hdone D xs _ (by omega) hS (hI.putObj _ hi (by omega) hl rfl) ((World.putObj_heap_other (by omega)).trans hk)
      · have hen := run_endLoop (P := P) hl (by rw [hrc]; simp)
        refine ⟨some .ret, _, (by rw [hrc] at hen; exact hen), ?_⟩
        exact hstop D xs _ (by omega) (hX.putObj _ hx (by omega) hl rfl) ((World.putObj_heap_other (by omega)).trans hk)
end Go.Proofs.YtflgemlhocjipaaGreatDoor.Lq
namespace Go.Proofs.YtflgemlhocjipaaGreatDoor.Lq
set_option maxRecDepth 100000
open Go.ChangeShapes Go.WideShapes Go.ChangeAt Go.RowKit Go.Shelf Go.Proofs.Le

attribute [local go_sem] Oper.semAt_some

/-- An element: its place, the lease. -/
abbrev El := Nat × Ls
def encE (x : El) : Array Value := #[.int .i64 (x.1 : Nat), .agg #[.int .i64 x.2.i, .int .i64 x.2.s, .int .i64 x.2.l]]
def obE (x : El) : Obj := .cells #[.int .i64 x.2.i, .int .i64 x.2.s, .int .i64 x.2.l] 100
def RE (L : Tb) (pre : List El) (x : El) : Prop := x.1 = pre.length ∧ L[pre.length]? = some x.2
def SE (L : Tb) (xs : List El) : Prop := xs.length = L.length
set_option maxHeartbeats 1000000 in
theorem rise_any (n l tp : Nat) (hn : 1 ≤ n) (A : Option Addr) (c : Nat) (L : Tb) (hl : L.length ≤ 100000) (J JX : List El → World → Prop)
    (hJ : ∀ pre X Y, J pre X → Below X.heap.size X Y → J pre Y) (hJc : ∀ pre X, J pre X → X.cell? ⟨tp, 0, none⟩ = some (.slice A L.length c) ∧ Rd lcell 3 X A L.length L)
    (hY : ∀ pre x X, J pre X → RE L pre x → YieldAt Fence.wide (n - 1) Tryz.prog l (encE x) X fun e Y => (e = .returned (.bool true) ∧ J (pre ++ [x]) Y) ∨ (e = .returned (.bool false) ∧ JX (pre ++ [x]) Y))
    (W : World) (h0 : J [] W) :
    CallsIn Fence.wide n Tryz.prog 90 #[.pointer (some ⟨tp, 0, none⟩), .func (.yield l) #[] #[]] W fun e Y => (∃ v, e = .returned v) ∧ ((∃ xs, SE L xs ∧ J xs Y) ∨ ∃ xs, JX xs Y) := by
  have HJ := Lib.hid hJ
  have HJC := Lib.hid hJc
  have HY := Lib.hid hY
  have H0 := Lib.hid h0
  obtain ⟨t0, -⟩ := hJc [] W h0
  clear hJ hJc hY h0
  refine callsIn_of_wp Tryz.func90 rfl trivial ?_ rfl
  simp only [Tryz.ntmps90, List.size_toArray, List.length_cons, List.length_nil, Nat.reduceAdd, Nat.reduceSub, Array.replicate_succ, Array.replicate_zero, List.push_toArray, List.append_toArray, List.nil_append, List.cons_append]
  gi_wp2
  gi_loopw [11] (fun vi wr => ∃ (pre : List El), pre.length ≤ L.length ∧ vi = .int .i64 (pre.length : Nat) ∧ J pre wr) (fun vi _ => L.length - (intOf vi).toNat)
  case atStart => exact ⟨[], Nat.zero_le _, rfl, H0.out⟩
  case round =>
    obtain ⟨pre, hle, rfl, hj⟩ := hrel
    obtain ⟨k, hk⟩ : ∃ k, pre.length = k := ⟨_, rfl⟩
    rw [hk] at hle ⊢
    have HJJ := Lib.hid hj
    obtain ⟨-, hrd⟩ := HJC.out pre wr hj
    have HK := Lib.hid hk
    clear hj hk t0
    by_cases hlt : k < L.length
    · obtain ⟨b, off, x, rfl, hx, hcc⟩ := hrd.at hlt
      have c0 : wr.cell? ⟨b, off + k * 3, none⟩ = some (.int .i64 x.i) := hcc 0 _ rfl
      have c1 : wr.cell? ⟨b, off + k * 3 + 1, none⟩ = some (.int .i64 x.s) := hcc 1 _ rfl
      have c2 : wr.cell? ⟨b, off + k * 3 + 2, none⟩ = some (.int .i64 x.l) := hcc 2 _ rfl
      have hk0 : (0 : Int) ≤ (k : Int) := by omega
      have hwk : IntKind.i64.wrap ((k : Int) + 1) = (k : Int) + 1 := by rw [IntKind.wrap_i64]; omega
      have hki : (k : Int) < (L.length : Int) := by omega
      have HX := Lib.hid hx
      obtain ⟨w1, hw1⟩ : ∃ w1, w1 = wr.alloc (.cells #[.int .i64 x.i, .int .i64 x.s, .int .i64 x.l] 100) := ⟨_, rfl⟩
      obtain ⟨q, eq⟩ : ∃ q, q = wr.heap.size := ⟨_, rfl⟩
      have hq : w1.heap[q]? = some (.cells #[.int .i64 x.i, .int .i64 x.s, .int .i64 x.l] 100 (0, 0)) := by rw [hw1, eq]; exact new_block wr _
      have hb1 : Below wr.heap.size wr w1 := by rw [hw1]; exact box_below wr _
      have q0 := cell_of hq (j := 0) rfl
      have q1 := cell_of hq (j := 1) rfl
      have q2 := cell_of hq (j := 2) rfl
      have HW1 := Lib.hid hw1
      have EQ := Lib.hid eq
      have hj1 := HJ.out pre wr w1 HJJ.out hb1
      obtain ⟨fn, tmps, assign, body, hy, hyr⟩ := HY.out pre (k, x) w1 hj1 ⟨HK.out.symm, by rw [HK.out]; exact HX.out⟩
      have hy' : (Instr.yield l #[.int .i64 (k : Nat), .agg #[.int .i64 x.i, .int .i64 x.s, .int .i64 x.l]]).run Tryz.prog w1 = .ok (.round l fn tmps assign body) w1 := hy
      have HYR := Lib.hid hyr
      have HXX := Lib.hid hx
      clear hrd hx hcc hw1 eq hq hb1 hj1 hy hyr
      gi_upto_region 3 with fail
      rw [← HW1.out, ← EQ.out]
      gi_wp2
      refine HYR.out.mono ?_
      rintro ex w3 (⟨rfl, hJ3⟩ | ⟨rfl, hJ3⟩)
      · have HJ3 := Lib.hid hJ3
        clear hJ3 c0 c1 c2 q0 q1 q2
        gi_wp2
        go_roundw
        case rel => exact ⟨pre ++ [(k, x)], by rw [List.length_append, HK.out]; simp; omega, by rw [List.length_append, HK.out]; go_num, HJ3.out⟩
        case measure => simp [intOf]; omega
      · have HJ3 := Lib.hid hJ3
        clear hJ3 c0 c1 c2 q0 q1 q2
        gi_wp2
        refine bodyPost_ret (results_none rfl _ _ _) rfl ?_
        exact ⟨⟨_, rfl⟩, .inr ⟨_, HJ3.out⟩⟩
    · have hge : ¬ (k : Int) < (L.length : Int) := by omega
      have HS : Hid (SE L pre) := Lib.hid (by unfold SE; rw [HK.out]; omega)
      clear hrd
      gi_wp2
      refine bodyPost_end (results_none rfl _ _ _) rfl ?_
      exact ⟨⟨_, rfl⟩, .inl ⟨pre, HS.out, HJJ.out⟩⟩
end Go.Proofs.YtflgemlhocjipaaGreatDoor.Lq
namespace Go.Proofs.YtflgemlhocjipaaGreatDoor.Lq
set_option maxRecDepth 100000
open Go.ChangeShapes Go.WideShapes Go.ChangeAt Go.RowKit Go.Shelf Go.Proofs.Le

attribute [local go_sem] Oper.semAt_some

def fnd (L : Tb) (id : Int) : Ls := (has L id).getD z0
/-- The three boxes of find. -/
structure FB (w W : World) (b3 b4 b5 : Nat) (id : Int) (r : Nat) (f : Ls) : Prop where
  below : Below w.heap.size w W
  x3 : W.heap[b3]? = some (.cells #[.int .i64 id] 3 (0, 0))
  x4 : W.heap[b4]? = some (.cells #[.int .i64 (r : Nat)] 3 (0, 0))
  x5 : W.heap[b5]? = some (.cells #[.int .i64 f.i, .int .i64 f.s, .int .i64 f.l] 100 (0, 0))
theorem grown_blk {W W' : World} {row : Option Nat} {B b : Nat} {o : Obj} (hg : W.grownBy W' row) (hr : ∀ r, row = some r → B ≤ r) (hb : b < B) (h : W.heap[b]? = some o) : W'.heap[b]? = some o :=
  (hg.block b (blk_lt h) (fun e => by have := hr b e.symm; omega)).trans h
theorem FB.grown {w W W' : World} {b3 b4 b5 r B : Nat} {id : Int} {f : Ls} {row : Option Nat} (h : FB w W b3 b4 b5 id r f) (hg : W.grownBy W' row) (hr : ∀ r, row = some r → B ≤ r) (h3 : b3 < B) (h4 : b4 < B) (h5 : b5 < B) (hw : w.heap.size ≤ B) : FB w W' b3 b4 b5 id r f :=
  ⟨h.below.grown hg h.below.size (fun k e => Nat.le_trans hw (hr k e)), grown_blk hg hr h3 h.x3, grown_blk hg hr h4 h.x4, grown_blk hg hr h5 h.x5⟩
theorem FB.set4 {w W : World} {b3 b4 b5 r : Nat} {id : Int} {f : Ls} (h : FB w W b3 b4 b5 id r f) (n0 : b3 ≠ b4) (n1 : b4 ≠ b5) (k : Nat) (hw : w.heap.size ≤ b4) : FB w (W.setCell ⟨b4, 0, none⟩ (.int .i64 (k : Nat))) b3 b4 b5 id k f :=
  ⟨h.below.setCell hw _, (Go.Deep.blk_setCell_other _ _ _ _ n0).trans h.x3, heap_setCell_same W b4 0 _ 3 _ h.x4, (Go.Deep.blk_setCell_other _ _ _ _ (Ne.symm n1)).trans h.x5⟩
theorem FB.set50 {w W : World} {b3 b4 b5 r : Nat} {id : Int} {f : Ls} (h : FB w W b3 b4 b5 id r f) (n0 : b3 ≠ b5) (n1 : b4 ≠ b5) (z : Int) (hw : w.heap.size ≤ b5) : FB w (W.setCell ⟨b5, 0, none⟩ (.int .i64 z)) b3 b4 b5 id r ⟨z, f.s, f.l⟩ :=
  ⟨h.below.setCell hw _, (Go.Deep.blk_setCell_other _ _ _ _ n0).trans h.x3, (Go.Deep.blk_setCell_other _ _ _ _ n1).trans h.x4, heap_setCell_same W b5 0 _ 100 _ h.x5⟩
theorem FB.set51 {w W : World} {b3 b4 b5 r : Nat} {id : Int} {f : Ls} (h : FB w W b3 b4 b5 id r f) (n0 : b3 ≠ b5) (n1 : b4 ≠ b5) (z : Int) (hw : w.heap.size ≤ b5) : FB w (W.setCell ⟨b5, 1, none⟩ (.int .i64 z)) b3 b4 b5 id r ⟨f.i, z, f.l⟩ :=
  ⟨h.below.setCell hw _, (Go.Deep.blk_setCell_other _ _ _ _ n0).trans h.x3, (Go.Deep.blk_setCell_other _ _ _ _ n1).trans h.x4, heap_setCell_same W b5 1 _ 100 _ h.x5⟩
theorem FB.set52 {w W : World} {b3 b4 b5 r : Nat} {id : Int} {f : Ls} (h : FB w W b3 b4 b5 id r f) (n0 : b3 ≠ b5) (n1 : b4 ≠ b5) (z : Int) (hw : w.heap.size ≤ b5) : FB w (W.setCell ⟨b5, 2, none⟩ (.int .i64 z)) b3 b4 b5 id r ⟨f.i, f.s, z⟩ :=
  ⟨h.below.setCell hw _, (Go.Deep.blk_setCell_other _ _ _ _ n0).trans h.x3, (Go.Deep.blk_setCell_other _ _ _ _ n1).trans h.x4, heap_setCell_same W b5 2 _ 100 _ h.x5⟩
theorem FB.drew {w W : World} {b3 b4 b5 r : Nat} {id : Int} {f : Ls} (h : FB w W b3 b4 b5 id r f) : FB w W.drew b3 b4 b5 id r f := ⟨h.below.drew, h.x3, h.x4, h.x5⟩
theorem kf_set {B : Nat} {W X : World} (h : KeepsFrom B W X) (p : Addr) (v : Value) : KeepsFrom B W (X.setCell p v) := h.trans ((KeepsOthers.setCell X p v).from B)
theorem kf_drew {B : Nat} {W X : World} (h : KeepsFrom B W X) : KeepsFrom B W X.drew := ⟨h.size, h.same⟩
def FiPost (w : World) (L : Tb) (id : Int) (e : Ending) (w' : World) : Prop :=
  e = .returned (.tuple #[.int .i64 (pos L id : Nat), .agg #[.int .i64 (fnd L id).i, .int .i64 (fnd L id).s, .int .i64 (fnd L id).l]]) ∧ Below w.heap.size w w'
theorem three_box (w : World) (id : Int) : ∃ W, W = ((w.alloc (.cells #[.int .i64 id] 3)).alloc (.cells #[.int .i64 0] 3)).alloc (.cells #[.int .i64 0, .int .i64 0, .int .i64 0] 100) ∧ FB w W w.heap.size (w.heap.size + 1) (w.heap.size + 1 + 1) id 0 z0 ∧ W.heap.size = w.heap.size + 3 := by
  obtain ⟨w2, hw2, hB2, hq, hr, hs2⟩ := two_box w (.cells #[.int .i64 id] 3) (.cells #[.int .i64 0] 3)
  refine ⟨_, rfl, ?_, by rw [← hw2]; simp [hs2]⟩
  rw [← hw2]
  have h3 := new_block w2 (.cells #[.int .i64 0, .int .i64 0, .int .i64 0] 100)
  rw [hs2] at h3
  exact ⟨hB2.trans ((box_below w2 _).mono hB2.size), blk_alloc hq _, blk_alloc hr _, h3⟩
theorem res_two {fn : Func} {p q : Tmp} (h : fn.results = #[.cell p 3, .cell q 100]) (tmps : Array Value) (w : World) (b4 b5 r : Nat) (f : Ls) (hp : tmps.getD p undef = .pointer (some ⟨b4, 0, none⟩)) (hq : tmps.getD q undef = .pointer (some ⟨b5, 0, none⟩))
    (h4 : w.heap[b4]? = some (.cells #[.int .i64 (r : Nat)] 3 (0, 0))) (h5 : w.heap[b5]? = some (.cells #[.int .i64 f.i, .int .i64 f.s, .int .i64 f.l] 100 (0, 0))) :
    (results fn tmps).run Tryz.prog w = .ok (.tuple #[.int .i64 (r : Nat), .agg #[.int .i64 f.i, .int .i64 f.s, .int .i64 f.l]]) w := by
  have hp' : tmps[p]?.getD undef = .pointer (some ⟨b4, 0, none⟩) := by simpa using hp
  have hq' : tmps[q]?.getD undef = .pointer (some ⟨b5, 0, none⟩) := by simpa using hq
  have c4 := cell_of h4 (j := 0) rfl
  have c0 := cell_of h5 (j := 0) rfl
  have c1 := cell_of h5 (j := 1) rfl
  have c2 := cell_of h5 (j := 2) rfl
  simp [results, h, hp', hq', asAddr, go_sem, c4, c0, c1, c2]
/-- What the boxes say at last. -/
theorem fi_end {w W : World} {b3 b4 b5 D r : Nat} {id : Int} {f : Ls} (h : FB w W b3 b4 b5 id r f) (hw : w.heap.size ≤ D) (hK : W.heap[D]? = some (.deferred (some []))) :
    (W.putObj D (.deferred none)).heap[b4]? = some (.cells #[.int .i64 (r : Nat)] 3 (0, 0)) ∧ (W.putObj D (.deferred none)).heap[b5]? = some (.cells #[.int .i64 f.i, .int .i64 f.s, .int .i64 f.l] 100 (0, 0)) ∧ Below w.heap.size w (W.putObj D (.deferred none)) := by
  refine ⟨?_, ?_, h.below.grown (grownBy_putObj' W D _) h.below.size (fun k e => by cases e; exact hw)⟩
  · exact (World.putObj_heap_other (fun e => by have h4 := h.x4; rw [e, hK] at h4; cases h4)).trans h.x4
  · exact (World.putObj_heap_other (fun e => by have h5 := h.x5; rw [e, hK] at h5; cases h5)).trans h.x5
/-- What the body of the loop keeps. -/
def FI (w : World) (b3 b4 b5 : Nat) (id : Int) (L : Tb) (pre : List El) (W : World) : Prop := FB w W b3 b4 b5 id 0 z0 ∧ (∀ y ∈ pre, y.2.i < id) ∧ pre.map (·.2) = L.take pre.length
set_option maxHeartbeats 4000000 in
theorem find_any {w : World} {Bs tp : Nat} {v : Value} {L : Tb} (ht : TabW w Bs tp v L) (hg : Le.Good L) (id : Int) : Calls Tryz.prog 80 #[.pointer (some ⟨tp, 0, none⟩), .int .i64 id] w (FiPost w L id) := by
  obtain ⟨W0, hW0, hFB, hs0⟩ := three_box w id
  obtain ⟨b3, e3⟩ : ∃ b, b = w.heap.size := ⟨_, rfl⟩
  obtain ⟨b4, e4⟩ : ∃ b, b = w.heap.size + 1 := ⟨_, rfl⟩
  obtain ⟨b5, e5⟩ : ∃ b, b = w.heap.size + 1 + 1 := ⟨_, rfl⟩
  rw [← e5, ← e4, ← e3] at hFB
  have HSZ : Hid (w.heap.size ≤ W0.heap.size ∧ b3 < W0.heap.size ∧ b4 < W0.heap.size ∧ b5 < W0.heap.size ∧ w.heap.size ≤ b3 ∧ b3 ≠ b4 ∧ b3 ≠ b5 ∧ b4 ≠ b5 ∧ w.heap.size ≤ b4 ∧ w.heap.size ≤ b5) := Lib.hid (by omega)
  have HFB := Lib.hid hFB
  have HW0 := Lib.hid hW0
  have E3 := Lib.hid e3
  have E4 := Lib.hid e4
  have E5 := Lib.hid e5
  obtain ⟨A, c, rfl, -, -, -⟩ := ht.rd
  have HT := Lib.hid ht
  have HG := Lib.hid hg
  have HLL : Hid (L.length ≤ 100) := Lib.hid hg.len
  clear hW0 hFB hs0 e3 e4 e5 ht hg
  refine (callsIn_wide (n := 3)).1 ?_
  refine callsIn_of_wp_marks Tryz.func80 rfl trivial ?_ rfl
  simp only [Tryz.ntmps80, List.size_toArray, List.length_cons, List.length_nil, Nat.reduceAdd, Nat.reduceSub, Array.replicate_succ, Array.replicate_zero, List.push_toArray, List.append_toArray, List.nil_append, List.cons_append]
  gi_wp2
  rw [← HW0.out, ← E5.out, ← E4.out, ← E3.out]
  refine range_ret (n := 3) (gf := 90) (bd := #[.pointer (some ⟨tp, 0, none⟩)]) (encs := encE) rfl (enters_of Tryz.func90 (by kernel_rfl) rfl) (fun _ => rfl) obE (R := RE L) (S := SE L) (I := FI w b3 b4 b5 id L) (X := fun _ W => FB w W b3 b4 b5 id (pos L id) (fnd L id)) ?ownI ?ownX ⟨HFB.out, fun y hy => (by cases hy), rfl⟩ ?seq
    (fun x b => { tmps := #[.pointer (some ⟨tp, 0, none⟩), .int .i64 id, undef, .pointer (some ⟨b3, 0, none⟩), .pointer (some ⟨b4, 0, none⟩), .pointer (some ⟨b5, 0, none⟩), .int .i64 (x.1 : Nat), .pointer (some ⟨b, 0, none⟩), .pointer (some ⟨tp, 0, none⟩), .func (.func 90) #[.pointer (some ⟨tp, 0, none⟩)] #[], .int .i64 (x.1 : Nat), .agg #[.int .i64 x.2.i, .int .i64 x.2.s, .int .i64 x.2.l], undef, undef, undef, undef, undef, undef, undef, undef, undef, undef, undef, undef, undef, undef, undef, undef, undef, undef, undef, undef], defers := [] }) ?assign ?body ?done ?stop
  case ownI => exact fun pre W W' row h hg hr => ⟨h.1.grown hg (fun r e => (hr r e).1) HSZ.out.2.1 HSZ.out.2.2.1 HSZ.out.2.2.2.1 HSZ.out.1, h.2⟩
  case ownX => exact fun pre W W' row h hg hr => h.grown hg (fun r e => (hr r e).1) HSZ.out.2.1 HSZ.out.2.2.1 HSZ.out.2.2.2.1 HSZ.out.1
  case seq =>
    intro l J JX hJ hJI hY W hb h0
    exact rise_any 2 l tp (by omega) A c L (by have := HLL.out; omega) J JX hJ (fun pre X h => by
      have ht := HT.out.below (hJI pre X h).1.below
      obtain ⟨A2, c2, e, -, -, hr⟩ := ht.rd
      injection e with e1 _ e2
      subst e1; subst e2
      exact ⟨cell_of ht.here rfl, hr⟩) hY W h0
  case assign =>
    intro l x W K hK
    unfold encE
    unfold obE at hK
    gi_wp2
    exact hK
  case body =>
    rintro l pre ⟨k, y⟩ W b ⟨hfb, hpre, hmap⟩ ⟨hk, hy⟩ hb hx
    replace hk : k = pre.length := hk
    replace hy : L[pre.length]? = some y := hy
    replace hx : W.heap[b]? = some (.cells #[.int .i64 y.i, .int .i64 y.s, .int .i64 y.l] 100 (0, 0)) := hx
    subst hk
    obtain ⟨k, hk⟩ : ∃ k, pre.length = k := ⟨_, rfl⟩
    rw [hk] at hy hmap
    have HK := Lib.hid hk
    have q0 := cell_of hx (j := 0) rfl
    have q1 := cell_of hx (j := 1) rfl
    have q2 := cell_of hx (j := 2) rfl
    have d3 := cell_of hfb.x3 (j := 0) rfl
    have d4 := cell_of hfb.x4 (j := 0) rfl
    have f4 := frozen_of_row W b4 0 _ _ hfb.x4
    have d50 := cell_of hfb.x5 (j := 0) rfl
    have d51 := cell_of hfb.x5 (j := 1) rfl
    have d52 := cell_of hfb.x5 (j := 2) rfl
    have f50 := frozen_of_row W b5 0 _ _ hfb.x5
    have f51 := frozen_of_row W b5 1 _ _ hfb.x5
    have f52 := frozen_of_row W b5 2 _ _ hfb.x5
    have HB := Lib.hid hfb
    have HX := Lib.hid hx
    have HY := Lib.hid hy
    have HP := Lib.hid hpre
    have HM := Lib.hid hmap
    have n1 : b4 ≠ b5 := HSZ.out.2.2.2.2.2.2.2.1
    have z4 : w.heap.size ≤ b4 := HSZ.out.2.2.2.2.2.2.2.2.1
    have z5 : w.heap.size ≤ b5 := HSZ.out.2.2.2.2.2.2.2.2.2
    have n2 : b4 ≠ b := by have := HSZ.out; omega
    have n3 : b5 ≠ b := by have := HSZ.out; omega
    clear hk hfb hpre hmap hy hx
    rw [HK.out]
    have HQ : Hid (∀ y ∈ L.take k, y.i < id) := Lib.hid (fun z hz => by rw [← HM.out] at hz; obtain ⟨u, hu, rfl⟩ := List.mem_map.1 hz; exact HP.out u hu)
    have hA := Lib.hid (((((HB.out.set4 HSZ.out.2.2.2.2.2.1 n1 k z4).set50 HSZ.out.2.2.2.2.2.2.1 n1 y.i z5).set51 HSZ.out.2.2.2.2.2.2.1 n1 y.s z5).set52 HSZ.out.2.2.2.2.2.2.1 n1 y.l z5).drew)
    have hB := Lib.hid (((((HB.out.set50 HSZ.out.2.2.2.2.2.2.1 n1 y.i z5).set51 HSZ.out.2.2.2.2.2.2.1 n1 y.s z5).set52 HSZ.out.2.2.2.2.2.2.1 n1 y.l z5).set4 HSZ.out.2.2.2.2.2.1 n1 k z4).drew)
    have hC := Lib.hid ((((HB.out.set4 HSZ.out.2.2.2.2.2.1 n1 k z4).set50 HSZ.out.2.2.2.2.2.2.1 n1 0 z5).set51 HSZ.out.2.2.2.2.2.2.1 n1 0 z5).set52 HSZ.out.2.2.2.2.2.2.1 n1 0 z5)
    by_cases h1 : y.i = id
    · have HF : Hid (pos L id = k ∧ fnd L id = y) := Lib.hid (by have h := find_hit HG.out.srt HY.out HQ.out h1; exact ⟨h.1, by unfold fnd; rw [h.2]; rfl⟩)
      have h1' : (y.i == id) = true := by simpa using h1
      clear h1
      gi_wp2
      gi_region
      all_goals
        gi_wp2
        refine ⟨by repeat (first | exact KeepsFrom.refl _ _ | apply kf_drew | apply kf_set), ?_⟩
        rw [HF.out.1, HF.out.2]
        first | exact hA.out | exact hB.out
    · have h1' : (y.i == id) = false := by simpa using h1
      by_cases h2 : id < y.i
      · have HF : Hid (pos L id = k ∧ fnd L id = z0) := Lib.hid (by have h := find_over HG.out.srt HY.out HQ.out h2; exact ⟨h.1, by unfold fnd; rw [h.2]; rfl⟩)
        have h2' : decide (id < y.i) = true := by simpa using h2
        clear h1 h2
        gi_wp2
        refine ⟨by repeat (first | exact KeepsFrom.refl _ _ | apply kf_drew | apply kf_set), ?_⟩
        rw [HF.out.1, HF.out.2]
        exact hC.out
      · have h2' : decide (id < y.i) = false := by simpa using h2
        have HE : Hid (FI w b3 b4 b5 id L (pre ++ [(k, y)]) W) := Lib.hid ⟨HB.out, fun z hz => by
          rcases List.mem_append.1 hz with hz | hz
          · exact HP.out z hz
          · rcases List.mem_singleton.1 hz with rfl; show y.i < id; omega, by
          rw [List.map_append, HM.out, List.length_append, HK.out]
          exact (take_some HY.out).symm⟩
        clear h1 h2
        gi_wp2
        exact ⟨KeepsFrom.refl _ _, HE.out⟩
  case done =>
    rintro D xs W hD hS ⟨hfb, hpre, hmap⟩ hK
    have hS' : xs.length = L.length := hS
    rw [hS', List.take_length] at hmap
    have HF : Hid (pos L id = L.length ∧ fnd L id = z0) := Lib.hid (by
      have h := find_end (T := L) (id := id) (fun y hy => by
        rw [← hmap] at hy
        obtain ⟨z, hz, rfl⟩ := List.mem_map.1 hy
        exact hpre z hz)
      exact ⟨h.1, by unfold fnd; rw [h.2]; rfl⟩)
    have d4 := cell_of hfb.x4 (j := 0) rfl
    have f4 := frozen_of_row W b4 0 _ _ hfb.x4
    have d50 := cell_of hfb.x5 (j := 0) rfl
    have d51 := cell_of hfb.x5 (j := 1) rfl
    have d52 := cell_of hfb.x5 (j := 2) rfl
    have f50 := frozen_of_row W b5 0 _ _ hfb.x5
    have f51 := frozen_of_row W b5 1 _ _ hfb.x5
    have f52 := frozen_of_row W b5 2 _ _ hfb.x5
    have t0 := cell_of (HT.out.below hfb.below).here (j := 0) rfl
    have n1 : b4 ≠ b5 := HSZ.out.2.2.2.2.2.2.2.1
    have z4 : w.heap.size ≤ b4 := HSZ.out.2.2.2.2.2.2.2.2.1
    have z5 : w.heap.size ≤ b5 := HSZ.out.2.2.2.2.2.2.2.2.2
    have hC := ((((hfb.set4 HSZ.out.2.2.2.2.2.1 n1 L.length z4).set50 HSZ.out.2.2.2.2.2.2.1 n1 0 z5).set51 HSZ.out.2.2.2.2.2.2.1 n1 0 z5).set52 HSZ.out.2.2.2.2.2.2.1 n1 0 z5)
    have hKC : (((((W.setCell ⟨b4, 0, none⟩ (.int .i64 (L.length : Nat))).setCell ⟨b5, 0, none⟩ (.int .i64 0)).setCell ⟨b5, 1, none⟩ (.int .i64 0)).setCell ⟨b5, 2, none⟩ (.int .i64 0))).heap[D]? = some (.deferred (some [])) := by
      have m4 : b4 ≠ D := by have := HSZ.out; omega
      have m5 : b5 ≠ D := by have := HSZ.out; omega
      rw [Go.Deep.blk_setCell_other _ _ _ _ (Ne.symm m5), Go.Deep.blk_setCell_other _ _ _ _ (Ne.symm m5), Go.Deep.blk_setCell_other _ _ _ _ (Ne.symm m5), Go.Deep.blk_setCell_other _ _ _ _ (Ne.symm m4)]
      exact hK
    have HE := Lib.hid (fi_end hC (Nat.le_trans HSZ.out.1 hD) hKC)
    have HKC := Lib.hid hKC
    clear hC hKC hK hfb hpre hmap hS hS'
    gi_wp2
    refine ⟨by simp, .inl ⟨_, _, rfl, run_takeDeferred HKC.out, ?_⟩⟩
    exact ⟨_, res_two rfl _ _ b4 b5 _ _ rfl rfl HE.out.1 HE.out.2.1, by rw [HF.out.1, HF.out.2], HE.out.2.2⟩
  case stop =>
    rintro D xs W hD hX hK
    have HE := Lib.hid (fi_end hX (Nat.le_trans HSZ.out.1 hD) hK)
    have HK := Lib.hid hK
    clear hX hK
    gi_wp2
    refine ⟨by simp, .inl ⟨_, _, rfl, run_takeDeferred (w := W) HK.out, ?_⟩⟩
    exact ⟨_, res_two rfl _ _ b4 b5 _ _ rfl rfl HE.out.1 HE.out.2.1, rfl, HE.out.2.2⟩
end Go.Proofs.YtflgemlhocjipaaGreatDoor.Lq
namespace Go.Proofs.YtflgemlhocjipaaGreatDoor.Lq
set_option maxRecDepth 100000
open Go.ChangeShapes Go.WideShapes Go.ChangeAt Go.RowKit Go.Shelf Go.Proofs.Le

attribute [local go_sem] Oper.semAt_some

theorem own_kept {w w' : World} {base size n : Nat} {e : TypeId} {v : Value} {xs : List Value} {row : Option Nat} (h : w.ownsRow base e size v n xs) (hg : w.grownBy w' row) (hr : ∀ r, row = some r → ∃ o : Obj, w.heap[r]? = some o ∧ ∀ cur, o ≠ .cells cur e (0, 0)) : w'.ownsRow base e size v n xs := by
  refine h.kept hg ?_
  rcases h.2 with ⟨rfl, _⟩ | ⟨g, cap, cur, rfl, _, hgb, _⟩
  · exact .inl rfl
  · refine .inr fun e' => ?_
    obtain ⟨o, ho, hne⟩ := hr g (by rw [← e']; rfl)
    rw [hgb] at ho
    cases ho
    exact hne _ rfl
/-- A box, and the row that its slice owns. -/
structure BR (W : World) (n0 b : Nat) (tt e sz : Nat) (n : Nat) (xs : List Value) : Prop where
  ex : ∃ v, Boxed W b tt v ∧ W.ownsRow n0 e sz v n xs
theorem BR.grown {W W' : World} {n0 b tt e sz n B : Nat} {xs : List Value} {row : Option Nat} (h : BR W n0 b tt e sz n xs) (hg : W.grownBy W' row) (hr : ∀ r, row = some r → B ≤ r ∧ ∃ o : Obj, W.heap[r]? = some o ∧ o.isCells = false) (hb : b < B) : BR W' n0 b tt e sz n xs := by
  obtain ⟨v, h1, h2⟩ := h.ex
  exact ⟨v, h1.kept hg (fun e => by have := (hr b e.symm).1; omega), own_kept h2 hg fun r e => by
    obtain ⟨_, o, ho, hc⟩ := hr r e
    exact ⟨o, ho, fun cur e => by subst e; cases hc⟩⟩
theorem br_put {W : World} {D n0 e sz n : Nat} {xs : List Value} {v : Value} (h2 : W.ownsRow n0 e sz v n xs) (hK : W.heap[D]? = some (.deferred (some []))) : (W.putObj D (.deferred none)).ownsRow n0 e sz v n xs :=
  own_kept h2 (grownBy_putObj' W D _) (fun r e => by cases e; exact ⟨_, hK, fun cur e => by cases e⟩)
theorem map_snoc {L : Tb} {pre : List El} {k : Nat} {y : Ls} (hk : pre.length = k) (hy : L[k]? = some y) : L.take (pre ++ [(k, y)]).length = L.take k ++ [y] := by
  rw [List.length_append, List.length_singleton, hk]; exact take_some hy

def AlPost (w : World) (L : Tb) (e : Ending) (w' : World) : Prop := ∃ A c, e = .returned (.slice A L.length c) ∧ w'.ownsRow w.heap.size 100 3 (.slice A L.length c) L.length (lcells L) ∧ Below w.heap.size w w'
def AI (w : World) (b3 : Nat) (L : Tb) (pre : List El) (W : World) : Prop := Below w.heap.size w W ∧ BR W w.heap.size b3 98 100 3 pre.length (lcells (L.take pre.length))
set_option maxHeartbeats 4000000 in
theorem all_any {w : World} {Bs tp : Nat} {v : Value} {L : Tb} (ht : TabW w Bs tp v L) (hl : L.length ≤ 100000) : Calls Tryz.prog 46 #[.pointer (some ⟨tp, 0, none⟩)] w (AlPost w L) := by
  obtain ⟨W0, hW0⟩ : ∃ W0, W0 = w.alloc (.cells #[.slice none 0 0] 98) := ⟨_, rfl⟩
  obtain ⟨b3, e3⟩ : ∃ b, b = w.heap.size := ⟨_, rfl⟩
  have hb0 : Below w.heap.size w W0 := by rw [hW0]; exact box_below w _
  have hx3 : Boxed W0 b3 98 (.slice none 0 0) := by rw [hW0, e3]; exact Boxed.new w _ _
  have HSZ : Hid (w.heap.size ≤ W0.heap.size ∧ b3 < W0.heap.size ∧ w.heap.size ≤ b3) := Lib.hid ⟨hb0.size, hx3.lt, by omega⟩
  have HI0 : Hid (AI w b3 L [] W0) := Lib.hid ⟨hb0, ⟨_, hx3, by simpa [lcells] using World.ownsRow_nil W0 w.heap.size 100 3⟩⟩
  have HW0 := Lib.hid hW0
  have E3 := Lib.hid e3
  obtain ⟨A, c, rfl, -, -, -⟩ := ht.rd
  have HT := Lib.hid ht
  have HLL := Lib.hid hl
  obtain ⟨i0, hi, hz0, hz1, hz2⟩ := info_parts infoL
  clear hW0 e3 ht hb0 hx3 hl
  refine (callsIn_wide (n := 3)).1 ?_
  refine callsIn_of_wp_marks Tryz.func46 rfl trivial ?_ rfl
  simp only [Tryz.ntmps46, List.size_toArray, List.length_cons, List.length_nil, Nat.reduceAdd, Nat.reduceSub, Array.replicate_succ, Array.replicate_zero, List.push_toArray, List.append_toArray, List.nil_append, List.cons_append]
  gi_wp2
  rw [← HW0.out, ← E3.out]
  refine range_ret (n := 3) (gf := 90) (bd := #[.pointer (some ⟨tp, 0, none⟩)]) (encs := encE) rfl (enters_of Tryz.func90 (by kernel_rfl) rfl) (fun _ => rfl) obE (R := RE L) (S := SE L) (I := AI w b3 L) (X := fun _ _ => False) ?ownI ?ownX HI0.out ?seq
    (fun x b => { tmps := #[.pointer (some ⟨tp, 0, none⟩), undef, .slice none 0 0, .pointer (some ⟨b3, 0, none⟩), undef, .pointer (some ⟨b, 0, none⟩), .pointer (some ⟨tp, 0, none⟩), .func (.func 90) #[.pointer (some ⟨tp, 0, none⟩)] #[], .int .i64 (x.1 : Nat), .agg #[.int .i64 x.2.i, .int .i64 x.2.s, .int .i64 x.2.l], undef, undef, undef, undef, undef], defers := [] }) ?assign ?body ?done ?stop
  case ownI => exact fun pre W W' row h hg hr => ⟨h.1.grown hg h.1.size (fun r e => by have := (hr r e).1; have := HSZ.out; omega), h.2.grown hg hr HSZ.out.2.1⟩
  case ownX => exact fun pre W W' row h hg hr => h
  case seq =>
    intro l J JX hJ hJI hY W hb h0
    exact rise_any 2 l tp (by omega) A c L (by have := HLL.out; omega) J JX hJ (fun pre X h => by
      have ht := HT.out.below (hJI pre X h).1
      obtain ⟨A2, c2, e, -, -, hr⟩ := ht.rd
      injection e with e1 _ e2
      subst e1; subst e2
      exact ⟨cell_of ht.here rfl, hr⟩) hY W h0
  case assign =>
    intro l x W K hK
    unfold encE
    unfold obE at hK
    gi_wp2
    exact hK
  case body =>
    rintro l pre ⟨k, y⟩ W b ⟨hbw, ⟨v, hbx, hown⟩⟩ ⟨hk, hy⟩ hb hx
    replace hk : k = pre.length := hk
    replace hy : L[pre.length]? = some y := hy
    replace hx : W.heap[b]? = some (.cells #[.int .i64 y.i, .int .i64 y.s, .int .i64 y.l] 100 (0, 0)) := hx
    subst hk
    obtain ⟨k, hk⟩ : ∃ k, pre.length = k := ⟨_, rfl⟩
    rw [hk] at hy hown
    have HK := Lib.hid hk
    have hkl := (List.getElem?_eq_some_iff.1 hy).1
    have q0 := cell_of hx (j := 0) rfl
    have q1 := cell_of hx (j := 1) rfl
    have q2 := cell_of hx (j := 2) rfl
    have d3 := hbx.cell
    have HB := Lib.hid hbw
    have HBX := Lib.hid hbx
    have HO := Lib.hid hown
    have HY := Lib.hid hy
    have hsz : w.heap.size ≤ W.heap.size := hbw.size
    have h63 : k + 1 ≤ maxLen := by have := HLL.out; unfold maxLen; omega
    have h47 : (k + 1) * 24 ≤ 140737488355328 := by have := HLL.out; omega
    have hszt : w.heap.size ≤ (W.alloc (.cells #[.int .i64 y.i, .int .i64 y.s, .int .i64 y.l] 100)).heap.size := by simp; omega
    clear hk hbw hbx hown hy hx hkl
    rw [HK.out]
    gi_wp2_with (gi_at_builtin; refine wpListIn_append_own _ rfl _ _ 98 rfl w.heap.size 100 i0 _ 3 24 Tryz.underlying98 hi hz0 hz1 hz2 rfl (by decide) v k (lcells (L.take k)) rfl (HO.out.alloc _) ⟨W.heap.size, 0, none⟩ 1 1 (lcell y) rfl rfl (World.news_of_block (new_block W _)) (lcell_one _) h63 h47 hszt ?_; intro v' w1 hown' hgrow _; obtain ⟨g', cap', rfl⟩ := ownsRow_succ hown'; have hmid := HBX.out.appended (by decide) HO.out hsz HSZ.out.2.2 hown' hgrow; have f1 := hmid.1.cell; have f2 := hmid.1.frozen; have HX := Lib.hid hmid; clear hmid hown' hgrow)
    refine ⟨HX.out.2.2.2.1.from _, HB.out.trans HX.out.2.2.2.2, ⟨_, HX.out.2.1, ?_⟩⟩
    have h := HX.out.2.2.1
    rw [map_snoc HK.out HY.out, lcells_append, List.length_append, HK.out]
    simpa [lcells] using h
  case done =>
    rintro D xs W hD hS ⟨hbw, ⟨v, hbx, hown⟩⟩ hK
    have hS' : xs.length = L.length := hS
    rw [hS', List.take_length] at hown
    obtain ⟨A2, c2, rfl, -, -, -⟩ := own_form hown
    have d3 := hbx.cell
    have HE : Hid (AlPost w L (.returned (.slice A2 L.length c2)) (W.putObj D (.deferred none))) := Lib.hid ⟨A2, c2, rfl, br_put hown hK, hbw.grown (grownBy_putObj' W D _) hbw.size (fun k e => by cases e; have := HSZ.out; omega)⟩
    have HK := Lib.hid hK
    clear hbw hbx hown hK hS
    gi_wp2
    refine ⟨by simp, .inl ⟨_, _, rfl, run_takeDeferred (w := W) HK.out, ?_⟩⟩
    exact ⟨_, results_tmp (t := 2) rfl _ _ _, HE.out⟩
  case stop => exact fun D xs W _ h _ => h.elim
end Go.Proofs.YtflgemlhocjipaaGreatDoor.Lq
