/-
  A table in memory; what a call leaves of it and of the rest; isTime, clock, valid, right. No condition.
  What valid and right return of any lease. No condition.
-/
import Derived.Test.YtflgemlhocjipaaGreatDoorLEq
namespace Go.Proofs.YtflgemlhocjipaaGreatDoor.Lq
set_option maxRecDepth 100000
open Go.ChangeShapes Go.WideShapes Go.ChangeAt Go.RowKit Go.Proofs.Le

/-- A table: the box, its row. -/
structure TabW (w : World) (B tp : Nat) (v : Value) (L : Tb) : Prop where
  here : w.heap[tp]? = some (.cells #[v] 160 (0, 0))
  row : w.ownsRow B 100 3 v L.length (lcells L)
  ge : B ≤ tp
theorem TabW.below {w w' : World} {B tp : Nat} {v : Value} {L : Tb} (h : TabW w B tp v L) (hb : Below w.heap.size w w') : TabW w' B tp v L := ⟨blk_below h.here hb, own_below h.row hb, h.ge⟩
theorem TabW.rd {w : World} {Bs tp : Nat} {v : Value} {L : Tb} (h : TabW w Bs tp v L) : ∃ A c, v = .slice A L.length c ∧ L.length ≤ c ∧ c ≤ maxLen ∧ Rd lcell 3 w A L.length L := by
  have hr := h.row
  obtain ⟨A, c, rfl, h1, h2, -⟩ := own_form hr
  exact ⟨A, c, rfl, h1, h2, Rd.of_own hr (fun _ _ => rfl) (by omega)⟩
/-- What a call on a table leaves of the rest: all blocks but the table's own two. -/
structure TK (w w' : World) (tp : Nat) (v : Value) : Prop where
  os : w'.os = w.os
  tape : w'.tape = w.tape
  output : w'.output = w.output
  size : w.heap.size ≤ w'.heap.size
  block : ∀ k, k < w.heap.size → k ≠ tp → v.ownBlock ≠ some k → w'.heap[k]? = w.heap[k]?
theorem TK.of_below {w w' : World} {tp : Nat} {v : Value} (h : Below w.heap.size w w') : TK w w' tp v := ⟨h.os, h.tape, h.output, h.size, fun k hk _ _ => h.block k hk⟩
theorem TK.below {w w' : World} {Bs tp : Nat} {v : Value} {L : Tb} (h : TK w w' tp v) (ht : TabW w Bs tp v L) (hB : Bs ≤ w.heap.size) : Below Bs w w' :=
  ⟨h.os, h.tape, h.output, h.size, fun k hk => h.block k (by omega) (by have := ht.ge; omega) (fun e => by have := own_ge ht.row k e; omega)⟩
/-- A row of other elements, a box of another kind stay. -/
theorem TK.own {w w' : World} {Bs tp : Nat} {v : Value} {L : Tb} (h : TK w w' tp v) (ht : TabW w Bs tp v L) {base e sz n : Nat} {u : Value} {xs : List Value} (hu : w.ownsRow base e sz u n xs) (h1 : e ≠ 100) (h2 : e ≠ 160) : w'.ownsRow base e sz u n xs := by
  refine ⟨hu.1, ?_⟩
  rcases hu.2 with hn | ⟨g, cap, cur, rfl, hbg, hg, rest⟩
  · exact .inl hn
  · refine .inr ⟨g, cap, cur, rfl, hbg, (h.block g (blk_lt hg) (fun e1 => ?_) (own_ne ht.row hg h1)).trans hg, rest⟩
    rw [e1, ht.here] at hg
    injection hg with hg
    injection hg with _ hg _
    exact h2 hg.symm
theorem TK.blk {w w' : World} {Bs tp : Nat} {v : Value} {L : Tb} (h : TK w w' tp v) (ht : TabW w Bs tp v L) {q : Nat} {cs : Array Value} {t : TypeId} {fr : Nat × Nat} (hq : w.heap[q]? = some (.cells cs t fr)) (h1 : t ≠ 100) (h2 : t ≠ 160) : w'.heap[q]? = some (.cells cs t fr) := by
  refine (h.block q (blk_lt hq) (fun e1 => ?_) (own_ne ht.row hq h1)).trans hq
  rw [e1, ht.here] at hq
  injection hq with hq
  injection hq with _ hq _
  exact h2 hq.symm
theorem own_long_ne {A : Option Addr} {n c vb : Nat} {w : World} {B e sz : Nat} {xs : List Value} (h : w.ownsRow B e sz (.slice A n c) n xs) (hv : w.heap.size ≤ vb) : ∀ g, A = some g → g.block ≠ vb := fun g hg e => by
  subst hg
  have := (h.lt g.block rfl).2
  omega
theorem gb_trans' {a b c : World} {v : Value} (h : Below a.heap.size a b) (k : b.grownBy c v.ownBlock) : a.grownBy c v.ownBlock :=
  ⟨k.os.trans h.os, k.tape.trans h.tape, k.output.trans h.output, Nat.le_trans h.size k.size, fun j hj hn => (k.block j (Nat.lt_of_lt_of_le hj h.size) hn).trans (h.block j hj)⟩
theorem gb_blk {w w' : World} {Bs tp : Nat} {v : Value} {L : Tb} (hg : w.grownBy w' v.ownBlock) (ht : TabW w Bs tp v L) : w'.heap[tp]? = some (.cells #[v] 160 (0, 0)) :=
  (hg.block tp (blk_lt ht.here) (fun e => own_ne ht.row ht.here (by decide) e.symm)).trans ht.here
/-- What a call on a table leaves: the table, and of the rest what stood there. -/
def KpPost (Bs tp : Nat) (v : Value) (M : Tb) (w w' : World) : Prop := ∃ v', TabW w' Bs tp v' M ∧ TK w w' tp v ∧ ∀ g, v'.ownBlock = some g → v.ownBlock = some g ∨ w.heap.size ≤ g
theorem TK.then {a b c : World} {tp : Nat} {v v' : Value} (h : TK a b tp v) (k : TK b c tp v') (hv : ∀ g, v'.ownBlock = some g → v.ownBlock = some g ∨ a.heap.size ≤ g) : TK a c tp v :=
  ⟨k.os.trans h.os, k.tape.trans h.tape, k.output.trans h.output, Nat.le_trans h.size k.size, fun j hj hjt hjv => (k.block j (Nat.lt_of_lt_of_le hj h.size) hjt (fun e => by
    rcases hv j e with h1 | h1
    · exact hjv h1
    · omega)).trans (h.block j hj hjt hjv)⟩
theorem kp_refl {a b : World} {Bs tp : Nat} {v : Value} {M : Tb} (h : TabW a Bs tp v M) (hb : Below a.heap.size a b) : KpPost Bs tp v M a b := ⟨v, h.below hb, TK.of_below hb, fun _ hg => .inl hg⟩
/-- A new row is laid into the table. -/
theorem kp_end {w w6 w8 : World} {Bs tp B0 : Nat} {v v8 : Value} {L M : Tb} (ht : TabW w Bs tp v L) (hb : Below w.heap.size w w6) (ht6 : TabW w6 Bs tp v L) (h1 : w8.ownsRow Bs 100 3 v8 M.length (lcells M)) (h2 : w6.grownBy w8 v.ownBlock) (h3 : ∀ g, v8.ownBlock = some g → v.ownBlock = some g ∨ B0 ≤ g) (h0 : w.heap.size ≤ B0) :
    KpPost Bs tp v M w (w8.setCell ⟨tp, 0, none⟩ v8) := by
  have hh := gb_blk h2 ht6
  have hwr : Wr tp w8 (w8.setCell ⟨tp, 0, none⟩ v8) := (Wr.refl tp w8).set 0 _
  refine ⟨v8, ⟨heap_setCell_same w8 tp 0 _ 160 v8 hh, own_gb h1 hwr.gb (own_ne h1 hh (by decide)), ht.ge⟩, ⟨?_, ?_, ?_, ?_, ?_⟩, fun g hg => ?_⟩
  · exact hwr.below.os.trans (h2.os.trans hb.os)
  · exact hwr.below.tape.trans (h2.tape.trans hb.tape)
  · exact hwr.below.output.trans (h2.output.trans hb.output)
  · exact Nat.le_trans hb.size (Nat.le_trans h2.size hwr.below.size)
  · intro k hk hkt hkv
    exact (hwr.rest k hkt).trans ((h2.block k (Nat.lt_of_lt_of_le hk hb.size) (fun e => hkv e.symm)).trans (hb.block k hk))
  · rcases h3 g hg with h | h
    · exact .inl h
    · exact .inr (by omega)
theorem istime_any (n : Int) (w : World) : Calls Tryz.prog 84 #[.int .i64 n] w fun e w' => e = .returned (.bool (okT n)) ∧ w = w' := by
  obtain ⟨r, hr⟩ : ∃ r, okT n = r := ⟨_, rfl⟩
  rw [hr]
  by_cases h0 : 0 ≤ n
  · obtain ⟨b, hb⟩ : ∃ b, decide (n ≤ 1099511627776) = b := ⟨_, rfl⟩
    have HE : Hid (b = r) := Lib.hid (by rw [← hr, ← hb]; unfold okT; simp [h0])
    have h0' : decide (0 ≤ n) = true := by simpa using h0
    clear h0 hr
    go_enter Tryz.func84, Tryz.ntmps84
    go_wp2_with fail
    go_ret
    exact ⟨ret_b HE.out, rfl⟩
  · have HE : Hid (false = r) := Lib.hid (by rw [← hr]; unfold okT; simp [h0])
    have h0' : decide (0 ≤ n) = false := by simpa using h0
    clear h0 hr
    go_enter Tryz.func84, Tryz.ntmps84
    go_wp2_with fail
    go_ret
    exact ⟨ret_b HE.out, rfl⟩
end Go.Proofs.YtflgemlhocjipaaGreatDoor.Lq
namespace Go.Proofs.YtflgemlhocjipaaGreatDoor.Lq
set_option maxRecDepth 100000
open Go.ChangeShapes Go.WideShapes Go.ChangeAt Go.RowKit Go.Proofs.Le

set_option maxHeartbeats 1000000 in
theorem valid_any (x : Ls) (w : World) : Calls Tryz.prog 81 #[.agg #[.int .i64 x.i, .int .i64 x.s, .int .i64 x.l]] w fun e w' => e = .returned (.bool (okL x)) ∧ Below w.heap.size w w' := by
  obtain ⟨w1, hw1⟩ : ∃ w1, w1 = w.alloc (.cells #[.int .i64 x.i, .int .i64 x.s, .int .i64 x.l] 100) := ⟨_, rfl⟩
  obtain ⟨q, eq⟩ : ∃ q, q = w.heap.size := ⟨_, rfl⟩
  have hb1 : Below w.heap.size w w1 := by rw [hw1]; exact box_below w _
  have hq : w1.heap[q]? = some (.cells #[.int .i64 x.i, .int .i64 x.s, .int .i64 x.l] 100 (0, 0)) := by rw [hw1, eq]; exact new_block w _
  have q0 := cell_of hq (j := 0) rfl
  have q1 := cell_of hq (j := 1) rfl
  have q2 := cell_of hq (j := 2) rfl
  have HW1 := Lib.hid hw1
  have EQ := Lib.hid eq
  have HB1 := Lib.hid hb1
  have HC := Lib.hid (istime_any x.l w1)
  clear hw1 eq hb1 hq
  obtain ⟨r, hr⟩ : ∃ r, okT x.l = r := ⟨_, rfl⟩
  rw [hr] at HC
  obtain ⟨t1, h1⟩ : ∃ b, decide (1 ≤ x.i) = b := ⟨_, rfl⟩
  obtain ⟨t2, h2⟩ : ∃ b, decide (x.i ≤ 4611686018427387904) = b := ⟨_, rfl⟩
  obtain ⟨t3, h3⟩ : ∃ b, decide (1 ≤ x.s) = b := ⟨_, rfl⟩
  obtain ⟨t4, h4⟩ : ∃ b, decide (x.s ≤ 1000000) = b := ⟨_, rfl⟩
  have HE : Hid (okL x = (t1 && t2 && t3 && t4 && r)) := Lib.hid (by unfold okL; rw [h1, h2, h3, h4, hr])
  clear hr
  cases t1 with
  | false =>
    go_enter Tryz.func81, Tryz.ntmps81
    go_upto_region 1 with fail
    rw [← HW1.out, ← EQ.out]
    go_wp2_with fail
    go_ret
    exact ⟨ret_b (by rw [HE.out]; simp), HB1.out⟩
  | true =>
    cases t2 with
    | false =>
      go_enter Tryz.func81, Tryz.ntmps81
      go_upto_region 1 with fail
      rw [← HW1.out, ← EQ.out]
      go_wp2_with fail
      go_ret
      exact ⟨ret_b (by rw [HE.out]; simp), HB1.out⟩
    | true =>
      cases t3 with
      | false =>
        go_enter Tryz.func81, Tryz.ntmps81
        go_upto_region 1 with fail
        rw [← HW1.out, ← EQ.out]
        go_wp2_with fail
        go_ret
        exact ⟨ret_b (by rw [HE.out]; simp), HB1.out⟩
      | true =>
        cases t4 with
        | false =>
          go_enter Tryz.func81, Tryz.ntmps81
          go_upto_region 1 with fail
          rw [← HW1.out, ← EQ.out]
          go_wp2_with fail
          go_ret
          exact ⟨ret_b (by rw [HE.out]; simp), HB1.out⟩
        | true =>
          go_enter Tryz.func81, Tryz.ntmps81
          go_upto_region 1 with fail
          rw [← HW1.out, ← EQ.out]
          go_wp2_with fail
          refine HC.out.mono ?_
          rintro e w2 ⟨rfl, rfl⟩
          go_wp2_with fail
          go_ret
          exact ⟨ret_b (by rw [HE.out]; simp), HB1.out⟩
end Go.Proofs.YtflgemlhocjipaaGreatDoor.Lq
