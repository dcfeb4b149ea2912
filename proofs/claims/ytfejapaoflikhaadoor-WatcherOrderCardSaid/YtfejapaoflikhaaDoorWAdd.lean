/-
  What Add, Len, All, Clone and New return and leave. Condition: the table is good; no path is longer than memory bears.
-/
import Derived.Test.YtfejapaoflikhaaDoorWEq
namespace Go.Proofs.YtfejapaoflikhaaDoor
set_option maxRecDepth 100000
open Go.ChangeShapes Go.WideShapes Go.ChangeAt Go.RowKit Go.Proofs.Zn Go.Proofs.Wa

/-- What a call on a table leaves of the rest: all blocks but the table's own two. -/
structure TK (w w' : World) (tp : Nat) (v : Value) : Prop where
  os : w'.os = w.os
  tape : w'.tape = w.tape
  output : w'.output = w.output
  size : w.heap.size ≤ w'.heap.size
  block : ∀ k, k < w.heap.size → k ≠ tp → v.ownBlock ≠ some k → w'.heap[k]? = w.heap[k]?
theorem TK.of_below {w w' : World} {tp : Nat} {v : Value} (h : Below w.heap.size w w') : TK w w' tp v := ⟨h.os, h.tape, h.output, h.size, fun k hk _ _ => h.block k hk⟩
theorem TK.below {w w' : World} {Bs tp : Nat} {v : Value} {L : Tb} (h : TK w w' tp v) (ht : TabW w Bs tp v L) (hB : Bs ≤ w.heap.size) : Below Bs w w' :=
  ⟨h.os, h.tape, h.output, h.size, fun k hk => h.block k (by omega) (by have := ht.ge; omega) (fun e => by have := own_ge ht.row k e; omega)⟩
/-- A row of other elements, a box of another kind stay. -/
theorem TK.own {w w' : World} {Bs tp : Nat} {v : Value} {L : Tb} (h : TK w w' tp v) (ht : TabW w Bs tp v L) {base e sz n : Nat} {u : Value} {xs : List Value} (hu : w.ownsRow base e sz u n xs) (h1 : e ≠ 45) (h2 : e ≠ 53) : w'.ownsRow base e sz u n xs := by
  refine ⟨hu.1, ?_⟩
  rcases hu.2 with hn | ⟨g, cap, cur, rfl, hbg, hg, rest⟩
  · exact .inl hn
  · refine .inr ⟨g, cap, cur, rfl, hbg, (h.block g (blk_lt hg) (fun e1 => ?_) (own_ne ht.row hg h1)).trans hg, rest⟩
    rw [e1, ht.here] at hg
    injection hg with hg
    injection hg with _ hg _
    exact h2 hg.symm
theorem TK.blk {w w' : World} {Bs tp : Nat} {v : Value} {L : Tb} (h : TK w w' tp v) (ht : TabW w Bs tp v L) {q : Nat} {cs : Array Value} {t : TypeId} {fr : Nat × Nat} (hq : w.heap[q]? = some (.cells cs t fr)) (h1 : t ≠ 45) (h2 : t ≠ 53) : w'.heap[q]? = some (.cells cs t fr) := by
  refine (h.block q (blk_lt hq) (fun e1 => ?_) (own_ne ht.row hq h1)).trans hq
  rw [e1, ht.here] at hq
  injection hq with hq
  injection hq with _ hq _
  exact h2 hq.symm
def AdPost (Bs tp : Nat) (v : Value) (a : Tb × Bool) (w : World) (e : Ending) (w' : World) : Prop :=
  ∃ v', e = .returned (.bool a.2) ∧ TabW w' Bs tp v' a.1 ∧ TK w w' tp v ∧ ∀ g, v'.ownBlock = some g → v.ownBlock = some g ∨ w.heap.size ≤ g
theorem ad_same {w w' : World} {Bs tp : Nat} {v : Value} {L : Tb} {b : Bool} {a : Tb × Bool} (ha : a = (L, b)) (ht : TabW w Bs tp v L) (hb : Below w.heap.size w w') : AdPost Bs tp v a w (.returned (.bool b)) w' :=
  ⟨v, by rw [ha], by rw [ha]; exact ht.below hb, TK.of_below hb, fun g hg => .inl hg⟩
theorem own_long_ne {A : Option Addr} {n c vb : Nat} {w : World} {B e sz : Nat} {xs : List Value} (h : w.ownsRow B e sz (.slice A n c) n xs) (hv : w.heap.size ≤ vb) : ∀ g, A = some g → g.block ≠ vb := fun g hg e => by
  subst hg
  have := (h.lt g.block rfl).2
  omega
theorem gb_trans' {a b c : World} {v : Value} (h : Below a.heap.size a b) (k : b.grownBy c v.ownBlock) : a.grownBy c v.ownBlock :=
  ⟨k.os.trans h.os, k.tape.trans h.tape, k.output.trans h.output, Nat.le_trans h.size k.size, fun j hj hn => (k.block j (Nat.lt_of_lt_of_le hj h.size) hn).trans (h.block j hj)⟩
theorem gb_blk {w w' : World} {Bs tp : Nat} {v : Value} {L : Tb} (hg : w.grownBy w' v.ownBlock) (ht : TabW w Bs tp v L) : w'.heap[tp]? = some (.cells #[v] 53 (0, 0)) :=
  (hg.block tp (blk_lt ht.here) (fun e => own_ne ht.row ht.here (by decide) e.symm)).trans ht.here
/-- A new row is laid into the table. -/
theorem ad_end {w w6 w8 : World} {Bs tp : Nat} {H' : Obj} {v v8 : Value} {L M : Tb} (ht : TabW w Bs tp v L) (hb : Below w.heap.size w w6) (ht6 : TabW w6 Bs tp v L) (h1 : w8.ownsRow Bs 45 3 v8 M.length (wcells M)) (h2 : w6.grownBy w8 v.ownBlock) (h3 : ∀ g, v8.ownBlock = some g → v.ownBlock = some g ∨ (w6.alloc H').drew.heap.size ≤ g) :
    AdPost Bs tp v (M, true) w (.returned (.bool true)) (w8.setCell ⟨tp, 0, none⟩ v8) := by
  have hh := gb_blk h2 ht6
  have hwr : Wr tp w8 (w8.setCell ⟨tp, 0, none⟩ v8) := (Wr.refl tp w8).set 0 _
  refine ⟨v8, rfl, ⟨heap_setCell_same w8 tp 0 _ 53 v8 hh, own_gb h1 hwr.gb (own_ne h1 hh (by decide)), ht.ge⟩, ⟨?_, ?_, ?_, ?_, ?_⟩, fun g hg => ?_⟩
  · exact hwr.below.os.trans (h2.os.trans hb.os)
  · exact hwr.below.tape.trans (h2.tape.trans hb.tape)
  · exact hwr.below.output.trans (h2.output.trans hb.output)
  · exact Nat.le_trans hb.size (Nat.le_trans h2.size hwr.below.size)
  · intro k hk hkt hkv
    exact (hwr.rest k hkt).trans ((h2.block k (Nat.lt_of_lt_of_le hk hb.size) (fun e => hkv e.symm)).trans (hb.block k hk))
  · rcases h3 g hg with h | h
    · exact .inl h
    · refine .inr ?_
      have h1 := hb.size
      have h2 := ((Below.refl w6.heap.size w6).alloc (Nat.le_refl _) H').drew.size
      omega
set_option maxHeartbeats 8000000 in
theorem add_any {w : World} {Bs tp : Nat} {v : Value} {L : Tb} (ht : TabW w Bs tp v L) (hB : Bs ≤ w.heap.size) (hg : Wa.Good L) (x : Wt) (hp : x.p.length ≤ 140737488355328) :
    Calls Tryd.prog 17 #[.pointer (some ⟨tp, 0, none⟩), .agg #[.int .i64 x.s, .string (B x.p), .bool x.k]] w (AdPost Bs tp v (add L x) w) := by
  obtain ⟨w1, hw1⟩ : ∃ w1, w1 = w.alloc (.cells #[.int .i64 x.s, .string (B x.p), .bool x.k] 45) := ⟨_, rfl⟩
  obtain ⟨q, eq⟩ : ∃ q, q = w.heap.size := ⟨_, rfl⟩
  have hb1 : Below w.heap.size w w1 := by rw [hw1]; exact box_below w _
  have hq1 : w1.heap[q]? = some (.cells #[.int .i64 x.s, .string (B x.p), .bool x.k] 45 (0, 0)) := by rw [hw1, eq]; exact new_block w _
  obtain ⟨a, ha⟩ : ∃ a, add L x = a := ⟨_, rfl⟩
  rw [ha]
  have HA := Lib.hid ha
  have HT := Lib.hid ht
  have HG := Lib.hid hg
  have HB := Lib.hid hB
  have HB1 := Lib.hid hb1
  have HQ1 := Lib.hid hq1
  have HPL := Lib.hid hp
  have HVA := Lib.hid (valid_any (B x.p) w1 (by rw [B_size]; omega))
  simp only [LB] at HVA
  obtain ⟨vd, hvd⟩ : ∃ b, valid x.p = b := ⟨_, rfl⟩
  rw [hvd] at HVA
  have HVD := Lib.hid hvd
  have HW1 := Lib.hid hw1
  have EQ := Lib.hid eq
  have q0 := cell_of hq1 (j := 0) rfl
  have q1 := cell_of hq1 (j := 1) rfl
  clear ha ht hg hB hb1 hq1 hp hvd hw1 eq
  go_enter Tryd.func17, Tryd.ntmps17
  go_upto_region 1 with fail
  rw [← HW1.out, ← EQ.out]
  by_cases hs : x.s < 1
  · have HE : Hid (AdPost Bs tp v a w (.returned (.bool false)) w1) := Lib.hid (ad_same (by rw [← HA.out]; unfold add addOk; rw [if_pos (by simp [hs])]) HT.out HB1.out)
    go_wp2_with fail
    go_ret
    exact HE.out
  go_wp2_with fail
  refine HVA.out.mono ?_
  rintro e w2 ⟨rfl, hb2⟩
  have HB2 := Lib.hid (HB1.out.trans (hb2.mono HB1.out.size))
  have HQ2 := Lib.hid (blk_below HQ1.out hb2)
  clear hb2 q0 q1
  cases vd with
  | false =>
    have HE : Hid (AdPost Bs tp v a w (.returned (.bool false)) w2) := Lib.hid (ad_same (by rw [← HA.out]; unfold add addOk; rw [if_pos (by rw [HVD.out]; simp)]) HT.out HB2.out)
    go_wp2_with fail
    go_ret
    exact HE.out
  | true =>
    have HOK : Hid (addOk x = true) := Lib.hid (by unfold addOk; rw [HVD.out]; simp only [Bool.and_true, decide_eq_true_eq]; omega)
    have HPL2 := Lib.hid (place_any (HT.out.below HB2.out) HG.out x)
    have hq2 := HQ2.out
    have q0 := cell_of hq2 (j := 0) rfl
    have q1 := cell_of hq2 (j := 1) rfl
    have q2 := cell_of hq2 (j := 2) rfl
    clear hq2 hs
    go_wp2_with fail
    refine HPL2.out.mono ?_
    rintro e w3 ⟨rfl, hb3⟩
    have hB3 := HB2.out.trans (hb3.mono HB2.out.size)
    have HB3 := Lib.hid hB3
    have HQ3 := Lib.hid (blk_below HQ2.out hb3)
    have HT3 := Lib.hid (HT.out.below hB3)
    obtain ⟨A, c, hvv, hlc, hcm, hrd⟩ := HT3.out.rd
    subst hvv
    have HLC := Lib.hid hlc
    have HLL : Hid (L.length ≤ 500) := Lib.hid HG.out.len
    obtain ⟨p, hpp⟩ : ∃ p, pos L x = p := ⟨_, rfl⟩
    have hple : p ≤ L.length := by rw [← hpp]; exact pos_le L x
    have HMP := Lib.hid (mem_pos HG.out.srt (w := x))
    rw [hpp] at HMP
    have HPP := Lib.hid hpp
    rw [hpp]
    have t0 := cell_of HT3.out.here (j := 0) rfl
    have hq3 := HQ3.out
    clear q0 q1 q2 hb3 hB3
    have q0 := cell_of hq3 (j := 0) rfl
    have q1 := cell_of hq3 (j := 1) rfl
    have q2 := cell_of hq3 (j := 2) rfl
    have hll := HLL.out
    by_cases hin : x ∈ L
    · have hxp := HMP.out.1 hin
      have hplt := (List.getElem?_eq_some_iff.1 hxp).1
      obtain ⟨b, off, y, rfl, hy, hc⟩ := hrd.at hplt
      obtain rfl : x = y := Option.some.inj (hxp.symm.trans hy)
      have HE : Hid (∀ w', Below w3.heap.size w3 w' → AdPost Bs tp (.slice (some ⟨b, off, none⟩) L.length c) a w (.returned (.bool true)) w') := Lib.hid (fun w' hb => ad_same (by rw [← HA.out]; unfold add; rw [if_neg (by rw [HOK.out]; simp), if_pos hin]) HT.out (HB3.out.trans (hb.mono HB3.out.size)))
      have c0 : w3.cell? ⟨b, off + p * 3, none⟩ = some (.int .i64 x.s) := hc 0 _ rfl
      have c1 : w3.cell? ⟨b, off + p * 3 + 1, none⟩ = some (.string (B x.p)) := hc 1 _ rfl
      have c2 : w3.cell? ⟨b, off + p * 3 + 2, none⟩ = some (.bool x.k) := hc 2 _ rfl
      have hp1 : decide ((p : Int) < (L.length : Int)) = true := by rw [decide_eq_true_eq]; omega
      have hp0 : (0 : Int) ≤ (p : Int) := by omega
      clear hxp hrd hy hc hin hpp hq3 hlc hcm
      go_upto_region 4 with fail
      go_quiet (fail)
      have HEE := Lib.hid (HE.out _ (below_drewN (Below.refl _ _) nq))
      go_wp2_with fail
      go_ret
      exact HEE.out
    · have HNI := Lib.hid hin
      clear hin hpp hq3 hlc hcm
      by_cases hplt : p < L.length
      · obtain ⟨b, off, y, rfl, hy, hc⟩ := hrd.at hplt
        have hne : decide (y = x) = false := by
          rw [decide_eq_false_iff_not]
          rintro rfl
          exact HNI.out (List.mem_of_getElem? hy)
        have hqe := eqlW y x
        rw [hne] at hqe
        have hgu := guard_eqlW
        have c0 : w3.cell? ⟨b, off + p * 3, none⟩ = some (.int .i64 y.s) := hc 0 _ rfl
        have c1 : w3.cell? ⟨b, off + p * 3 + 1, none⟩ = some (.string (B y.p)) := hc 1 _ rfl
        have c2 : w3.cell? ⟨b, off + p * 3 + 2, none⟩ = some (.bool y.k) := hc 2 _ rfl
        have hp1 : decide ((p : Int) < (L.length : Int)) = true := by rw [decide_eq_true_eq]; omega
        have hp0 : (0 : Int) ≤ (p : Int) := by omega
        clear hrd hy hc hne
        go_upto_region 4 with fail
        go_quiet (fail)
        obtain ⟨w4, hw4⟩ : ∃ w4, w4 = w3.drewN nq := ⟨_, rfl⟩
        have hb4 : Below w3.heap.size w3 w4 := by rw [hw4]; exact below_drewN (Below.refl _ _) _
        have HW4 := Lib.hid hw4
        rw [← HW4.out]
        have hB4 := HB3.out.trans (hb4.mono HB3.out.size)
        have HB4 := Lib.hid hB4
        have hq4 := blk_below HQ3.out hb4
        have HQ4 := Lib.hid hq4
        have ht4 := HT3.out.below hb4
        have HT4 := Lib.hid ht4
        clear q0 q1 q2 t0 c0 c1 c2 hqe hgu hp1 hp0
        clear hw4 hb4 hB4
        have t0 := cell_of ht4.here (j := 0) rfl
        have q1 := cell_of hq4 (j := 1) rfl
        clear hq4 ht4
        by_cases h5 : 500 ≤ L.length
        · have h5' : (500 : Int) ≤ (L.length : Int) := by omega
          have HE : Hid (AdPost Bs tp (.slice (some ⟨b, off, none⟩) L.length c) a w (.returned (.bool false)) w4) := Lib.hid (ad_same (by rw [← HA.out]; unfold add; rw [if_neg (by rw [HOK.out]; simp), if_neg HNI.out, if_pos h5]) HT.out HB4.out)
          clear h5
          go_wp2_with fail
          go_ret
          exact HE.out
        · have h5' : ¬ (500 : Int) ≤ (L.length : Int) := by omega
          have HAD : Hid (a = (L.take p ++ x :: L.drop p, true)) := Lib.hid (by rw [← HA.out]; unfold add; rw [if_neg (by rw [HOK.out]; simp), if_neg HNI.out, if_neg h5]; unfold ins; rw [HPP.out])
          have HCL := Lib.hid (clone_any (B x.p) w4 (by rw [B_size]; have := HPL.out; omega))
          clear h5
          go_upto_region 8 with fail
          go_wp2_with fail
          refine HCL.out.mono ?_
          rintro e w5 ⟨rfl, hb5⟩
          have hq5 := blk_below HQ4.out hb5
          have HB5 := Lib.hid (HB4.out.trans (hb5.mono HB4.out.size))
          obtain ⟨w6, hw6⟩ : ∃ w6, w6 = w5.setCell ⟨q, 1, none⟩ (.string (B x.p)) := ⟨_, rfl⟩
          have hwr : Wr q w5 w6 := by rw [hw6]; exact (Wr.refl q w5).set 1 _
          have hq6 : w6.heap[q]? = some (.cells #[.int .i64 x.s, .string (B x.p), .bool x.k] 45 (0, 0)) := by rw [hw6]; exact heap_setCell_same w5 q 1 _ 45 (.string (B x.p)) hq5
          have HB6 := Lib.hid (HB5.out.trans (hwr.below.mono (by rw [EQ.out]; exact Nat.le_refl _)))
          have HT6 := Lib.hid (HT.out.below HB6.out)
          have f1 := frozen_of_row w5 q 1 _ _ hq5
          clear q1 t0
          have q1 := cell_of hq5 (j := 1) rfl
          obtain ⟨M, hM⟩ : ∃ M, L.take p ++ x :: L.drop p = M := ⟨_, rfl⟩
          rw [hM] at HAD
          have HIN := Lib.hid (insert_any (w := (w6.alloc (.cells #[.int .i64 x.s, .string (B x.p), .bool x.k] 45)).drew) (Bs := Bs) (vb := w6.heap.size) (A := (some ⟨b, off, none⟩)) (c := c) (own_below HT6.out.row ((Below.refl _ _).alloc (Nat.le_refl _) _).drew) rfl (by have := HLL.out; omega) (Nat.le_trans HB.out (Nat.le_trans HB6.out.size ((Below.refl _ _).alloc (Nat.le_refl _) (.cells #[.int .i64 x.s, .string (B x.p), .bool x.k] 45)).drew.size)) x (new_block w6 _) (own_long_ne HT6.out.row (Nat.le_refl _)) p hple)
          rw [hM] at HIN
          unfold InPost at HIN
          have HW6 := Lib.hid hw6
          have HQ6 := Lib.hid hq6
          clear hM hb5 hw6 hwr hq5 hq6
          go_upto_region 9 with fail
          rw [← HW6.out]
          clear f1 q1
          have hq6 := HQ6.out
          have q0 := cell_of hq6 (j := 0) rfl
          have q1 := cell_of hq6 (j := 1) rfl
          have q2 := cell_of hq6 (j := 2) rfl
          have t0 := cell_of HT6.out.here (j := 0) rfl
          have hqs : q < w6.heap.size := blk_lt hq6
          have hts : tp < w6.heap.size := blk_lt HT6.out.here
          clear hq6
          go_region_with (first
            | (go_at_call 33; (with_reducible refine HIN.out.mono ?_); rintro e w8 ⟨v8, rfl, h1, h2, h3⟩; obtain ⟨A8, c8, rfl, -, -, -⟩ := own_form h1; have h2' := gb_trans' ((Below.refl w6.heap.size w6).alloc (Nat.le_refl _) (.cells #[.int .i64 x.s, .string (B x.p), .bool x.k] 45)).drew h2; have hh8 := gb_blk h2' HT6.out; have y0 := cell_of hh8 (j := 0) rfl; have y1 := frozen_of_row w8 tp 0 _ _ hh8))
          all_goals
            have HE : Hid (AdPost Bs tp (.slice (some ⟨b, off, none⟩) L.length c) a w (.returned (.bool true)) (w8.setCell ⟨tp, 0, none⟩ (.slice A8 M.length c8))) := Lib.hid (by rw [HAD.out]; exact ad_end HT.out HB6.out HT6.out h1 h2' h3)
            clear h1 h2 h2' h3 hh8
            go_wp2_with fail
            go_ret
            exact HE.out
      · have hp1 : decide ((p : Int) < (L.length : Int)) = false := by rw [decide_eq_false_iff_not]; omega
        clear hrd
        go_upto_region 4 with fail
        go_quiet (fail)
        obtain ⟨w4, hw4⟩ : ∃ w4, w4 = w3.drewN nq := ⟨_, rfl⟩
        have hb4 : Below w3.heap.size w3 w4 := by rw [hw4]; exact below_drewN (Below.refl _ _) _
        have HW4 := Lib.hid hw4
        rw [← HW4.out]
        have hB4 := HB3.out.trans (hb4.mono HB3.out.size)
        have HB4 := Lib.hid hB4
        have hq4 := blk_below HQ3.out hb4
        have HQ4 := Lib.hid hq4
        have ht4 := HT3.out.below hb4
        have HT4 := Lib.hid ht4
        clear q0 q1 q2 t0 hp1
        clear hw4 hb4 hB4
        have t0 := cell_of ht4.here (j := 0) rfl
        have q1 := cell_of hq4 (j := 1) rfl
        clear hq4 ht4
        by_cases h5 : 500 ≤ L.length
        · have h5' : (500 : Int) ≤ (L.length : Int) := by omega
          have HE : Hid (AdPost Bs tp (.slice A L.length c) a w (.returned (.bool false)) w4) := Lib.hid (ad_same (by rw [← HA.out]; unfold add; rw [if_neg (by rw [HOK.out]; simp), if_neg HNI.out, if_pos h5]) HT.out HB4.out)
          clear h5
          go_wp2_with fail
          go_ret
          exact HE.out
        · have h5' : ¬ (500 : Int) ≤ (L.length : Int) := by omega
          have HAD : Hid (a = (L.take p ++ x :: L.drop p, true)) := Lib.hid (by rw [← HA.out]; unfold add; rw [if_neg (by rw [HOK.out]; simp), if_neg HNI.out, if_neg h5]; unfold ins; rw [HPP.out])
          have HCL := Lib.hid (clone_any (B x.p) w4 (by rw [B_size]; have := HPL.out; omega))
          clear h5
          go_upto_region 8 with fail
          go_wp2_with fail
          refine HCL.out.mono ?_
          rintro e w5 ⟨rfl, hb5⟩
          have hq5 := blk_below HQ4.out hb5
          have HB5 := Lib.hid (HB4.out.trans (hb5.mono HB4.out.size))
          obtain ⟨w6, hw6⟩ : ∃ w6, w6 = w5.setCell ⟨q, 1, none⟩ (.string (B x.p)) := ⟨_, rfl⟩
          have hwr : Wr q w5 w6 := by rw [hw6]; exact (Wr.refl q w5).set 1 _
          have hq6 : w6.heap[q]? = some (.cells #[.int .i64 x.s, .string (B x.p), .bool x.k] 45 (0, 0)) := by rw [hw6]; exact heap_setCell_same w5 q 1 _ 45 (.string (B x.p)) hq5
          have HB6 := Lib.hid (HB5.out.trans (hwr.below.mono (by rw [EQ.out]; exact Nat.le_refl _)))
          have HT6 := Lib.hid (HT.out.below HB6.out)
          have f1 := frozen_of_row w5 q 1 _ _ hq5
          clear q1 t0
          have q1 := cell_of hq5 (j := 1) rfl
          obtain ⟨M, hM⟩ : ∃ M, L.take p ++ x :: L.drop p = M := ⟨_, rfl⟩
          rw [hM] at HAD
          have HIN := Lib.hid (insert_any (w := (w6.alloc (.cells #[.int .i64 x.s, .string (B x.p), .bool x.k] 45)).drew) (Bs := Bs) (vb := w6.heap.size) (A := A) (c := c) (own_below HT6.out.row ((Below.refl _ _).alloc (Nat.le_refl _) _).drew) rfl (by have := HLL.out; omega) (Nat.le_trans HB.out (Nat.le_trans HB6.out.size ((Below.refl _ _).alloc (Nat.le_refl _) (.cells #[.int .i64 x.s, .string (B x.p), .bool x.k] 45)).drew.size)) x (new_block w6 _) (own_long_ne HT6.out.row (Nat.le_refl _)) p hple)
          rw [hM] at HIN
          unfold InPost at HIN
          have HW6 := Lib.hid hw6
          have HQ6 := Lib.hid hq6
          clear hM hb5 hw6 hwr hq5 hq6
          go_upto_region 9 with fail
          rw [← HW6.out]
          clear f1 q1
          have hq6 := HQ6.out
          have q0 := cell_of hq6 (j := 0) rfl
          have q1 := cell_of hq6 (j := 1) rfl
          have q2 := cell_of hq6 (j := 2) rfl
          have t0 := cell_of HT6.out.here (j := 0) rfl
          have hqs : q < w6.heap.size := blk_lt hq6
          have hts : tp < w6.heap.size := blk_lt HT6.out.here
          clear hq6
          go_region_with (first
            | (go_at_call 33; (with_reducible refine HIN.out.mono ?_); rintro e w8 ⟨v8, rfl, h1, h2, h3⟩; obtain ⟨A8, c8, rfl, -, -, -⟩ := own_form h1; have h2' := gb_trans' ((Below.refl w6.heap.size w6).alloc (Nat.le_refl _) (.cells #[.int .i64 x.s, .string (B x.p), .bool x.k] 45)).drew h2; have hh8 := gb_blk h2' HT6.out; have y0 := cell_of hh8 (j := 0) rfl; have y1 := frozen_of_row w8 tp 0 _ _ hh8))
          all_goals
            have HE : Hid (AdPost Bs tp (.slice A L.length c) a w (.returned (.bool true)) (w8.setCell ⟨tp, 0, none⟩ (.slice A8 M.length c8))) := Lib.hid (by rw [HAD.out]; exact ad_end HT.out HB6.out HT6.out h1 h2' h3)
            clear h1 h2 h2' h3 hh8
            go_wp2_with fail
            go_ret
            exact HE.out
end Go.Proofs.YtfejapaoflikhaaDoor
