/-
  What Open returns and leaves. Condition: the table is good.
-/
import Derived.Test.YtflgemlhocjipaaGreatDoorLRenew
import Derived.Test.YtflgemlhocjipaaGreatDoorLIns
namespace Go.Proofs.YtflgemlhocjipaaGreatDoor.Lq
set_option maxRecDepth 100000
open Go.ChangeShapes Go.WideShapes Go.ChangeAt Go.RowKit Go.Proofs.Le

set_option maxHeartbeats 8000000 in
theorem open_any {w : World} {Bs tp : Nat} {v : Value} {L : Tb} (ht : TabW w Bs tp v L) (hB : Bs ≤ w.heap.size) (hg : Le.Good L) (x : Ls) : Calls Tryz.prog 35 #[.pointer (some ⟨tp, 0, none⟩), .int .i64 x.i, .int .i64 x.s, .int .i64 x.l] w (ErPost Bs tp v (opn L x) w) := by
  obtain ⟨a, ha⟩ : ∃ a, opn L x = a := ⟨_, rfl⟩
  rw [ha]
  obtain ⟨w1, hw1⟩ : ∃ w1, w1 = w.alloc (.cells #[.int .i64 x.i, .int .i64 x.s, .int .i64 x.l] 100) := ⟨_, rfl⟩
  obtain ⟨q, eq⟩ : ∃ q, q = w.heap.size := ⟨_, rfl⟩
  have hb1 : Below w.heap.size w w1 := by rw [hw1]; exact box_below w _
  have hq : w1.heap[q]? = some (.cells #[.int .i64 x.i, .int .i64 x.s, .int .i64 x.l] 100 (0, 0)) := by rw [hw1, eq]; exact new_block w _
  have HA := Lib.hid ha
  have HT := Lib.hid ht
  have HB := Lib.hid hB
  have HLL : Hid (L.length ≤ 100) := Lib.hid hg.len
  have HG := Lib.hid hg
  have HFI := Lib.hid (find_any (ht.below hb1) hg x.i)
  unfold FiPost at HFI
  have HPL := Lib.hid (pos_le L x.i)
  obtain ⟨p, hp⟩ : ∃ p, pos L x.i = p := ⟨_, rfl⟩
  obtain ⟨f, hf⟩ : ∃ f, fnd L x.i = f := ⟨_, rfl⟩
  obtain ⟨fb, hfb⟩ : ∃ b, (has L x.i).isSome = b := ⟨_, rfl⟩
  rw [hp] at HFI HPL
  rw [hf] at HFI
  have HP := Lib.hid hp
  have HFB := Lib.hid hfb
  have hqe : ∀ W, (binOp .neq 100 (.agg #[.int .i64 f.i, .int .i64 f.s, .int .i64 f.l]) (.agg #[.int .i64 0, .int .i64 0, .int .i64 0])).run Tryz.prog W = .ok (.bool fb) W := fun W => by
    have h := neqL f z0 W
    rw [← hf, fnd_bool hg x.i, hfb, hf, Bool.not_not] at h
    exact h
  have hgu := guard_neqL
  have HVA := Lib.hid (fun W => valid_any x W)
  obtain ⟨vd, hvd⟩ : ∃ b, okL x = b := ⟨_, rfl⟩
  rw [hvd] at HVA
  have HOK := Lib.hid hvd
  have HW1 := Lib.hid hw1
  have EQ := Lib.hid eq
  have HB1 := Lib.hid hb1
  have HQ := Lib.hid hq
  clear hw1 eq hb1 hq ha ht hB hg hp hf hfb hvd
  go_enter Tryz.func35, Tryz.ntmps35
  go_upto_region 2 with fail
  rw [← HW1.out, ← EQ.out]
  go_wp2_with fail
  refine HFI.out.mono ?_
  rintro e w2 ⟨rfl, hb2⟩
  obtain ⟨w3, hw3⟩ : ∃ w3, w3 = w2.alloc (.cells #[.int .i64 f.i, .int .i64 f.s, .int .i64 f.l] 100) := ⟨_, rfl⟩
  obtain ⟨r, er⟩ : ∃ r, r = w2.heap.size := ⟨_, rfl⟩
  have hb3 : Below w2.heap.size w2 w3 := by rw [hw3]; exact box_below w2 _
  have hr : w3.heap[r]? = some (.cells #[.int .i64 f.i, .int .i64 f.s, .int .i64 f.l] 100 (0, 0)) := by rw [hw3, er]; exact new_block w2 _
  have HB3 := Lib.hid (HB1.out.trans ((hb2.trans (hb3.mono hb2.size)).mono HB1.out.size))
  have hq3 := blk_below (blk_below HQ.out hb2) hb3
  have HR3 := Lib.hid hr
  have HQ3 := Lib.hid hq3
  have q0 := cell_of hq3 (j := 0) rfl
  have q1 := cell_of hq3 (j := 1) rfl
  have q2 := cell_of hq3 (j := 2) rfl
  have HW3 := Lib.hid hw3
  have ER := Lib.hid er
  clear hw3 er hb3 hr hq3 hb2
  go_upto_region 3 with fail
  rw [← HW3.out, ← ER.out]
  go_wp2_with fail
  refine (HVA.out _).mono ?_
  rintro e w4 ⟨rfl, hb4⟩
  have HB4 := Lib.hid (HB3.out.trans (hb4.mono HB3.out.size))
  have hr4 := blk_below HR3.out hb4
  have HQ4 := Lib.hid (blk_below HQ3.out hb4)
  have HT4 := Lib.hid (HT.out.below HB4.out)
  have r0 := cell_of hr4 (j := 0) rfl
  have r1 := cell_of hr4 (j := 1) rfl
  have r2 := cell_of hr4 (j := 2) rfl
  clear hr4 hb4 q0 q1 q2
  cases vd with
  | false =>
    have HE : Hid (ErPost Bs tp v a w (.returned (.int .i64 1)) w4) := Lib.hid (er_same (by rw [← HA.out]; unfold opn; rw [if_pos HOK.out]) HT.out HB4.out)
    go_wp2_with fail
    go_ret
    exact HE.out
  | true =>
    cases fb with
    | true =>
      have HE : Hid (ErPost Bs tp v a w (.returned (.int .i64 1)) w4) := Lib.hid (er_same (by rw [← HA.out]; unfold opn; rw [if_neg (by rw [HOK.out]; simp), if_pos HFB.out]) HT.out HB4.out)
      go_wp2_with fail
      go_ret
      exact HE.out
    | false =>
      have hqe2 := hqe
      obtain ⟨A, c, rfl, -, -, -⟩ := own_form HT.out.row
      have t0 := cell_of HT4.out.here (j := 0) rfl
      by_cases h5 : 100 ≤ L.length
      · have h5' : decide ((100 : Int) ≤ (L.length : Int)) = true := by rw [decide_eq_true_eq]; omega
        have HE : Hid (ErPost Bs tp (.slice A L.length c) a w (.returned (.int .i64 1)) w4) := Lib.hid (er_same (by rw [← HA.out]; unfold opn; rw [if_neg (by rw [HOK.out]; simp), if_neg (by rw [HFB.out]; simp), if_pos h5]) HT.out HB4.out)
        clear h5
        go_wp2_with fail
        go_ret
        exact HE.out
      · have h5' : decide ((100 : Int) ≤ (L.length : Int)) = false := by rw [decide_eq_false_iff_not]; omega
        have HAD : Hid (a = (L.take p ++ x :: L.drop p, 0)) := Lib.hid (by rw [← HA.out]; unfold opn; rw [if_neg (by rw [HOK.out]; simp), if_neg (by rw [HFB.out]; simp), if_neg h5]; unfold ins; rw [HP.out])
        obtain ⟨M, hM⟩ : ∃ M, L.take p ++ x :: L.drop p = M := ⟨_, rfl⟩
        rw [hM] at HAD
        have HIN := Lib.hid (insert_any (w := (w4.alloc (.cells #[.int .i64 x.i, .int .i64 x.s, .int .i64 x.l] 100)).drew) (Bs := Bs) (vb := w4.heap.size) (A := A) (c := c) (own_below HT4.out.row ((Below.refl _ _).alloc (Nat.le_refl _) _).drew) rfl (by have := HLL.out; omega) (Nat.le_trans HB.out (Nat.le_trans HB4.out.size ((Below.refl _ _).alloc (Nat.le_refl _) (.cells #[.int .i64 x.i, .int .i64 x.s, .int .i64 x.l] 100)).drew.size)) x (new_block w4 _) (own_long_ne HT4.out.row (Nat.le_refl _)) p HPL.out)
        rw [hM] at HIN
        unfold InPost at HIN
        clear hM h5
        go_upto_region 5 with fail
        clear r0 r1 r2 t0
        have hq4 := HQ4.out
        have q0 := cell_of hq4 (j := 0) rfl
        have q1 := cell_of hq4 (j := 1) rfl
        have q2 := cell_of hq4 (j := 2) rfl
        have t0 := cell_of HT4.out.here (j := 0) rfl
        have hqs : q < w4.heap.size := blk_lt hq4
        have hts : tp < w4.heap.size := blk_lt HT4.out.here
        clear hq4
        go_region_with (first
          | (go_at_call 82; (with_reducible refine HIN.out.mono ?_); rintro e w8 ⟨v8, rfl, h1, h2, h3⟩; obtain ⟨A8, c8, rfl, -, -, -⟩ := own_form h1; have h2' := gb_trans' ((Below.refl w4.heap.size w4).alloc (Nat.le_refl _) (.cells #[.int .i64 x.i, .int .i64 x.s, .int .i64 x.l] 100)).drew h2; have hh8 := gb_blk h2' HT4.out; have y0 := cell_of hh8 (j := 0) rfl; have y1 := frozen_of_row w8 tp 0 _ _ hh8))
        all_goals
          have HE : Hid (ErPost Bs tp (.slice A L.length c) a w (.returned (.int .i64 0)) (w8.setCell ⟨tp, 0, none⟩ (.slice A8 M.length c8))) := Lib.hid (by
            rw [HAD.out]
            exact ⟨rfl, kp_end (B0 := (w4.alloc (.cells #[.int .i64 x.i, .int .i64 x.s, .int .i64 x.l] 100)).drew.heap.size) HT.out HB4.out HT4.out h1 h2' h3 (Nat.le_trans HB4.out.size ((Below.refl _ _).alloc (Nat.le_refl _) (.cells #[.int .i64 x.i, .int .i64 x.s, .int .i64 x.l] 100)).drew.size)⟩)
          clear h1 h2 h2' h3 hh8
          go_wp2_with fail
          go_ret
          exact HE.out
end Go.Proofs.YtflgemlhocjipaaGreatDoor.Lq
