/-
  What the law's stands returns of a file and the document's that are the same: true. No condition.
-/
import Derived.Test.YtoallenigfbkpaaTPlays
import Derived.ChangeKeysEq
namespace Go.Proofs.Ytoallenigfbkpaa
set_option maxRecDepth 100000
open Go.ChangeShapes Go.WideShapes Go.ChangeAt Go.RowKit Go.Proofs.Sg

theorem neq_two (x y : Int) (w : World) : (binOp .neq 46 (.agg #[.int .i64 x, .int .i64 y]) (.agg #[.int .i64 x, .int .i64 y])).run Try.prog w = .ok (.bool false) w := by
  obtain ⟨i0, h5, hz0, hz1, hz2⟩ := info_parts infoI
  have hc : Try.prog.cellsOf 3 = 1 := by kernel_rfl
  have hz := Try.sizeOf3
  have hi := Try.isAgg3
  rw [run_neq_struct, show (10000 : Nat) = 9998 + 1 + 1 from rfl, run_equalIn_array w (9998 + 1) _ _ Try.underlying46 h5, hc]
  have hu := Try.underlying3
  simp only [show List.range 2 = [0, 1] from rfl, Op.eqItems, Sem.run_bind]
  go_simp
theorem pair_at {w : World} {B g c : Nat} {l : List (Nat × Nat)} {i : Nat} (h : w.ownsRow B 46 2 (.slice (some ⟨g, 0, none⟩) l.length c) l.length (pcells l)) (hi : i < l.length) : w.cell? ⟨g, i * 2, none⟩ = some (.int .i64 ((l[i].1 : Nat) : Int)) ∧ w.cell? ⟨g, i * 2 + 1, none⟩ = some (.int .i64 ((l[i].2 : Nat) : Int)) := by
  have hp := fun j hj => part_get pcell 2 l i hi (fun _ _ => rfl) j hj
  have h0 := hp 0 (by omega)
  have h1 := hp 1 (by omega)
  exact ⟨own_cell h (i * 2) _ (by have : (pcells l)[i * 2 + 0]? = _ := h0; rw [Nat.add_zero] at this; rw [this]; rfl), own_cell h (i * 2 + 1) _ (by have : (pcells l)[i * 2 + 1]? = _ := h1; rw [this]; rfl)⟩
set_option maxHeartbeats 8000000 in
theorem stands_any {w : World} {B sp mb : Nat} {S : Sh} (h : SW w B sp mb S) {A A2 : Option Addr} {c c2 : Nat} (hD : DF w A c A2 c2 S) : Calls Try.prog 13 #[.pointer (some ⟨sp, 0, none⟩), dv A S.n c A2 S.K.length c2] w fun e w' => e = .returned (.bool true) ∧ Below w.heap.size w w' := by
  obtain ⟨w1, hw1⟩ : ∃ w1, w1 = w.alloc (.cells #[.slice A S.n c, .slice A2 S.K.length c2] 30) := ⟨_, rfl⟩
  obtain ⟨q, eq⟩ : ∃ q, q = w.heap.size := ⟨_, rfl⟩
  have hb1 : Below w.heap.size w w1 := by rw [hw1]; exact box_below w _
  have hq : w1.heap[q]? = some (.cells #[.slice A S.n c, .slice A2 S.K.length c2] 30 (0, 0)) := by rw [hw1, eq]; exact new_block w _
  have h1 := h.below hb1
  have hD1 := hD.below hb1
  have hg := h.good
  obtain ⟨L, hL⟩ : ∃ L, rn S.K S.K.length = L := ⟨_, rfl⟩
  obtain ⟨N, hN⟩ : ∃ N, S.n = N := ⟨_, rfl⟩
  obtain ⟨M, hM⟩ : ∃ M, S.K.length = M := ⟨_, rfl⟩
  obtain ⟨str, hstr⟩ : ∃ s, sB (bs S.f S.n) = s := ⟨_, rfl⟩
  have HLL : Hid (L.length ≤ 65536) := Lib.hid (by have h2 := rn_len (K := S.K) S.K.length; rw [hL] at h2; have := h.map.len; omega)
  have HRU : Hid (∀ W, Below w1.heap.size w1 W → Calls Try.prog 27 #[.pointer (some ⟨sp, 0, none⟩)] W fun e w' => ∃ A c, e = .returned (.slice A L.length c) ∧ w'.ownsRow W.heap.size 46 2 (.slice A L.length c) L.length (pcells L) ∧ Below W.heap.size W w') := Lib.hid (fun W hW => (runs_any (h1.below hW)).mono (by
    rintro e w' ⟨v, rfl, hr, hb⟩
    rw [hL] at hr
    obtain ⟨A', c', rfl, -⟩ := own_form hr
    exact ⟨A', c', rfl, hr, hb⟩))
  have HRR : Hid (∀ W, Below w1.heap.size w1 W → Calls Try.prog 28 #[.agg #[.slice A N c, .slice A2 M c2]] W fun e w' => ∃ A c, e = .returned (.slice A L.length c) ∧ w'.ownsRow W.heap.size 46 2 (.slice A L.length c) L.length (pcells L) ∧ Below W.heap.size W w') := Lib.hid (fun W hW => by
    rw [← hN, ← hM]
    refine (rruns_any (hD1.below hW) hg).mono ?_
    rintro e w' ⟨v, rfl, hr, hb⟩
    rw [hL] at hr
    obtain ⟨A', c', rfl, -⟩ := own_form hr
    exact ⟨A', c', rfl, hr, hb⟩)
  have HSI : Hid (∀ W, Below w1.heap.size w1 W → Calls Try.prog 19 #[.pointer (some ⟨sp, 0, none⟩)] W fun e w' => e = .returned (.int .i64 (N : Int)) ∧ W = w') := Lib.hid (fun W hW => by rw [← hN]; exact size_any (h1.below hW))
  have HBK : Hid (∀ W, Below w1.heap.size w1 W → Calls Try.prog 18 #[.pointer (some ⟨sp, 0, none⟩)] W fun e w' => e = .returned (.int .i64 (M : Int)) ∧ W = w') := Lib.hid (fun W hW => by rw [← hM]; exact blocks_any (h1.below hW))
  obtain ⟨y, hy⟩ : ∃ y : Int, (N : Int) + 9 = y := ⟨_, rfl⟩
  have hlim := hg.lim
  have hwy : IntKind.i64.wrap ((N : Int) + 9) = y := by rw [IntKind.wrap_i64]; omega
  have HRE : Hid (∀ W, Below w1.heap.size w1 W → Calls Try.prog 14 #[.pointer (some ⟨sp, 0, none⟩), .int .i64 0, .int .i64 y] W fun e w' => ∃ v, e = .returned v ∧ (convert 27 9 v).run Try.prog w' = .ok (.string str) w' ∧ Below W.heap.size W w') := Lib.hid (fun W hW => (read_any (h1.below hW) 0 y (by omega)).mono (by
    rintro e w' ⟨v, rfl, hr, hb⟩
    obtain ⟨A', c', rfl, -⟩ := own_form hr
    have hcv := conv_rd (c := c') (Rd.of_own hr (fun _ _ => rfl) (by omega))
    have e1 : rd S 0 y = bs S.f S.n := by
      unfold rd
      by_cases h0 : S.n = 0
      · rw [if_pos (by omega), h0]; rfl
      · rw [if_neg (by omega), show (0 : Int).toNat = 0 from rfl, List.drop_zero, List.take_of_length_le (by rw [bs_len]; omega)]
    rw [e1] at hcv ⊢
    rw [hstr] at hcv
    exact ⟨_, rfl, hcv, hb⟩))
  have HSS : Hid (∀ W, Below w1.heap.size w1 W → (W.cell? ⟨q, 0, none⟩ = some (.slice A N c) ∧ W.cell? ⟨q, 1, none⟩ = some (.slice A2 M c2) ∧ (convert 27 9 (.slice A N c)).run Try.prog W = .ok (.string str) W)) := Lib.hid (fun W hW => by
    rw [← hN, ← hM]
    exact ⟨cell_of (blk_below hq hW) (j := 0) rfl, cell_of (blk_below hq hW) (j := 1) rfl, by have := conv_rd (c := c) (hD1.below hW).rdB; rw [hstr] at this; exact this⟩)
  have HW1 := Lib.hid hw1
  have EQ := Lib.hid eq
  have HB1 := Lib.hid hb1
  unfold dv
  rw [hN, hM] at HW1 ⊢
  have hNN : ((N : Int) != (N : Int)) = false := by simp
  have hMM : ((M : Int) != (M : Int)) = false := by simp
  have hLLn : (((L.length : Nat) : Int) != ((L.length : Nat) : Int)) = false := by simp
  clear h hD hw1 eq hb1 hq h1 hD1 hg hL hN hM hstr hy hlim
  go_enter Try.func13, Try.ntmps13
  go_upto_region 1 with fail
  rw [← HW1.out, ← EQ.out]
  have hHd0 := HSS.out w1.drew (Below.refl _ _).drew
  go_region_held3 (fun W => W.cell? ⟨q, 0, none⟩ = some (.slice A N c) ∧ W.cell? ⟨q, 1, none⟩ = some (.slice A2 M c2) ∧ (convert 27 9 (.slice A N c)).run Try.prog W = .ok (.string str) W)
    (first
      | assumption
      | (with_reducible exact HSS.out _ (Below.refl _ _).drew))
    (first
      | (go_at_call 27; (with_reducible refine (HRU.out _ (Below.refl _ _).drew).mono ?_); rintro e w4 ⟨A4, c4, rfl, hr4, hb4⟩; have hB4 : Below w1.heap.size w1 w4 := (Below.refl w1.heap.size w1).drew.trans (hb4.mono (Nat.le_refl _)); have hS4 := HSS.out w4 hB4)
      | (go_at_call 28; (with_reducible refine (HRR.out _ (by assumption)).mono ?_); rintro e w5 ⟨A5, c5, rfl, hr5, hb5⟩; have hB5 := hB4.trans (hb5.mono hB4.size); have hS5 := HSS.out w5 hB5))
  rename_i hHeld
  have HR4 := Lib.hid (own_below hr4 hb5)
  have HR5 := Lib.hid hr5
  have HB5 := Lib.hid hB5
  clear hHeld hHd0 hS4 hS5 hB4 hB5 hb4 hb5 hr4 hr5
  obtain ⟨w5, hw5⟩ : ∃ x, x = w5 := ⟨_, rfl⟩
  subst hw5
  go_upto_region 2 with fail
  have hHd0 := HSS.out w5.drew HB5.out.drew
  go_region_held3 (fun W => W.cell? ⟨q, 0, none⟩ = some (.slice A N c) ∧ W.cell? ⟨q, 1, none⟩ = some (.slice A2 M c2) ∧ (convert 27 9 (.slice A N c)).run Try.prog W = .ok (.string str) W)
    (first
      | assumption
      | (with_reducible exact HSS.out _ HB5.out.drew))
    (first
      | (go_at_call 19; (with_reducible refine (HSI.out _ HB5.out.drew).mono ?_); rintro e w' ⟨rfl, rfl⟩)
      | (go_at_call 18; (with_reducible refine (HBK.out _ HB5.out.drew).mono ?_); rintro e w' ⟨rfl, rfl⟩))
  rename_i hHeld
  clear hHeld hHd0
  obtain ⟨w6, hw6⟩ : ∃ w6, w6 = w5.drew := ⟨_, rfl⟩
  rw [← hw6]
  have hb56 : Below w5.heap.size w5 w6 := by rw [hw6]; exact (Below.refl _ _).drew
  have HB6 : Hid (Below w1.heap.size w1 w6) := Lib.hid (HB5.out.trans (hb56.mono HB5.out.size))
  have HQ4 := Lib.hid (own_below HR4.out hb56)
  have HQ5 := Lib.hid (own_below HR5.out hb56)
  clear hw6 hb56
  go_wp2_with fail
  go_loopw [35] (fun i wr => ∃ j : Nat, j ≤ L.length ∧ i = .int .i64 (j : Int) ∧ Hid (Below w6.heap.size w6 wr)) (fun i _ => L.length - (intOf i).toNat)
  case atStart => exact ⟨0, Nat.zero_le _, rfl, Lib.hid (Below.refl _ _)⟩
  case round =>
    obtain ⟨j, hj, rfl, HX⟩ := hrel
    by_cases hlt : j < L.length
    · have ho4 := own_below HQ4.out HX.out
      have ho5 := own_below HQ5.out HX.out
      obtain ⟨B4, d4, e4, -, -, hA4⟩ := own_form ho4
      obtain ⟨g4, rfl⟩ : ∃ g, A4 = some ⟨g, 0, none⟩ := by
        injection e4 with e4; subst e4; exact hA4 (by omega)
      obtain ⟨B5, d5, e5, -, -, hA5⟩ := own_form ho5
      obtain ⟨g5, rfl⟩ : ∃ g, A5 = some ⟨g, 0, none⟩ := by
        injection e5 with e5; subst e5; exact hA5 (by omega)
      obtain ⟨x0, x1⟩ := pair_at ho4 hlt
      obtain ⟨z0, z1⟩ := pair_at ho5 hlt
      obtain ⟨a, ha⟩ : ∃ a : Int, ((L[j].1 : Nat) : Int) = a := ⟨_, rfl⟩
      obtain ⟨b, hb⟩ : ∃ b : Int, ((L[j].2 : Nat) : Int) = b := ⟨_, rfl⟩
      rw [ha] at x0 z0
      rw [hb] at x1 z1
      have hne := neq_two a b
      have hj0 : (0 : Int) ≤ (j : Int) := by omega
      have hji : (j : Int) < ((L.length : Nat) : Int) := by omega
      obtain ⟨j1, hj1⟩ : ∃ j1, j + 1 = j1 := ⟨_, rfl⟩
      have hwj : IntKind.i64.wrap ((j : Int) + 1) = (j1 : Int) := by rw [IntKind.wrap_i64]; have := HLL.out; omega
      have HJ1 : Hid (j < L.length ∧ j + 1 = j1) := Lib.hid ⟨hlt, hj1⟩
      clear ho4 ho5 hA4 hA5 ha hb hj1 hlt hj e4 e5
      go_upto_region 7 with fail
      go_quiet (fail)
      obtain ⟨w7, hw7⟩ : ∃ w7, w7 = wr.drewN nq := ⟨_, rfl⟩
      rw [← hw7]
      have HX7 : Hid (Below w6.heap.size w6 w7) := Lib.hid (by rw [hw7]; exact below_drewN HX.out nq)
      clear hw7 x0 x1 z0 z1
      go_wp2_with fail
      go_roundw
      case rel => exact ⟨j1, by have := HJ1.out; omega, rfl, HX7⟩
      case measure => simp [intOf]; have := HJ1.out; omega
    · obtain rfl : j = L.length := by omega
      have hji : ¬ ((L.length : Nat) : Int) < ((L.length : Nat) : Int) := by omega
      have HBR : Hid (Below w1.heap.size w1 wr) := Lib.hid (HB6.out.trans (HX.out.mono HB6.out.size))
      have hHd0 := HSS.out wr.drew HBR.out.drew
      clear hlt hj
      go_upto_region 10 with fail
      obtain ⟨n0, n1, n2⟩ := hHd0
      go_region_with (first
        | (go_at_call 14; (with_reducible refine (HRE.out _ HBR.out.drew).mono ?_); rintro e w8 ⟨v8, rfl, hcv8, hb8⟩; have hB8 : Below w1.heap.size w1 w8 := HBR.out.drew.trans (hb8.mono HBR.out.size); obtain ⟨m0, m1, m2⟩ := HSS.out w8 hB8))
      all_goals
        have HB8 := Lib.hid (HB1.out.trans (hB8.mono HB1.out.size))
        clear hcv8 hb8 hB8 m0 m1 m2 n0 n1 n2
        (try simp only [List.getElem_toArray, List.getElem_cons_succ, List.getElem_cons_zero, Act.put, List.setIfInBounds_toArray, List.set_cons_succ, List.set_cons_zero])
        go_wp2_with fail
        go_ret
        exact ⟨by first | rfl | simp, HB8.out⟩
end Go.Proofs.Ytoallenigfbkpaa
