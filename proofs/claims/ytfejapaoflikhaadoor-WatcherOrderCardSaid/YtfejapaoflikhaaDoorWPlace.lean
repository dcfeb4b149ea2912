/-
  Where a watch stands in a table: the closure, sort.Search, place. Condition: the table is good.
-/
import Derived.Test.YtfejapaoflikhaaDoorWSmall
namespace Go.Proofs.YtfejapaoflikhaaDoor
set_option maxRecDepth 100000
open Go.ChangeShapes Go.WideShapes Go.ChangeAt Go.RowKit Go.Proofs.Zn Go.Proofs.Wa

theorem TabW.rd {w : World} {Bs tp : Nat} {v : Value} {L : Tb} (h : TabW w Bs tp v L) : ∃ A c, v = .slice A L.length c ∧ L.length ≤ c ∧ c ≤ maxLen ∧ Rd wcell 3 w A L.length L := by
  have hr := h.row
  obtain ⟨A, c, rfl, h1, h2, -⟩ := own_form hr
  exact ⟨A, c, rfl, h1, h2, Rd.of_own hr (fun _ _ => rfl) (by omega)⟩
set_option maxHeartbeats 2000000 in
theorem pclo_any {w : World} {Bs tp b1 b2 : Nat} {v : Value} {L : Tb} (ht : TabW w Bs tp v L) (h1 : w.heap[b1]? = some (.cells #[.pointer (some ⟨tp, 0, none⟩)] 23 (0, 0))) (x : Wt) (h2 : w.heap[b2]? = some (.cells #[.int .i64 x.s, .string (B x.p), .bool x.k] 45 (0, 0)))
    {k : Nat} {y : Wt} (hy : L[k]? = some y) :
    Calls Tryd.prog 40 #[.int .i64 (k : Nat), .pointer (some ⟨b1, 0, none⟩), .pointer (some ⟨b2, 0, none⟩)] w fun e w' => e = .returned (.bool (!(bef y x))) ∧ Below w.heap.size w w' := by
  obtain ⟨A, c, rfl, hlc, hcm, hrd⟩ := ht.rd
  have hk := (List.getElem?_eq_some_iff.1 hy).1
  obtain ⟨b, off, y', rfl, hy', hc⟩ := hrd.at hk
  obtain rfl : y = y' := Option.some.inj (hy.symm.trans hy')
  have HA := Lib.hid (fun W => ahead_any y x W)
  obtain ⟨r, hr⟩ : ∃ r, bef y x = r := ⟨_, rfl⟩
  rw [hr] at HA ⊢
  have HS : Hid (∀ W, Below w.heap.size w W → (W.cell? ⟨b1, 0, none⟩ = some (.pointer (some ⟨tp, 0, none⟩)) ∧ W.cell? ⟨tp, 0, none⟩ = some (.slice (some ⟨b, off, none⟩) L.length c) ∧ W.cell? ⟨b, off + k * 3, none⟩ = some (.int .i64 y.s) ∧ W.cell? ⟨b, off + k * 3 + 1, none⟩ = some (.string (B y.p)) ∧ W.cell? ⟨b, off + k * 3 + 2, none⟩ = some (.bool y.k) ∧ W.cell? ⟨b2, 0, none⟩ = some (.int .i64 x.s) ∧ W.cell? ⟨b2, 1, none⟩ = some (.string (B x.p)) ∧ W.cell? ⟨b2, 2, none⟩ = some (.bool x.k) ∧ Below w.heap.size w W)) := Lib.hid (fun W hW => by
    have k1 := blk_below h1 hW
    have k2 := blk_below h2 hW
    have k3 := blk_below ht.here hW
    have kk : ∀ j v, (wcell y)[j]? = some v → W.cell? ⟨b, off + k * 3 + j, none⟩ = some v := fun j v hv => (hW.cell (p := ⟨b, off + k * 3 + j, none⟩) (cell_lt (hc j v hv))).trans (hc j v hv)
    exact ⟨cell_of k1 (j := 0) rfl, cell_of k3 (j := 0) rfl, kk 0 _ rfl, kk 1 _ rfl, kk 2 _ rfl, cell_of k2 (j := 0) rfl, cell_of k2 (j := 1) rfl, cell_of k2 (j := 2) rfl, hW⟩)
  have hk0 : (0 : Int) ≤ (k : Int) := by omega
  have hk1 : (k : Int) < (L.length : Int) := by omega
  clear ht h1 h2 hy hrd hy' hc hr
  go_enter Tryd.func40, Tryd.ntmps40
  go_upto_region 1 with fail
  go_region_held3 (fun W => W.cell? ⟨b1, 0, none⟩ = some (.pointer (some ⟨tp, 0, none⟩)) ∧ W.cell? ⟨tp, 0, none⟩ = some (.slice (some ⟨b, off, none⟩) L.length c) ∧ W.cell? ⟨b, off + k * 3, none⟩ = some (.int .i64 y.s) ∧ W.cell? ⟨b, off + k * 3 + 1, none⟩ = some (.string (B y.p)) ∧ W.cell? ⟨b, off + k * 3 + 2, none⟩ = some (.bool y.k) ∧ W.cell? ⟨b2, 0, none⟩ = some (.int .i64 x.s) ∧ W.cell? ⟨b2, 1, none⟩ = some (.string (B x.p)) ∧ W.cell? ⟨b2, 2, none⟩ = some (.bool x.k) ∧ Below w.heap.size w W)
    (first
      | assumption
      | (with_reducible exact HS.out _ (Below.refl _ _).drew))
    (first
      | (go_at_call 41; (with_reducible refine (HA.out _).mono ?_); rintro e w9 ⟨rfl, hb9⟩; have hB9 := below_step (a := w) (by first | exact (Below.refl _ _).drew | assumption) hb9; have hS9 := HS.out w9 hB9))
  all_goals
    have HB9 := Lib.hid hB9
    clear hS9 hb9 hB9
    go_wp2_with fail
    go_ret
    exact ⟨rfl, HB9.out⟩
set_option maxHeartbeats 2000000 in
theorem search_any {w : World} {b1 b2 n p : Nat} (hn : n ≤ 1000000) (hp : p ≤ n) (hf : ∀ W k, Below w.heap.size w W → k < n → Calls Tryd.prog 40 #[.int .i64 (k : Nat), .pointer (some ⟨b1, 0, none⟩), .pointer (some ⟨b2, 0, none⟩)] W fun e w' => e = .returned (.bool (!decide (k < p))) ∧ Below W.heap.size W w') :
    Calls Tryd.prog 39 #[.int .i64 n, .func (.func 40) #[] #[.pointer (some ⟨b1, 0, none⟩), .pointer (some ⟨b2, 0, none⟩)]] w fun e w' => e = .returned (.int .i64 p) ∧ Below w.heap.size w w' := by
  have HF := Lib.hid hf
  have HP := Lib.hid hp
  clear hf hp
  go_enter Tryd.func39, Tryd.ntmps39
  go_wp2_with fail
  go_loopw [5, 6] (fun vi vj wr => ∃ i j : Nat, i ≤ p ∧ p ≤ j ∧ j ≤ n ∧ vi = .int .i64 i ∧ vj = .int .i64 j ∧ Hid (Below w.heap.size w wr)) (fun vi vj _ => (intOf vj).toNat - (intOf vi).toNat)
  case atStart => exact ⟨0, n, Nat.zero_le _, HP.out, Nat.le_refl _, rfl, rfl, Lib.hid (Below.refl _ _)⟩
  case round =>
    obtain ⟨i, j, hip, hpj, hjn, rfl, rfl, HX⟩ := hrel
    by_cases hlt : i < j
    · obtain ⟨h, hh⟩ : ∃ h, h = (i + j) / 2 := ⟨_, rfl⟩
      have hih : i ≤ h := by omega
      have hhj : h < j := by omega
      have HC := Lib.hid (HF.out wr h HX.out (by omega))
      have hw1 : IntKind.i64.wrap ((i : Int) + (j : Int)) = (i : Int) + (j : Int) := by rw [IntKind.wrap_i64]; omega
      have hlt' : (i : Int) < (j : Int) := by omega
      have hd : ((i : Int) + (j : Int)) / 2 = (h : Int) := by omega
      obtain ⟨r, hr⟩ : ∃ r, decide (h < p) = r := ⟨_, rfl⟩
      rw [hr] at HC
      have HR := Lib.hid hr
      clear hh hr
      go_wp2_with fail
      refine HC.out.mono ?_
      rintro e w5 ⟨rfl, hb5⟩
      have HX5 := Lib.hid (HX.out.trans (hb5.mono HX.out.size))
      clear hb5
      cases r with
      | true =>
        have hhp : h < p := by simpa using HR.out
        go_wp2_with fail
        go_roundw
        case rel => exact ⟨h + 1, j, hhp, hpj, hjn, by go_num, rfl, HX5⟩
        case measure => simp [intOf]; omega
      | false =>
        have hhp : p ≤ h := by simpa using HR.out
        go_wp2_with fail
        go_roundw
        case rel => exact ⟨i, h, hip, hhp, by omega, rfl, rfl, HX5⟩
        case measure => simp [intOf]; omega
    · obtain rfl : i = p := by omega
      obtain rfl : i = j := by omega
      have hlt' : ¬ (i : Int) < (i : Int) := by omega
      go_wp2_with fail
      go_ret
      exact ⟨rfl, HX.out⟩
set_option maxHeartbeats 2000000 in
theorem place_any {w : World} {Bs tp : Nat} {v : Value} {L : Tb} (ht : TabW w Bs tp v L) (hg : Wa.Good L) (x : Wt) :
    Calls Tryd.prog 31 #[.pointer (some ⟨tp, 0, none⟩), .agg #[.int .i64 x.s, .string (B x.p), .bool x.k]] w fun e w' => e = .returned (.int .i64 (pos L x : Nat)) ∧ Below w.heap.size w w' := by
  obtain ⟨w2, hw2, hB2, hq, hr, hs2⟩ := two_box w (.cells #[.pointer (some ⟨tp, 0, none⟩)] 23) (.cells #[.int .i64 x.s, .string (B x.p), .bool x.k] 45)
  obtain ⟨q, eq⟩ : ∃ q, q = w.heap.size := ⟨_, rfl⟩
  obtain ⟨r, er⟩ : ∃ r, r = w.heap.size + 1 := ⟨_, rfl⟩
  rw [← eq] at hq
  rw [← er] at hr
  have ht2 := ht.below hB2
  obtain ⟨A, c, rfl, hlc, hcm, hrd⟩ := ht.rd
  have hll := hg.len
  have HSE := Lib.hid (search_any (w := w2) (b1 := q) (b2 := r) (n := L.length) (p := pos L x) (by omega) (pos_le L x) (fun W k hW hk => by
    have h := pclo_any (ht2.below hW) (blk_below hq hW) x (blk_below hr hW) (List.getElem?_eq_getElem hk)
    rw [pos_lt hg.srt (List.getElem?_eq_getElem hk)] at h
    exact h))
  have HB2 := Lib.hid hB2
  have HW2 := Lib.hid hw2
  have EQ := Lib.hid eq
  have ER := Lib.hid er
  have q0 := cell_of hq (j := 0) rfl
  have t0 := cell_of ht2.here (j := 0) rfl
  clear ht hg hw2 hB2 hq hr hs2 eq er ht2 hrd hll
  go_enter Tryd.func31, Tryd.ntmps31
  go_upto_region 1 with fail
  rw [← HW2.out, ← ER.out, ← EQ.out]
  go_wp2_with fail
  refine HSE.out.mono ?_
  rintro e w3 ⟨rfl, hb3⟩
  have HB3 := Lib.hid (HB2.out.trans (hb3.mono HB2.out.size))
  clear hb3 q0 t0
  go_wp2_with fail
  go_ret
  exact ⟨rfl, HB3.out⟩
end Go.Proofs.YtfejapaoflikhaaDoor
