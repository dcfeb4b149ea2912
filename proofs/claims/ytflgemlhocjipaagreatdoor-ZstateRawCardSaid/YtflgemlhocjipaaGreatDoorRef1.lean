/-
  What the document's Get, in, up return. Condition: a number is at most 2^62 where it goes on.
-/
import Derived.Test.YtflgemlhocjipaaGreatDoorRows8
namespace Go.Proofs.YtflgemlhocjipaaGreatDoor
set_option maxRecDepth 100000
open Go.ChangeShapes Go.WideShapes Go.ChangeAt Go.RowKit Go.Proofs.Zn Go.Proofs.Zt

theorem rin_any (n : Int) (w : World) : Calls Tryz.prog 68 #[.int .i64 n] w fun e w' => e = .returned (.bool (inr n)) ∧ w = w' := by
  have HI : Hid (inr n = (decide (0 ≤ n) && decide (n ≤ 4611686018427387904))) := Lib.hid rfl
  by_cases h1 : 0 ≤ n
  · by_cases h2 : n ≤ 4611686018427387904
    · have HE : Hid (inr n = true) := Lib.hid (by rw [HI.out]; simp [h1, h2])
      go_enter Tryz.func68, Tryz.ntmps68
      go_wp2_with fail
      go_ret
      exact ⟨ret_b HE.out.symm, rfl⟩
    · have HE : Hid (inr n = false) := Lib.hid (by rw [HI.out]; simp [h2])
      go_enter Tryz.func68, Tryz.ntmps68
      go_wp2_with fail
      go_ret
      exact ⟨ret_b HE.out.symm, rfl⟩
  · have HE : Hid (inr n = false) := Lib.hid (by rw [HI.out]; simp [h1])
    go_enter Tryz.func68, Tryz.ntmps68
    go_wp2_with fail
    go_ret
    exact ⟨ret_b HE.out.symm, rfl⟩
theorem get_drop {T : Tr} {k : Nat} {p : Txt} {z : Nd} (hz : T[k]? = some z) (h : get T p = get (T.drop k) p) : (z.path = p → get T p = some z) ∧ (z.path ≠ p → get T p = get (T.drop (k + 1)) p) := by
  obtain ⟨hk, rfl⟩ := List.getElem?_eq_some_iff.1 hz
  rw [List.drop_eq_getElem_cons hk] at h
  exact ⟨fun e => by rw [h, get_cons_hit e], fun e => by rw [h, get_cons_miss e]⟩
def RgPost (T : Tr) (p : Txt) (w : World) (e : Ending) (w' : World) : Prop := e = .returned (.tuple #[ndv ((get T p).getD nd0), .bool (get T p).isSome]) ∧ Below w.heap.size w w'
set_option maxHeartbeats 2000000 in
theorem rget_any {w : World} {A : Option Addr} {n c : Nat} {T : Tr} (h : Rd ncell 9 w A n T) (hn : n ≤ 1000000) (p : Txt) :
    Calls Tryz.prog 67 #[.slice A n c, .string (B p)] w (RgPost T p w) := by
  obtain ⟨w1, hw1⟩ : ∃ w1, w1 = w.alloc (.cells #[.string ⟨#[]⟩, .string ⟨#[]⟩, .int .i64 0, .int .i64 0, .int .i64 0, .int .i64 0, .int .i64 0, .int .i64 0, .int .i64 0] 132) := ⟨_, rfl⟩
  obtain ⟨r, er⟩ : ∃ r, r = w.heap.size := ⟨_, rfl⟩
  have hb1 : Below w.heap.size w w1 := by rw [hw1]; exact box_below w _
  have hr : w1.heap[r]? = some (.cells #[.string ⟨#[]⟩, .string ⟨#[]⟩, .int .i64 0, .int .i64 0, .int .i64 0, .int .i64 0, .int .i64 0, .int .i64 0, .int .i64 0] 132 (0, 0)) := by rw [hw1, er]; exact new_block w _
  have HR := Lib.hid (h.below hb1)
  have HB1 := Lib.hid hb1
  have HRB := Lib.hid hr
  have HW1 := Lib.hid hw1
  have ER := Lib.hid er
  clear h hw1 er hb1 hr
  go_enter Tryz.func67, Tryz.ntmps67
  go_upto_region 1 with fail
  rw [← HW1.out, ← ER.out]
  go_wp2_with fail
  go_loop [6] (fun i => ∃ k : Nat, k ≤ n ∧ i = .int .i64 k ∧ Hid (get T p = get (T.drop k) p)) (fun i => n - (intOf i).toNat)
  case atStart => exact ⟨0, Nat.zero_le _, rfl, Lib.hid rfl⟩
  case round =>
    obtain ⟨k, hk, rfl, HG⟩ := hrel
    have hrb := HRB.out
    by_cases hlt : k < n
    · obtain ⟨b, off, z, rfl, hz, hc⟩ := HR.out.at hlt
      obtain ⟨g1, g2⟩ := get_drop hz HG.out
      have G1 := Lib.hid g1
      have G2 := Lib.hid g2
      have a0 : w1.cell? ⟨b, off + k * 9, none⟩ = some (.string (B z.path)) := hc 0 _ rfl
      have a1 : w1.cell? ⟨b, off + k * 9 + 1, none⟩ = some (.string (B z.data)) := hc 1 _ rfl
      have a2 : w1.cell? ⟨b, off + k * 9 + 2, none⟩ = some (.int .i64 z.cr) := hc 2 _ rfl
      have a3 : w1.cell? ⟨b, off + k * 9 + 3, none⟩ = some (.int .i64 z.ch) := hc 3 _ rfl
      have a4 : w1.cell? ⟨b, off + k * 9 + 4, none⟩ = some (.int .i64 z.kd) := hc 4 _ rfl
      have a5 : w1.cell? ⟨b, off + k * 9 + 5, none⟩ = some (.int .i64 z.ver) := hc 5 _ rfl
      have a6 : w1.cell? ⟨b, off + k * 9 + 6, none⟩ = some (.int .i64 z.ks) := hc 6 _ rfl
      have a7 : w1.cell? ⟨b, off + k * 9 + 7, none⟩ = some (.int .i64 z.own) := hc 7 _ rfl
      have a8 : w1.cell? ⟨b, off + k * 9 + 8, none⟩ = some (.int .i64 z.nx) := hc 8 _ rfl
      obtain ⟨t, ht⟩ : ∃ t, (z.path == p) = t := ⟨_, rfl⟩
      have HTT := Lib.hid ht
      clear hz hc g1 g2
      cases t with
      | true =>
        have HGE : Hid (get T p = some z) := Lib.hid (G1.out (by simpa using HTT.out))
        obtain ⟨w6, hw6⟩ : ∃ w6, w6 = (((((((((w1.setCell ⟨r, 0, none⟩ (.string (B z.path))).setCell ⟨r, 1, none⟩ (.string (B z.data))).setCell ⟨r, 2, none⟩ (.int .i64 z.cr)).setCell ⟨r, 3, none⟩ (.int .i64 z.ch)).setCell ⟨r, 4, none⟩ (.int .i64 z.kd)).setCell ⟨r, 5, none⟩ (.int .i64 z.ver)).setCell ⟨r, 6, none⟩ (.int .i64 z.ks)).setCell ⟨r, 7, none⟩ (.int .i64 z.own)).setCell ⟨r, 8, none⟩ (.int .i64 z.nx)) := ⟨_, rfl⟩
        obtain ⟨hwr, h6⟩ := set_nd hrb z
        rw [← hw6] at hwr h6
        have HE : Hid (RgPost T p w (.returned (.tuple #[.agg #[.string (B z.path), .string (B z.data), .int .i64 z.cr, .int .i64 z.ch, .int .i64 z.kd, .int .i64 z.ver, .int .i64 z.ks, .int .i64 z.own, .int .i64 z.nx], .bool true])) w6) := Lib.hid ⟨by rw [HGE.out]; rfl, HB1.out.trans (hwr.below.mono (by rw [ER.out]; exact Nat.le_refl _))⟩
        have r0 := cell_of hrb (j := 0) rfl
        have r1 := cell_of hrb (j := 1) rfl
        have r2 := cell_of hrb (j := 2) rfl
        have r3 := cell_of hrb (j := 3) rfl
        have r4 := cell_of hrb (j := 4) rfl
        have r5 := cell_of hrb (j := 5) rfl
        have r6 := cell_of hrb (j := 6) rfl
        have r7 := cell_of hrb (j := 7) rfl
        have r8 := cell_of hrb (j := 8) rfl
        have rf0 := frozen_of_row w1 _ 0 _ _ hrb
        have rf1 := frozen_of_row w1 _ 1 _ _ hrb
        have rf2 := frozen_of_row w1 _ 2 _ _ hrb
        have rf3 := frozen_of_row w1 _ 3 _ _ hrb
        have rf4 := frozen_of_row w1 _ 4 _ _ hrb
        have rf5 := frozen_of_row w1 _ 5 _ _ hrb
        have rf6 := frozen_of_row w1 _ 6 _ _ hrb
        have rf7 := frozen_of_row w1 _ 7 _ _ hrb
        have rf8 := frozen_of_row w1 _ 8 _ _ hrb
        have t0 := cell_of h6 (j := 0) rfl
        have t1 := cell_of h6 (j := 1) rfl
        have t2 := cell_of h6 (j := 2) rfl
        have t3 := cell_of h6 (j := 3) rfl
        have t4 := cell_of h6 (j := 4) rfl
        have t5 := cell_of h6 (j := 5) rfl
        have t6 := cell_of h6 (j := 6) rfl
        have t7 := cell_of h6 (j := 7) rfl
        have t8 := cell_of h6 (j := 8) rfl
        have HW6 := Lib.hid hw6
        clear hwr h6 hw6 hrb
        go_wp2_with fail
        rw [← HW6.out]
        exact bodyPost_ret (v := .tuple #[.agg #[.string (B z.path), .string (B z.data), .int .i64 z.cr, .int .i64 z.ch, .int .i64 z.kd, .int .i64 z.ver, .int .i64 z.ks, .int .i64 z.own, .int .i64 z.nx], .bool true]) (by simp [results, Tryz.results67, go_sem, t0, t1, t2, t3, t4, t5, t6, t7, t8]) rfl HE.out
      | false =>
        have HG2 : Hid (get T p = get (T.drop (k + 1)) p) := Lib.hid (G2.out (by simpa using HTT.out))
        clear hrb
        go_wp2_with fail
        go_round
        case rel => exact ⟨k + 1, hlt, by go_num, HG2⟩
        case measure => simp [intOf]; omega
    · have HGE : Hid (get T p = none) := Lib.hid (by rw [HG.out, List.drop_of_length_le (by rw [HR.out.len]; omega)]; rfl)
      obtain ⟨w6, hw6⟩ : ∃ w6, w6 = (((((((((w1.setCell ⟨r, 0, none⟩ (.string ⟨#[]⟩)).setCell ⟨r, 1, none⟩ (.string ⟨#[]⟩)).setCell ⟨r, 2, none⟩ (.int .i64 0)).setCell ⟨r, 3, none⟩ (.int .i64 0)).setCell ⟨r, 4, none⟩ (.int .i64 0)).setCell ⟨r, 5, none⟩ (.int .i64 0)).setCell ⟨r, 6, none⟩ (.int .i64 0)).setCell ⟨r, 7, none⟩ (.int .i64 0)).setCell ⟨r, 8, none⟩ (.int .i64 0)) := ⟨_, rfl⟩
      obtain ⟨hwr, h6⟩ := set_nd hrb nd0
      change Wr r w1 (((((((((w1.setCell ⟨r, 0, none⟩ (.string ⟨#[]⟩)).setCell ⟨r, 1, none⟩ (.string ⟨#[]⟩)).setCell ⟨r, 2, none⟩ (.int .i64 0)).setCell ⟨r, 3, none⟩ (.int .i64 0)).setCell ⟨r, 4, none⟩ (.int .i64 0)).setCell ⟨r, 5, none⟩ (.int .i64 0)).setCell ⟨r, 6, none⟩ (.int .i64 0)).setCell ⟨r, 7, none⟩ (.int .i64 0)).setCell ⟨r, 8, none⟩ (.int .i64 0)) at hwr
      change (((((((((w1.setCell ⟨r, 0, none⟩ (.string ⟨#[]⟩)).setCell ⟨r, 1, none⟩ (.string ⟨#[]⟩)).setCell ⟨r, 2, none⟩ (.int .i64 0)).setCell ⟨r, 3, none⟩ (.int .i64 0)).setCell ⟨r, 4, none⟩ (.int .i64 0)).setCell ⟨r, 5, none⟩ (.int .i64 0)).setCell ⟨r, 6, none⟩ (.int .i64 0)).setCell ⟨r, 7, none⟩ (.int .i64 0)).setCell ⟨r, 8, none⟩ (.int .i64 0)).heap[r]? = some (.cells #[.string ⟨#[]⟩, .string ⟨#[]⟩, .int .i64 0, .int .i64 0, .int .i64 0, .int .i64 0, .int .i64 0, .int .i64 0, .int .i64 0] 132 (0, 0)) at h6
      rw [← hw6] at hwr h6
      have HE : Hid (RgPost T p w (.returned (.tuple #[.agg #[.string ⟨#[]⟩, .string ⟨#[]⟩, .int .i64 0, .int .i64 0, .int .i64 0, .int .i64 0, .int .i64 0, .int .i64 0, .int .i64 0], .bool false])) w6) := Lib.hid ⟨by rw [HGE.out]; rfl, HB1.out.trans (hwr.below.mono (by rw [ER.out]; exact Nat.le_refl _))⟩
      have r0 := cell_of hrb (j := 0) rfl
      have r1 := cell_of hrb (j := 1) rfl
      have r2 := cell_of hrb (j := 2) rfl
      have r3 := cell_of hrb (j := 3) rfl
      have r4 := cell_of hrb (j := 4) rfl
      have r5 := cell_of hrb (j := 5) rfl
      have r6 := cell_of hrb (j := 6) rfl
      have r7 := cell_of hrb (j := 7) rfl
      have r8 := cell_of hrb (j := 8) rfl
      have rf0 := frozen_of_row w1 _ 0 _ _ hrb
      have rf1 := frozen_of_row w1 _ 1 _ _ hrb
      have rf2 := frozen_of_row w1 _ 2 _ _ hrb
      have rf3 := frozen_of_row w1 _ 3 _ _ hrb
      have rf4 := frozen_of_row w1 _ 4 _ _ hrb
      have rf5 := frozen_of_row w1 _ 5 _ _ hrb
      have rf6 := frozen_of_row w1 _ 6 _ _ hrb
      have rf7 := frozen_of_row w1 _ 7 _ _ hrb
      have rf8 := frozen_of_row w1 _ 8 _ _ hrb
      have t0 := cell_of h6 (j := 0) rfl
      have t1 := cell_of h6 (j := 1) rfl
      have t2 := cell_of h6 (j := 2) rfl
      have t3 := cell_of h6 (j := 3) rfl
      have t4 := cell_of h6 (j := 4) rfl
      have t5 := cell_of h6 (j := 5) rfl
      have t6 := cell_of h6 (j := 6) rfl
      have t7 := cell_of h6 (j := 7) rfl
      have t8 := cell_of h6 (j := 8) rfl
      have HW6 := Lib.hid hw6
      clear hwr h6 hw6 hrb
      go_wp2_with fail
      rw [← HW6.out]
      exact bodyPost_ret (v := .tuple #[.agg #[.string ⟨#[]⟩, .string ⟨#[]⟩, .int .i64 0, .int .i64 0, .int .i64 0, .int .i64 0, .int .i64 0, .int .i64 0, .int .i64 0], .bool false]) (by simp [results, Tryz.results67, go_sem, t0, t1, t2, t3, t4, t5, t6, t7, t8]) rfl HE.out
end Go.Proofs.YtflgemlhocjipaaGreatDoor
