/-
  What the laws' own Apart and At return. Condition: not too many pairs.
-/
import Derived.Test.YtdlhjpcofldfnaaDoes
namespace Go.Proofs.Ytdlhjpcofldfnaa
set_option maxRecDepth 100000
open Go.ChangeShapes Go.WideShapes Go.ChangeAt Go.RowKit

/-- Memory holds pairs. -/
structure QReads (w : World) (A : Option Addr) (n : Nat) (l : List (Int × Int)) : Prop where
  len : l.length = n
  cells : 0 < n → ∃ b off, A = some ⟨b, off, none⟩ ∧ ∀ i, i < n → w.cell? ⟨b, off + i * 2, none⟩ = some (.int .i64 (l.getD i (0, 0)).1) ∧ w.cell? ⟨b, off + i * 2 + 1, none⟩ = some (.int .i64 (l.getD i (0, 0)).2)
theorem QReads.kept {w w' : World} {A : Option Addr} {n : Nat} {l : List (Int × Int)} (h : QReads w A n l) (hb : Below w.heap.size w w') : QReads w' A n l := by
  refine ⟨h.len, fun hn => ?_⟩
  obtain ⟨b, off, e, hc⟩ := h.cells hn
  refine ⟨b, off, e, fun i hi => ?_⟩
  obtain ⟨h1, h2⟩ := hc i hi
  exact ⟨(hb.cell (p := ⟨b, off + i * 2, none⟩) (cell_lt h1)).trans h1, (hb.cell (p := ⟨b, off + i * 2 + 1, none⟩) (cell_lt h2)).trans h2⟩
theorem QReads.round {w : World} {A : Option Addr} {n k : Nat} {l : List (Int × Int)} (h : QReads w A n l) (hk : k < n) : ∃ b off x, A = some ⟨b, off, none⟩ ∧ x ∈ l ∧ l.take (k + 1) = l.take k ++ [x] ∧
    w.cell? ⟨b, off + k * 2, none⟩ = some (.int .i64 x.1) ∧ w.cell? ⟨b, off + k * 2 + 1, none⟩ = some (.int .i64 x.2) := by
  obtain ⟨b, off, rfl, hc⟩ := h.cells (by omega)
  obtain ⟨h0, h1⟩ := hc k hk
  have hk' : k < l.length := by rw [h.len]; exact hk
  rw [getD_eq _ hk'] at h0 h1
  exact ⟨b, off, _, rfl, List.getElem_mem hk', List.take_succ_eq_append_getElem hk', h0, h1⟩
/-- Is it this pair? -/
def mtq (a b : Int) (p : Int × Int) : Bool := (p.1 == a && p.2 == b) || (p.1 == b && p.2 == a)
def nv (A1 : Option Addr) (n1 c1 : Nat) (A2 : Option Addr) (n2 c2 : Nat) : Value := .agg #[.slice A1 n1 c1, .slice A2 n2 c2]
set_option maxHeartbeats 4000000 in
theorem rapart_any {w : World} {A1 A2 : Option Addr} {n1 c1 n2 c2 : Nat} {qs : List (Int × Int)} (hq : QReads w A2 n2 qs) (hn : n2 ≤ 100000) (a b : Int) :
    Calls Try.prog 28 #[.agg #[.slice A1 n1 c1, .slice A2 n2 c2], .int .i64 a, .int .i64 b] w fun e w' => e = .returned (.bool (qs.any (mtq a b))) ∧ Below w.heap.size w w' := by
  obtain ⟨bz, hbz⟩ : ∃ b, b = w.heap.size := ⟨_, rfl⟩
  obtain ⟨w0, hw0⟩ : ∃ w0, w0 = w.alloc (.cells #[.slice A1 n1 c1, .slice A2 n2 c2] 29) := ⟨_, rfl⟩
  have hb0 : Below w.heap.size w w0 := by rw [hw0]; exact box_below w _
  have HX0 : Hid (w0.heap[bz]? = some (.cells #[.slice A1 n1 c1, .slice A2 n2 c2] 29 (0, 0))) := Lib.hid (by rw [hw0, hbz]; exact new_block w _)
  have HQ := Lib.hid hq
  have HW0 := Lib.hid hw0
  have HB0 := Lib.hid hb0
  have HBZ := Lib.hid hbz
  clear hq hw0 hb0 hbz
  go_enter Try.func28, Try.ntmps28
  go_upto_region 1 with fail
  rw [← HW0.out, ← HBZ.out]
  go_wp2_with fail
  go_loopw [7] (fun vk wr => ∃ k : Nat, k ≤ n2 ∧ vk = .int .i64 k ∧ (∀ p ∈ qs.take k, mtq a b p = false) ∧ wr.heap[bz]? = some (.cells #[.slice A1 n1 c1, .slice A2 n2 c2] 29 (0, 0)) ∧ Below w.heap.size w wr) (fun vk _ => n2 - (intOf vk).toNat)
  case atStart => exact ⟨0, Nat.zero_le _, rfl, (fun p hp => by cases hp), HX0.out, HB0.out⟩
  case round =>
    obtain ⟨k, hk, rfl, hno, hx, hbw⟩ := hrel
    have HNO := Lib.hid hno
    have HX := Lib.hid hx
    have HBW := Lib.hid hbw
    clear hno hx hbw
    have z0 := cell_of HX.out (j := 0) rfl
    have z1 := cell_of HX.out (j := 1) rfl
    by_cases hlt : k < n2
    · obtain ⟨b1, off, p, rfl, hp, htk, s0, s1⟩ := (HQ.out.kept HBW.out).round hlt
      have HP := Lib.hid hp
      have HTK := Lib.hid htk
      obtain ⟨bp, hbp⟩ : ∃ b, b = wr.heap.size := ⟨_, rfl⟩
      obtain ⟨w1, hw1⟩ : ∃ w1, w1 = wr.alloc (.cells #[.int .i64 p.1, .int .i64 p.2] 69) := ⟨_, rfl⟩
      have hb1 : Below wr.heap.size wr w1 := by rw [hw1]; exact box_below wr _
      have HX1 : Hid (w1.heap[bp]? = some (.cells #[.int .i64 p.1, .int .i64 p.2] 69 (0, 0))) := Lib.hid (by rw [hw1, hbp]; exact new_block wr _)
      have HY1 := Lib.hid ((hb1.block _ (Array.getElem?_eq_some_iff.1 HX.out).1).trans HX.out)
      have HB1 := Lib.hid (HBW.out.trans (hb1.mono HBW.out.size))
      have HW1 := Lib.hid hw1
      have HBP := Lib.hid hbp
      have hk0 : (0 : Int) ≤ (k : Int) := by omega
      have hk1 : (k : Int) < (n2 : Int) := by omega
      clear hp htk hw1 hb1 hbp
      go_upto_region 5 with fail
      rw [← HW1.out, ← HBP.out]
      have x0 := cell_of HX1.out (j := 0) rfl
      have x1 := cell_of HX1.out (j := 1) rfl
      obtain ⟨q1, hq1⟩ : ∃ q, (p.1 == a) = q := ⟨_, rfl⟩
      obtain ⟨q2, hq2⟩ : ∃ q, (p.2 == b) = q := ⟨_, rfl⟩
      obtain ⟨q3, hq3⟩ : ∃ q, (p.1 == b) = q := ⟨_, rfl⟩
      obtain ⟨q4, hq4⟩ : ∃ q, (p.2 == a) = q := ⟨_, rfl⟩
      have HM : Hid (mtq a b p = ((q1 && q2) || (q3 && q4))) := Lib.hid (by unfold mtq; rw [hq1, hq2, hq3, hq4])
      clear s0 s1 z0 z1
      cases q1 <;> cases q2 <;> cases q3 <;> cases q4
      all_goals
        go_wp2_with fail
        first
          | (go_ret; exact ⟨(by rw [List.any_eq_true.2 ⟨p, HP.out, HM.out⟩]; rfl), HB1.out⟩)
          | (go_round
             case rel => exact ⟨k + 1, by omega, by go_num, fun p' hp' => by (rw [HTK.out] at hp'; rcases List.mem_append.1 hp' with h | h; exact HNO.out p' h; rw [List.mem_singleton.1 h]; exact HM.out), HY1.out, HB1.out⟩
             case measure => simp [intOf]; omega)
    · obtain rfl : k = n2 := by omega
      have hk1 : ¬ (k : Int) < (k : Int) := by omega
      have HE : Hid (qs.any (mtq a b) = false) := Lib.hid (by
        rw [List.any_eq_false]
        intro p hp h
        have := HNO.out p (by rw [List.take_of_length_le (by rw [HQ.out.len]; exact Nat.le_refl _)]; exact hp)
        rw [this] at h; cases h)
      go_wp2_with fail
      go_ret
      exact ⟨(by rw [HE.out]; rfl), HBW.out⟩
theorem preads_at {w : World} {A : Option Addr} {n k : Nat} {l : List Pk} (h : PReads w A n l) (hk : k < n) : ∃ b off, A = some ⟨b, off, none⟩ ∧ w.cell? ⟨b, off + k * 3, none⟩ = some (.int .i64 (l.getD k pk0).f) ∧ w.cell? ⟨b, off + k * 3 + 1, none⟩ = some (.int .i64 (l.getD k pk0).t) ∧ w.cell? ⟨b, off + k * 3 + 2, none⟩ = some (.string (l.getD k pk0).b) := by
  obtain ⟨b, off, rfl, hc⟩ := h.cells (by omega)
  exact ⟨b, off, rfl, hc k hk⟩
set_option maxHeartbeats 4000000 in
theorem rat_any {w : World} {A1 A2 : Option Addr} {n1 c1 n2 c2 : Nat} {L : List Pk} (hp : PReads w A1 n1 L) (k : Int) :
    Calls Try.prog 25 #[.agg #[.slice A1 n1 c1, .slice A2 n2 c2], .int .i64 k] w (AtPost w L k) := by
  obtain ⟨bz, hbz⟩ : ∃ b, b = w.heap.size := ⟨_, rfl⟩
  obtain ⟨w0, hw0⟩ : ∃ w0, w0 = w.alloc (.cells #[.slice A1 n1 c1, .slice A2 n2 c2] 29) := ⟨_, rfl⟩
  obtain ⟨r, hr⟩ : ∃ b, b = w.heap.size + 1 := ⟨_, rfl⟩
  have hr1 : r = w0.heap.size := by rw [hr, hw0]; simp
  obtain ⟨w1, hw1⟩ : ∃ w1, w1 = w0.alloc (.cells #[.int .i64 0, .int .i64 0, .string ⟨#[]⟩] 31) := ⟨_, rfl⟩
  have hb0 : Below w.heap.size w w0 := by rw [hw0]; exact box_below w _
  have hb1 : Below w0.heap.size w0 w1 := by rw [hw1]; exact box_below w0 _
  have hb01 := hb0.trans (hb1.mono hb0.size)
  have hx0 : w0.heap[bz]? = some (.cells #[.slice A1 n1 c1, .slice A2 n2 c2] 29 (0, 0)) := by rw [hw0, hbz]; exact new_block w _
  have HX0 := Lib.hid ((hb1.block _ (Array.getElem?_eq_some_iff.1 hx0).1).trans hx0)
  have HR1 : Hid (w1.heap[r]? = some (.cells #[.int .i64 0, .int .i64 0, .string ⟨#[]⟩] 31 (0, 0))) := Lib.hid (by rw [hw1, hr1]; exact new_block w0 _)
  have HP := Lib.hid (hp.kept hb01)
  have HL := Lib.hid hp.len
  have HW0 := Lib.hid hw0
  have HW1 := Lib.hid hw1
  have HB := Lib.hid hb01
  have HBZ := Lib.hid hbz
  have HRE := Lib.hid hr
  have HRS : Hid (w.heap.size ≤ r) := Lib.hid (by omega)
  clear hp hw0 hw1 hb0 hb1 hb01 hx0 hbz hr hr1
  have z0 := cell_of HX0.out (j := 0) rfl
  have r0 := cell_of HR1.out (j := 0) rfl
  have r1 := cell_of HR1.out (j := 1) rfl
  have r2 := cell_of HR1.out (j := 2) rfl
  have f0 := frozen_of_row w1 r 0 _ _ HR1.out
  have f1 := frozen_of_row w1 r 1 _ _ HR1.out
  have f2 := frozen_of_row w1 r 2 _ _ HR1.out
  by_cases hk : 0 ≤ k ∧ k < (n1 : Int)
  · obtain ⟨j, rfl⟩ : ∃ j : Nat, k = (j : Int) := ⟨k.toNat, by omega⟩
    obtain ⟨b1, off, rfl, s0, s1, s2⟩ := preads_at HP.out (show j < n1 by omega)
    obtain ⟨x, hx⟩ : ∃ x, x = L.getD j pk0 := ⟨_, rfl⟩
    rw [← hx] at s0 s1 s2
    have HA : Hid (atL L (j : Int) = (x, true)) := Lib.hid (by unfold atL; rw [if_pos ⟨hk.1, by rw [HL.out]; exact hk.2⟩, hx, Int.toNat_natCast])
    obtain ⟨w6, hw6⟩ : ∃ w6, w6 = ((w1.setCell ⟨r, 0, none⟩ (.int .i64 x.f)).setCell ⟨r, 1, none⟩ (.int .i64 x.t)).setCell ⟨r, 2, none⟩ (.string x.b) := ⟨_, rfl⟩
    obtain ⟨hwr, hx6⟩ := set_pk HR1.out x
    rw [← hw6] at hwr hx6
    have HE : Hid (AtPost w L (j : Int) (.returned (.tuple #[.agg #[.int .i64 x.f, .int .i64 x.t, .string x.b], .bool true])) w6) := Lib.hid ⟨by rw [HA.out]; rfl, HB.out.trans (hwr.below.mono HRS.out)⟩
    have t0 := cell_of hx6 (j := 0) rfl
    have t1 := cell_of hx6 (j := 1) rfl
    have t2 := cell_of hx6 (j := 2) rfl
    have HW6 := Lib.hid hw6
    have h0 := hk.1
    have h1 := hk.2
    clear hwr hx6 hw6 hx hk
    go_enter Try.func25, Try.ntmps25
    go_upto_region 1 with fail
    rw [← HW0.out, ← HW1.out, ← HRE.out, ← HBZ.out]
    go_wp2_with fail
    rw [← HW6.out]
    exact bodyPost_ret (v := .tuple #[.agg #[.int .i64 x.f, .int .i64 x.t, .string x.b], .bool true]) (by simp [results, Try.results25, go_sem, t0, t1, t2]) rfl HE.out
  · have HA : Hid (atL L k = (pk0, false)) := Lib.hid (by unfold atL; rw [if_neg (by rw [HL.out]; exact hk)])
    obtain ⟨w6, hw6⟩ : ∃ w6, w6 = ((w1.setCell ⟨r, 0, none⟩ (.int .i64 0)).setCell ⟨r, 1, none⟩ (.int .i64 0)).setCell ⟨r, 2, none⟩ (.string ⟨#[]⟩) := ⟨_, rfl⟩
    obtain ⟨hwr, hx6⟩ := set_zero HR1.out
    rw [← hw6] at hwr hx6
    have HE : Hid (AtPost w L k (.returned (.tuple #[.agg #[.int .i64 0, .int .i64 0, .string ⟨#[]⟩], .bool false])) w6) := Lib.hid ⟨by rw [HA.out]; rfl, HB.out.trans (hwr.below.mono HRS.out)⟩
    have t0 := cell_of hx6 (j := 0) rfl
    have t1 := cell_of hx6 (j := 1) rfl
    have t2 := cell_of hx6 (j := 2) rfl
    have HW6 := Lib.hid hw6
    have hkk : k < 0 ∨ (0 ≤ k ∧ (n1 : Int) ≤ k) := by omega
    clear hwr hx6 hw6 hk
    rcases hkk with h0 | ⟨h0, h1⟩
    all_goals
      go_enter Try.func25, Try.ntmps25
      go_upto_region 1 with fail
      rw [← HW0.out, ← HW1.out, ← HRE.out, ← HBZ.out]
      go_wp2_with fail
      rw [← HW6.out]
      exact bodyPost_ret (v := .tuple #[.agg #[.int .i64 0, .int .i64 0, .string ⟨#[]⟩], .bool false]) (by simp [results, Try.results25, go_sem, t0, t1, t2]) rfl HE.out
end Go.Proofs.Ytdlhjpcofldfnaa
