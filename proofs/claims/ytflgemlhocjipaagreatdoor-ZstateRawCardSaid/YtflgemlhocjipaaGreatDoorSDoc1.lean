/-
  What the document's own New, Find, forget and SameReply return, and the laws' own and plain. Condition: memory holds the states.
-/
import Derived.Test.YtflgemlhocjipaaGreatDoorSMem
import Derived.Test.YtflgemlhocjipaaGreatDoorRef6
namespace Go.Proofs.YtflgemlhocjipaaGreatDoor
set_option maxRecDepth 100000
open Go.ChangeShapes Go.WideShapes Go.ChangeAt Go.RowKit Go.Proofs.Zn Go.Proofs.Zt
open Go.Proofs.Zs (St Lst Rep Tx)

theorem lvcell_one (x : Lv) : ∀ u ∈ lvcell x, u.oneCell' = true := fun u hu => by
  simp only [lvcell, List.mem_cons, List.not_mem_nil, or_false] at hu
  rcases hu with rfl | rfl | rfl | rfl | rfl <;> rfl
def lvcells (l : List Lv) : List Value := l.flatMap lvcell
theorem lvcells_append (a b : List Lv) : lvcells (a ++ b) = lvcells a ++ lvcells b := by simp [lvcells]
theorem LsW.nil (w : World) (B : Nat) : LsW w B (.slice none 0 0) [] := ⟨none, 0, [], rfl, ⟨Rd.nil _ _ _ _, fun h => absurd h (by simp), fun x hx => (by cases hx)⟩, rfl⟩
theorem DV.nil (w : World) (B : Nat) : Lq.DV w B (.slice none 0 0) [] := ⟨none, 0, rfl, Lq.DR.nil w B⟩
/-! ### Find -/
def FdPost (B : Nat) (D : List Lst) (s : Int) (w : World) (e : Ending) (w' : World) : Prop := ∃ x : Lv, e = .returned (.agg #[.int .i64 x.s, .int .i64 x.n, .int .i64 x.c, .int .i64 x.rs, .slice x.A x.m x.k]) ∧ lvL x = Zs.fd D s ∧ LvOk w' B x ∧ Below w.heap.size w w'
theorem lk_drop {l : List Lv} {k : Nat} {x : Lv} {s : Int} (hx : l[k]? = some x) (h : Zs.lk (l.map lvL) s = Zs.lk ((l.drop k).map lvL) s) : (x.s = s → Zs.lk (l.map lvL) s = some (lvL x)) ∧ (x.s ≠ s → Zs.lk (l.map lvL) s = Zs.lk ((l.drop (k + 1)).map lvL) s) := by
  obtain ⟨hk, rfl⟩ := List.getElem?_eq_some_iff.1 hx
  rw [List.drop_eq_getElem_cons hk, List.map_cons] at h
  refine ⟨fun e => ?_, fun e => ?_⟩
  · rw [h]; unfold Zs.lk; rw [List.find?_cons_of_pos (by simp [lvL, e])]
  · rw [h]; unfold Zs.lk; rw [List.find?_cons_of_neg (by simp [lvL, e])]
set_option maxHeartbeats 2000000 in
theorem vfind_any {w : World} {B : Nat} {A : Option Addr} {c : Nat} {l : List Lv} (h : LsR w B A l) (hn : l.length ≤ 1000000) (z : Int) (vT vL : Value) (_hT : vT.oneCell' = true) (_hL : vL.oneCell' = true) (s : Int) :
    Calls Tryz.prog 50 #[.agg #[.int .i64 z, vT, vL, .slice A l.length c], .int .i64 s] w (FdPost B (l.map lvL) s w) := by
  obtain ⟨w1, hw1, hbw1, hkq, hkr, hsw1⟩ := two_box w (.cells #[.int .i64 z, vT, vL, .slice A l.length c] 31) (.cells #[.int .i64 0, .int .i64 0, .int .i64 0, .int .i64 0, .slice none 0 0] 102)
  obtain ⟨q, eq⟩ : ∃ xx, xx = w.heap.size := ⟨_, rfl⟩
  obtain ⟨r, er⟩ : ∃ xx, xx = w.heap.size + 1 := ⟨_, rfl⟩
  rw [← eq] at hkq
  rw [← er] at hkr
  have HR := Lib.hid (h.sk (.of_below hbw1))
  have H0 := Lib.hid h
  have hle : w.heap.size ≤ r := by omega
  have HB1 := Lib.hid hbw1
  have HRB := Lib.hid hkr
  have HLE := Lib.hid hle
  have HW1 := Lib.hid hw1
  have ER := Lib.hid er
  have EQ := Lib.hid eq
  obtain ⟨n, hnn⟩ : ∃ n, l.length = n := ⟨_, rfl⟩
  rw [hnn] at hkq hn ⊢
  have HNN := Lib.hid hnn
  rw [hnn] at HW1
  have s3 := cell_of hkq (j := 3) rfl
  clear h hw1 er eq hbw1 hkr hkq hsw1 hle hnn
  go_enter Tryz.func50, Tryz.ntmps50
  go_upto_region 1 with fail
  rw [← HW1.out, ← ER.out, ← EQ.out]
  go_wp2_with fail
  go_loop [5] (fun i => ∃ k : Nat, k ≤ n ∧ i = .int .i64 k ∧ Hid (Zs.lk (l.map lvL) s = Zs.lk ((l.drop k).map lvL) s)) (fun i => n - (intOf i).toNat)
  case atStart => exact ⟨0, Nat.zero_le _, rfl, Lib.hid rfl⟩
  case round =>
    obtain ⟨k, hk, rfl, HG⟩ := hrel
    have hrb := HRB.out
    by_cases hlt : k < n
    · obtain ⟨b, off, x, rfl, hx, hc⟩ := HR.out.rd.at (show k < l.length by rw [HNN.out]; exact hlt)
      obtain ⟨g1, g2⟩ := lk_drop hx HG.out
      have G1 := Lib.hid g1
      have G2 := Lib.hid g2
      have HOK := Lib.hid (H0.out.each x (List.mem_of_getElem? hx))
      have a0 : w1.cell? ⟨b, off + k * 5, none⟩ = some (.int .i64 x.s) := hc 0 _ rfl
      have a1 : w1.cell? ⟨b, off + k * 5 + 1, none⟩ = some (.int .i64 x.n) := hc 1 _ rfl
      have a2 : w1.cell? ⟨b, off + k * 5 + 2, none⟩ = some (.int .i64 x.c) := hc 2 _ rfl
      have a3 : w1.cell? ⟨b, off + k * 5 + 3, none⟩ = some (.int .i64 x.rs) := hc 3 _ rfl
      have a4 : w1.cell? ⟨b, off + k * 5 + 4, none⟩ = some (.slice x.A x.m x.k) := hc 4 _ rfl
      obtain ⟨t, ht⟩ : ∃ t, (x.s == s) = t := ⟨_, rfl⟩
      have HTT := Lib.hid ht
      clear hx hc g1 g2
      cases t with
      | true =>
        have HGE : Hid (Zs.lk (l.map lvL) s = some (lvL x)) := Lib.hid (G1.out (by simpa using HTT.out))
        obtain ⟨w6, hw6⟩ : ∃ xx, xx = (((((w1.setCell ⟨r, 0, none⟩ (.int .i64 x.s)).setCell ⟨r, 1, none⟩ (.int .i64 x.n)).setCell ⟨r, 2, none⟩ (.int .i64 x.c)).setCell ⟨r, 3, none⟩ (.int .i64 x.rs)).setCell ⟨r, 4, none⟩ (.slice x.A x.m x.k)) := ⟨_, rfl⟩
        obtain ⟨hwrw6, hkw6⟩ := set5 hrb (.int .i64 x.s) (.int .i64 x.n) (.int .i64 x.c) (.int .i64 x.rs) (.slice x.A x.m x.k)
        rw [← hw6] at hwrw6 hkw6
        have HE : Hid (FdPost B (l.map lvL) s w (.returned (.agg #[.int .i64 x.s, .int .i64 x.n, .int .i64 x.c, .int .i64 x.rs, .slice x.A x.m x.k])) w6) := Lib.hid ⟨x, rfl, (Zs.fd_some HGE.out).symm, HOK.out.sk (.of_below (HB1.out.trans (hwrw6.below.mono HLE.out))), HB1.out.trans (hwrw6.below.mono HLE.out)⟩
        have y0 := cell_of hrb (j := 0) rfl
        have y1 := cell_of hrb (j := 1) rfl
        have y2 := cell_of hrb (j := 2) rfl
        have y3 := cell_of hrb (j := 3) rfl
        have y4 := cell_of hrb (j := 4) rfl
        have rf0 := frozen_of_row w1 _ 0 _ _ hrb
        have rf1 := frozen_of_row w1 _ 1 _ _ hrb
        have rf2 := frozen_of_row w1 _ 2 _ _ hrb
        have rf3 := frozen_of_row w1 _ 3 _ _ hrb
        have rf4 := frozen_of_row w1 _ 4 _ _ hrb
        have t0 := cell_of hkw6 (j := 0) rfl
        have t1 := cell_of hkw6 (j := 1) rfl
        have t2 := cell_of hkw6 (j := 2) rfl
        have t3 := cell_of hkw6 (j := 3) rfl
        have t4 := cell_of hkw6 (j := 4) rfl
        have HW6 := Lib.hid hw6
        clear hwrw6 hkw6 hw6 hrb
        go_wp2_with fail
        rw [← HW6.out]
        exact bodyPost_ret (v := .agg #[.int .i64 x.s, .int .i64 x.n, .int .i64 x.c, .int .i64 x.rs, .slice x.A x.m x.k]) (by simp [results, Tryz.results50, go_sem, t0, t1, t2, t3, t4]) rfl HE.out
      | false =>
        have HG2 : Hid (Zs.lk (l.map lvL) s = Zs.lk ((l.drop (k + 1)).map lvL) s) := Lib.hid (G2.out (by simpa using HTT.out))
        clear hrb
        go_wp2_with fail
        go_round
        case rel => exact ⟨k + 1, hlt, by go_num, HG2⟩
        case measure => simp [intOf]; omega
    · have HGE : Hid (Zs.lk (l.map lvL) s = none) := Lib.hid (by rw [HG.out, List.drop_of_length_le (by rw [HNN.out]; omega)]; rfl)
      obtain ⟨w6, hw6⟩ : ∃ xx, xx = (((((w1.setCell ⟨r, 0, none⟩ (.int .i64 s)).setCell ⟨r, 1, none⟩ (.int .i64 0)).setCell ⟨r, 2, none⟩ (.int .i64 0)).setCell ⟨r, 3, none⟩ (.int .i64 0)).setCell ⟨r, 4, none⟩ (.slice none 0 0)) := ⟨_, rfl⟩
      obtain ⟨hwrw6, hkw6⟩ := set5 hrb (.int .i64 s) (.int .i64 0) (.int .i64 0) (.int .i64 0) (.slice none 0 0)
      rw [← hw6] at hwrw6 hkw6
      have HE : Hid (FdPost B (l.map lvL) s w (.returned (.agg #[.int .i64 s, .int .i64 0, .int .i64 0, .int .i64 0, .slice none 0 0])) w6) := Lib.hid ⟨⟨s, 0, 0, 0, none, 0, 0, []⟩, rfl, (Zs.fd_zero HGE.out).symm, ⟨Rd.nil _ _ _ _, fun h => absurd h (by simp)⟩, HB1.out.trans (hwrw6.below.mono HLE.out)⟩
      have y0 := cell_of hrb (j := 0) rfl
      have y1 := cell_of hrb (j := 1) rfl
      have y2 := cell_of hrb (j := 2) rfl
      have y3 := cell_of hrb (j := 3) rfl
      have y4 := cell_of hrb (j := 4) rfl
      have rf0 := frozen_of_row w1 _ 0 _ _ hrb
      have rf1 := frozen_of_row w1 _ 1 _ _ hrb
      have rf2 := frozen_of_row w1 _ 2 _ _ hrb
      have rf3 := frozen_of_row w1 _ 3 _ _ hrb
      have rf4 := frozen_of_row w1 _ 4 _ _ hrb
      have t0 := cell_of hkw6 (j := 0) rfl
      have t1 := cell_of hkw6 (j := 1) rfl
      have t2 := cell_of hkw6 (j := 2) rfl
      have t3 := cell_of hkw6 (j := 3) rfl
      have t4 := cell_of hkw6 (j := 4) rfl
      have HW6 := Lib.hid hw6
      clear hwrw6 hkw6 hw6 hrb
      go_wp2_with fail
      rw [← HW6.out]
      exact bodyPost_ret (v := .agg #[.int .i64 s, .int .i64 0, .int .i64 0, .int .i64 0, .slice none 0 0]) (by simp [results, Tryz.results50, go_sem, t0, t1, t2, t3, t4]) rfl HE.out
/-! ### forget -/
/-! ### Replies compared; own, plain -/
set_option maxHeartbeats 1000000 in
theorem samereply_any {w : World} {A1 A2 : Option Addr} {c1 c2 : Nat} {ps : List Txt} (h1 : Rd scell 1 w A1 ps.length ps) (h2 : Rd scell 1 w A2 ps.length ps) (hn : ps.length ≤ 100000) (c s : Int) :
    Calls Tryz.prog 19 #[.agg #[.int .i64 c, .int .i64 s, .slice A1 ps.length c1], .agg #[.int .i64 c, .int .i64 s, .slice A2 ps.length c2]] w fun e w' => e = .returned (.bool true) ∧ Below w.heap.size w w' := by
  obtain ⟨w1, hw1, hbw1, hkq, hkr, hsw1⟩ := two_box w (.cells #[.int .i64 c, .int .i64 s, .slice A1 ps.length c1] 50) (.cells #[.int .i64 c, .int .i64 s, .slice A2 ps.length c2] 50)
  obtain ⟨q, eq⟩ : ∃ xx, xx = w.heap.size := ⟨_, rfl⟩
  obtain ⟨r, er⟩ : ∃ xx, xx = w.heap.size + 1 := ⟨_, rfl⟩
  rw [← eq] at hkq
  rw [← er] at hkr
  have HC := Lib.hid (rsametexts_any (c := c1) (c2 := c2) (h1.below hbw1) (h2.below hbw1) (by omega))
  have q0 := cell_of hkq (j := 0) rfl
  have q1 := cell_of hkq (j := 1) rfl
  have q2 := cell_of hkq (j := 2) rfl
  have r0 := cell_of hkr (j := 0) rfl
  have r1 := cell_of hkr (j := 1) rfl
  have r2 := cell_of hkr (j := 2) rfl
  have HB1 := Lib.hid hbw1
  have HW1 := Lib.hid hw1
  have ER := Lib.hid er
  have EQ := Lib.hid eq
  have tc : (c == c) = true := by simp
  have ts : (s == s) = true := by simp
  clear h1 h2 hw1 er eq hbw1 hkr hkq hsw1
  go_enter Tryz.func19, Tryz.ntmps19
  go_upto_region 1 with fail
  rw [← HW1.out, ← ER.out, ← EQ.out]
  go_wp2_with fail
  refine HC.out.mono ?_
  rintro e w2 ⟨rfl, hb2⟩
  have HB2 := Lib.hid (HB1.out.trans (hb2.mono HB1.out.size))
  clear hb2
  go_wp2_with fail
  go_ret
  exact ⟨rfl, HB2.out⟩
set_option maxHeartbeats 1000000 in
theorem plain_any (w : World) (c s : Int) (A : Option Addr) (n k : Nat) : Calls Tryz.prog 20 #[.agg #[.int .i64 c, .int .i64 s, .slice A n k]] w fun e w' => e = .returned (.agg #[.int .i64 c, .int .i64 s, .slice A n k]) ∧ Below w.heap.size w w' := by
  obtain ⟨w1, hw1, hbw1, hkq, hkr, hsw1⟩ := two_box w (.cells #[.int .i64 c, .int .i64 s, .slice A n k] 42) (.cells #[.int .i64 0, .int .i64 0, .slice none 0 0] 50)
  obtain ⟨q, eq⟩ : ∃ xx, xx = w.heap.size := ⟨_, rfl⟩
  obtain ⟨r, er⟩ : ∃ xx, xx = w.heap.size + 1 := ⟨_, rfl⟩
  rw [← eq] at hkq
  rw [← er] at hkr
  have hle : w.heap.size ≤ r := by omega
  obtain ⟨w6, hw6⟩ : ∃ xx, xx = (((w1.setCell ⟨r, 0, none⟩ (.int .i64 c)).setCell ⟨r, 1, none⟩ (.int .i64 s)).setCell ⟨r, 2, none⟩ (.slice A n k)) := ⟨_, rfl⟩
  obtain ⟨hwrw6, hkw6⟩ := set3 hkr (.int .i64 c) (.int .i64 s) (.slice A n k)
  rw [← hw6] at hwrw6 hkw6
  have HE : Hid (Below w.heap.size w w6) := Lib.hid (hbw1.trans (hwrw6.below.mono hle))
  have q0 := cell_of hkq (j := 0) rfl
  have q1 := cell_of hkq (j := 1) rfl
  have q2 := cell_of hkq (j := 2) rfl
  have y0 := cell_of hkr (j := 0) rfl
  have y1 := cell_of hkr (j := 1) rfl
  have y2 := cell_of hkr (j := 2) rfl
  have g0 := frozen_of_row w1 _ 0 _ _ hkr
  have g1 := frozen_of_row w1 _ 1 _ _ hkr
  have g2 := frozen_of_row w1 _ 2 _ _ hkr
  have z0 := cell_of hkw6 (j := 0) rfl
  have z1 := cell_of hkw6 (j := 1) rfl
  have z2 := cell_of hkw6 (j := 2) rfl
  have HW1 := Lib.hid hw1
  have HW6 := Lib.hid hw6
  have ER := Lib.hid er
  have EQ := Lib.hid eq
  clear hw1 er eq hbw1 hkr hkq hsw1 hle hw6 hwrw6 hkw6
  go_enter Tryz.func20, Tryz.ntmps20
  go_upto_region 1 with fail
  rw [← HW1.out, ← ER.out, ← EQ.out]
  go_wp2_with fail
  rw [← HW6.out]
  exact bodyPost_ret (v := .agg #[.int .i64 c, .int .i64 s, .slice A n k]) (by simp [results, Tryz.results20, go_sem, z0, z1, z2]) rfl ⟨rfl, HE.out⟩
end Go.Proofs.YtflgemlhocjipaaGreatDoor
