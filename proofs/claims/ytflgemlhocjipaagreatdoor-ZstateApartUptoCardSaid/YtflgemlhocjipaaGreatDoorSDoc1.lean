/-
  What the document's own New, Find, forget and SameReply return, and the laws' own and plain. Condition: memory holds the states.
-/
import Derived.Test.YtflgemlhocjipaaGreatDoorSMem
import Derived.Test.YtflgemlhocjipaaGreatDoorRef6
namespace Go.Proofs.YtflgemlhocjipaaGreatDoor
set_option maxRecDepth 100000
open Go.ChangeShapes Go.WideShapes Go.ChangeAt Go.RowKit Go.Proofs.Zn Go.Proofs.Zt
open Go.Proofs.Zs (St Lst Rep Tx)

theorem lvcell_one (x : Lv) : ∀ u ∈ lvcell x, u.oneCell' = true := fun u hu => by
  simp only [lvcell, List.mem_cons, List.not_mem_nil, or_false] at hu
  rcases hu with rfl | rfl | rfl | rfl | rfl <;> rfl
def lvcells (l : List Lv) : List Value := l.flatMap lvcell
theorem lvcells_append (a b : List Lv) : lvcells (a ++ b) = lvcells a ++ lvcells b := by simp [lvcells]
def VnPost (B : Nat) (w : World) (e : Ending) (w' : World) : Prop := ∃ vT, e = .returned (.agg #[.int .i64 0, vT, .slice none 0 0, .slice none 0 0]) ∧ RW w' B vT (.slice none 0 0) (.slice none 0 0) Zs.new ∧ Below w.heap.size w w'
theorem LsW.nil (w : World) (B : Nat) : LsW w B (.slice none 0 0) [] := ⟨none, 0, [], rfl, ⟨Rd.nil _ _ _ _, fun h => absurd h (by simp), fun x hx => (by cases hx)⟩, rfl⟩
theorem DV.nil (w : World) (B : Nat) : Lq.DV w B (.slice none 0 0) [] := ⟨none, 0, rfl, Lq.DR.nil w B⟩
theorem vnew_any (w : World) (B : Nat) : Calls Tryz.prog 14 #[] w (VnPost B w) := by
  obtain ⟨w1, hw1⟩ : ∃ xx, xx = w.alloc (.cells #[.int .i64 0, .slice none 0 0, .slice none 0 0, .slice none 0 0] 31) := ⟨_, rfl⟩
  obtain ⟨r, er⟩ : ∃ xx, xx = w.heap.size := ⟨_, rfl⟩
  have hbw1 : Below w.heap.size w w1 := by rw [hw1]; exact box_below w _
  have hkr : w1.heap[r]? = some (.cells #[.int .i64 0, .slice none 0 0, .slice none 0 0, .slice none 0 0] 31 (0, 0)) := by rw [hw1, er]; exact new_block w _
  have HC := Lib.hid (rnew_any w1)
  have HB1 := Lib.hid hbw1
  have HR1 := Lib.hid hkr
  have HW1 := Lib.hid hw1
  have ER := Lib.hid er
  have HLE : Hid (w.heap.size ≤ r) := Lib.hid (Nat.le_of_eq er.symm)
  clear hw1 hbw1 hkr er
  go_enter Tryz.func14, Tryz.ntmps14
  go_upto_region 1 with fail
  rw [← HW1.out, ← ER.out]
  go_wp2_with fail
  refine HC.out.mono ?_
  rintro e w2 ⟨v, rfl, hv, hb2⟩
  obtain ⟨A, c, rfl, -, -, -⟩ := own_form hv
  have hr2 := blk_below HR1.out hb2
  obtain ⟨w3, hw3⟩ : ∃ xx, xx = ((((w2.setCell ⟨r, 0, none⟩ (.int .i64 0)).setCell ⟨r, 1, none⟩ (.slice A (List.length Zt.new) c)).setCell ⟨r, 2, none⟩ (.slice none 0 0)).setCell ⟨r, 3, none⟩ (.slice none 0 0)) := ⟨_, rfl⟩
  obtain ⟨hwrw3, hkw3⟩ := set4 hr2 (.int .i64 0) (.slice A (List.length Zt.new) c) (.slice none 0 0) (.slice none 0 0)
  rw [← hw3] at hwrw3 hkw3
  have hv3 := own_gb hv hwrw3.gb (own_ne hv hr2 (by decide))
  have HE : Hid (VnPost B w (.returned (.agg #[.int .i64 0, .slice A (List.length Zt.new) c, .slice none 0 0, .slice none 0 0])) w3) := Lib.hid
    ⟨_, rfl, ⟨TrW.of_own hv3, DV.nil _ _, LsW.nil _ _⟩, (HB1.out.trans (hb2.mono HB1.out.size)).trans (hwrw3.below.mono HLE.out)⟩
  have y0 := cell_of hr2 (j := 0) rfl
  have y1 := cell_of hr2 (j := 1) rfl
  have y2 := cell_of hr2 (j := 2) rfl
  have y3 := cell_of hr2 (j := 3) rfl
  have g0 := frozen_of_row w2 _ 0 _ _ hr2
  have g1 := frozen_of_row w2 _ 1 _ _ hr2
  have g2 := frozen_of_row w2 _ 2 _ _ hr2
  have g3 := frozen_of_row w2 _ 3 _ _ hr2
  have z0 := cell_of hkw3 (j := 0) rfl
  have z1 := cell_of hkw3 (j := 1) rfl
  have z2 := cell_of hkw3 (j := 2) rfl
  have z3 := cell_of hkw3 (j := 3) rfl
  have HW3 := Lib.hid hw3
  clear hv hb2 hr2 hw3 hwrw3 hkw3 hv3
  go_wp2_with fail
  rw [← HW3.out]
  exact bodyPost_ret (v := .agg #[.int .i64 0, .slice A (List.length Zt.new) c, .slice none 0 0, .slice none 0 0]) (by simp [results, Tryz.results14, go_sem, z0, z1, z2, z3]) rfl HE.out
/-! ### Find -/
def FdPost (B : Nat) (D : List Lst) (s : Int) (w : World) (e : Ending) (w' : World) : Prop := ∃ x : Lv, e = .returned (.agg #[.int .i64 x.s, .int .i64 x.n, .int .i64 x.c, .int .i64 x.rs, .slice x.A x.m x.k]) ∧ lvL x = Zs.fd D s ∧ LvOk w' B x ∧ Below w.heap.size w w'
theorem lk_drop {l : List Lv} {k : Nat} {x : Lv} {s : Int} (hx : l[k]? = some x) (h : Zs.lk (l.map lvL) s = Zs.lk ((l.drop k).map lvL) s) : (x.s = s → Zs.lk (l.map lvL) s = some (lvL x)) ∧ (x.s ≠ s → Zs.lk (l.map lvL) s = Zs.lk ((l.drop (k + 1)).map lvL) s) := by
  obtain ⟨hk, rfl⟩ := List.getElem?_eq_some_iff.1 hx
  rw [List.drop_eq_getElem_cons hk, List.map_cons] at h
  refine ⟨fun e => ?_, fun e => ?_⟩
  · rw [h]; unfold Zs.lk; rw [List.find?_cons_of_pos (by simp [lvL, e])]
  · rw [h]; unfold Zs.lk; rw [List.find?_cons_of_neg (by simp [lvL, e])]
set_option maxHeartbeats 2000000 in
theorem vfind_any {w : World} {B : Nat} {A : Option Addr} {c : Nat} {l : List Lv} (h : LsR w B A l) (hn : l.length ≤ 1000000) (z : Int) (vT vL : Value) (_hT : vT.oneCell' = true) (_hL : vL.oneCell' = true) (s : Int) :
    Calls Tryz.prog 50 #[.agg #[.int .i64 z, vT, vL, .slice A l.length c], .int .i64 s] w (FdPost B (l.map lvL) s w) := by
  obtain ⟨w1, hw1, hbw1, hkq, hkr, hsw1⟩ := two_box w (.cells #[.int .i64 z, vT, vL, .slice A l.length c] 31) (.cells #[.int .i64 0, .int .i64 0, .int .i64 0, .int .i64 0, .slice none 0 0] 102)
  obtain ⟨q, eq⟩ : ∃ xx, xx = w.heap.size := ⟨_, rfl⟩
  obtain ⟨r, er⟩ : ∃ xx, xx = w.heap.size + 1 := ⟨_, rfl⟩
  rw [← eq] at hkq
  rw [← er] at hkr
  have HR := Lib.hid (h.sk (.of_below hbw1))
  have H0 := Lib.hid h
  have hle : w.heap.size ≤ r := by omega
  have HB1 := Lib.hid hbw1
  have HRB := Lib.hid hkr
  have HLE := Lib.hid hle
  have HW1 := Lib.hid hw1
  have ER := Lib.hid er
  have EQ := Lib.hid eq
  obtain ⟨n, hnn⟩ : ∃ n, l.length = n := ⟨_, rfl⟩
  rw [hnn] at hkq hn ⊢
  have HNN := Lib.hid hnn
  rw [hnn] at HW1
  have s3 := cell_of hkq (j := 3) rfl
  clear h hw1 er eq hbw1 hkr hkq hsw1 hle hnn
  go_enter Tryz.func50, Tryz.ntmps50
  go_upto_region 1 with fail
  rw [← HW1.out, ← ER.out, ← EQ.out]
  go_wp2_with fail
  go_loop [5] (fun i => ∃ k : Nat, k ≤ n ∧ i = .int .i64 k ∧ Hid (Zs.lk (l.map lvL) s = Zs.lk ((l.drop k).map lvL) s)) (fun i => n - (intOf i).toNat)
  case atStart => exact ⟨0, Nat.zero_le _, rfl, Lib.hid rfl⟩
  case round =>
    obtain ⟨k, hk, rfl, HG⟩ := hrel
    have hrb := HRB.out
    by_cases hlt : k < n
    · obtain ⟨b, off, x, rfl, hx, hc⟩ := HR.out.rd.at (show k < l.length by rw [HNN.out]; exact hlt)
      obtain ⟨g1, g2⟩ := lk_drop hx HG.out
      have G1 := Lib.hid g1
      have G2 := Lib.hid g2
      have HOK := Lib.hid (H0.out.each x (List.mem_of_getElem? hx))
      have a0 : w1.cell? ⟨b, off + k * 5, none⟩ = some (.int .i64 x.s) := hc 0 _ rfl
      have a1 : w1.cell? ⟨b, off + k * 5 + 1, none⟩ = some (.int .i64 x.n) := hc 1 _ rfl
      have a2 : w1.cell? ⟨b, off + k * 5 + 2, none⟩ = some (.int .i64 x.c) := hc 2 _ rfl
      have a3 : w1.cell? ⟨b, off + k * 5 + 3, none⟩ = some (.int .i64 x.rs) := hc 3 _ rfl
      have a4 : w1.cell? ⟨b, off + k * 5 + 4, none⟩ = some (.slice x.A x.m x.k) := hc 4 _ rfl
      obtain ⟨t, ht⟩ : ∃ t, (x.s == s) = t := ⟨_, rfl⟩
      have HTT := Lib.hid ht
      clear hx hc g1 g2
      cases t with
      | true =>
        have HGE : Hid (Zs.lk (l.map lvL) s = some (lvL x)) := Lib.hid (G1.out (by simpa using HTT.out))
        obtain ⟨w6, hw6⟩ : ∃ xx, xx = (((((w1.setCell ⟨r, 0, none⟩ (.int .i64 x.s)).setCell ⟨r, 1, none⟩ (.int .i64 x.n)).setCell ⟨r, 2, none⟩ (.int .i64 x.c)).setCell ⟨r, 3, none⟩ (.int .i64 x.rs)).setCell ⟨r, 4, none⟩ (.slice x.A x.m x.k)) := ⟨_, rfl⟩
        obtain ⟨hwrw6, hkw6⟩ := set5 hrb (.int .i64 x.s) (.int .i64 x.n) (.int .i64 x.c) (.int .i64 x.rs) (.slice x.A x.m x.k)
        rw [← hw6] at hwrw6 hkw6
        have HE : Hid (FdPost B (l.map lvL) s w (.returned (.agg #[.int .i64 x.s, .int .i64 x.n, .int .i64 x.c, .int .i64 x.rs, .slice x.A x.m x.k])) w6) := Lib.hid ⟨x, rfl, (Zs.fd_some HGE.out).symm, HOK.out.sk (.of_below (HB1.out.trans (hwrw6.below.mono HLE.out))), HB1.out.trans (hwrw6.below.mono HLE.out)⟩
        have y0 := cell_of hrb (j := 0) rfl
        have y1 := cell_of hrb (j := 1) rfl
        have y2 := cell_of hrb (j := 2) rfl
        have y3 := cell_of hrb (j := 3) rfl
        have y4 := cell_of hrb (j := 4) rfl
        have rf0 := frozen_of_row w1 _ 0 _ _ hrb
        have rf1 := frozen_of_row w1 _ 1 _ _ hrb
        have rf2 := frozen_of_row w1 _ 2 _ _ hrb
        have rf3 := frozen_of_row w1 _ 3 _ _ hrb
        have rf4 := frozen_of_row w1 _ 4 _ _ hrb
        have t0 := cell_of hkw6 (j := 0) rfl
        have t1 := cell_of hkw6 (j := 1) rfl
        have t2 := cell_of hkw6 (j := 2) rfl
        have t3 := cell_of hkw6 (j := 3) rfl
        have t4 := cell_of hkw6 (j := 4) rfl
        have HW6 := Lib.hid hw6
        clear hwrw6 hkw6 hw6 hrb
        go_wp2_with fail
        rw [← HW6.out]
        exact bodyPost_ret (v := .agg #[.int .i64 x.s, .int .i64 x.n, .int .i64 x.c, .int .i64 x.rs, .slice x.A x.m x.k]) (by simp [results, Tryz.results50, go_sem, t0, t1, t2, t3, t4]) rfl HE.out
      | false =>
        have HG2 : Hid (Zs.lk (l.map lvL) s = Zs.lk ((l.drop (k + 1)).map lvL) s) := Lib.hid (G2.out (by simpa using HTT.out))
        clear hrb
        go_wp2_with fail
        go_round
        case rel => exact ⟨k + 1, hlt, by go_num, HG2⟩
        case measure => simp [intOf]; omega
    · have HGE : Hid (Zs.lk (l.map lvL) s = none) := Lib.hid (by rw [HG.out, List.drop_of_length_le (by rw [HNN.out]; omega)]; rfl)
      obtain ⟨w6, hw6⟩ : ∃ xx, xx = (((((w1.setCell ⟨r, 0, none⟩ (.int .i64 s)).setCell ⟨r, 1, none⟩ (.int .i64 0)).setCell ⟨r, 2, none⟩ (.int .i64 0)).setCell ⟨r, 3, none⟩ (.int .i64 0)).setCell ⟨r, 4, none⟩ (.slice none 0 0)) := ⟨_, rfl⟩
      obtain ⟨hwrw6, hkw6⟩ := set5 hrb (.int .i64 s) (.int .i64 0) (.int .i64 0) (.int .i64 0) (.slice none 0 0)
      rw [← hw6] at hwrw6 hkw6
      have HE : Hid (FdPost B (l.map lvL) s w (.returned (.agg #[.int .i64 s, .int .i64 0, .int .i64 0, .int .i64 0, .slice none 0 0])) w6) := Lib.hid ⟨⟨s, 0, 0, 0, none, 0, 0, []⟩, rfl, (Zs.fd_zero HGE.out).symm, ⟨Rd.nil _ _ _ _, fun h => absurd h (by simp)⟩, HB1.out.trans (hwrw6.below.mono HLE.out)⟩
      have y0 := cell_of hrb (j := 0) rfl
      have y1 := cell_of hrb (j := 1) rfl
      have y2 := cell_of hrb (j := 2) rfl
      have y3 := cell_of hrb (j := 3) rfl
      have y4 := cell_of hrb (j := 4) rfl
      have rf0 := frozen_of_row w1 _ 0 _ _ hrb
      have rf1 := frozen_of_row w1 _ 1 _ _ hrb
      have rf2 := frozen_of_row w1 _ 2 _ _ hrb
      have rf3 := frozen_of_row w1 _ 3 _ _ hrb
      have rf4 := frozen_of_row w1 _ 4 _ _ hrb
      have t0 := cell_of hkw6 (j := 0) rfl
      have t1 := cell_of hkw6 (j := 1) rfl
      have t2 := cell_of hkw6 (j := 2) rfl
      have t3 := cell_of hkw6 (j := 3) rfl
      have t4 := cell_of hkw6 (j := 4) rfl
      have HW6 := Lib.hid hw6
      clear hwrw6 hkw6 hw6 hrb
      go_wp2_with fail
      rw [← HW6.out]
      exact bodyPost_ret (v := .agg #[.int .i64 s, .int .i64 0, .int .i64 0, .int .i64 0, .slice none 0 0]) (by simp [results, Tryz.results50, go_sem, t0, t1, t2, t3, t4]) rfl HE.out
/-! ### forget -/
def fgv (l : List Lv) (s : Int) : List Lv := l.filter (fun x => !(x.s == s))
theorem fgv_map (l : List Lv) (s : Int) : (fgv l s).map lvL = Zs.fg (l.map lvL) s := by
  unfold fgv Zs.fg
  rw [List.filter_map]; rfl
theorem fgv_step {l : List Lv} {k : Nat} {x : Lv} (hx : l[k]? = some x) (s : Int) : fgv (l.take (k + 1)) s = fgv (l.take k) s ++ (if x.s = s then [] else [x]) := by
  obtain ⟨hk, rfl⟩ := List.getElem?_eq_some_iff.1 hx
  rw [List.take_succ_eq_append_getElem hk]
  unfold fgv
  rw [List.filter_append]
  by_cases h : l[k].s = s <;> simp [h]
theorem fgv_take_le (l : List Lv) (k : Nat) (s : Int) : (fgv (l.take k) s).length ≤ k := by
  have h1 : (fgv (l.take k) s).length ≤ (l.take k).length := List.length_filter_le _ _
  have h2 := List.length_take_le k l
  omega
def VfPost (z : Int) (vT vL : Value) (l : List Lv) (s : Int) (w : World) (e : Ending) (w' : World) : Prop := ∃ A c, e = .returned (.agg #[.int .i64 z, vT, vL, .slice A (fgv l s).length c]) ∧ w'.ownsRow w.heap.size 102 5 (.slice A (fgv l s).length c) (fgv l s).length (lvcells (fgv l s)) ∧ Below w.heap.size w w'
set_option maxHeartbeats 2000000 in
theorem vforget_any {w : World} {B : Nat} {A : Option Addr} {c : Nat} {l : List Lv} (h : LsR w B A l) (hn : l.length ≤ 100000) (z : Int) (AT AL : Option Addr) (nT cT nL cL : Nat) (s : Int) :
    Calls Tryz.prog 114 #[.agg #[.int .i64 z, .slice AT nT cT, .slice AL nL cL, .slice A l.length c], .int .i64 s] w (VfPost z (.slice AT nT cT) (.slice AL nL cL) l s w) := by
  obtain ⟨i0, hi, hz0, hz1, hz2⟩ := info_parts infoLast
  obtain ⟨w1, hw1, hbw1, hkq, hkr, hsw1⟩ := two_box w (.cells #[.int .i64 z, .slice AT nT cT, .slice AL nL cL, .slice A l.length c] 31) (.cells #[.int .i64 0, .slice none 0 0, .slice none 0 0, .slice none 0 0] 31)
  obtain ⟨q, eq⟩ : ∃ xx, xx = w.heap.size := ⟨_, rfl⟩
  obtain ⟨r, er⟩ : ∃ xx, xx = w.heap.size + 1 := ⟨_, rfl⟩
  rw [← eq] at hkq
  rw [← er] at hkr
  have HR := Lib.hid (h.sk (.of_below hbw1))
  have hle : w.heap.size ≤ r ∧ w.heap.size ≤ q ∧ q ≠ r := by omega
  obtain ⟨n, hnn⟩ : ∃ n, l.length = n := ⟨_, rfl⟩
  rw [hnn] at hkq hn hw1 ⊢
  have HB1 := Lib.hid hbw1
  have HRB := Lib.hid hkr
  have HQB := Lib.hid hkq
  have HLE := Lib.hid hle
  have HW1 := Lib.hid hw1
  have ER := Lib.hid er
  have EQ := Lib.hid eq
  have HNN := Lib.hid hnn
  clear h hw1 er eq hbw1 hkr hkq hsw1 hle hnn
  go_enter Tryz.func114, Tryz.ntmps114
  go_upto_region 1 with fail
  rw [← HW1.out, ← ER.out, ← EQ.out]
  go_wp2_with fail
  go_loopw [5, 6] (fun o i wr => ∃ k : Nat, k ≤ n ∧ i = .int .i64 k ∧ Hid (wr.ownsRow w1.heap.size 102 5 o (fgv (l.take k) s).length (lvcells (fgv (l.take k) s))) ∧ Hid (Below w1.heap.size w1 wr)) (fun _ i _ => n - (intOf i).toNat)
  case atStart => exact ⟨0, Nat.zero_le _, rfl, Lib.hid ⟨rfl, .inl ⟨rfl, rfl⟩⟩, Lib.hid (Below.refl _ _)⟩
  case round =>
    obtain ⟨k, hk, rfl, HO, HX⟩ := hrel
    have hqb := blk_below HQB.out HX.out
    have s3 := cell_of hqb (j := 3) rfl
    by_cases hlt : k < n
    · obtain ⟨b, off, x, rfl, hx, hc⟩ := (HR.out.rd.below HX.out).at (show k < l.length by rw [HNN.out]; exact hlt)
      have HWS := Lib.hid (fgv_step hx s)
      have a0 : wr.cell? ⟨b, off + k * 5, none⟩ = some (.int .i64 x.s) := hc 0 _ rfl
      have a1 : wr.cell? ⟨b, off + k * 5 + 1, none⟩ = some (.int .i64 x.n) := hc 1 _ rfl
      have a2 : wr.cell? ⟨b, off + k * 5 + 2, none⟩ = some (.int .i64 x.c) := hc 2 _ rfl
      have a3 : wr.cell? ⟨b, off + k * 5 + 3, none⟩ = some (.int .i64 x.rs) := hc 3 _ rfl
      have a4 : wr.cell? ⟨b, off + k * 5 + 4, none⟩ = some (.slice x.A x.m x.k) := hc 4 _ rfl
      clear hx hc hqb
      by_cases he : x.s = s
      · have t1 : (x.s != s) = false := by simpa using he
        rw [if_pos he, List.append_nil] at HWS
        clear he
        go_wp2_with fail
        go_roundw
        case rel => exact ⟨k + 1, hlt, by go_num, Lib.hid (by rw [HWS.out]; exact HO.out), HX⟩
        case measure => simp [intOf]; omega
      · have t1 : (x.s != s) = true := by simpa using he
        rw [if_neg he] at HWS
        have ho := HO.out
        have hsz := HX.out.size
        have hln := fgv_take_le l k s
        clear he
        go_wp2_with (at_builtin; refine wpList_append_own _ rfl _ _ 29 rfl w1.heap.size 102 i0 _ 5 56 Tryz.underlying29 hi hz0 hz1 hz2 rfl (by decide) _ _ _ rfl (ho.alloc _) ⟨wr.heap.size, 0, none⟩ 1 1 (lvcell x) rfl rfl (World.news_of_block (new_block wr _)) (lvcell_one x) (by unfold maxLen at *; omega) (by omega) (by simp; omega) ?_; intro v' w5 hown' hg5 hnil5)
        have hB5 := (HX.out.alloc hsz _).grown hg5 (by simp; omega) (fun j hj => (HO.out.lt j hj).1)
        have HB5 := Lib.hid hB5
        have HO5 := Lib.hid hown'
        clear hown' hg5 hnil5 hB5 ho
        go_roundw
        case rel => exact ⟨k + 1, hlt, by go_num, Lib.hid (by rw [HWS.out, lvcells_append, List.length_append]; exact HO5.out), HB5⟩
        case measure => simp [intOf]; omega
    · have hkn : k = n := by omega
      have ho := HO.out
      rw [hkn, List.take_of_length_le (by rw [HNN.out]; exact Nat.le_refl _)] at ho
      obtain ⟨A5, c5, rfl, -, -, -⟩ := own_form ho
      have hrb := blk_below HRB.out HX.out
      obtain ⟨F, hF⟩ : ∃ F, fgv l s = F := ⟨_, rfl⟩
      have HF := Lib.hid hF
      rw [hF] at ho ⊢
      obtain ⟨w5, hw5⟩ : ∃ xx, xx = wr.setCell ⟨q, 3, none⟩ (.slice A5 F.length c5) := ⟨_, rfl⟩
      obtain ⟨hwr5, hq5⟩ := seti hqb 3 (.slice A5 F.length c5)
      rw [← hw5] at hwr5 hq5
      have hq5' : w5.heap[q]? = some (.cells #[.int .i64 z, .slice AT nT cT, .slice AL nL cL, .slice A5 F.length c5] 31 (0, 0)) := hq5
      have hr5 := hwr5.blk (Ne.symm HLE.out.2.2) hrb
      have ho5 := own_gb ho hwr5.gb (own_ne ho hqb (by decide))
      obtain ⟨w6, hw6⟩ : ∃ xx, xx = ((((w5.setCell ⟨r, 0, none⟩ (.int .i64 z)).setCell ⟨r, 1, none⟩ (.slice AT nT cT)).setCell ⟨r, 2, none⟩ (.slice AL nL cL)).setCell ⟨r, 3, none⟩ (.slice A5 F.length c5)) := ⟨_, rfl⟩
      obtain ⟨hwrw6, hkw6⟩ := set4 hr5 (.int .i64 z) (.slice AT nT cT) (.slice AL nL cL) (.slice A5 F.length c5)
      rw [← hw6] at hwrw6 hkw6
      have ho6 := own_gb ho5 hwrw6.gb (own_ne ho5 hr5 (by decide))
      have HE : Hid (VfPost z (.slice AT nT cT) (.slice AL nL cL) l s w (.returned (.agg #[.int .i64 z, .slice AT nT cT, .slice AL nL cL, .slice A5 F.length c5])) w6) := Lib.hid
        (by
          unfold VfPost
          rw [HF.out]
          exact ⟨_, _, rfl, own_base ho6 HB1.out.size, ((HB1.out.trans (HX.out.mono HB1.out.size)).trans (hwr5.below.mono HLE.out.2.1)).trans (hwrw6.below.mono HLE.out.1)⟩)
      have s0 := cell_of hqb (j := 0) rfl
      have s1 := cell_of hqb (j := 1) rfl
      have s2 := cell_of hqb (j := 2) rfl
      have s3 := cell_of hqb (j := 3) rfl
      have f3 := frozen_of_row wr q 3 _ _ hqb
      have u0 := cell_of hq5' (j := 0) rfl
      have u1 := cell_of hq5' (j := 1) rfl
      have u2 := cell_of hq5' (j := 2) rfl
      have u3 := cell_of hq5' (j := 3) rfl
      have y0 := cell_of hr5 (j := 0) rfl
      have y1 := cell_of hr5 (j := 1) rfl
      have y2 := cell_of hr5 (j := 2) rfl
      have y3 := cell_of hr5 (j := 3) rfl
      have g0 := frozen_of_row w5 _ 0 _ _ hr5
      have g1 := frozen_of_row w5 _ 1 _ _ hr5
      have g2 := frozen_of_row w5 _ 2 _ _ hr5
      have g3 := frozen_of_row w5 _ 3 _ _ hr5
      have v0 := cell_of hkw6 (j := 0) rfl
      have v1 := cell_of hkw6 (j := 1) rfl
      have v2 := cell_of hkw6 (j := 2) rfl
      have v3 := cell_of hkw6 (j := 3) rfl
      have HW5 := Lib.hid hw5
      have HW6 := Lib.hid hw6
      clear hkn ho hrb hF hw5 hwr5 hq5 hq5' hr5 ho5 hw6 hwrw6 hkw6 ho6 hqb
      go_upto_region 8 with fail
      rw [← HW5.out]
      go_wp2_with fail
      rw [← HW6.out]
      exact bodyPost_ret (v := .agg #[.int .i64 z, .slice AT nT cT, .slice AL nL cL, .slice A5 F.length c5]) (by simp [results, Tryz.results114, go_sem, v0, v1, v2, v3]) rfl HE.out
/-! ### Replies compared; own, plain -/
set_option maxHeartbeats 1000000 in
theorem samereply_any {w : World} {A1 A2 : Option Addr} {c1 c2 : Nat} {ps : List Txt} (h1 : Rd scell 1 w A1 ps.length ps) (h2 : Rd scell 1 w A2 ps.length ps) (hn : ps.length ≤ 100000) (c s : Int) :
    Calls Tryz.prog 19 #[.agg #[.int .i64 c, .int .i64 s, .slice A1 ps.length c1], .agg #[.int .i64 c, .int .i64 s, .slice A2 ps.length c2]] w fun e w' => e = .returned (.bool true) ∧ Below w.heap.size w w' := by
  obtain ⟨w1, hw1, hbw1, hkq, hkr, hsw1⟩ := two_box w (.cells #[.int .i64 c, .int .i64 s, .slice A1 ps.length c1] 50) (.cells #[.int .i64 c, .int .i64 s, .slice A2 ps.length c2] 50)
  obtain ⟨q, eq⟩ : ∃ xx, xx = w.heap.size := ⟨_, rfl⟩
  obtain ⟨r, er⟩ : ∃ xx, xx = w.heap.size + 1 := ⟨_, rfl⟩
  rw [← eq] at hkq
  rw [← er] at hkr
  have HC := Lib.hid (rsametexts_any (c := c1) (c2 := c2) (h1.below hbw1) (h2.below hbw1) (by omega))
  have q0 := cell_of hkq (j := 0) rfl
  have q1 := cell_of hkq (j := 1) rfl
  have q2 := cell_of hkq (j := 2) rfl
  have r0 := cell_of hkr (j := 0) rfl
  have r1 := cell_of hkr (j := 1) rfl
  have r2 := cell_of hkr (j := 2) rfl
  have HB1 := Lib.hid hbw1
  have HW1 := Lib.hid hw1
  have ER := Lib.hid er
  have EQ := Lib.hid eq
  have tc : (c == c) = true := by simp
  have ts : (s == s) = true := by simp
  clear h1 h2 hw1 er eq hbw1 hkr hkq hsw1
  go_enter Tryz.func19, Tryz.ntmps19
  go_upto_region 1 with fail
  rw [← HW1.out, ← ER.out, ← EQ.out]
  go_wp2_with fail
  refine HC.out.mono ?_
  rintro e w2 ⟨rfl, hb2⟩
  have HB2 := Lib.hid (HB1.out.trans (hb2.mono HB1.out.size))
  clear hb2
  go_wp2_with fail
  go_ret
  exact ⟨rfl, HB2.out⟩
set_option maxHeartbeats 1000000 in
theorem plain_any (w : World) (c s : Int) (A : Option Addr) (n k : Nat) : Calls Tryz.prog 20 #[.agg #[.int .i64 c, .int .i64 s, .slice A n k]] w fun e w' => e = .returned (.agg #[.int .i64 c, .int .i64 s, .slice A n k]) ∧ Below w.heap.size w w' := by
  obtain ⟨w1, hw1, hbw1, hkq, hkr, hsw1⟩ := two_box w (.cells #[.int .i64 c, .int .i64 s, .slice A n k] 42) (.cells #[.int .i64 0, .int .i64 0, .slice none 0 0] 50)
  obtain ⟨q, eq⟩ : ∃ xx, xx = w.heap.size := ⟨_, rfl⟩
  obtain ⟨r, er⟩ : ∃ xx, xx = w.heap.size + 1 := ⟨_, rfl⟩
  rw [← eq] at hkq
  rw [← er] at hkr
  have hle : w.heap.size ≤ r := by omega
  obtain ⟨w6, hw6⟩ : ∃ xx, xx = (((w1.setCell ⟨r, 0, none⟩ (.int .i64 c)).setCell ⟨r, 1, none⟩ (.int .i64 s)).setCell ⟨r, 2, none⟩ (.slice A n k)) := ⟨_, rfl⟩
  obtain ⟨hwrw6, hkw6⟩ := set3 hkr (.int .i64 c) (.int .i64 s) (.slice A n k)
  rw [← hw6] at hwrw6 hkw6
  have HE : Hid (Below w.heap.size w w6) := Lib.hid (hbw1.trans (hwrw6.below.mono hle))
  have q0 := cell_of hkq (j := 0) rfl
  have q1 := cell_of hkq (j := 1) rfl
  have q2 := cell_of hkq (j := 2) rfl
  have y0 := cell_of hkr (j := 0) rfl
  have y1 := cell_of hkr (j := 1) rfl
  have y2 := cell_of hkr (j := 2) rfl
  have g0 := frozen_of_row w1 _ 0 _ _ hkr
  have g1 := frozen_of_row w1 _ 1 _ _ hkr
  have g2 := frozen_of_row w1 _ 2 _ _ hkr
  have z0 := cell_of hkw6 (j := 0) rfl
  have z1 := cell_of hkw6 (j := 1) rfl
  have z2 := cell_of hkw6 (j := 2) rfl
  have HW1 := Lib.hid hw1
  have HW6 := Lib.hid hw6
  have ER := Lib.hid er
  have EQ := Lib.hid eq
  clear hw1 er eq hbw1 hkr hkq hsw1 hle hw6 hwrw6 hkw6
  go_enter Tryz.func20, Tryz.ntmps20
  go_upto_region 1 with fail
  rw [← HW1.out, ← ER.out, ← EQ.out]
  go_wp2_with fail
  rw [← HW6.out]
  exact bodyPost_ret (v := .agg #[.int .i64 c, .int .i64 s, .slice A n k]) (by simp [results, Tryz.results20, go_sem, z0, z1, z2]) rfl ⟨rfl, HE.out⟩
set_option maxHeartbeats 1000000 in
theorem own_any (w : World) (a b c d e : Int) (A : Option Addr) (n k : Nat) : Calls Tryz.prog 17 #[.agg #[.int .i64 a, .int .i64 b, .int .i64 c, .int .i64 d, .int .i64 e, .slice A n k]] w fun x w' => x = .returned (.agg #[.int .i64 a, .int .i64 b, .int .i64 c, .int .i64 d, .int .i64 e, .slice A n k]) ∧ Below w.heap.size w w' := by
  obtain ⟨w1, hw1, hbw1, hkq, hkr, hsw1⟩ := two_box w (.cells #[.int .i64 a, .int .i64 b, .int .i64 c, .int .i64 d, .int .i64 e, .slice A n k] 38) (.cells #[.int .i64 0, .int .i64 0, .int .i64 0, .int .i64 0, .int .i64 0, .slice none 0 0] 46)
  obtain ⟨q, eq⟩ : ∃ xx, xx = w.heap.size := ⟨_, rfl⟩
  obtain ⟨r, er⟩ : ∃ xx, xx = w.heap.size + 1 := ⟨_, rfl⟩
  rw [← eq] at hkq
  rw [← er] at hkr
  have hle : w.heap.size ≤ r := by omega
  obtain ⟨w6, hw6⟩ : ∃ xx, xx = ((((((w1.setCell ⟨r, 0, none⟩ (.int .i64 a)).setCell ⟨r, 1, none⟩ (.int .i64 b)).setCell ⟨r, 2, none⟩ (.int .i64 c)).setCell ⟨r, 3, none⟩ (.int .i64 d)).setCell ⟨r, 4, none⟩ (.int .i64 e)).setCell ⟨r, 5, none⟩ (.slice A n k)) := ⟨_, rfl⟩
  obtain ⟨hwrw6, hkw6⟩ := set6 hkr (.int .i64 a) (.int .i64 b) (.int .i64 c) (.int .i64 d) (.int .i64 e) (.slice A n k)
  rw [← hw6] at hwrw6 hkw6
  have HE : Hid (Below w.heap.size w w6) := Lib.hid (hbw1.trans (hwrw6.below.mono hle))
  have q0 := cell_of hkq (j := 0) rfl
  have q1 := cell_of hkq (j := 1) rfl
  have q2 := cell_of hkq (j := 2) rfl
  have q3 := cell_of hkq (j := 3) rfl
  have q4 := cell_of hkq (j := 4) rfl
  have q5 := cell_of hkq (j := 5) rfl
  have y0 := cell_of hkr (j := 0) rfl
  have y1 := cell_of hkr (j := 1) rfl
  have y2 := cell_of hkr (j := 2) rfl
  have y3 := cell_of hkr (j := 3) rfl
  have y4 := cell_of hkr (j := 4) rfl
  have y5 := cell_of hkr (j := 5) rfl
  have g0 := frozen_of_row w1 _ 0 _ _ hkr
  have g1 := frozen_of_row w1 _ 1 _ _ hkr
  have g2 := frozen_of_row w1 _ 2 _ _ hkr
  have g3 := frozen_of_row w1 _ 3 _ _ hkr
  have g4 := frozen_of_row w1 _ 4 _ _ hkr
  have g5 := frozen_of_row w1 _ 5 _ _ hkr
  have z0 := cell_of hkw6 (j := 0) rfl
  have z1 := cell_of hkw6 (j := 1) rfl
  have z2 := cell_of hkw6 (j := 2) rfl
  have z3 := cell_of hkw6 (j := 3) rfl
  have z4 := cell_of hkw6 (j := 4) rfl
  have z5 := cell_of hkw6 (j := 5) rfl
  have HW1 := Lib.hid hw1
  have HW6 := Lib.hid hw6
  have ER := Lib.hid er
  have EQ := Lib.hid eq
  clear hw1 er eq hbw1 hkr hkq hsw1 hle hw6 hwrw6 hkw6
  go_enter Tryz.func17, Tryz.ntmps17
  go_upto_region 1 with fail
  rw [← HW1.out, ← ER.out, ← EQ.out]
  go_wp2_with fail
  rw [← HW6.out]
  exact bodyPost_ret (v := .agg #[.int .i64 a, .int .i64 b, .int .i64 c, .int .i64 d, .int .i64 e, .slice A n k]) (by simp [results, Tryz.results17, go_sem, z0, z1, z2, z3, z4, z5]) rfl ⟨rfl, HE.out⟩
end Go.Proofs.YtflgemlhocjipaaGreatDoor
