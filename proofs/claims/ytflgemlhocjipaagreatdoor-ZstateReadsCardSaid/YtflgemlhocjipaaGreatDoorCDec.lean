/-
  What Decode returns of bytes that read. Condition: the slice fits.
-/
import Derived.Test.YtflgemlhocjipaaGreatDoorCAp
import Derived.Test.YtflgemlhocjipaaGreatDoorCREnc
import Derived.Test.YtflgemlhocjipaaGreatDoorSSeen
namespace Go.Proofs.YtflgemlhocjipaaGreatDoor
set_option maxRecDepth 100000
open Go.ChangeShapes Go.WideShapes Go.ChangeAt Go.RowKit Go.Proofs.Zn Go.Proofs.Zt
open Go.Proofs.Zs (St Lst Rep Tx)
open Pq (Fld FReads Reads fcs ams errL bytL sm dc Sm Bys byts)

def DcPost (w : World) (R : Option Tx) (e : Ending) (w' : World) : Prop := Below w.heap.size w w' ∧ match R with
  | none => e = .returned (.tuple #[.agg #[.int .i64 0, .int .i64 0, .int .i64 0, .int .i64 0, .int .i64 0, .slice none 0 0], .int .i64 110])
  | some t => ∃ A c, e = .returned (.tuple #[.agg #[.int .i64 t.k, .int .i64 t.s, .int .i64 t.n, .int .i64 t.sp, .int .i64 t.now, .slice A t.l.length c], .int .i64 0]) ∧ Rd ccell 6 w' A t.l.length t.l
theorem dc_none {w w' : World} {R : Option Tx} (h : R = none) (hb : Below w.heap.size w w') : DcPost w R (.returned (.tuple #[.agg #[.int .i64 0, .int .i64 0, .int .i64 0, .int .i64 0, .int .i64 0, .slice none 0 0], .int .i64 110])) w' := by
  subst h; exact ⟨hb, rfl⟩
theorem of_fields {w : World} {b : Nat} {l : List Fld} (hk : w.heap[b]? = some (.cells (fcs l).toArray 112 (0, 0))) (hl : l.length ≤ 1000) : FReads w (some ⟨b, 0, none⟩) l.length l := by
  have h := Lq.own_new (n := l.length) (sz := 3) hk (Nat.zero_le _) (by unfold maxLen; omega) (by simp [Pq.fcs_length])
  obtain ⟨A, c, e, hf⟩ := Pq.fields_own (l := l) h
  injection e with e1 e2 e3
  rw [e1]
  exact hf
/-- The change in six fields that stand in a row. -/
def chAt (g : List Fld) (j : Nat) : Chg := ⟨(g.getD (j * 6) Pq.z0).n, L (g.getD (j * 6 + 1) Pq.z0).s, L (g.getD (j * 6 + 2) Pq.z0).s, (g.getD (j * 6 + 3) Pq.z0).n - 1, (g.getD (j * 6 + 4) Pq.z0).n == 1, (g.getD (j * 6 + 5) Pq.z0).n == 1⟩
theorem chs_is : ∀ (m : Nat) {g : List Fld}, g.length = m * 6 → chs g = (List.range m).map (chAt g)
  | 0, g, h => by
    have : g = [] := List.eq_nil_of_length_eq_zero (by omega)
    subst this; rfl
  | m + 1, g, h => by
    obtain ⟨a, b, c, d, e, f, r, rfl⟩ : ∃ a b c d e f r, g = a :: b :: c :: d :: e :: f :: r := by
      match g, h with
      | a :: b :: c :: d :: e :: f :: r, _ => exact ⟨a, b, c, d, e, f, r, rfl⟩
      | [], h => simp at h
      | [_], h => simp at h; omega
      | [_, _], h => simp at h; omega
      | [_, _, _], h => simp at h; omega
      | [_, _, _, _], h => simp at h; omega
      | [_, _, _, _, _], h => simp at h; omega
    rw [List.range_succ_eq_map, List.map_cons, List.map_map]
    show _ :: chs r = _
    rw [chs_is m (by simp only [List.length_cons] at h; omega)]
    congr 1
    apply List.map_congr_left
    intro j _
    have e0 : (j + 1) * 6 = j * 6 + 1 + 1 + 1 + 1 + 1 + 1 := by omega
    simp only [Function.comp, chAt, e0, Nat.succ_eq_add_one]
    have e1 : ∀ k, j * 6 + 1 + 1 + 1 + 1 + 1 + 1 + k = (j * 6 + k) + 1 + 1 + 1 + 1 + 1 + 1 := fun k => by omega
    simp only [e1, List.getD_cons_succ]
set_option maxHeartbeats 8000000 in
theorem sdecode_any {w : World} {ba : Option Addr} {bl bc : Nat} {zs : List Int} (hR : Reads .u8 w ba bl zs) (hB : Bys zs) (hc : bl ≤ bc) (hcm : bc ≤ maxLen) : Calls Tryz.prog 24 #[.slice ba bl bc] w (DcPost w (decS zs)) := by
  obtain ⟨w1, hw1⟩ : ∃ w1, w1 = w.alloc (.cells #[.int .i64 0, .int .i64 0, .int .i64 0, .int .i64 0, .int .i64 0, .slice none 0 0] 46) := ⟨_, rfl⟩
  obtain ⟨q, eq⟩ : ∃ q, q = w.heap.size := ⟨_, rfl⟩
  have hb1 : Below w.heap.size w w1 := by rw [hw1]; exact box_below w _
  have hq : w1.heap[q]? = some (.cells #[.int .i64 0, .int .i64 0, .int .i64 0, .int .i64 0, .int .i64 0, .slice none 0 0] 46 (0, 0)) := by rw [hw1, eq]; exact new_block w _
  have HR := Lib.hid (hR.kept hb1)
  have HB := Lib.hid hB
  have HQ := Lib.hid hq
  have HB1 := Lib.hid hb1
  have HW1 := Lib.hid hw1
  have EQ := Lib.hid eq
  obtain ⟨R, hr⟩ : ∃ r, decS zs = r := ⟨_, rfl⟩
  have HRR := Lib.hid hr
  rw [hr]
  clear hR hB hw1 eq hb1 hq hr
  have HO := Lib.hid (oftxn_any 0 0 0 0 0 none 0 0 w1)
  have HOC := Lib.hid (fun W => ofchange_any ⟨0, [], [], 0, false, false⟩ W)
  have eB : B [] = ⟨#[]⟩ := rfl
  simp only [eB] at HOC
  clear eB
  go_enter Tryz.func24, Tryz.ntmps24
  go_upto_region 1 with fail
  rw [← HW1.out, ← EQ.out]
  go_wp2_with fail
  refine HO.out.mono ?_
  rintro e w2 ⟨b2, rfl, hk2, hg2, hb2⟩
  have hf2 := of_fields hk2 (by decide)
  have HB2 := Lib.hid hb2
  have HF2 := Lib.hid hf2
  clear hk2 hg2 hb2 hf2
  go_wp2_with fail
  refine (HOC.out w2).mono ?_
  rintro e w3 ⟨b3, rfl, hk3, hg3, hb3⟩
  have hf3 := of_fields hk3 (by decide)
  have HB3 : Hid (Below w1.heap.size w1 w3) := Lib.hid (HB2.out.trans (hb3.mono HB2.out.size))
  have HAP := Lib.hid (apart_any (HF2.out.kept hb3) hf3 (HR.out.kept HB3.out) HB.out (hcap := 6) (pcap := 6) hc hcm (by decide) (by decide))
  clear hk3 hg3 hb3 hf3
  go_wp2_with fail
  refine HAP.out.mono ?_
  intro e w4 hap
  have hkk : (hdF 0 0 0 0 0 0).map (·.k) = hk := rfl
  have hpk : (chF ⟨0, [], [], 0, false, false⟩).map (·.k) = pk := rfl
  rw [hkk, hpk] at hap
  clear hkk hpk
  have HB4 : Hid (Below w1.heap.size w1 w4) := Lib.hid (HB3.out.trans (hap.1.mono HB3.out.size))
  cases ha : apS hk pk zs with
  | none =>
    rw [ha] at hap
    obtain ⟨-, rfl⟩ := hap
    have hq4 := blk_below HQ.out HB4.out
    have z0 := cell_of hq4 (j := 0) rfl
    have z1 := cell_of hq4 (j := 1) rfl
    have z2 := cell_of hq4 (j := 2) rfl
    have z3 := cell_of hq4 (j := 3) rfl
    have z4 := cell_of hq4 (j := 4) rfl
    have z5 := cell_of hq4 (j := 5) rfl
    have g0 := frozen_of_row w4 _ 0 _ _ hq4
    have g1 := frozen_of_row w4 _ 1 _ _ hq4
    have g2 := frozen_of_row w4 _ 2 _ _ hq4
    have g3 := frozen_of_row w4 _ 3 _ _ hq4
    have g4 := frozen_of_row w4 _ 4 _ _ hq4
    have g5 := frozen_of_row w4 _ 5 _ _ hq4
    obtain ⟨w5, hw5⟩ : ∃ xx, xx = ((((((w4.setCell ⟨q, 0, none⟩ (.int .i64 0)).setCell ⟨q, 1, none⟩ (.int .i64 0)).setCell ⟨q, 2, none⟩ (.int .i64 0)).setCell ⟨q, 3, none⟩ (.int .i64 0)).setCell ⟨q, 4, none⟩ (.int .i64 0)).setCell ⟨q, 5, none⟩ (.slice none 0 0)) := ⟨_, rfl⟩
    obtain ⟨hwrw5, hkw5⟩ := set6 hq4 (.int .i64 0) (.int .i64 0) (.int .i64 0) (.int .i64 0) (.int .i64 0) (.slice none 0 0)
    rw [← hw5] at hwrw5 hkw5
    have HE : Hid (DcPost w R (.returned (.tuple #[.agg #[.int .i64 0, .int .i64 0, .int .i64 0, .int .i64 0, .int .i64 0, .slice none 0 0], .int .i64 110])) w5) := Lib.hid (dc_none (by rw [← HRR.out]; unfold decS; rw [ha]; rfl) ((HB1.out.trans (HB4.out.mono HB1.out.size)).trans (by rw [← EQ.out]; exact hwrw5.below)))
    have y0 := cell_of hkw5 (j := 0) rfl
    have y1 := cell_of hkw5 (j := 1) rfl
    have y2 := cell_of hkw5 (j := 2) rfl
    have y3 := cell_of hkw5 (j := 3) rfl
    have y4 := cell_of hkw5 (j := 4) rfl
    have y5 := cell_of hkw5 (j := 5) rfl
    have HW5 := Lib.hid hw5
    clear ha hw5 hwrw5 hkw5 hq4
    go_wp2_with fail
    rw [← HW5.out]
    exact bodyPost_ret (v := .tuple #[.agg #[.int .i64 0, .int .i64 0, .int .i64 0, .int .i64 0, .int .i64 0, .slice none 0 0], .int .i64 110]) (by simp [results, Tryz.results24, go_sem, y0, y1, y2, y3, y4, y5]) rfl HE.out
  | some p =>
    obtain ⟨f, g⟩ := p
    rw [ha] at hap
    obtain ⟨-, A, c, v, b, off, ad, m, rfl, hF, hgl, hm6, hG, hA, ho⟩ := hap
    obtain ⟨e1, e2, e3, e4, e5, e6, e7⟩ := apS_some HB.out ha
    have hf6 : f.length = 6 := by have := congrArg List.length e4; simpa [hk] using this
    have HRT : Hid (R = some (txOf f g)) := Lib.hid (by rw [← HRR.out]; unfold decS; rw [ha]; rfl)
    have HGL := Lib.hid hgl
    have HGN : Hid (∀ i, i < g.length → 0 ≤ (g.getD i Pq.z0).n ∧ (g.getD i Pq.z0).n ≤ 4611686018427387904) := Lib.hid (fun i hi => by
      have hm := errL_mem e2 (g.getD i Pq.z0) (by rw [List.getD_eq_getElem?_getD, List.getElem?_eq_getElem hi]; exact List.getElem_mem _)
      rcases Pq.ams_zero hm with ⟨_, e, e', _⟩ | ⟨_, e, e', _⟩ | ⟨_, e, _⟩ | ⟨_, e, e', _⟩ <;> (try unfold Pq.big at e') <;> omega)
    have HG := Lib.hid hG
    have HA := Lib.hid hA
    have HO := Lib.hid ho
    rw [hf6] at hF ⊢
    obtain ⟨b0, o0, rfl, hcell⟩ := hF.2 (by omega)
    have HFD : Hid (txOf f g = ⟨(f.getD 0 Pq.z0).n, (f.getD 1 Pq.z0).n, (f.getD 2 Pq.z0).n, (f.getD 3 Pq.z0).n, (f.getD 4 Pq.z0).n, chs g⟩) := Lib.hid rfl
    have a0 := (hcell 0 (by omega)).2.1
    have a1 := (hcell 1 (by omega)).2.1
    have a2 := (hcell 2 (by omega)).2.1
    have a3 := (hcell 3 (by omega)).2.1
    have a4 := (hcell 4 (by omega)).2.1
    obtain ⟨k0, hk0⟩ : ∃ k, (f.getD 0 Pq.z0).n = k := ⟨_, rfl⟩
    obtain ⟨k1, hk1⟩ : ∃ k, (f.getD 1 Pq.z0).n = k := ⟨_, rfl⟩
    obtain ⟨k2, hk2⟩ : ∃ k, (f.getD 2 Pq.z0).n = k := ⟨_, rfl⟩
    obtain ⟨k3, hk3⟩ : ∃ k, (f.getD 3 Pq.z0).n = k := ⟨_, rfl⟩
    obtain ⟨k4, hk4⟩ : ∃ k, (f.getD 4 Pq.z0).n = k := ⟨_, rfl⟩
    rw [hk0, hk1, hk2, hk3, hk4] at HFD
    rw [hk0] at a0
    rw [hk1] at a1
    rw [hk2] at a2
    rw [hk3] at a3
    rw [hk4] at a4
    have hsh : ∃ Av cv, v = .slice Av m cv := by
      rcases ho.2 with ⟨rfl, hx⟩ | ⟨g9, cap, cur, rfl, _⟩
      · have h0 : m = 0 := hx
        subst h0; exact ⟨none, 0, rfl⟩
      · exact ⟨_, _, rfl⟩
    obtain ⟨Av, cv, rfl⟩ := hsh
    have HPC : Hid (∀ W, Below w4.heap.size w4 W → ∀ j, j < m → ∃ gv, Av = some ⟨gv, 0, none⟩ ∧ W.cell? ⟨gv, j, none⟩ = some (ck b off j)) := Lib.hid (fun W hW j hj => by
      have h := own_below ho hW
      rcases h.2 with ⟨_, hx⟩ | ⟨g9, cap, cur, e, _⟩
      · omega
      · injection e with e1 e2 e3
        refine ⟨g9, e1, ?_⟩
        have hu : (cks b off m)[j]? = some (ck b off j) := by simp [cks, hj]
        subst e1
        have := h.cells (g := g9) rfl j _ hu
        rw [Go.WideShapes.add_plain, Nat.zero_add] at this
        exact this)
    clear ha e1 e2 e3 e4 e5 e6 e7 hF hcell hgl hG hA ho hk0 hk1 hk2 hk3 hk4
    have HS : Hid (∀ W, Below w4.heap.size w4 W → W.cell? ⟨b0, o0 + 1, none⟩ = some (.int .i64 k0) ∧ W.cell? ⟨b0, o0 + 3 + 1, none⟩ = some (.int .i64 k1) ∧ W.cell? ⟨b0, o0 + 6 + 1, none⟩ = some (.int .i64 k2) ∧ W.cell? ⟨b0, o0 + 9 + 1, none⟩ = some (.int .i64 k3) ∧ W.cell? ⟨b0, o0 + 12 + 1, none⟩ = some (.int .i64 k4) ∧ Below w4.heap.size w4 W) := Lib.hid (fun W hW => by
      have hlt := Pq.cell_lt a0
      exact ⟨(hW.cell (p := ⟨b0, _, none⟩) hlt).trans a0, (hW.cell (p := ⟨b0, _, none⟩) hlt).trans a1, (hW.cell (p := ⟨b0, _, none⟩) hlt).trans a2, (hW.cell (p := ⟨b0, _, none⟩) hlt).trans a3, (hW.cell (p := ⟨b0, _, none⟩) hlt).trans a4, hW⟩)
    have HSA : Hid (∀ W o, (W.cell? ⟨b0, o0 + 1, none⟩ = some (.int .i64 k0) ∧ W.cell? ⟨b0, o0 + 3 + 1, none⟩ = some (.int .i64 k1) ∧ W.cell? ⟨b0, o0 + 6 + 1, none⟩ = some (.int .i64 k2) ∧ W.cell? ⟨b0, o0 + 9 + 1, none⟩ = some (.int .i64 k3) ∧ W.cell? ⟨b0, o0 + 12 + 1, none⟩ = some (.int .i64 k4) ∧ Below w4.heap.size w4 W) → (W.alloc o).cell? ⟨b0, o0 + 1, none⟩ = some (.int .i64 k0) ∧ (W.alloc o).cell? ⟨b0, o0 + 3 + 1, none⟩ = some (.int .i64 k1) ∧ (W.alloc o).cell? ⟨b0, o0 + 6 + 1, none⟩ = some (.int .i64 k2) ∧ (W.alloc o).cell? ⟨b0, o0 + 9 + 1, none⟩ = some (.int .i64 k3) ∧ (W.alloc o).cell? ⟨b0, o0 + 12 + 1, none⟩ = some (.int .i64 k4) ∧ Below w4.heap.size w4 (W.alloc o)) := Lib.hid (fun W o hS => by
      obtain ⟨-, -, -, -, -, hW⟩ := hS
      exact HS.out _ (hW.trans ((box_below W o).mono hW.size)))
    clear a0 a1 a2 a3 a4
    go_upto_region 4 with fail
    go_region_held3 (fun W => W.cell? ⟨b0, o0 + 1, none⟩ = some (.int .i64 k0) ∧ W.cell? ⟨b0, o0 + 3 + 1, none⟩ = some (.int .i64 k1) ∧ W.cell? ⟨b0, o0 + 6 + 1, none⟩ = some (.int .i64 k2) ∧ W.cell? ⟨b0, o0 + 9 + 1, none⟩ = some (.int .i64 k3) ∧ W.cell? ⟨b0, o0 + 12 + 1, none⟩ = some (.int .i64 k4) ∧ Below w4.heap.size w4 W)
      (first
        | exact HS.out _ (Below.refl _ _).drew
        | exact HS.out _ (box_below _ _).drew
        | (with_reducible assumption)
        | (with_reducible exact HSA.out _ _ (by with_reducible assumption)))
      (fail)
    rename_i hHeld
    clear hHeld
    obtain ⟨w5, hw5⟩ : ∃ w5, w5 = (w4.alloc (.cells #[.int .i64 k0, .int .i64 k1, .int .i64 k2, .int .i64 k3, .int .i64 k4, .slice none 0 0] 46)).drew := ⟨_, rfl⟩
    obtain ⟨r, er⟩ : ∃ r, r = w4.heap.size := ⟨_, rfl⟩
    have hr5 : w5.heap[r]? = some (.cells #[.int .i64 k0, .int .i64 k1, .int .i64 k2, .int .i64 k3, .int .i64 k4, .slice none 0 0] 46 (0, 0)) := by rw [hw5, er]; exact new_block w4 _
    have hb5 : Below w4.heap.size w4 w5 := by rw [hw5]; exact (box_below w4 _).drew
    rw [← hw5, ← er]
    have HST : Hid (∃ v, w5.heap[r]? = some (.cells #[.int .i64 k0, .int .i64 k1, .int .i64 k2, .int .i64 k3, .int .i64 k4, v] 46 (0, 0)) ∧ w5.ownsRow w4.heap.size 79 6 v 0 (ccells ((chs g).take 0))) := Lib.hid ⟨_, hr5, World.ownsRow_nil _ _ _ _⟩
    have HB5 := Lib.hid hb5
    have ER := Lib.hid er
    obtain ⟨ic, hic, hcz, hcs, hcb⟩ := info_parts infoC
    clear hw5 hr5 hb5 er HS HSA
    go_wp2_with fail
    go_loopw [46] (fun i wr => ∃ (j : Nat), j ≤ m ∧ i = .int .i64 j ∧ Hid (∃ v, wr.heap[r]? = some (.cells #[.int .i64 k0, .int .i64 k1, .int .i64 k2, .int .i64 k3, .int .i64 k4, v] 46 (0, 0)) ∧ wr.ownsRow w4.heap.size 79 6 v j (ccells ((chs g).take j))) ∧ Hid (Below w4.heap.size w4 wr)) (fun i _ => m - (intOf i).toNat)
    case atStart => exact ⟨0, Nat.zero_le _, rfl, HST, HB5⟩
    case round =>
      obtain ⟨j, hj, rfl, HV, HX⟩ := hrel
      obtain ⟨v, hv, hown⟩ := HV.out
      by_cases hlt : j < m
      · obtain ⟨gv, hgv, p0⟩ := HPC.out wr HX.out j hlt
        subst hgv
        obtain ⟨b', off', e, hgc⟩ := HG.out.2 (by omega)
        rw [HA.out (by omega)] at e
        injection e with e
        injection e with e1 e2
        subst e1; subst e2
        obtain ⟨a, ha⟩ : ∃ a, a = off + j * 18 := ⟨_, rfl⟩
        have d0 := (hgc (j * 6) (by omega)).2.1
        have d1 := (hgc (j * 6 + 1) (by omega)).2.2
        have d2 := (hgc (j * 6 + 2) (by omega)).2.2
        have d3 := (hgc (j * 6 + 3) (by omega)).2.1
        have d4 := (hgc (j * 6 + 4) (by omega)).2.1
        have d5 := (hgc (j * 6 + 5) (by omega)).2.1
        rw [show off + j * 6 * 3 + 1 = a + 1 by omega] at d0
        rw [show off + (j * 6 + 1) * 3 + 2 = a + 3 + 2 by omega] at d1
        rw [show off + (j * 6 + 2) * 3 + 2 = a + 6 + 2 by omega] at d2
        rw [show off + (j * 6 + 3) * 3 + 1 = a + 9 + 1 by omega] at d3
        rw [show off + (j * 6 + 4) * 3 + 1 = a + 12 + 1 by omega] at d4
        rw [show off + (j * 6 + 5) * 3 + 1 = a + 15 + 1 by omega] at d5
        rw [show ck b off j = .slice (some ⟨b, a, none⟩) 6 6 by unfold ck; rw [ha]] at p0
        obtain ⟨x, hx⟩ : ∃ x, chAt g j = x := ⟨_, rfl⟩
        obtain ⟨y0, h0⟩ : ∃ y, (g.getD (j * 6) Pq.z0).n = y := ⟨_, rfl⟩
        obtain ⟨y1, h1⟩ : ∃ y, (g.getD (j * 6 + 1) Pq.z0).s = y := ⟨_, rfl⟩
        obtain ⟨y2, h2⟩ : ∃ y, (g.getD (j * 6 + 2) Pq.z0).s = y := ⟨_, rfl⟩
        obtain ⟨y3, h3⟩ : ∃ y, (g.getD (j * 6 + 3) Pq.z0).n = y := ⟨_, rfl⟩
        obtain ⟨y4, h4⟩ : ∃ y, (g.getD (j * 6 + 4) Pq.z0).n = y := ⟨_, rfl⟩
        obtain ⟨y5, h5⟩ : ∃ y, (g.getD (j * 6 + 5) Pq.z0).n = y := ⟨_, rfl⟩
        have hy3 : 0 ≤ y3 ∧ y3 ≤ 4611686018427387904 := by
          rw [← h3]
          exact HGN.out (j * 6 + 3) (by rw [HGL.out]; omega)
        have hcx : ccell x = [.int .i64 y0, .string y1, .string y2, .int .i64 (y3 - 1), .bool (y4 == 1), .bool (y5 == 1)] := by
          rw [← hx]
          simp only [ccell, chAt, h0, h1, h2, h3, h4, h5, BL]
        have hw3 : IntKind.i64.wrap (y3 - 1) = y3 - 1 := by rw [IntKind.wrap_i64]; omega
        have HTK : Hid ((chs g).take (j + 1) = (chs g).take j ++ [x]) := Lib.hid (by
          rw [chs_is m HGL.out, List.take_add_one]
          simp [hlt, hx])
        rw [h0] at d0
        rw [h1] at d1
        rw [h2] at d2
        rw [h3] at d3
        rw [h4] at d4
        rw [h5] at d5
        have hbl : b < w4.heap.size := Pq.cell_lt d0
        have HSW : Hid (∀ W, Below w4.heap.size w4 W → W.cell? ⟨b, a + 1, none⟩ = some (.int .i64 y0) ∧ W.cell? ⟨b, a + 3 + 2, none⟩ = some (.string y1) ∧ W.cell? ⟨b, a + 6 + 2, none⟩ = some (.string y2) ∧ W.cell? ⟨b, a + 9 + 1, none⟩ = some (.int .i64 y3) ∧ W.cell? ⟨b, a + 12 + 1, none⟩ = some (.int .i64 y4) ∧ W.cell? ⟨b, a + 15 + 1, none⟩ = some (.int .i64 y5) ∧ Below w4.heap.size w4 W) := Lib.hid (fun W hW => ⟨(hW.cell (p := ⟨b, _, none⟩) hbl).trans d0, (hW.cell (p := ⟨b, _, none⟩) hbl).trans d1, (hW.cell (p := ⟨b, _, none⟩) hbl).trans d2, (hW.cell (p := ⟨b, _, none⟩) hbl).trans d3, (hW.cell (p := ⟨b, _, none⟩) hbl).trans d4, (hW.cell (p := ⟨b, _, none⟩) hbl).trans d5, hW⟩)
        have HQW : Hid (∀ W, Below wr.heap.size wr W → W.cell? ⟨b, a + 1, none⟩ = some (.int .i64 y0) ∧ W.cell? ⟨b, a + 3 + 2, none⟩ = some (.string y1) ∧ W.cell? ⟨b, a + 6 + 2, none⟩ = some (.string y2) ∧ W.cell? ⟨b, a + 9 + 1, none⟩ = some (.int .i64 y3) ∧ W.cell? ⟨b, a + 12 + 1, none⟩ = some (.int .i64 y4) ∧ W.cell? ⟨b, a + 15 + 1, none⟩ = some (.int .i64 y5) ∧ Below w4.heap.size w4 W) := Lib.hid (fun W hW => HSW.out W (HX.out.trans (hW.mono HX.out.size)))
        have HOQ : Hid (∀ W, Below wr.heap.size wr W → W.ownsRow w4.heap.size 79 6 v j (ccells ((chs g).take j))) := Lib.hid (fun W hW => own_below hown hW)
        have HHG : Hid (∀ W w6, Below wr.heap.size wr W → W.grownBy w6 v.ownBlock → w6.heap[r]? = some (.cells #[.int .i64 k0, .int .i64 k1, .int .i64 k2, .int .i64 k3, .int .i64 k4, v] 46 (0, 0)) ∧ Below w4.heap.size w4 w6) := Lib.hid (fun W w6 hWo hg => by
          have hoo := own_below hown hWo
          exact ⟨gbo_blk hoo hg (blk_below hv hWo) (by decide), (HX.out.trans (hWo.mono HX.out.size)).trans (Lq.gb_own hoo hg (Nat.le_refl _) (Nat.le_trans HX.out.size hWo.size))⟩)
        have HSG : Hid (∀ w6, (w6.heap[r]? = some (.cells #[.int .i64 k0, .int .i64 k1, .int .i64 k2, .int .i64 k3, .int .i64 k4, v] 46 (0, 0)) ∧ Below w4.heap.size w4 w6) → w6.cell? ⟨b, a + 1, none⟩ = some (.int .i64 y0) ∧ w6.cell? ⟨b, a + 3 + 2, none⟩ = some (.string y1) ∧ w6.cell? ⟨b, a + 6 + 2, none⟩ = some (.string y2) ∧ w6.cell? ⟨b, a + 9 + 1, none⟩ = some (.int .i64 y3) ∧ w6.cell? ⟨b, a + 12 + 1, none⟩ = some (.int .i64 y4) ∧ w6.cell? ⟨b, a + 15 + 1, none⟩ = some (.int .i64 y5) ∧ Below w4.heap.size w4 w6) := Lib.hid (fun w6 h => HSW.out w6 h.2)
        have HWB : Hid (∀ w6 x, (w6.heap[r]? = some (.cells #[.int .i64 k0, .int .i64 k1, .int .i64 k2, .int .i64 k3, .int .i64 k4, v] 46 (0, 0)) ∧ Below w4.heap.size w4 w6) → (w6.setCell ⟨r, 5, none⟩ x).heap[r]? = some (.cells #[.int .i64 k0, .int .i64 k1, .int .i64 k2, .int .i64 k3, .int .i64 k4, x] 46 (0, 0)) ∧ Below w4.heap.size w4 (w6.setCell ⟨r, 5, none⟩ x)) := Lib.hid (fun w6 x h => by
          obtain ⟨h1, h2⟩ := seti h.1 5 x
          exact ⟨h2, h.2.trans (by rw [← ER.out]; exact h1.below)⟩)
        have HSE : Hid (∀ w6 x, (w6.heap[r]? = some (.cells #[.int .i64 k0, .int .i64 k1, .int .i64 k2, .int .i64 k3, .int .i64 k4, v] 46 (0, 0)) ∧ Below w4.heap.size w4 w6) → (w6.setCell ⟨r, 5, none⟩ x).cell? ⟨b, a + 1, none⟩ = some (.int .i64 y0) ∧ (w6.setCell ⟨r, 5, none⟩ x).cell? ⟨b, a + 3 + 2, none⟩ = some (.string y1) ∧ (w6.setCell ⟨r, 5, none⟩ x).cell? ⟨b, a + 6 + 2, none⟩ = some (.string y2) ∧ (w6.setCell ⟨r, 5, none⟩ x).cell? ⟨b, a + 9 + 1, none⟩ = some (.int .i64 y3) ∧ (w6.setCell ⟨r, 5, none⟩ x).cell? ⟨b, a + 12 + 1, none⟩ = some (.int .i64 y4) ∧ (w6.setCell ⟨r, 5, none⟩ x).cell? ⟨b, a + 15 + 1, none⟩ = some (.int .i64 y5) ∧ Below w4.heap.size w4 (w6.setCell ⟨r, 5, none⟩ x)) := Lib.hid (fun w6 x h => HSW.out _ (HWB.out w6 x h).2)
        have HCX := Lib.hid hcx
        have hsx := HX.out.size
        obtain ⟨W8, hW8⟩ : ∃ W8, W8 = (wr.alloc (.cells #[.int .i64 y0, .string y1, .string y2, .int .i64 (y3 - 1), .bool (y4 == 1), .bool (y5 == 1)] 79)).drew := ⟨_, rfl⟩
        have hD : Below wr.heap.size wr W8 := by rw [hW8]; exact (box_below _ _).drew
        have hNB : W8.heap[wr.heap.size]? = some (.cells #[.int .i64 y0, .string y1, .string y2, .int .i64 (y3 - 1), .bool (y4 == 1), .bool (y5 == 1)] 79 (0, 0)) := by rw [hW8]; exact new_block wr _
        have c8 : W8.cell? ⟨r, 5, none⟩ = some v := cell_of (blk_below hv hD) (j := 5) rfl
        have cd : wr.drew.cell? ⟨r, 5, none⟩ = some v := cell_of (blk_below hv (Below.refl _ wr).drew) (j := 5) rfl
        have hz8 : w4.heap.size ≤ W8.heap.size := Nat.le_trans hsx hD.size
        rw [hW8] at hD hNB hz8 c8
        clear hW8
        clear h0 h1 h2 h3 h4 h5 hx ha hy3 hcx d0 d1 d2 d3 d4 d5 hbl hv hown hgc
        go_upto_region 8 with fail
        clear p0
        refine wp_region_held_drew (S := (fun W => W.cell? ⟨b, a + 1, none⟩ = some (.int .i64 y0) ∧ W.cell? ⟨b, a + 3 + 2, none⟩ = some (.string y1) ∧ W.cell? ⟨b, a + 6 + 2, none⟩ = some (.string y2) ∧ W.cell? ⟨b, a + 9 + 1, none⟩ = some (.int .i64 y3) ∧ W.cell? ⟨b, a + 12 + 1, none⟩ = some (.int .i64 y4) ∧ W.cell? ⟨b, a + 15 + 1, none⟩ = some (.int .i64 y5) ∧ Below w4.heap.size w4 W)) (by kernel_rfl) (HQW.out _ (Below.refl _ _).drew) (fun hHeld => ?_)
        refine wpAnyH_take (i := 0) (v := ?_) rfl (by kernel_rfl) (by kernel_rfl) (by kernel_rfl) (fun _ _ _ h => h) (Or.inl ⟨by rfl, ?_⟩) (by assumption) ?_
        rotate_left
        · intro w hSw
          try dsimp only at hSw
          go_simp
          try with_reducible rfl
        try simp only [Act.put, List.setIfInBounds_toArray]
        refine wpAnyH_take (i := 2) (v := ?_) rfl (by kernel_rfl) (by kernel_rfl) (by kernel_rfl) (fun _ _ _ h => h) (Or.inl ⟨by rfl, ?_⟩) (by assumption) ?_
        rotate_left
        · intro w hSw
          try dsimp only at hSw
          go_simp
          try with_reducible rfl
        try simp only [Act.put]
        refine wpAnyH_take (i := 3) (v := ?_) rfl (by kernel_rfl) (by kernel_rfl) (by kernel_rfl) (fun _ _ _ h => h) (Or.inl ⟨by rfl, ?_⟩) (by assumption) ?_
        rotate_left
        · intro w hSw
          try dsimp only at hSw
          go_simp
          try with_reducible rfl
        try simp only [Act.put]
        refine wpAnyH_take (i := 4) (v := ?_) rfl (by kernel_rfl) (by kernel_rfl) (by kernel_rfl) (fun _ _ _ h => h) (Or.inl ⟨by rfl, ?_⟩) (by assumption) ?_
        rotate_left
        · intro w hSw
          try dsimp only at hSw
          go_simp
          try with_reducible rfl
        try simp only [Act.put]
        refine wpAnyH_take (i := 5) (v := ?_) rfl (by kernel_rfl) (by kernel_rfl) (by kernel_rfl) (fun _ _ _ h => h) (Or.inl ⟨by rfl, ?_⟩) (by assumption) ?_
        rotate_left
        · intro w hSw
          try dsimp only at hSw
          go_simp
          try with_reducible rfl
        try simp only [Act.put]
        refine wpAnyH_take (i := 6) (v := ?_) rfl (by kernel_rfl) (by kernel_rfl) (by kernel_rfl) (fun _ _ _ h => h) (Or.inl ⟨by rfl, ?_⟩) (by assumption) ?_
        rotate_left
        · intro w hSw
          try dsimp only at hSw
          go_simp
          try with_reducible rfl
        try simp only [Act.put]
        refine wpAnyH_take (i := 7) (v := ?_) rfl (by kernel_rfl) (by kernel_rfl) (by kernel_rfl) (fun _ _ _ h => h) (Or.inl ⟨by rfl, ?_⟩) (by assumption) ?_
        rotate_left
        · intro w hSw
          try dsimp only at hSw
          go_simp
          try with_reducible rfl
        try simp only [Act.put]
        refine wpAnyH_take (i := 8) (v := ?_) rfl (by kernel_rfl) (by kernel_rfl) (by kernel_rfl) (fun _ _ _ h => h) (Or.inl ⟨by rfl, ?_⟩) (by assumption) ?_
        rotate_left
        · intro w hSw
          try dsimp only at hSw
          go_simp
          try with_reducible rfl
        try simp only [Act.put]
        refine wpAnyH_take (i := 9) (v := ?_) rfl (by kernel_rfl) (by kernel_rfl) (by kernel_rfl) (fun _ _ _ h => h) (Or.inl ⟨by rfl, ?_⟩) (by assumption) ?_
        rotate_left
        · intro w hSw
          try dsimp only at hSw
          go_simp
          try with_reducible rfl
        try simp only [Act.put]
        refine wpAnyH_take (i := 10) (v := ?_) rfl (by kernel_rfl) (by kernel_rfl) (by kernel_rfl) (fun _ _ _ h => h) (Or.inl ⟨by rfl, ?_⟩) (by assumption) ?_
        rotate_left
        · intro w hSw
          try dsimp only at hSw
          go_simp
          try with_reducible rfl
        try simp only [Act.put]
        refine wpAnyH_take (i := 11) (v := ?_) rfl (by kernel_rfl) (by kernel_rfl) (by kernel_rfl) (fun _ _ _ h => h) (Or.inl ⟨by rfl, ?_⟩) (by assumption) ?_
        rotate_left
        · intro w hSw
          try dsimp only at hSw
          go_simp
          try with_reducible rfl
        try simp only [Act.put]
        refine wpAnyH_take (i := 12) (v := ?_) rfl (by kernel_rfl) (by kernel_rfl) (by kernel_rfl) (fun _ _ _ h => h) (Or.inl ⟨by rfl, ?_⟩) (by assumption) ?_
        rotate_left
        · intro w hSw
          try dsimp only at hSw
          go_simp
          try with_reducible rfl
        try simp only [Act.put]
        refine wpAnyH_take (i := 13) (v := ?_) rfl (by kernel_rfl) (by kernel_rfl) (by kernel_rfl) (fun _ _ _ h => h) (Or.inl ⟨by rfl, ?_⟩) (by assumption) ?_
        rotate_left
        · intro w hSw
          try dsimp only at hSw
          go_simp
          try with_reducible rfl
        try simp only [Act.put]
        refine wpAnyH_take (i := 14) (v := ?_) rfl (by kernel_rfl) (by kernel_rfl) (by kernel_rfl) (fun _ _ _ h => h) (Or.inl ⟨by rfl, ?_⟩) (by assumption) ?_
        rotate_left
        · intro w hSw
          try dsimp only at hSw
          go_simp
          try with_reducible rfl
        try simp only [Act.put]
        refine wpAnyH_take (i := 15) (v := ?_) rfl (by kernel_rfl) (by kernel_rfl) (by kernel_rfl) (fun _ _ _ h => h) (Or.inl ⟨by rfl, ?_⟩) (by assumption) ?_
        rotate_left
        · intro w hSw
          try dsimp only at hSw
          go_simp
          try with_reducible rfl
        try simp only [Act.put]
        refine wpAnyH_take (i := 16) (v := ?_) rfl (by kernel_rfl) (by kernel_rfl) (by kernel_rfl) (fun _ _ _ h => h) (Or.inl ⟨by rfl, ?_⟩) (by assumption) ?_
        rotate_left
        · intro w hSw
          try dsimp only at hSw
          go_simp
          try with_reducible rfl
        try simp only [Act.put]
        refine wpAnyH_take (i := 17) (v := ?_) rfl (by kernel_rfl) (by kernel_rfl) (by kernel_rfl) (fun _ _ _ h => h) (Or.inl ⟨by rfl, ?_⟩) (by assumption) ?_
        rotate_left
        · intro w hSw
          try dsimp only at hSw
          go_simp
          try with_reducible rfl
        try simp only [Act.put]
        refine wpAnyH_take (i := 18) (v := ?_) rfl (by kernel_rfl) (by kernel_rfl) (by kernel_rfl) (fun _ _ _ h => h) (Or.inl ⟨by rfl, ?_⟩) (by assumption) ?_
        rotate_left
        · intro w hSw
          try dsimp only at hSw
          go_simp
          try with_reducible rfl
        try simp only [Act.put]
        refine wpAnyH_take (i := 19) (v := ?_) rfl (by kernel_rfl) (by kernel_rfl) (by kernel_rfl) (fun _ _ _ h => h) (Or.inl ⟨by rfl, ?_⟩) (by assumption) ?_
        rotate_left
        · intro w hSw
          try dsimp only at hSw
          go_simp
          try with_reducible rfl
        try simp only [Act.put]
        refine wpAnyH_take (i := 20) (v := ?_) rfl (by kernel_rfl) (by kernel_rfl) (by kernel_rfl) (fun _ _ _ h => h) (Or.inl ⟨by rfl, ?_⟩) (by assumption) ?_
        rotate_left
        · intro w hSw
          try dsimp only at hSw
          go_simp
          try with_reducible rfl
        try simp only [Act.put]
        refine wpAnyH_take (i := 21) (v := ?_) rfl (by kernel_rfl) (by kernel_rfl) (by kernel_rfl) (fun _ _ _ h => h) (Or.inl ⟨by rfl, ?_⟩) (by assumption) ?_
        rotate_left
        · intro w hSw
          try dsimp only at hSw
          go_simp
          try with_reducible rfl
        try simp only [Act.put]
        refine wpAnyH_take (i := 22) (v := ?_) rfl (by kernel_rfl) (by kernel_rfl) (by kernel_rfl) (fun _ _ _ h => h) (Or.inl ⟨by rfl, ?_⟩) (by assumption) ?_
        rotate_left
        · intro w hSw
          try dsimp only at hSw
          go_simp
          try with_reducible rfl
        try simp only [Act.put]
        refine wpAnyH_take (i := 23) (v := ?_) rfl (by kernel_rfl) (by kernel_rfl) (by kernel_rfl) (fun _ _ _ h => h) (Or.inl ⟨by rfl, ?_⟩) (by assumption) ?_
        rotate_left
        · intro w hSw
          try dsimp only at hSw
          go_simp
          try with_reducible rfl
        try simp only [Act.put]
        refine wpAnyH_take (i := 24) (v := ?_) rfl (by kernel_rfl) (by kernel_rfl) (by kernel_rfl) (fun _ _ _ h => h) (Or.inl ⟨by rfl, ?_⟩) (by assumption) ?_
        rotate_left
        · intro w hSw
          try dsimp only at hSw
          go_simp
          try with_reducible rfl
        try simp only [Act.put]
        refine wpAnyH_take (i := 25) (v := ?_) rfl (by kernel_rfl) (by kernel_rfl) (by kernel_rfl) (fun _ _ _ h => h) (Or.inl ⟨by rfl, ?_⟩) (by assumption) ?_
        rotate_left
        · intro w hSw
          try dsimp only at hSw
          go_simp
          try with_reducible rfl
        try simp only [Act.put]
        refine wpAnyH_take (i := 26) (v := ?_) rfl (by kernel_rfl) (by kernel_rfl) (by kernel_rfl) (fun _ _ _ h => h) (Or.inl ⟨by rfl, ?_⟩) (by assumption) ?_
        rotate_left
        · intro w hSw
          try dsimp only at hSw
          go_simp
          try with_reducible rfl
        try simp only [Act.put]
        refine wpAnyH_take (i := 27) (v := ?_) rfl (by kernel_rfl) (by kernel_rfl) (by kernel_rfl) (fun _ _ _ h => h) (Or.inl ⟨by rfl, ?_⟩) (by assumption) ?_
        rotate_left
        · intro w hSw
          try dsimp only at hSw
          go_simp
          try with_reducible rfl
        try simp only [Act.put]
        refine wpAnyH_take (i := 28) (v := ?_) rfl (by kernel_rfl) (by kernel_rfl) (by kernel_rfl) (fun _ _ _ h => h) (Or.inl ⟨by rfl, ?_⟩) (by assumption) ?_
        rotate_left
        · intro w hSw
          try dsimp only at hSw
          go_simp
          try with_reducible rfl
        try simp only [Act.put]
        refine wpAnyH_take (i := 29) (v := ?_) rfl (by kernel_rfl) (by kernel_rfl) (by kernel_rfl) (fun _ _ _ h => h) (Or.inl ⟨by rfl, ?_⟩) (by assumption) ?_
        rotate_left
        · intro w hSw
          try dsimp only at hSw
          go_simp
          try with_reducible rfl
        try simp only [Act.put]
        refine wpAnyH_ready (rs := [1, 30]) (by kernel_rfl) (by simp) ?_
        refine AllReadyH.cons rfl (fun K hK => ?_) (AllReadyH.cons rfl (fun K hK => ?_) AllReadyH.nil)
        · go_simp
          refine hK.out _ _ (by (try dsimp only); first | assumption | exact HQW.out _ (Below.refl _ _).drew | exact HQW.out _ (box_below _ _).drew | (with_reducible exact HSG.out _ hS6) | (with_reducible exact HSE.out _ _ hS6)) (fun hHeld => ?_)
          clear hK K
          try simp only [Act.put, List.setIfInBounds_toArray, List.set_cons_zero, List.set_cons_succ]
          refine wpAnyH_ready (rs := [30]) (by kernel_rfl) (by simp) ?_
          refine AllReadyH.cons rfl (fun K hK => ?_) AllReadyH.nil
          go_simp
          refine hK.out _ _ (by (try dsimp only); first | assumption | exact HQW.out _ (Below.refl _ _).drew | exact HQW.out _ (box_below _ _).drew | (with_reducible exact HSG.out _ hS6) | (with_reducible exact HSE.out _ _ hS6)) (fun hHeld => ?_)
          clear hK K
          try simp only [Act.put, List.setIfInBounds_toArray, List.set_cons_zero, List.set_cons_succ]
          refine wpAnyH_ready (rs := [31]) (by kernel_rfl) (by simp) ?_
          refine AllReadyH.cons rfl (fun K hK => ?_) AllReadyH.nil
          refine step_append_lies _ (by rfl) _ _ _ (by rfl) w4.heap.size 79 ic _ 6 56 Tryz.underlying36 hic hcz hcs hcb rfl (by decide) v j (ccells ((chs g).take j)) (by rfl) (HOQ.out _ hD) _ 1 1 [.int .i64 y0, .string y1, .string y2, .int .i64 (y3 - 1), .bool (y4 == 1), .bool (y5 == 1)] (by rfl) rfl (World.news_of_block hNB) (by intro u hu; simp only [List.mem_cons, List.not_mem_nil, or_false] at hu; rcases hu with rfl | rfl | rfl | rfl | rfl | rfl <;> rfl) (by decide) (by unfold maxLen; omega) (by omega) hz8 _ rfl ?_
          intro g6 cap w6 hown hgrow hat hlt6
          have hS6 := HHG.out _ _ hD hgrow
          have n5 := cell_of hS6.1 (j := 5) rfl
          have f5 := frozen_of_row w6 r 5 _ _ hS6.1
          refine hK.out _ _ (by (try dsimp only); first | assumption | exact HQW.out _ (Below.refl _ _).drew | exact HQW.out _ (box_below _ _).drew | (with_reducible exact HSG.out _ hS6) | (with_reducible exact HSE.out _ _ hS6)) (fun hHeld => ?_)
          clear hK K
          try simp only [Act.put, List.setIfInBounds_toArray]
          refine wpAnyH_take (i := 32) (v := ?_) rfl (by kernel_rfl) (by kernel_rfl) (by kernel_rfl) (fun _ _ _ h => h) (Or.inl ⟨by rfl, ?_⟩) (by assumption) ?_
          rotate_left
          · intro w hSw
            try dsimp only at hSw
            go_simp
            try with_reducible rfl
          try simp only [Act.put]
          refine wpAnyH_ready (rs := [33]) (by kernel_rfl) (by simp) ?_
          refine AllReadyH.cons rfl (fun K hK => ?_) AllReadyH.nil
          go_simp
          refine hK.out _ _ (by (try dsimp only); first | assumption | exact HQW.out _ (Below.refl _ _).drew | exact HQW.out _ (box_below _ _).drew | (with_reducible exact HSG.out _ hS6) | (with_reducible exact HSE.out _ _ hS6)) (fun hHeld => ?_)
          clear hK K
          try simp only [Act.put, List.setIfInBounds_toArray, List.set_cons_zero, List.set_cons_succ]
          refine wpAnyH_done (by kernel_rfl) ?_ _
          have hfin := HWB.out w6 (.slice (some ⟨g6, 0, none⟩) (j + 1) cap) hS6
          have hs7 := seti hS6.1 5 (Value.slice (some ⟨g6, 0, none⟩) (j + 1) cap)
          have ho7 := own_gb hown hs7.1.gb (own_ne hown hS6.1 (by decide))
          obtain ⟨w7, hw7⟩ : ∃ w7, w7 = w6.setCell ⟨r, 5, none⟩ (.slice (some ⟨g6, 0, none⟩) (j + 1) cap) := ⟨_, rfl⟩
          rw [← hw7] at hfin ho7
          rw [← hw7]
          have HV7 : Hid (∃ v, w7.heap[r]? = some (.cells #[.int .i64 k0, .int .i64 k1, .int .i64 k2, .int .i64 k3, .int .i64 k4, v] 46 (0, 0)) ∧ w7.ownsRow w4.heap.size 79 6 v (j + 1) (ccells ((chs g).take (j + 1)))) := Lib.hid ⟨_, hfin.1, by
            rw [HTK.out, ccells_append, show ccells [x] = ccell x from by simp [ccells], HCX.out]
            exact ho7⟩
          have HX7 : Hid (Below w4.heap.size w4 w7) := Lib.hid hfin.2
          clear hfin hs7 ho7 hw7 hown hgrow hat hlt6 hS6 n5 f5 hD hNB hz8 c8 cd
          go_wp2_with fail
          go_roundw
          case rel => exact ⟨j + 1, hlt, by go_num, HV7, HX7⟩
          case measure => simp [intOf]; omega
        · go_simp
          refine hK.out _ _ (by (try dsimp only); first | assumption | exact HQW.out _ (Below.refl _ _).drew | exact HQW.out _ (box_below _ _).drew | (with_reducible exact HSG.out _ hS6) | (with_reducible exact HSE.out _ _ hS6)) (fun hHeld => ?_)
          clear hK K
          try simp only [Act.put, List.setIfInBounds_toArray, List.set_cons_zero, List.set_cons_succ]
          refine wpAnyH_ready (rs := [1]) (by kernel_rfl) (by simp) ?_
          refine AllReadyH.cons rfl (fun K hK => ?_) AllReadyH.nil
          go_simp
          refine hK.out _ _ (by (try dsimp only); first | assumption | exact HQW.out _ (Below.refl _ _).drew | exact HQW.out _ (box_below _ _).drew | (with_reducible exact HSG.out _ hS6) | (with_reducible exact HSE.out _ _ hS6)) (fun hHeld => ?_)
          clear hK K
          try simp only [Act.put, List.setIfInBounds_toArray, List.set_cons_zero, List.set_cons_succ]
          refine wpAnyH_ready (rs := [31]) (by kernel_rfl) (by simp) ?_
          refine AllReadyH.cons rfl (fun K hK => ?_) AllReadyH.nil
          refine step_append_lies _ (by rfl) _ _ _ (by rfl) w4.heap.size 79 ic _ 6 56 Tryz.underlying36 hic hcz hcs hcb rfl (by decide) v j (ccells ((chs g).take j)) (by rfl) (HOQ.out _ hD) _ 1 1 [.int .i64 y0, .string y1, .string y2, .int .i64 (y3 - 1), .bool (y4 == 1), .bool (y5 == 1)] (by rfl) rfl (World.news_of_block hNB) (by intro u hu; simp only [List.mem_cons, List.not_mem_nil, or_false] at hu; rcases hu with rfl | rfl | rfl | rfl | rfl | rfl <;> rfl) (by decide) (by unfold maxLen; omega) (by omega) hz8 _ rfl ?_
          intro g6 cap w6 hown hgrow hat hlt6
          have hS6 := HHG.out _ _ hD hgrow
          have n5 := cell_of hS6.1 (j := 5) rfl
          have f5 := frozen_of_row w6 r 5 _ _ hS6.1
          refine hK.out _ _ (by (try dsimp only); first | assumption | exact HQW.out _ (Below.refl _ _).drew | exact HQW.out _ (box_below _ _).drew | (with_reducible exact HSG.out _ hS6) | (with_reducible exact HSE.out _ _ hS6)) (fun hHeld => ?_)
          clear hK K
          try simp only [Act.put, List.setIfInBounds_toArray]
          refine wpAnyH_take (i := 32) (v := ?_) rfl (by kernel_rfl) (by kernel_rfl) (by kernel_rfl) (fun _ _ _ h => h) (Or.inl ⟨by rfl, ?_⟩) (by assumption) ?_
          rotate_left
          · intro w hSw
            try dsimp only at hSw
            go_simp
            try with_reducible rfl
          try simp only [Act.put]
          refine wpAnyH_ready (rs := [33]) (by kernel_rfl) (by simp) ?_
          refine AllReadyH.cons rfl (fun K hK => ?_) AllReadyH.nil
          go_simp
          refine hK.out _ _ (by (try dsimp only); first | assumption | exact HQW.out _ (Below.refl _ _).drew | exact HQW.out _ (box_below _ _).drew | (with_reducible exact HSG.out _ hS6) | (with_reducible exact HSE.out _ _ hS6)) (fun hHeld => ?_)
          clear hK K
          try simp only [Act.put, List.setIfInBounds_toArray, List.set_cons_zero, List.set_cons_succ]
          refine wpAnyH_done (by kernel_rfl) ?_ _
          have hfin := HWB.out w6 (.slice (some ⟨g6, 0, none⟩) (j + 1) cap) hS6
          have hs7 := seti hS6.1 5 (Value.slice (some ⟨g6, 0, none⟩) (j + 1) cap)
          have ho7 := own_gb hown hs7.1.gb (own_ne hown hS6.1 (by decide))
          obtain ⟨w7, hw7⟩ : ∃ w7, w7 = w6.setCell ⟨r, 5, none⟩ (.slice (some ⟨g6, 0, none⟩) (j + 1) cap) := ⟨_, rfl⟩
          rw [← hw7] at hfin ho7
          rw [← hw7]
          have HV7 : Hid (∃ v, w7.heap[r]? = some (.cells #[.int .i64 k0, .int .i64 k1, .int .i64 k2, .int .i64 k3, .int .i64 k4, v] 46 (0, 0)) ∧ w7.ownsRow w4.heap.size 79 6 v (j + 1) (ccells ((chs g).take (j + 1)))) := Lib.hid ⟨_, hfin.1, by
            rw [HTK.out, ccells_append, show ccells [x] = ccell x from by simp [ccells], HCX.out]
            exact ho7⟩
          have HX7 : Hid (Below w4.heap.size w4 w7) := Lib.hid hfin.2
          clear hfin hs7 ho7 hw7 hown hgrow hat hlt6 hS6 n5 f5 hD hNB hz8 c8 cd
          go_wp2_with fail
          go_roundw
          case rel => exact ⟨j + 1, hlt, by go_num, HV7, HX7⟩
          case measure => simp [intOf]; omega
      · obtain rfl : j = m := by omega
        have hji : ¬ (j : Int) < (j : Int) := by omega
        obtain ⟨A3, e3, rfl, -, -, -⟩ := own_form hown
        have hqb : Below w1.heap.size w1 wr := HB4.out.trans (HX.out.mono HB4.out.size)
        have hq9 := blk_below HQ.out hqb
        have r0 := cell_of hv (j := 0) rfl
        have r1 := cell_of hv (j := 1) rfl
        have r2 := cell_of hv (j := 2) rfl
        have r3 := cell_of hv (j := 3) rfl
        have r4 := cell_of hv (j := 4) rfl
        have r5 := cell_of hv (j := 5) rfl
        have z0 := cell_of hq9 (j := 0) rfl
        have z1 := cell_of hq9 (j := 1) rfl
        have z2 := cell_of hq9 (j := 2) rfl
        have z3 := cell_of hq9 (j := 3) rfl
        have z4 := cell_of hq9 (j := 4) rfl
        have z5 := cell_of hq9 (j := 5) rfl
        have g0 := frozen_of_row wr _ 0 _ _ hq9
        have g1 := frozen_of_row wr _ 1 _ _ hq9
        have g2 := frozen_of_row wr _ 2 _ _ hq9
        have g3 := frozen_of_row wr _ 3 _ _ hq9
        have g4 := frozen_of_row wr _ 4 _ _ hq9
        have g5 := frozen_of_row wr _ 5 _ _ hq9
        obtain ⟨w9, hw9⟩ : ∃ xx, xx = ((((((wr.setCell ⟨q, 0, none⟩ (.int .i64 k0)).setCell ⟨q, 1, none⟩ (.int .i64 k1)).setCell ⟨q, 2, none⟩ (.int .i64 k2)).setCell ⟨q, 3, none⟩ (.int .i64 k3)).setCell ⟨q, 4, none⟩ (.int .i64 k4)).setCell ⟨q, 5, none⟩ (.slice A3 j e3)) := ⟨_, rfl⟩
        obtain ⟨hwrw9, hkw9⟩ := set6 hq9 (.int .i64 k0) (.int .i64 k1) (.int .i64 k2) (.int .i64 k3) (.int .i64 k4) (.slice A3 j e3)
        rw [← hw9] at hwrw9 hkw9
        have ho9 := own_gb hown hwrw9.gb (own_ne hown hq9 (by decide))
        have HE : Hid (DcPost w R (.returned (.tuple #[.agg #[.int .i64 k0, .int .i64 k1, .int .i64 k2, .int .i64 k3, .int .i64 k4, .slice A3 j e3], .int .i64 0])) w9) := Lib.hid (by
          have hcl : (chs g).length = j := by rw [chs_is j HGL.out]; simp
          rw [List.take_of_length_le (Nat.le_of_eq hcl)] at ho9
          refine ⟨(HB1.out.trans (hqb.mono HB1.out.size)).trans (by rw [← EQ.out]; exact hwrw9.below), ?_⟩
          rw [HRT.out, HFD.out]
          show ∃ A c, _ ∧ Rd ccell 6 w9 A (chs g).length (chs g)
          rw [hcl]
          exact ⟨A3, e3, rfl, Rd.of_own ho9 (fun _ _ => rfl) (by decide)⟩)
        have y0 := cell_of hkw9 (j := 0) rfl
        have y1 := cell_of hkw9 (j := 1) rfl
        have y2 := cell_of hkw9 (j := 2) rfl
        have y3 := cell_of hkw9 (j := 3) rfl
        have y4 := cell_of hkw9 (j := 4) rfl
        have y5 := cell_of hkw9 (j := 5) rfl
        have HW9 := Lib.hid hw9
        clear hw9 hwrw9 hkw9 hq9 hv hown ho9 hqb
        go_wp2_with fail
        rw [← HW9.out]
        exact bodyPost_ret (v := .tuple #[.agg #[.int .i64 k0, .int .i64 k1, .int .i64 k2, .int .i64 k3, .int .i64 k4, .slice A3 j e3], .int .i64 0]) (by simp [results, Tryz.results24, go_sem, y0, y1, y2, y3, y4, y5]) rfl HE.out
end Go.Proofs.YtflgemlhocjipaaGreatDoor
