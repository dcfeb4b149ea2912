/-
  ZtreeAtomic returns true. Conditions: memory holds the script, which is not long, and the changes; no path is very long.
-/
import Derived.Test.YtfkhnnmibecbeaaGreatDoorLawA
import Derived.Test.YtfkhnnmibecbeaaGreatDoorTree1
namespace Go.Proofs.YtfkhnnmibecbeaaGreatDoor
set_option maxRecDepth 100000
open Go.ChangeShapes Go.WideShapes Go.ChangeAt Go.RowKit Go.Proofs.Zn Go.Proofs.Zt

set_option maxHeartbeats 8000000 in
theorem atomic_law {w : World} {A : Option Addr} {n c : Nat} {l : List Opv} (h : Scr w A n l) (ht : tot l ≤ 10000000) (hsh : ∀ o ∈ l, ∀ c ∈ o.l, c.path.length ≤ 2097152) (zx se : Int) {Ac : Option Addr} {m cm : Nat} {C : List Chg} (hC : Rd ccell 6 w Ac m C) (hCo : ∀ c ∈ C, ChOk c) :
    Calls Tryz.prog 7 #[.slice A n c, .agg #[.int .i64 zx, .int .i64 se], .slice Ac m cm] w fun e w' => e = .returned (.bool true) ∧ Below w.heap.size w w' := by
  obtain ⟨w0, hw0⟩ : ∃ w0, w0 = w.alloc (.cells #[.int .i64 zx, .int .i64 se] 53) := ⟨_, rfl⟩
  obtain ⟨bx, ebx⟩ : ∃ q, q = w.heap.size := ⟨_, rfl⟩
  have hb0 : Below w.heap.size w w0 := by rw [hw0]; exact box_below w _
  have HX0 : Hid (w0.heap[bx]? = some (.cells #[.int .i64 zx, .int .i64 se] 53 (0, 0))) := Lib.hid (by rw [hw0, ebx]; exact new_block w _)
  have HB0 := Lib.hid hb0
  have hC0 := hC.below hb0
  have h := h.below hb0
  have HW0 := Lib.hid hw0
  have EBX := Lib.hid ebx
  clear hC hw0 ebx hb0
  have HN := Lib.hid (new_any w0)
  have HSC := Lib.hid h
  have HSHO := Lib.hid hsh
  have HFW : Hid (∀ W, Below w0.heap.size w0 W → Calls Tryz.prog 10 #[.slice A n c] W fun e w' => e = .returned (.bool (decide (tot l ≤ 300))) ∧ Below W.heap.size W w') := Lib.hid (fun W hW => few_any (h.below hW) (by omega))
  obtain ⟨f, hf⟩ : ∃ f, decide (tot l ≤ 300) = f := ⟨_, rfl⟩
  rw [hf] at HFW
  have HF := Lib.hid hf
  have HNT : Hid (n ≤ tot l) := Lib.hid (by rw [← h.rd.len]; exact tot_len l)
  have HC0 := Lib.hid hC0
  have HCO := Lib.hid hCo
  clear hC0 hCo
  clear h hsh hf ht
  go_enter Tryz.func7, Tryz.ntmps7
  go_upto_region 1 with fail
  rw [← HW0.out, ← EBX.out]
  go_wp2_with fail
  refine HN.out.mono ?_
  rintro e w1 ⟨tp, mb1, rfl, ht1, hb1, hu1, -⟩
  have HT1 := Lib.hid ht1
  have HB1 := Lib.hid hb1
  have HU1 := Lib.hid hu1
  have HFE := Lib.hid (HFW.out w1 hb1)
  clear ht1 hb1 hu1
  go_wp2_with fail
  refine HFE.out.mono ?_
  rintro e w2 ⟨rfl, hb2⟩
  have HB2 := Lib.hid (HB1.out.trans (hb2.mono HB1.out.size))
  have HT2 := Lib.hid (HT1.out.below hb2)
  clear hb2
  cases f with
  | false =>
    have HAL := Lib.hid (alive_any w2)
    go_wp2_with fail
    refine HAL.out.mono ?_
    rintro e wza ⟨rfl, hbz⟩
    have HBZ := Lib.hid (HB2.out.trans (hbz.mono HB2.out.size))
    clear hbz
    go_wp2_with fail
    go_ret
    exact ⟨rfl, HB0.out.trans (HBZ.out.mono HB0.out.size)⟩
  | true =>
    by_cases h30 : 30 < m
    · have h30' : (30 : Int) < (m : Int) := by omega
      clear h30
      have HAL := Lib.hid (alive_any w2)
      go_wp2_with fail
      refine HAL.out.mono ?_
      rintro e wzb ⟨rfl, hbz⟩
      have HBZ := Lib.hid (HB2.out.trans (hbz.mono HB2.out.size))
      clear hbz
      go_wp2_with fail
      go_ret
      exact ⟨rfl, HB0.out.trans (HBZ.out.mono HB0.out.size)⟩
    have h30' : ¬ (30 : Int) < (m : Int) := by omega
    have H30 := Lib.hid h30
    clear h30
    have HSH : Hid (Short l ∧ n ≤ 1000000) := Lib.hid (by
      have h300 : tot l ≤ 300 := by simpa using HF.out
      have := HNT.out
      exact ⟨fun o ho => ⟨by have := short_of ho; omega, HSHO.out o ho⟩, by omega⟩)
    have HRN := Lib.hid (rnew_any w2)
    go_wp2_with fail
    refine HRN.out.mono ?_
    rintro e w3 ⟨v3, rfl, hr3, hb3⟩
    obtain ⟨A3, c3, rfl, -, -, -⟩ := own_form hr3
    have hb03 := HB2.out.trans (hb3.mono HB2.out.size)
    have HB3 := Lib.hid hb03
    have HPY := Lib.hid (plays_any (c := c3) (cs := c) (T := Zt.new) (HT2.out.below hb3) new_good (Rd.of_own (cell := ncell) (l := Zt.new) hr3 (fun _ _ => rfl) (by omega)) (HSC.out.below hb03) HSH.out.1 HSH.out.2)
    clear hr3 hb3 hb03
    go_wp2_with fail
    refine HPY.out.mono ?_
    rintro e w4 ⟨v4, rfl, hpl⟩
    obtain ⟨T, hT⟩ : ∃ T, playT Zt.new l = T := ⟨_, rfl⟩
    have HG : Hid (Zt.Good T) := Lib.hid (by rw [← hT]; exact play_good new_good l)
    rw [hT] at hpl
    obtain ⟨⟨A4, c4, rfl, hr4⟩, ⟨mb4, ht4⟩, hs4, hg4⟩ := hpl
    have HB4 : Hid (Below w0.heap.size w0 w4) := Lib.hid (HB3.out.trans (gb_to hg4 HU1.out HB3.out.size))
    have HR4 := Lib.hid hr4
    have HT4 := Lib.hid ht4
    have HTL : Hid (T.length ≤ 200) := Lib.hid HG.out.len
    clear hT hr4 ht4 hs4 hg4
    have HCL := Lib.hid (clone_tree HT4.out)
    clear h30'
    go_wp2_with fail
    refine HCL.out.mono ?_
    rintro e w5 ⟨up, mb5, rfl, hu5, hb5, hup, hmp⟩
    have HB5 := Lib.hid (HB4.out.trans (hb5.mono HB4.out.size))
    have HT5 := Lib.hid (HT4.out.below hb5)
    have HR5 := Lib.hid (HR4.out.below hb5)
    have HU5 := Lib.hid hu5
    have htl := HT4.out.lt
    have HNU : Hid (tp ≠ up) := Lib.hid (by omega)
    have HUW : Hid (w0.heap.size ≤ up) := Lib.hid (Nat.le_trans HB4.out.size hup)
    have HDO := Lib.hid (do_any (cp := cm) HT5.out HG.out zx se (HC0.out.below HB5.out) (by have := H30.out; omega) HCO.out)
    obtain ⟨D, hD⟩ : ∃ D, doL T zx se C = D := ⟨_, rfl⟩
    have HGD : Hid (Zt.Good D.T) := Lib.hid (by rw [← hD]; exact doL_good HG.out zx se C)
    have HDD := Lib.hid hD
    rw [hD] at HDO
    obtain ⟨de, hde⟩ : ∃ x, D.e = x := ⟨_, rfl⟩
    have HDE := Lib.hid hde
    have hx5 := blk_below HX0.out HB5.out
    have x0 := cell_of hx5 (j := 0) rfl
    have x1 := cell_of hx5 (j := 1) rfl
    clear hu5 hb5 hup hmp htl hD hde hx5
    go_wp2_with fail
    refine HDO.out.mono ?_
    rintro e w6 ⟨v1, v2, mb6, rfl, ht6, hg6, h1, h2⟩
    obtain ⟨A6, c6, rfl, -, -, -⟩ := own_form h1
    obtain ⟨A7, c7, rfl, -, -, -⟩ := own_form h2
    rw [HDE.out]
    have HB6 := Lib.hid (HB5.out.trans (gb_to hg6 HU1.out HB5.out.size))
    have HT6 := Lib.hid ht6
    have HR6 := Lib.hid (rd_gb n1 HR5.out HT5.out hg6)
    have HU6 := Lib.hid (HU5.out.gb hg6 (Ne.symm HNU.out) (Ne.symm (HU5.out.map.ne_cells HT5.out.here)))
    have HP6 := Lib.hid h1
    clear ht6 hg6 h1 h2 x0 x1
    by_cases he : de = 0
    · have te : (de != 0) = false := by simpa using he
      have hDe : (doL T zx se C).e = 0 := by rw [HDD.out, HDE.out]; exact he
      obtain ⟨q1, q2, q3, q4, q5⟩ := doL_seq HG.out hDe
      rw [HDD.out] at q3 q4 q5
      have HQ3 := Lib.hid q3
      have HQ5 := Lib.hid q5
      have HCL : Hid (C.length = m) := Lib.hid HC0.out.len
      have HPN : Hid (D.ps.length = m) := Lib.hid (by rw [q4]; exact HC0.out.len)
      have hm30 : m ≤ 30 := by have := H30.out; omega
      rw [HPN.out] at HP6
      rw [HPN.out]
      clear he hDe q1 q2 q3 q4 q5
      go_wp2_with fail
      go_loopw [71] (fun i wr => ∃ k : Nat, k ≤ m ∧ i = .int .i64 k ∧ Hid (∃ mbu, TreeW wr up mbu (seqT zx se T (C.take k))) ∧ Hid (TreeW wr tp mb6 D.T) ∧ Hid (wr.ownsRow w5.heap.size 9 1 (.slice A6 m c6) m (scells D.ps)) ∧ Hid (Below w0.heap.size w0 wr)) (fun i _ => m - (intOf i).toNat)
      case atStart => exact ⟨0, Nat.zero_le _, rfl, Lib.hid ⟨mb5, HU6.out⟩, HT6, HP6, HB6⟩
      case round =>
        obtain ⟨k, hk, rfl, HU, HT, HP, HX⟩ := hrel
        by_cases hlt : k < m
        · obtain ⟨b, off, ch, rfl, hc, hcell⟩ := (HC0.out.below HX.out).at hlt
          obtain ⟨hgs, hse, hsT, p, hsp, hpk⟩ := HQ5.out k ch hc
          have HCC := Lib.hid (HCO.out ch (List.mem_of_getElem? hc))
          obtain ⟨mbu, hu⟩ := HU.out
          obtain ⟨S, hS⟩ : ∃ S, seqT zx se T (C.take k) = S := ⟨_, rfl⟩
          rw [hS] at hgs hse hsT hsp hu
          have ho := HP.out
          obtain ⟨A', c', e1, -, -, hA⟩ := own_form ho
          obtain ⟨g, hgA⟩ := hA (by omega)
          injection e1 with e1 _ e3
          subst e1 e3
          subst hgA
          have pk := own_cell ho k _ (show (scells D.ps)[k]? = some (.string (B p)) by rw [scells_map, List.getElem?_map, hpk]; rfl)
          have hgl : g < wr.heap.size := (ho.lt g rfl).2
          have hxr := blk_below HX0.out HX.out
          have x0 := cell_of hxr (j := 0) rfl
          have x1 := cell_of hxr (j := 1) rfl
          have a0 : wr.cell? ⟨b, off + k * 6, none⟩ = some (.int .i64 ch.kind) := hcell 0 _ rfl
          have a1 : wr.cell? ⟨b, off + k * 6 + 1, none⟩ = some (.string (B ch.path)) := hcell 1 _ rfl
          have a2 : wr.cell? ⟨b, off + k * 6 + 2, none⟩ = some (.string (B ch.data)) := hcell 2 _ rfl
          have a3 : wr.cell? ⟨b, off + k * 6 + 3, none⟩ = some (.int .i64 ch.ver) := hcell 3 _ rfl
          have a4 : wr.cell? ⟨b, off + k * 6 + 4, none⟩ = some (.bool ch.eph) := hcell 4 _ rfl
          have a5 : wr.cell? ⟨b, off + k * 6 + 5, none⟩ = some (.bool ch.sq) := hcell 5 _ rfl
          obtain ⟨w7, hw7⟩ : ∃ w7, w7 = wr.alloc (.cells #[.int .i64 ch.kind, .string (B ch.path), .string (B ch.data), .int .i64 ch.ver, .bool ch.eph, .bool ch.sq] 59) := ⟨_, rfl⟩
          obtain ⟨q, eq⟩ : ∃ q, q = wr.heap.size := ⟨_, rfl⟩
          have hb7 : Below wr.heap.size wr w7 := by rw [hw7]; exact box_below wr _
          have hq7 : w7.heap[q]? = some (.cells #[.int .i64 ch.kind, .string (B ch.path), .string (B ch.data), .int .i64 ch.ver, .bool ch.eph, .bool ch.sq] 59 (0, 0)) := by rw [hw7, eq]; exact new_block wr _
          have hx7 := blk_below hxr hb7
          obtain ⟨w8, hw8⟩ : ∃ w8, w8 = w7.alloc (.cells #[.int .i64 ch.kind, .string (B ch.path), .string (B ch.data), .int .i64 ch.ver, .bool ch.eph, .bool ch.sq] 59) := ⟨_, rfl⟩
          obtain ⟨g8, eg8⟩ : ∃ q, q = w7.heap.size := ⟨_, rfl⟩
          have hb8 : Below w7.heap.size w7 w8 := by rw [hw8]; exact box_below w7 _
          have hg8 : w8.heap[g8]? = some (.cells #[.int .i64 ch.kind, .string (B ch.path), .string (B ch.data), .int .i64 ch.ver, .bool ch.eph, .bool ch.sq] 59 (0, 0)) := by rw [hw8, eg8]; exact new_block w7 _
          have hb08 := below_step hb7 hb8
          have HX8 := Lib.hid (HX.out.trans (hb08.mono HX.out.size))
          have HU8 := Lib.hid (hu.below hb08)
          have HT8 := Lib.hid (HT.out.below hb08)
          have HP8 := Lib.hid (own_below ho hb08)
          have HDO2 := Lib.hid (do_any (cp := 1) HU8.out hgs zx se (l := [ch]) (rd_one ch hg8) (by omega) (fun c hc => by rcases List.mem_singleton.1 hc with rfl; exact HCC.out))
          obtain ⟨R, hR⟩ : ∃ R, doL S zx se [ch] = R := ⟨_, rfl⟩
          rw [hR] at HDO2 hse hsT hsp
          have HSE := Lib.hid hse
          have HST := Lib.hid hsT
          have HSP := Lib.hid hsp
          have HNE : Hid (tp ≠ up ∧ g ≠ up) := Lib.hid ⟨HNU.out, fun e => own_ne ho hu.here (by decide) (by rw [← e]; rfl)⟩
          have HPK := Lib.hid pk
          have HGL := Lib.hid hgl
          have HB8 := Lib.hid hb08
          have HW7 := Lib.hid hw7
          have EQ := Lib.hid eq
          have HW8 := Lib.hid hw8
          have EG8 := Lib.hid eg8
          clear x0 x1
          have x0 := cell_of hx7 (j := 0) rfl
          have x1 := cell_of hx7 (j := 1) rfl
          have q0 := cell_of hq7 (j := 0) rfl
          have q1 := cell_of hq7 (j := 1) rfl
          have q2 := cell_of hq7 (j := 2) rfl
          have q3 := cell_of hq7 (j := 3) rfl
          have q4 := cell_of hq7 (j := 4) rfl
          have q5 := cell_of hq7 (j := 5) rfl
          clear hc hcell hgs hse hsT hsp hpk hu hS ho hA pk hgl hxr hw7 eq hb7 hq7 hx7 hw8 eg8 hb8 hg8 hb08 hR
          go_upto_region 16 with fail
          rw [← HW7.out, ← EQ.out]
          clear a0 a1 a2 a3 a4 a5
          go_wp2_with fail
          rw [← HW8.out, ← EG8.out]
          refine HDO2.out.mono ?_
          rintro e w9 ⟨v1, v2, mb9, rfl, ht9, hg9, h1, h2⟩
          rw [HSE.out]
          rw [HSP.out] at h1
          have hl1 : [p].length = 1 := rfl
          rw [hl1] at h1
          obtain ⟨A9, c9, rfl, -, -, hA9⟩ := own_form h1
          obtain ⟨g9, rfl⟩ := hA9 (by omega)
          obtain ⟨A10, c10, rfl, -, -, -⟩ := own_form h2
          have p0 := own_cell h1 0 _ (show (scells [p])[0]? = some (.string (B p)) from rfl)
          have pk9 : w9.cell? ⟨g, k, none⟩ = some (.string (B p)) := by
            rw [World.cell?_of_block (w := wr) (a := ⟨g, k, none⟩) ((hg9.block g (by have := HB8.out.size; have := HGL.out; omega) (by simpa using HNE.out.2)).trans (HB8.out.block g HGL.out))]
            exact HPK.out
          have HX9 := Lib.hid (HX8.out.trans (gb_to hg9 HUW.out HX8.out.size))
          have HU9 := Lib.hid ht9
          have HT9 := Lib.hid (HT8.out.gb hg9 HNE.out.1 (Ne.symm (HT8.out.map.ne_cells HU8.out.here)))
          have HP9 := Lib.hid (own_tree HP8.out HU8.out (by decide) hg9)
          rw [HST.out] at HU9
          clear ht9 hg9 h1 h2 hl1 hA9 x0 x1 q0 q1 q2 q3 q4 q5
          go_upto_region 17 with fail
          go_quiet (fail)
          obtain ⟨wq, hwq⟩ : ∃ wq, wq = w9.drewN nq := ⟨_, rfl⟩
          have hbq : Below w9.heap.size w9 wq := by rw [hwq]; exact below_drewN (Below.refl _ _) _
          have HWQ := Lib.hid hwq
          rw [← HWQ.out]
          have HUQ := Lib.hid (HU9.out.below hbq)
          have HTQ := Lib.hid (HT9.out.below hbq)
          have HPQ := Lib.hid (own_below HP9.out hbq)
          have HXQ := Lib.hid (HX9.out.trans (hbq.mono HX9.out.size))
          clear hwq hbq p0 pk9
          go_wp2_with fail
          go_roundw
          case rel => exact ⟨k + 1, hlt, by go_num, Lib.hid ⟨_, HUQ.out⟩, HTQ, HPQ, HXQ⟩
          case measure => simp [intOf]; omega
        · have hkn : k = m := by omega
          have HAL := Lib.hid (alive_any wr)
          obtain ⟨mbu, hu⟩ := HU.out
          rw [hkn, List.take_of_length_le (by rw [HCL.out]; exact Nat.le_refl _), ← HQ3.out] at hu
          have HUE := Lib.hid hu
          clear hkn hu
          go_wp2_with fail
          refine HAL.out.mono ?_
          rintro e w10 ⟨rfl, hb10⟩
          have HB10 := Lib.hid (HX.out.trans (hb10.mono HX.out.size))
          have HA1 := Lib.hid (all_any (HT.out.below hb10) HGD.out)
          have HU10 := Lib.hid (HUE.out.below hb10)
          clear hb10
          go_wp2_with fail
          refine HA1.out.mono ?_
          rintro e w11 ⟨v11, rfl, hr11, hb11⟩
          obtain ⟨A11, c11, rfl, -, -, -⟩ := own_form hr11
          have HB11 := Lib.hid (HB10.out.trans (hb11.mono HB10.out.size))
          have HA2 := Lib.hid (all_any (HU10.out.below hb11) HGD.out)
          have HR11 := Lib.hid hr11
          clear hr11 hb11
          go_wp2_with fail
          refine HA2.out.mono ?_
          rintro e w12 ⟨v12, rfl, hr12, hb12⟩
          obtain ⟨A12, c12, rfl, -, -, -⟩ := own_form hr12
          have HB12 := Lib.hid (HB11.out.trans (hb12.mono HB11.out.size))
          have HSA := Lib.hid (rsame_any (c := c11) (c2 := c12) (Rd.of_own (cell := ncell) (l := D.T) (own_below HR11.out hb12) (fun _ _ => rfl) (by omega)) (Rd.of_own (cell := ncell) (l := D.T) hr12 (fun _ _ => rfl) (by omega)) (by have := HGD.out.len; omega))
          clear hr12 hb12
          go_wp2_with fail
          refine HSA.out.mono ?_
          rintro e w13 ⟨rfl, hb13⟩
          have HB13 := Lib.hid (HB12.out.trans (hb13.mono HB12.out.size))
          clear hb13
          go_wp2_with fail
          go_ret
          exact ⟨rfl, HB0.out.trans (HB13.out.mono HB0.out.size)⟩
    · have te : (de != 0) = true := by simpa using he
      have HDT : Hid (D.T = T) := Lib.hid (by rw [← HDD.out]; exact doL_fail (by rw [HDD.out, HDE.out]; exact he))
      have HTE : Hid (TreeW w6 tp mb6 T) := Lib.hid (by have h := HT6.out; rw [HDT.out] at h; exact h)
      have HAL := Lib.hid (alive_any w6)
      clear he
      go_wp2_with fail
      refine HAL.out.mono ?_
      rintro e w8 ⟨rfl, hb8⟩
      have HB8 := Lib.hid (HB6.out.trans (hb8.mono HB6.out.size))
      have HST := Lib.hid (stands_any (c := c4) (HTE.out.below hb8) HG.out (HR6.out.below hb8))
      clear hb8
      go_wp2_with fail
      refine HST.out.mono ?_
      rintro e w9 ⟨rfl, hb9⟩
      have HB9 := Lib.hid (HB8.out.trans (hb9.mono HB8.out.size))
      clear hb9
      go_wp2_with fail
      go_ret
      exact ⟨rfl, HB0.out.trans (HB9.out.mono HB0.out.size)⟩
end Go.Proofs.YtfkhnnmibecbeaaGreatDoor
