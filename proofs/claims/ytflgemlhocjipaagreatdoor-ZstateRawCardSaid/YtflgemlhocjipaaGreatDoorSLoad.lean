/-
  What Load returns of texts: a state that may be, or none. Condition: at most four hundred texts, none longer than memory bears.
-/
import Derived.Test.YtflgemlhocjipaaGreatDoorSLdL
namespace Go.Proofs.YtflgemlhocjipaaGreatDoor
set_option maxRecDepth 100000
open Go.ChangeShapes Go.WideShapes Go.ChangeAt Go.RowKit Go.Proofs.Zn Go.Proofs.Zt
open Go.Proofs.Zs (St Lst Rep Tx)
open Pq (Fld FReads Reads fcs ams errL bytL sm dc Sm Bys byts)

def SldPost (w : World) (e : Ending) (w' : World) : Prop := Below w.heap.size w w' ∧ (e = .returned (.tuple #[.pointer none, .int .i64 110]) ∨ ∃ sp S, e = .returned (.tuple #[.pointer (some ⟨sp, 0, none⟩), .int .i64 0]) ∧ StW w' w.heap.size sp S ∧ Zs.Gd S)
theorem infoStr4 : (Tryz.prog.info? 9).map (fun i => (i.zero, i.size, i.bytes)) = some (some (.string ⟨#[]⟩), 1, 16) := by kernel_rfl
theorem str_sub {w : World} {A : Option Addr} {len cap : Nat} {zs : List Txt} (hR : Rd scell 1 w A len zs) (hc : len ≤ cap) (l h : Nat) (hlh : l ≤ h) (hh : h ≤ len) :
    ∃ A' c', (∀ W : World, (Instr.slice 40 (.slice A len cap) (some (.int .i64 (l : Int))) (some (.int .i64 (h : Int))) none).run Tryz.prog W = .ok (.slice A' (h - l) c') W) ∧ Rd scell 1 w A' (h - l) ((zs.drop l).take (h - l)) := by
  obtain ⟨i0, hi, hz0, hz1, hz2⟩ := info_parts infoStr4
  refine ⟨if cap = l then A else A.map (·.add (l * 1)), cap - l, fun W => ?_, ?_⟩
  · rw [run_slice_lh (P := Tryz.prog) (w := W) 40 A len cap Tryz.underlying40 .i64 .i64 (l : Int) (h : Int) (by omega) (by omega) (by omega)]
    have e : Tryz.prog.elem 40 = 9 := by kernel_rfl
    simp [e, sizeOf, typeInfo, hi, hz1, sliced]
  · obtain ⟨h1, h2⟩ := hR
    have hlen : ((zs.drop l).take (h - l)).length = h - l := by rw [List.length_take, List.length_drop]; omega
    refine ⟨hlen, fun hp => ?_⟩
    obtain ⟨b, off, rfl, hcell⟩ := h2 (by omega)
    rw [if_neg (by omega)]
    refine ⟨b, off + l, by simp [Go.WideShapes.add_plain], fun i hi j v hv => ?_⟩
    have := hcell (l + i) (by omega) j v (by
      rw [List.getElem_take, List.getElem_drop] at hv
      exact hv)
    rw [show off + l + i * 1 + j = off + (l + i) * 1 + j by omega]
    exact this
theorem str_from {w : World} {A : Option Addr} {len cap : Nat} {zs : List Txt} (hR : Rd scell 1 w A len zs) (hc : len ≤ cap) (l : Nat) (hl : l ≤ len) :
    ∃ A' c', (∀ W : World, (Instr.slice 40 (.slice A len cap) (some (.int .i64 (l : Int))) none none).run Tryz.prog W = .ok (.slice A' (len - l) c') W) ∧ Rd scell 1 w A' (len - l) (zs.drop l) := by
  obtain ⟨A', c', h1, h2⟩ := str_sub hR hc l len hl (Nat.le_refl _)
  refine ⟨A', c', fun W => ?_, ?_⟩
  · rw [← h1 W, run_slice_lh (P := Tryz.prog) (w := W) 40 A len cap Tryz.underlying40 .i64 .i64 (l : Int) (len : Int) (by omega) (by omega) (by omega),
      run_slice_l (P := Tryz.prog) (w := W) 40 A len cap Tryz.underlying40 .i64 (l : Int) (by omega) (by omega)]
    simp
  · rw [List.take_of_length_le (by rw [List.length_drop, hR.len]; exact Nat.le_refl _)] at h2
    exact h2
set_option maxHeartbeats 16000000 in
theorem sload_any {w : World} {A : Option Addr} {n c : Nat} {l : List Txt} (hR : Rd scell 1 w A n l) (hn : n ≤ 400) (hnc : n ≤ c) (hl : ∀ s ∈ l, s.length ≤ maxLen) : Calls Tryz.prog 27 #[.slice A n c] w (SldPost w) := by
  have HR := Lib.hid hR
  have HL := Lib.hid hl
  clear hR hl
  have HE : ∀ W, Below w.heap.size w W → Hid (SldPost w (.returned (.tuple #[.pointer none, .int .i64 110])) W) := fun W hW => Lib.hid ⟨hW, .inl rfl⟩
  have HEE := Lib.hid HE
  clear HE
  by_cases h0 : n = 0
  · have h0i : ((n : Int) == 0) = true := by simpa using h0
    have h0n : (n == 0) = true := by simpa using h0
    have HEN := HEE.out w (Below.refl _ _)
    clear h0
    go_enter Tryz.func27, Tryz.ntmps27
    go_wp2_with fail
    exact bodyPost_ret (v := .tuple #[.pointer none, .int .i64 110]) (by simp [results, Tryz.results27, go_sem]) rfl HEN.out
  · have h0i : ((n : Int) == 0) = false := by simpa using h0
    have h0n : (n == 0) = false := by simpa using h0
    obtain ⟨b, off, x, rfl, hx, hcc⟩ := HR.out.at (show 0 < n by omega)
    have c0 : w.cell? ⟨b, off, none⟩ = some (.string (B x)) := by have := hcc 0 _ rfl; simpa using this
    have hxs : (B x).size ≤ maxLen := by rw [B_size]; exact HL.out x (List.mem_of_getElem? hx)
    obtain ⟨X, hX⟩ : ∃ X, B x = X := ⟨_, rfl⟩
    rw [hX] at c0 hxs
    have hlt0 := cell_lt c0
    have hni : (0 : Int) < (n : Int) := by omega
    have hnp : 0 < n := by omega
    have HS : Hid (∀ W, Below w.heap.size w W → W.cell? ⟨b, off, none⟩ = some (.string X) ∧ Below w.heap.size w W) := Lib.hid (fun W hW => ⟨(hW.cell (p := ⟨b, _, none⟩) hlt0).trans c0, hW⟩)
    obtain ⟨sz, hsz⟩ : ∃ s, X.size = s := ⟨_, rfl⟩
    obtain ⟨fW, fg, fm, hcv, HFB0, HFR, HFM⟩ : ∃ (fW : World → World) (fg fm : World → Nat), (∀ W, (convert 9 54 (.string X)).run Tryz.prog W = .ok (.slice (some ⟨fg W, 0, none⟩) sz (fm W)) (fW W)) ∧ Hid (∀ W, Below W.heap.size W (fW W)) ∧ Hid (∀ W, Reads .u8 (fW W) (some ⟨fg W, 0, none⟩) sz (Pq.sb X)) ∧ Hid (∀ W, sz ≤ fm W ∧ fm W ≤ maxLen) :=
      ⟨fun W => Lib.bytesWorld W 5 X, fun W => W.heap.size, fun W => grownCap W X.size 0 5, fun W => by rw [← hsz]; exact conv_str X W, Lib.hid (fun W => conv_below X W _), Lib.hid (fun W => by rw [← hsz]; exact conv_reads8 X W _), Lib.hid (fun W => by rw [← hsz]; exact ⟨grownCap_ge W X.size 0 _, grownCap_le_maxLen W X.size 0 _ hxs⟩)⟩
    have HKB : Hid (∀ W w', Below W.heap.size W w' → ∀ V : World, Below V.heap.size V W → Below V.heap.size V w') := Lib.hid (fun W w' h V hV => hV.trans (h.mono hV.size))
    have HC1 : Hid (∀ W, Below w.heap.size w W → Calls Tryz.prog 62 #[.int .i64 0, .int .i64 0, .int .i64 0] W fun e w' => ∃ g, e = .returned (.slice (some ⟨g, 0, none⟩) 3 3) ∧ FReads w' (some ⟨g, 0, none⟩) 3 (stF 0 0 0) ∧ Below w.heap.size w w' ∧ w'.cell? ⟨b, off, none⟩ = some (.string X) ∧ ∀ V : World, Below V.heap.size V W → Below V.heap.size V w') := Lib.hid (fun W hS => by
      refine (ofstate_any 0 0 0 W).mono ?_
      rintro e w' ⟨g, rfl, h1, h2, h3⟩
      exact ⟨g, rfl, of_fields2 h1 (by decide), hS.trans (h3.mono hS.size), (HS.out _ (hS.trans (h3.mono hS.size))).1, HKB.out _ _ h3⟩)
    have HC2 : Hid (∀ W g, Below w.heap.size w W → FReads W (some ⟨g, 0, none⟩) 3 (stF 0 0 0) → Calls Tryz.prog 61 #[.slice (some ⟨g, 0, none⟩) 3 3] W fun e w' => ∃ g, e = .returned (.slice (some ⟨g, 0, none⟩) 3 3) ∧ Reads .i64 w' (some ⟨g, 0, none⟩) 3 [2, 1, 1] ∧ Below w.heap.size w w' ∧ w'.cell? ⟨b, off, none⟩ = some (.string X) ∧ ∀ V : World, Below V.heap.size V W → Below V.heap.size V w') := Lib.hid (fun W g hS hf => by
      refine (Pq.kinds_any (some ⟨g, 0, none⟩) 3 3 _ W hf (by decide)).mono ?_
      rintro e w' ⟨rfl, h1, h2⟩
      exact ⟨_, rfl, h1, hS.trans (h2.mono hS.size), (HS.out _ (hS.trans (h2.mono hS.size))).1, HKB.out _ _ h2⟩)
    obtain ⟨D, hD⟩ : ∃ D, dc [2, 1, 1] (Pq.sb X) = D := ⟨_, rfl⟩
    obtain ⟨N, hN⟩ : ∃ N, N = D.l.length := ⟨_, rfl⟩
    obtain ⟨ER, hER⟩ : ∃ ER, ER = D.e := ⟨_, rfl⟩
    have HC3 : Hid (∀ W0 W g, Below w.heap.size w W → Reads .i64 W (some ⟨g, 0, none⟩) 3 [2, 1, 1] → Below (fW W0).heap.size (fW W0) W → Calls Tryz.prog 60 #[.slice (some ⟨g, 0, none⟩) 3 3, .slice (some ⟨fg W0, 0, none⟩) sz (fm W0)] W fun e w' => ∃ A2 c2, e = .returned (.tuple #[.slice A2 N c2, .int .i64 ER]) ∧ FReads w' A2 N D.l ∧ Below w.heap.size w w') := Lib.hid (fun W0 W g hS hk hB => by
      have h := Pq.decode_any (some ⟨g, 0, none⟩) (some ⟨fg W0, 0, none⟩) 3 3 sz (fm W0) [2, 1, 1] (Pq.sb X) W hk ((HFR.out W0).kept hB) (conv_bys X) (by decide) (HFM.out W0).1 (HFM.out W0).2
      rw [hD] at h
      refine h.mono ?_
      rintro e w' ⟨A2, c2, rfl, h1, h2⟩
      rw [hN, hER]
      exact ⟨A2, c2, rfl, h1.1, hS.trans (h2.mono hS.size)⟩)
    have HD := Lib.hid hD
    have HN := Lib.hid hN
    have HER := Lib.hid hER
    have HBW : Hid (∀ W, Below w.heap.size w W → Below w.heap.size w (fW W)) := Lib.hid (fun W h => h.trans ((HFB0.out W).mono h.size))
    have HFB : Hid (∀ W g, FReads W (some ⟨g, 0, none⟩) 3 (stF 0 0 0) → FReads (fW W) (some ⟨g, 0, none⟩) 3 (stF 0 0 0)) := Lib.hid (fun W g h => h.kept (HFB0.out W))
    have HRB : Hid (∀ W g, Reads .i64 W (some ⟨g, 0, none⟩) 3 [2, 1, 1] → Reads .i64 (fW W) (some ⟨g, 0, none⟩) 3 [2, 1, 1]) := Lib.hid (fun W g h => h.kept (HFB0.out W))
    have HRF : Hid (∀ W, Below (fW W).heap.size (fW W) (fW W)) := Lib.hid (fun W => Below.refl _ _)
    clear hx hcc hX hxs h0 hD hN hER hsz
    go_enter Tryz.func27, Tryz.ntmps27
    go_upto_region 3 with fail
    go_cut [4, 5] from 15 to 24 (fun f e wx => ∃ A2 c2, f = .slice A2 N c2 ∧ e = .int .i64 ER ∧ Hid (FReads wx A2 N D.l) ∧ Hid (Below w.heap.size w wx))
    case first =>
      have hB0 : Below w.heap.size w w.drew := (Below.refl _ _).drew
      have cB0 : w.drew.cell? ⟨b, off, none⟩ = some (.string X) := c0
      go_region_with (first
        | (go_at_call 62; (with_reducible refine (HC1.out _ (by first | (with_reducible assumption) | (with_reducible exact HBW.out _ (by with_reducible assumption)))).mono ?_); rintro e w1 ⟨g1, rfl, hf1, hW1, hc1, hV1⟩)
        | (go_at_call 61; (with_reducible refine (HC2.out _ _ (by first | (with_reducible assumption) | (with_reducible exact HBW.out _ (by with_reducible assumption))) (by first | (with_reducible assumption) | (with_reducible exact HFB.out _ _ (by with_reducible assumption)))).mono ?_); rintro e w2 ⟨g2, rfl, hr2, hW2, hc2, hV2⟩)
        | (go_at_call 60; (with_reducible refine (HC3.out _ _ _ (by first | (with_reducible assumption) | (with_reducible exact HBW.out _ (by with_reducible assumption))) (by first | (with_reducible assumption) | (with_reducible exact HRB.out _ _ (by with_reducible assumption))) (by first | (with_reducible exact HRF.out _) | (with_reducible exact hV2 _ (HRF.out _)) | (with_reducible exact hV2 _ (hV1 _ (HRF.out _))))).mono ?_); rintro e w5 ⟨A5, c5, rfl, hf5, hW5⟩))
      all_goals
        have HF5 := Lib.hid hf5
        have HW5 := Lib.hid hW5
        clear hf5 hW5
        go_wp2_with fail
        go_meet
        case rel => exact ⟨_, _, rfl, rfl, HF5, HW5⟩
    case rest =>
      obtain ⟨A5, c5, rfl, rfl, HF5, HW5⟩ := hcut
      cases D with
      | bad er =>
        have hne : ER ≠ 0 := by rw [HER.out]; exact P1.dc_bad_ne1 HD.out
        have hne1 : (ER == 0) = false := by simpa using hne
        have hne2 : (ER != 0) = true := by simpa using hne
        have HEN := HEE.out _ HW5.out
        go_upto_region 4 with fail
        go_region
        all_goals
          have HEN := HEE.out _ HW5.out.drew
          go_wp2_with fail
          exact bodyPost_ret (v := .tuple #[.pointer none, .int .i64 110]) (by simp [results, Tryz.results27, go_sem]) rfl HEN.out
      | good f m =>
        obtain ⟨hfl, herr⟩ := dc_len (conv_bys X) HD.out
        have hf3 : f.length = 3 := hfl
        have hN3 : N = 3 := by rw [HN.out]; exact hf3
        have hE0 : ER = 0 := by rw [HER.out]; rfl
        subst hN3
        subst hE0
        have hf5 := HF5.out
        obtain ⟨b0, o0, rfl, hcell⟩ := hf5.2 (by omega)
        have a0 := (hcell 0 (by omega)).2.1
        have a1 := (hcell 1 (by omega)).2.1
        have a2 := (hcell 2 (by omega)).2.1
        have q0 := fld_n herr (i := 0) (by omega)
        have q1 := fld_n herr (i := 1) (by omega)
        have q2 := fld_n herr (i := 2) (by omega)
        simp only [Pq.Sm.l] at a0 a1 a2
        obtain ⟨k0, hk0⟩ : ∃ k, (f.getD 0 Pq.z0).n = k := ⟨_, rfl⟩
        obtain ⟨k1, hk1⟩ : ∃ k, (f.getD 1 Pq.z0).n = k := ⟨_, rfl⟩
        obtain ⟨k2, hk2⟩ : ∃ k, (f.getD 2 Pq.z0).n = k := ⟨_, rfl⟩
        rw [hk0] at a0 q0
        rw [hk1] at a1 q1
        rw [hk2] at a2 q2
        have HF5' := Lib.hid hf5
        clear hf5 hcell hfl hf3 HF5
        have hw1 : IntKind.i64.wrap (1 + k1) = 1 + k1 := by rw [IntKind.wrap_i64]; omega
        obtain ⟨z, hz⟩ : ∃ z, IntKind.i64.wrap (1 + k1 + k2) = z := ⟨_, rfl⟩
        have HZ : Hid (z = (n : Int) → 1 + k1 + k2 = (n : Int)) := Lib.hid (fun h => by
          rw [← hz, IntKind.wrap_i64] at h
          omega)
        have HQ0 := Lib.hid q0
        have HQ1 := Lib.hid q1
        have HQ2 := Lib.hid q2
        by_cases hzn : z = (n : Int)
        · have hs := HZ.out hzn
          obtain ⟨p, rfl⟩ : ∃ p : Nat, k1 = (p : Int) := ⟨k1.toNat, by omega⟩
          have hpn : p + 1 ≤ n := by omega
          obtain ⟨A1, c1, hsl1, hr1⟩ := str_sub (HR.out.below HW5.out) hnc 1 (p + 1) (by omega) hpn
          obtain ⟨A2, c2, hsl2, hr2⟩ := str_from (HR.out.below HW5.out) hnc (p + 1) hpn
          rw [Nat.add_sub_cancel] at hsl1 hr1
          rw [show ((p + 1 : Nat) : Int) = 1 + (p : Int) by omega] at hsl1 hsl2
          obtain ⟨n2, hn2⟩ : ∃ n2, n - (p + 1) = n2 := ⟨_, rfl⟩
          rw [hn2] at hsl2 hr2
          have hsl1' : ∀ W : World, (Instr.slice 40 (.slice (some ⟨b, off, none⟩) n c) (some (.int .i64 1)) (some (.int .i64 (1 + (p : Int)))) none).run Tryz.prog W = .ok (.slice A1 p c1) W := hsl1
          have HLT : Hid (∀ W, Below wc.heap.size wc W → Calls Tryz.prog 63 #[.slice A1 p c1] W (LtPost W)) := Lib.hid (fun W hW => loadtree_any (hr1.below hW) (by omega) (fun s hs => HL.out s (List.mem_of_mem_drop (List.mem_of_mem_take hs))))
          have HLL : Hid (∀ W, Below wc.heap.size wc W → Calls Tryz.prog 64 #[.slice A2 n2 c2] W (LlPost W)) := Lib.hid (fun W hW => loadleases_any (hr2.below hW) (by omega) (fun s hs => HL.out s (List.mem_of_mem_drop hs)))
          have h1y : (1 : Int) ≤ 1 + (p : Int) := by omega
          have h0y : (0 : Int) ≤ 1 + (p : Int) := by omega
          have hyn : 1 + (p : Int) ≤ (n : Int) := by omega
          have hznb : (z != (n : Int)) = false := by simpa using hzn
          have hb0 := Pq.cell_lt a0
          have HA0 : Hid (∀ W, Below wc.heap.size wc W → W.cell? ⟨b0, o0 + 1, none⟩ = some (.int .i64 k0)) := Lib.hid (fun W hW => (hW.cell (p := ⟨b0, _, none⟩) hb0).trans a0)
          have d1 : wc.drew.cell? ⟨b0, o0 + 3 + 1, none⟩ = some (.int .i64 (p : Int)) := a1
          clear hsl1 hr1 hr2 hs hzn hn2 hb0 HZ q0 q1 q2
          go_upto_region 4 with fail
          go_region
          all_goals
            go_upto_region 7 with fail
            have HD0 : Hid (Below wc.heap.size wc wc.drew) := Lib.hid (Below.refl _ _).drew
            clear a0 a1 a2 d1
            go_wp2_with fail
            refine (HLT.out _ HD0.out).mono ?_
            rintro e w7 ⟨hb7, hc7⟩
            have HW7 : Hid (Below wc.heap.size wc w7) := Lib.hid (HD0.out.trans (hb7.mono HD0.out.size))
            obtain ⟨vt, bt, rfl, HT7⟩ : ∃ vt bt, e = .returned (.tuple #[vt, .bool bt]) ∧ Hid (bt = true → ∃ T tp tmb, vt = .pointer (some ⟨tp, 0, none⟩) ∧ TreeW w7 tp tmb T ∧ Zt.Good T ∧ w.heap.size ≤ tp) := by
              rcases hc7 with rfl | ⟨T, tp, tmb, rfl, h1, h2, h3⟩
              · exact ⟨_, _, rfl, Lib.hid (fun h => by cases h)⟩
              · exact ⟨_, _, rfl, Lib.hid (fun _ => ⟨T, tp, tmb, rfl, h1, h2, Nat.le_trans (Nat.le_trans HW5.out.size HD0.out.size) h3⟩)⟩
            clear hb7 hc7
            go_wp2_with fail
            refine (HLL.out _ HW7.out).mono ?_
            rintro e w8 ⟨hb8, hc8⟩
            have HW8 : Hid (Below wc.heap.size wc w8) := Lib.hid (HW7.out.trans (hb8.mono HW7.out.size))
            have HB78 := Lib.hid hb8
            obtain ⟨vl, vm, bl, rfl, HL8⟩ : ∃ vl vm bl, e = .returned (.tuple #[vl, vm, .bool bl]) ∧ Hid (bl = true → ∃ T D lp lv mb, vl = .pointer (some ⟨lp, 0, none⟩) ∧ vm = .map (some mb) ∧ Lq.TabW w8 w7.heap.size lp lv T ∧ Le.Good T ∧ DW w8 mb T D ∧ DOk T D ∧ w7.heap.size ≤ mb) := by
              rcases hc8 with ⟨v1, v2, rfl⟩ | ⟨T, D, lp, lv, mb, rfl, h⟩
              · exact ⟨_, _, _, rfl, Lib.hid (fun h => by cases h)⟩
              · exact ⟨_, _, _, rfl, Lib.hid (fun _ => ⟨T, D, lp, lv, mb, rfl, rfl, h⟩)⟩
            have HB8 : Hid (Below w.heap.size w w8) := Lib.hid (HW5.out.trans (HW8.out.mono HW5.out.size))
            clear hb8 hc8
            have HEN := HEE.out _ HB8.out
            cases bt with
            | false =>
              go_wp2_with fail
              exact bodyPost_ret (v := .tuple #[.pointer none, .int .i64 110]) (by simp [results, Tryz.results27, go_sem]) rfl HEN.out
            | true =>
              cases bl with
              | false =>
                go_wp2_with fail
                exact bodyPost_ret (v := .tuple #[.pointer none, .int .i64 110]) (by simp [results, Tryz.results27, go_sem]) rfl HEN.out
              | true =>
                obtain ⟨T, tp, tmb, rfl, hT, hTg, htp⟩ := HT7.out rfl
                obtain ⟨TL, D, lp, lv, mb, rfl, rfl, hl, hLg, hD, hDO, hmb⟩ := HL8.out rfl
                have a0 := HA0.out w8 HW8.out
                have hsz7 : w.heap.size ≤ w7.heap.size := Nat.le_trans HW5.out.size HW7.out.size
                have hb9 := box_below w8 (.cells #[.int .i64 k0, .pointer (some ⟨tp, 0, none⟩), .pointer (some ⟨lp, 0, none⟩), .map (some mb)] 92)
                have hk9 := new_block w8 (.cells #[.int .i64 k0, .pointer (some ⟨tp, 0, none⟩), .pointer (some ⟨lp, 0, none⟩), .map (some mb)] 92)
                have HE : Hid (SldPost w (.returned (.tuple #[.pointer (some ⟨w8.heap.size, 0, none⟩), .int .i64 0])) (w8.alloc (.cells #[.int .i64 k0, .pointer (some ⟨tp, 0, none⟩), .pointer (some ⟨lp, 0, none⟩), .map (some mb)] 92))) := Lib.hid
                  ⟨HB8.out.trans (hb9.mono HB8.out.size), .inr ⟨_, ⟨k0, T, TL, D⟩, rfl, ⟨tp, tmb, lp, lv, mb, hk9, (hT.below HB78.out).below hb9, tab_base (hl.below hb9) hsz7, dw_below hD hb9, HB8.out.size, htp, Nat.le_trans hsz7 hmb⟩, HQ0.out.1, HQ0.out.2, hTg, hLg, hDO.mem, hDO.ps⟩⟩
                clear hT hTg htp hl hLg hD hDO hmb hsz7 hb9 hk9
                go_wp2_with fail
                exact bodyPost_ret (v := .tuple #[.pointer (some ⟨w8.heap.size, 0, none⟩), .int .i64 0]) (by simp [results, Tryz.results27, go_sem]) rfl HE.out
        · have hznb : (z != (n : Int)) = true := by simpa using hzn
          clear hzn HZ q0 q1 q2
          go_upto_region 4 with fail
          go_region
          all_goals
            have HEN := HEE.out _ HW5.out.drew
            go_wp2_with fail
            exact bodyPost_ret (v := .tuple #[.pointer none, .int .i64 110]) (by simp [results, Tryz.results27, go_sem]) rfl HEN.out
end Go.Proofs.YtflgemlhocjipaaGreatDoor
