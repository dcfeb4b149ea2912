/-
  The document's Do. Conditions: memory holds the list, a good tree, and the changes; no path is very long.
-/
import Derived.Test.YtflgemlhocjipaaGreatDoorRef10
import Derived.Test.YtflgemlhocjipaaGreatDoorDoP
namespace Go.Proofs.YtflgemlhocjipaaGreatDoor
set_option maxRecDepth 100000
open Go.ChangeShapes Go.WideShapes Go.ChangeAt Go.RowKit Go.Proofs.Zn Go.Proofs.Zt

theorem on_form {v1 : Value} {An : Option Addr} {cn : Nat} {now S : Tr} {w : World} {base : Nat} (h : (v1 = .slice An now.length cn ∧ S = now) ∨ w.ownsRow base 132 9 v1 S.length (ncells S)) : ∃ A1 c1, v1 = .slice A1 S.length c1 := by
  rcases h with ⟨e, e2⟩ | h
  · exact ⟨An, cn, by rw [e, e2]⟩
  · obtain ⟨A, c, e, -, -, -⟩ := own_form h
    exact ⟨A, c, e⟩
def RdPost (Q : Option Addr → Prop) (a : Ans) (w : World) (e : Ending) (w' : World) : Prop :=
  ∃ v1 v2 v3, e = .returned (.tuple #[v1, v2, v3, .int .i64 a.e]) ∧ TRow Q w w' v1 a.T ∧ w'.ownsRow w.heap.size 9 1 v2 a.ps.length (scells a.ps) ∧ w'.ownsRow w.heap.size 165 3 v3 a.es.length (ecells a.es) ∧ Below w.heap.size w w'
set_option maxHeartbeats 8000000 in
theorem rdo_any {Q : Option Addr → Prop} {w : World} {AT : Option Addr} {cT : Nat} {T : Tr} (hq : Q AT) (hT : Rd ncell 9 w AT T.length T) (hg : Zt.Good T) (zx se : Int) {A : Option Addr} {n cp : Nat} {l : List Chg} (hr : Rd ccell 6 w A n l) (hl : n ≤ 1000000) (hp : ∀ c ∈ l, c.path.length ≤ 2097152) :
    Calls Tryz.prog 113 #[.slice AT T.length cT, .agg #[.int .i64 zx, .int .i64 se], .slice A n cp] w (RdPost Q (doL T zx se l) w) := by
  obtain ⟨i0, hi, hz0, hz1, hz2⟩ := info_parts infoS
  obtain ⟨i1, hi1, hy0, hy1, hy2⟩ := info_parts infoE
  obtain ⟨a, ha⟩ : ∃ a, doL T zx se l = a := ⟨_, rfl⟩
  rw [ha]
  obtain ⟨w1, hw1⟩ : ∃ w1, w1 = w.alloc (.cells #[.int .i64 zx, .int .i64 se] 200) := ⟨_, rfl⟩
  obtain ⟨bx, ebx⟩ : ∃ q, q = w.heap.size := ⟨_, rfl⟩
  have hb1 : Below w.heap.size w w1 := by rw [hw1]; exact box_below w _
  have hx1 : w1.heap[bx]? = some (.cells #[.int .i64 zx, .int .i64 se] 200 (0, 0)) := by rw [hw1, ebx]; exact new_block w _
  have HA := Lib.hid ha
  have HT := Lib.hid hT
  have HG := Lib.hid hg
  have HR := Lib.hid (hr.below hb1)
  have HP := Lib.hid hp
  have HL := Lib.hid hl
  have HB1 := Lib.hid hb1
  have HX1 := Lib.hid hx1
  have HW1 := Lib.hid hw1
  have EBX := Lib.hid ebx
  have x0 := cell_of hx1 (j := 0) rfl
  have x1 := cell_of hx1 (j := 1) rfl
  have HTF : Hid (∀ w', Below w1.heap.size w1 w' → RdPost Q ⟨T, [], [], a.e⟩ w (.returned (.tuple #[.slice AT T.length cT, .slice none 0 0, .slice none 0 0, .int .i64 a.e])) w') := Lib.hid (fun w' hb => ⟨_, _, _, rfl, .inl ⟨AT, cT, rfl, HT.out, hq⟩, ⟨rfl, .inl ⟨rfl, rfl⟩⟩, ⟨rfl, .inl ⟨rfl, rfl⟩⟩, HB1.out.trans (hb.mono HB1.out.size)⟩)
  have HI1 := Lib.hid (rin_any zx w1)
  have HI2 := Lib.hid (rin_any se w1)
  obtain ⟨b1, hb1'⟩ : ∃ b, inr zx = b := ⟨_, rfl⟩
  obtain ⟨b2, hb2'⟩ : ∃ b, inr se = b := ⟨_, rfl⟩
  rw [hb1'] at HI1
  rw [hb2'] at HI2
  have HBX := Lib.hid hb1'
  have HBS := Lib.hid hb2'
  clear hT hg hr hp hl ha hw1 ebx hb1 hx1 hb1' hb2'
  go_enter Tryz.func113, Tryz.ntmps113
  go_upto_region 1 with fail
  rw [← HW1.out, ← EBX.out]
  go_wp2_with fail
  refine HI1.out.mono ?_
  rintro e w1' ⟨rfl, rfl⟩
  cases b1 with
  | false =>
    have HD : Hid (a = ⟨T, [], [], 1⟩) := Lib.hid (by rw [← HA.out]; unfold doL; rw [if_pos (.inl HBX.out)])
    have HE : Hid (RdPost Q a w (.returned (.tuple #[.slice AT T.length cT, .slice none 0 0, .slice none 0 0, .int .i64 1])) w1) := Lib.hid (by have h := HTF.out w1 (Below.refl _ _); rw [HD.out] at h ⊢; exact h)
    go_wp2_with fail
    refine bodyPost_ret (v := .tuple #[.slice AT T.length cT, .slice none 0 0, .slice none 0 0, .int .i64 1]) (by simp [results, Tryz.results113, go_sem]) rfl ?_
    exact HE.out
  | true =>
    go_wp2_with fail
    refine HI2.out.mono ?_
    rintro e w1' ⟨rfl, rfl⟩
    cases b2 with
    | false =>
      have HD : Hid (a = ⟨T, [], [], 1⟩) := Lib.hid (by rw [← HA.out]; unfold doL; rw [if_pos (.inr HBS.out)])
      have HE : Hid (RdPost Q a w (.returned (.tuple #[.slice AT T.length cT, .slice none 0 0, .slice none 0 0, .int .i64 1])) w1) := Lib.hid (by have h := HTF.out w1 (Below.refl _ _); rw [HD.out] at h ⊢; exact h)
      go_wp2_with fail
      refine bodyPost_ret (v := .tuple #[.slice AT T.length cT, .slice none 0 0, .slice none 0 0, .int .i64 1]) (by simp [results, Tryz.results113, go_sem]) rfl ?_
      exact HE.out
    | true =>
      have HD : Hid (a = doGo T zx se T [] [] (l.drop 0)) := Lib.hid (by rw [← HA.out]; unfold doL; rw [if_neg (by rw [HBX.out, HBS.out]; simp), List.drop_zero])
      go_wp2_with fail
      go_loopw [10, 11, 12, 13] (fun vt vp ve i wr => ∃ (k : Nat) (now : Tr) (ps : List Txt) (es : List Evt), k ≤ n ∧ i = .int .i64 k ∧ Hid (TRow Q w wr vt now) ∧ Hid (Zt.Good now) ∧ Hid (wr.ownsRow w1.heap.size 9 1 vp ps.length (scells ps)) ∧ Hid (wr.ownsRow w1.heap.size 165 3 ve es.length (ecells es)) ∧
        Hid (a = doGo T zx se now ps es (l.drop k)) ∧ Hid (Below w1.heap.size w1 wr) ∧ Hid (ps.length = k ∧ es.length ≤ 2 * k)) (fun _ _ _ i _ => n - (intOf i).toNat)
      case atStart => exact ⟨0, T, [], [], Nat.zero_le _, rfl, Lib.hid (.inl ⟨AT, cT, rfl, HT.out, hq⟩), HG, Lib.hid ⟨rfl, .inl ⟨rfl, rfl⟩⟩, Lib.hid ⟨rfl, .inl ⟨rfl, rfl⟩⟩, HD, Lib.hid (Below.refl _ _), Lib.hid ⟨rfl, by simp⟩⟩
      case round =>
        obtain ⟨k, now, ps, es, hk, rfl, HTN, HGN, HO1, HO2, HDN, HBN, HLN⟩ := hrel
        have hBw := HB1.out.trans (HBN.out.mono HB1.out.size)
        have HBW := Lib.hid hBw
        obtain ⟨An, cn, rfl, hrn⟩ := HTN.out.rd hBw
        have HNR := Lib.hid hrn
        clear hrn hBw
        by_cases hlt : k < n
        · obtain ⟨bb, off, c, rfl, hc, hcell⟩ := (HR.out.below HBN.out).at hlt
          have HCK := Lib.hid hc
          have HPC := Lib.hid (HP.out c (List.mem_of_getElem? hc))
          have HSC : Hid (∀ W, Below wr.heap.size wr W → (W.cell? ⟨bx, 0, none⟩ = some (.int .i64 zx) ∧ W.cell? ⟨bx, 1, none⟩ = some (.int .i64 se) ∧ W.cell? ⟨bb, off + k * 6, none⟩ = some (.int .i64 c.kind) ∧ W.cell? ⟨bb, off + k * 6 + 1, none⟩ = some (.string (B c.path)) ∧ W.cell? ⟨bb, off + k * 6 + 2, none⟩ = some (.string (B c.data)) ∧ W.cell? ⟨bb, off + k * 6 + 3, none⟩ = some (.int .i64 c.ver) ∧ W.cell? ⟨bb, off + k * 6 + 4, none⟩ = some (.bool c.eph) ∧ W.cell? ⟨bb, off + k * 6 + 5, none⟩ = some (.bool c.sq) ∧ Below wr.heap.size wr W)) := Lib.hid (fun W hW => by
            have hx := blk_below (blk_below HX1.out HBN.out) hW
            have k : ∀ j v, (ccell c)[j]? = some v → W.cell? ⟨bb, off + k * 6 + j, none⟩ = some v := fun j v hv => (hW.cell (p := ⟨bb, off + k * 6 + j, none⟩) (cell_lt (hcell j v hv))).trans (hcell j v hv)
            exact ⟨cell_of hx (j := 0) rfl, cell_of hx (j := 1) rfl, k 0 _ rfl, k 1 _ rfl, k 2 _ rfl, k 3 _ rfl, k 4 _ rfl, k 5 _ rfl, hW⟩)
          have HSK : Hid (∀ W (j : Nat) (v : Value), (W.cell? ⟨bx, 0, none⟩ = some (.int .i64 zx) ∧ W.cell? ⟨bx, 1, none⟩ = some (.int .i64 se) ∧ W.cell? ⟨bb, off + k * 6, none⟩ = some (.int .i64 c.kind) ∧ W.cell? ⟨bb, off + k * 6 + 1, none⟩ = some (.string (B c.path)) ∧ W.cell? ⟨bb, off + k * 6 + 2, none⟩ = some (.string (B c.data)) ∧ W.cell? ⟨bb, off + k * 6 + 3, none⟩ = some (.int .i64 c.ver) ∧ W.cell? ⟨bb, off + k * 6 + 4, none⟩ = some (.bool c.eph) ∧ W.cell? ⟨bb, off + k * 6 + 5, none⟩ = some (.bool c.sq) ∧ Below wr.heap.size wr W) → (fun W => W.cell? ⟨bx, 0, none⟩ = some (.int .i64 zx) ∧ W.cell? ⟨bx, 1, none⟩ = some (.int .i64 se) ∧ W.cell? ⟨bb, off + k * 6, none⟩ = some (.int .i64 c.kind) ∧ W.cell? ⟨bb, off + k * 6 + 1, none⟩ = some (.string (B c.path)) ∧ W.cell? ⟨bb, off + k * 6 + 2, none⟩ = some (.string (B c.data)) ∧ W.cell? ⟨bb, off + k * 6 + 3, none⟩ = some (.int .i64 c.ver) ∧ W.cell? ⟨bb, off + k * 6 + 4, none⟩ = some (.bool c.eph) ∧ W.cell? ⟨bb, off + k * 6 + 5, none⟩ = some (.bool c.sq) ∧ Below wr.heap.size wr W) (W.setCell ⟨wr.heap.size, j, none⟩ v)) := Lib.hid (fun W j v hS => by
            have hxb : bx < wr.heap.size := (Array.getElem?_eq_some_iff.1 (blk_below HX1.out HBN.out)).1
            have hbb : bb < wr.heap.size := cell_lt (hcell 0 _ rfl)
            have kk : ∀ b o u, b < wr.heap.size → W.cell? ⟨b, o, none⟩ = some u → (W.setCell ⟨wr.heap.size, j, none⟩ v).cell? ⟨b, o, none⟩ = some u := fun b o u hb hx => by rw [World.cell?_setCell_far _ _ _ _ (Nat.ne_of_gt hb)]; exact hx
            obtain ⟨s0, s1, s2, s3, s4, s5, s6, s7, sB⟩ := hS
            exact ⟨kk _ _ _ hxb s0, kk _ _ _ hxb s1, kk _ _ _ hbb s2, kk _ _ _ hbb s3, kk _ _ _ hbb s4, kk _ _ _ hbb s5, kk _ _ _ hbb s6, kk _ _ _ hbb s7, sB.setCell (Nat.le_refl _) v⟩)
          have HON : Hid (∀ W, Below wr.heap.size wr W → Calls Tryz.prog 141 #[.slice An now.length cn, .int .i64 zx, .int .i64 se, .agg #[.int .i64 c.kind, .string (B c.path), .string (B c.data), .int .i64 c.ver, .bool c.eph, .bool c.sq]] W (OnPost (.slice An now.length cn) now (Zt.one now zx se c) W)) := Lib.hid (fun W hW => rone_any (HNR.out.below hW) HGN.out zx se c HPC.out)
          obtain ⟨R, hR⟩ : ∃ R, Zt.one now zx se c = R := ⟨_, rfl⟩
          have HRR := Lib.hid hR
          rw [hR] at HON
          have hki0 : (0 : Int) ≤ (k : Int) := by omega
          have hki1 : (k : Int) < (n : Int) := by omega
          clear hc hcell hR
          go_upto_region 9 with fail
          go_region_held3 (fun W => W.cell? ⟨bx, 0, none⟩ = some (.int .i64 zx) ∧ W.cell? ⟨bx, 1, none⟩ = some (.int .i64 se) ∧ W.cell? ⟨bb, off + k * 6, none⟩ = some (.int .i64 c.kind) ∧ W.cell? ⟨bb, off + k * 6 + 1, none⟩ = some (.string (B c.path)) ∧ W.cell? ⟨bb, off + k * 6 + 2, none⟩ = some (.string (B c.data)) ∧ W.cell? ⟨bb, off + k * 6 + 3, none⟩ = some (.int .i64 c.ver) ∧ W.cell? ⟨bb, off + k * 6 + 4, none⟩ = some (.bool c.eph) ∧ W.cell? ⟨bb, off + k * 6 + 5, none⟩ = some (.bool c.sq) ∧ Below wr.heap.size wr W)
            (first
              | assumption
              | (with_reducible exact HSC.out _ (Below.refl _ _).drew)
              | (with_reducible exact HSC.out _ (below_step (by assumption) (box_below _ _)))
              | (with_reducible exact HSC.out _ (below_step (Below.refl _ _).drew (box_below _ _)))
              | (with_reducible exact HSK.out _ _ _ (HSK.out _ _ _ (HSK.out _ _ _ (HSK.out _ _ _ (by assumption))))))
            (first
              | (go_at_call 141; (with_reducible refine (HON.out _ (by first | exact (Below.refl _ _).drew | assumption | exact below_step (Below.refl _ _).drew (box_below _ _))).mono ?_); rintro e w12 ⟨v1, v2, rfl, h1, h2, hb12⟩; have hB12 := below_step (a := wr) (by first | exact (Below.refl _ _).drew | assumption | exact below_step (Below.refl _ _).drew (box_below _ _)) hb12; have hS12 := HSC.out w12 hB12; obtain ⟨A1, c1, rfl⟩ := on_form h1; obtain ⟨A3, c3, rfl, -, -, -⟩ := own_form h2; try have hbx : w12.heap[wr.heap.size]? = some (.cells #[.slice none 0 0, .string ⟨#[]⟩, .slice none 0 0, .int .i64 0] 229 (0, 0)) := blk_below (new_block wr.drew _) hb12; try (have b0 := cell_of hbx (j := 0) rfl; have b1 := cell_of hbx (j := 1) rfl; have b2 := cell_of hbx (j := 2) rfl; have b3 := cell_of hbx (j := 3) rfl; have f0 := frozen_of_row w12 _ 0 _ _ hbx; have f1 := frozen_of_row w12 _ 1 _ _ hbx; have f2 := frozen_of_row w12 _ 2 _ _ hbx; have f3 := frozen_of_row w12 _ 3 _ _ hbx)))
          all_goals
            first
              | (obtain ⟨w13, hw13⟩ : ∃ w', w' = w12.alloc (.cells #[.slice A1 R.T.length c1, .string (B R.path), .slice A3 R.evs.length c3, .int .i64 R.e] 229) := ⟨_, rfl⟩
                 obtain ⟨sb, esb⟩ : ∃ x, x = w12.heap.size := ⟨_, rfl⟩
                 have hb0 : Below w12.heap.size w12 w13 := by rw [hw13]; exact box_below _ _
                 have hs13 : w13.heap[sb]? = some (.cells #[.slice A1 R.T.length c1, .string (B R.path), .slice A3 R.evs.length c3, .int .i64 R.e] 229 (0, 0)) := by rw [hw13, esb]; exact new_block w12 _
                 have hb13 : Below wr.heap.size wr w13 := below_step hB12 hb0
                 have ht13 : TRow Q w w13 (.slice A1 R.T.length c1) R.T := by
                   rcases h1 with ⟨e, e2⟩ | h
                   · rw [e, e2]; exact HTN.out.below hb13
                   · exact .inr (own_base (own_below h hb0) HBW.out.size)
                 have hv13 := own_base (b' := w.heap.size) (own_below h2 hb0) HBW.out.size
                 rw [← hw13, ← esb]
                 clear hw13 esb hb0 h1 h2 hb12 hB12 hS12)
              | (obtain ⟨w13, hw13⟩ : ∃ w', w' = ((((w12.setCell ⟨wr.heap.size, 0, none⟩ (.slice A1 R.T.length c1)).setCell ⟨wr.heap.size, 1, none⟩ (.string (B R.path))).setCell ⟨wr.heap.size, 2, none⟩ (.slice A3 R.evs.length c3)).setCell ⟨wr.heap.size, 3, none⟩ (.int .i64 R.e)) := ⟨_, rfl⟩
                 obtain ⟨hwr, hs13⟩ := set_st hbx (.slice A1 R.T.length c1) (.string (B R.path)) (.slice A3 R.evs.length c3) (.int .i64 R.e)
                 rw [← hw13] at hwr hs13
                 have hb13 : Below wr.heap.size wr w13 := hB12.trans hwr.below
                 have ht13 : TRow Q w w13 (.slice A1 R.T.length c1) R.T := by
                   rcases h1 with ⟨e, e2⟩ | h
                   · rw [e, e2]; exact HTN.out.below hb13
                   · exact .inr (own_base (own_gb h hwr.gb (own_ne h hbx (by decide))) (Nat.le_trans HBW.out.size (box_below wr.drew _).size))
                 have hv13 := own_base (b' := w.heap.size) (own_gb h2 hwr.gb (own_ne h2 hbx (by decide))) (Nat.le_trans HBW.out.size (box_below wr.drew _).size)
                 rw [← hw13]
                 obtain ⟨sb, esb⟩ : ∃ x, x = wr.heap.size := ⟨_, rfl⟩
                 rw [← esb] at hs13 ⊢
                 clear hw13 esb hwr h1 h2 hb12 hB12 hS12 hbx b0 b1 b2 b3 f0 f1 f2 f3)
          all_goals
            have HS13 := Lib.hid hs13
            have HT13 := Lib.hid ht13
            have HV13 := Lib.hid hv13
            have HB13 := Lib.hid (HBN.out.trans (hb13.mono HBN.out.size))
            have HO13 := Lib.hid (own_below HO1.out hb13)
            have HO23 := Lib.hid (own_below HO2.out hb13)
            have s0 := cell_of hs13 (j := 0) rfl
            have s1 := cell_of hs13 (j := 1) rfl
            have s2 := cell_of hs13 (j := 2) rfl
            have s3 := cell_of hs13 (j := 3) rfl
            clear hs13 ht13 hv13 hb13
            by_cases hE : R.e = 0
            · have hE' : (R.e != 0) = false := by simpa using hE
              have HEV : Hid (R.evs.length ≤ 2) := Lib.hid (by rw [← HRR.out]; exact one_evs now zx se c)
              have HGS : Hid (Zt.Good R.T) := Lib.hid (by have := one_good HGN.out HBX.out HBS.out (c := c) (by rw [HRR.out]; exact hE); rw [HRR.out] at this; exact this)
              have HDD : Hid (a = doGo T zx se R.T (ps ++ [R.path]) (es ++ R.evs) (l.drop (k + 1))) := Lib.hid (by rw [HDN.out, doGo_at HCK.out, HRR.out, if_neg (by rw [hE]; simp)])
              have ho14 := HO13.out
              have hl47 := HLN.out
              have hnl := HL.out
              have hsz4 := HB13.out.size
              obtain ⟨ev, hev⟩ : ∃ x, R.evs.length = x := ⟨_, rfl⟩
              have hcv := own_cap HV13.out
              have HEVL := Lib.hid hev
              clear hE hev
              go_upto_region 13 with fail
              go_upto_region 14 with (at_builtin; refine wpList_append_own _ rfl _ _ 40 rfl w1.heap.size 9 i0 (.string ⟨#[]⟩) 1 16 Tryz.underlying40 hi hz0 hz1 hz2 rfl (by decide) _ _ _ rfl (ho14.alloc _) ⟨w13.heap.size, 0, none⟩ 1 1 (scell R.path) rfl rfl (cell_one_new _ _ _) (by intro u hu; simp only [scell, List.mem_cons, List.not_mem_nil, or_false] at hu; subst hu; rfl) (by unfold maxLen at *; omega) (by omega) (by simp; omega) ?_; intro v' w5 hown' hg5 hnil5)
              have hA4 := box_below w13 (.cells #[.string (B R.path)] 9)
              have hB5 := (HB13.out.alloc hsz4 (.cells #[.string (B R.path)] 9)).grown hg5 (by simp; omega) (fun j hj => (HO13.out.lt j hj).1)
              have HT5 := Lib.hid ((HT13.out.below hA4).gb (own_below HO13.out hA4) hg5 (by decide))
              have ho25 := own_gb' (own_below HO23.out hA4) hg5 (own_apart (own_below HO23.out hA4) (own_below HO13.out hA4) (by decide))
              have hv5 := own_gb' (own_below HV13.out hA4) hg5 (own_apart (own_below HV13.out hA4) (own_below HO13.out hA4) (by decide))
              have hrv5 := Rd.of_own (cell := ecell) (l := R.evs) hv5 (fun _ _ => rfl) (by omega)
              have hs5 := gb_keep (own_below HO13.out hA4) hg5 (blk_below HS13.out hA4) (by decide)
              have HB5 := Lib.hid hB5
              have HO15 := Lib.hid hown'
              have HO25 := Lib.hid ho25
              have hsz5 := hB5.size
              have hevl := HEVL.out
              have hev2 := HEV.out
              rw [hevl] at hrv5 hev2
              clear s0 s1 s2 s3
              have s2 := cell_of hs5 (j := 2) rfl
              rw [hevl] at s2
              clear hown' hg5 hnil5 hA4 hv5 hB5 ho14 hsz4 hs5 hevl
              go_wp2_with (at_builtin; refine wpList_append_rd rfl _ _ 43 rfl w1.heap.size 165 i1 _ 3 32 Tryz.underlying43 hi1 hy0 hy1 hy2 rfl (by decide) _ es.length _ rfl ho25 A3 ev c3 R.evs rfl hrv5 (fun _ _ => rfl) ecell_one hcv (by unfold maxLen; omega) (by omega) (by omega) ?_; intro v6 w6 hown6 hg6)
              have HT6 := Lib.hid (HT5.out.gb ho25 hg6 (by decide))
              have HO16 := Lib.hid (own_gb' HO15.out hg6 (own_apart HO15.out ho25 (by decide)))
              have HB6 := Lib.hid (HB5.out.trans (gb_own ho25 hg6 (Nat.le_refl _) hsz5))
              have HO26 := Lib.hid hown6
              clear ho25 hrv5 hown6 hg6 hcv
              go_roundw
              case rel =>
                refine ⟨k + 1, R.T, ps ++ [R.path], es ++ R.evs, hlt, by go_num, HT6, HGS, Lib.hid ?_, Lib.hid ?_, HDD, HB6, Lib.hid ⟨by rw [List.length_append, HLN.out.1]; rfl, by rw [List.length_append]; have := HLN.out; have := HEV.out; omega⟩⟩
                · rw [List.length_append, scells_append]; exact HO16.out
                · rw [List.length_append, ecells_append, HEVL.out]; exact HO26.out
              case measure => simp [intOf]; omega
            · have hE' : (R.e != 0) = true := by simpa using hE
              have HDD : Hid (a = ⟨T, [], [], R.e⟩) := Lib.hid (by rw [HDN.out, doGo_at HCK.out, HRR.out, if_pos hE])
              have HE0 : Hid (∀ w', Below w13.heap.size w13 w' → RdPost Q a w (.returned (.tuple #[.slice AT T.length cT, .slice none 0 0, .slice none 0 0, .int .i64 R.e])) w') := Lib.hid (fun w' hb => by
                have h := HTF.out w' (HB13.out.trans (hb.mono HB13.out.size))
                rw [HDD.out] at h ⊢
                exact h)
              clear hE
              go_upto_region 11 with fail
              go_quiet (fail)
              have HE := Lib.hid (HE0.out _ (below_drewN (Below.refl _ _) nq))
              go_wp2_with fail
              refine bodyPost_ret (v := .tuple #[.slice AT T.length cT, .slice none 0 0, .slice none 0 0, .int .i64 R.e]) (by simp [results, Tryz.results113, go_sem]) rfl ?_
              exact HE.out
        · have hkn : k = n := by omega
          have HDD : Hid (a = ⟨now, ps, es, 0⟩) := Lib.hid (by rw [HDN.out, hkn, List.drop_of_length_le (by rw [HR.out.len]; exact Nat.le_refl _)]; rfl)
          have HE : Hid (RdPost Q a w (.returned (.tuple #[.slice An now.length cn, u11, u12, .int .i64 0])) wr) := Lib.hid (by rw [HDD.out]; exact ⟨_, _, _, rfl, HTN.out, own_base HO1.out HB1.out.size, own_base HO2.out HB1.out.size, HBW.out⟩)
          clear hkn
          go_wp2_with fail
          refine bodyPost_ret (v := .tuple #[.slice An now.length cn, u11, u12, .int .i64 0]) (by simp [results, Tryz.results113, go_sem]) rfl ?_
          exact HE.out
end Go.Proofs.YtflgemlhocjipaaGreatDoor
