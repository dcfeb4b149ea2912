/-
  What Rename returns and leaves. Condition: a text's length; how much was done.
-/
import Derived.Test.YtoaahhgngelnaaaFMM
import Derived.LaidEqlPtr
namespace Go.Proofs.Ytoaahhgngelnaaa
set_option maxRecDepth 100000
open Go.ChangeShapes Go.WideShapes Go.ChangeAt Go.RowKit Go.Proofs.Sg Go.Proofs.Fz

theorem infoPI : (Try.prog.info? 75).map (fun i => i.size) = some 6 := by kernel_rfl
theorem peq_same (a : Nat) : ∀ W, (binOp .eql 66 (pA a) (pA a)).run Try.prog W = .ok (.bool true) W := fun W => by
  have h := infoPI
  rcases hq : Try.prog.info? 75 with _ | j
  · rw [hq] at h; cases h
  · exact run_eql_ptr_same W ⟨a, 0, none⟩ Try.underlying66 hq
theorem peq_ne {a b : Nat} (hne : a ≠ b) {W : World} {ca cb : Array Value} {ta tb : TypeId} (ha : W.heap[a]? = some (.cells ca ta (0, 0))) (hb : W.heap[b]? = some (.cells cb tb (0, 0))) : (binOp .eql 66 (pA a) (pA b)).run Try.prog W = .ok (.bool false) W := by
  have h := infoPI
  rcases hq : Try.prog.info? 75 with _ | j
  · rw [hq] at h; cases h
  · rw [hq] at h
    have h6 : j.size = 6 := by simpa using h
    exact run_eql_ptr_other (te := 75) (a := ⟨a, 0, none⟩) (b := ⟨b, 0, none⟩) W Try.underlying66 hq (by omega) (by intro e; injection e with e; exact hne e) ha hb
theorem fol_of {I : List Nod} {h : Hd} {x : Nod} (e : fnd I h = some x) : fol I h = if x.kind = 2 then .inr x else .inl 173 := by unfold fol; rw [e]
theorem bel_gone {I : List Nod} {i t j : Nat} (h : Bel (Fz.gone I i) t j) : Bel I t j := by
  induction h with
  | here => exact Bel.here
  | up g1 g2 _ ih =>
    rw [nget_gone] at g1
    split at g1
    · cases g1
    · exact Bel.up g1 g2 ih
theorem FK.keep_box {Y : Lay} {I : List Nod} {w w' : World} {k : Nat} {o : Obj} (h : FK Y I w w') (hn : ¬ foot Y I k) (hb : w.heap[k]? = some o) : w'.heap[k]? = some o := (h.block k (Array.getElem?_eq_some_iff.1 hb).1 hn).trans hb
set_option maxHeartbeats 8000000 in
theorem frename_any {w : World} {bs : Nat} {Y : Lay} {f : Fst} {T : Nat} (h : FM w bs Y f) (hg : Gd f) (hb : Bd f T) (hT : T ≤ 1000000) (a b : Hd) (ha : HdOk a) (hb2 : HdOk b) (s t : ByteArray) (hs : s.size ≤ maxLen) (ht : t.size ≤ maxLen) :
    Calls Try.prog 23 #[pA Y.fp, hV a, .string s, hV b, .string t] w (ChF w bs Y f (rnF f a (L s) b (L t)).1 (.int .i64 (rnF f a (L s) b (L t)).2)) := by
  obtain ⟨w2, hw2, hbb, hq, hr, hs2⟩ := two_box w (.cells #[.int .i64 a.id, .int .i64 a.gen] 40) (.cells #[.int .i64 b.id, .int .i64 b.gen] 40)
  obtain ⟨q, eq⟩ : ∃ q, q = w.heap.size := ⟨_, rfl⟩
  obtain ⟨r, er⟩ : ∃ r, r = w.heap.size + 1 := ⟨_, rfl⟩
  rw [← eq] at hq
  rw [← er] at hr
  have HW2 := Lib.hid hw2
  have EQ := Lib.hid eq
  have ER := Lib.hid er
  have HB2 := Lib.hid hbb
  have HR := Lib.hid hr
  have HQ := Lib.hid hq
  have HRW : Hid (w.heap.size ≤ r ∧ r < w2.heap.size ∧ q < w2.heap.size) := Lib.hid (by omega)
  clear hw2 eq er hbb hq hr hs2
  have h2 := h.below hg.kind HB2.out
  have HM := Lib.hid h
  have HM2 := Lib.hid h2
  have HG := Lib.hid hg
  have HBD := Lib.hid hb
  have HT : Hid (T ≤ 1000000000) := Lib.hid (by omega)
  have HS := Lib.hid hs
  have HTS := Lib.hid ht
  have HA := Lib.hid ha
  have HBO := Lib.hid hb2
  have HF := Lib.hid (find_any h2 hg a ha)
  have q0 := cell_of HQ.out (j := 0) rfl
  have q1 := cell_of HQ.out (j := 1) rfl
  have e1 := pnil
  clear h hg hb hT ha hb2 hs ht h2
  go_enter Try.func23, Try.ntmps23
  go_upto_region 1 with fail
  rw [← HW2.out, ← ER.out, ← EQ.out]
  rcases hp : fnd f.I a with _ | p
  · rw [fP_none hp] at HF
    have HV : Hid (rnF f a (L s) b (L t) = (f, 175)) := Lib.hid (by unfold rnF; rw [if_pos (.inl hp)])
    clear hp
    go_wp2_with fail
    refine HF.out.mono ?_
    rintro e w3 ⟨rfl, hb3⟩
    have HB3 := Lib.hid (HB2.out.trans (hb3.mono HB2.out.size))
    clear hb3
    go_wp2_with fail
    go_ret
    rw [HV.out]
    exact ChF.same HM.out HG.out HB3.out _
  · rw [fP_some hp] at HF
    have HP := Lib.hid hp
    have HPM := Lib.hid (fnd_mem hp).1
    have e2 := pnn (Y.ip p.id)
    clear hp
    go_wp2_with fail
    refine HF.out.mono ?_
    rintro e w3 ⟨rfl, hb3⟩
    have HB3 := Lib.hid hb3
    have r0 := cell_of (blk_below HR.out hb3) (j := 0) rfl
    have r1 := cell_of (blk_below HR.out hb3) (j := 1) rfl
    have HF3 := Lib.hid (find_any (HM2.out.below HG.out.kind hb3) HG.out b HBO.out)
    clear hb3
    rcases hq : fnd f.I b with _ | q'
    · rw [fP_none hq] at HF3
      have HV : Hid (rnF f a (L s) b (L t) = (f, 175)) := Lib.hid (by unfold rnF; rw [if_pos (.inr hq)])
      clear hq
      go_wp2_with fail
      refine HF3.out.mono ?_
      rintro e w4 ⟨rfl, hb4⟩
      have HB4 := Lib.hid (HB2.out.trans ((HB3.out.trans (hb4.mono HB3.out.size)).mono HB2.out.size))
      clear hb4
      go_wp2_with fail
      go_ret
      rw [HV.out]
      exact ChF.same HM.out HG.out HB4.out _
    · rw [fP_some hq] at HF3
      have HQ9 := Lib.hid hq
      have HQM := Lib.hid (fnd_mem hq).1
      have e3 := pnn (Y.ip q'.id)
      have HNN : Hid (¬ (fnd f.I a = none ∨ fnd f.I b = none)) := Lib.hid (by rw [HP.out, hq]; rintro (e | e) <;> cases e)
      clear hq
      go_wp2_with fail
      refine HF3.out.mono ?_
      rintro e w4 ⟨rfl, hb4⟩
      have HB4 := Lib.hid (HB3.out.trans (hb4.mono HB3.out.size))
      have HM4 := Lib.hid (HM2.out.below HG.out.kind HB4.out)
      have q0 := cell_of (blk_below HQ.out HB4.out) (j := 0) rfl
      have q1 := cell_of (blk_below HQ.out HB4.out) (j := 1) rfl
      have HO4 := Lib.hid (open_any HM4.out HG.out a HA.out)
      clear hb4 r0 r1
      by_cases hpk : p.kind = 2
      · have HPF : Hid (fol f.I a = .inr p) := Lib.hid (by rw [fol_of HP.out, if_pos hpk])
        rw [opV_inr HPF.out] at HO4
        have HPK := Lib.hid hpk
        clear hpk
        go_wp2_with fail
        refine HO4.out.mono ?_
        rintro e w5 ⟨rfl, hb5⟩
        obtain ⟨w6, hw6⟩ : ∃ W, W = w5.alloc (.cells #[pA (Y.ip p.id), pA (Y.hp p.id)] 84) := ⟨_, rfl⟩
        obtain ⟨pa, hpa⟩ : ∃ k, k = w5.heap.size := ⟨_, rfl⟩
        have hb6 : Below w4.heap.size w4 w6 := by rw [hw6]; exact hb5.trans ((box_below w5 _).mono hb5.size)
        have hbx6 : w6.heap[pa]? = some (.cells #[pA (Y.ip p.id), pA (Y.hp p.id)] 84 (0, 0)) := by rw [hw6, hpa]; exact new_block w5 _
        have HB6 := Lib.hid (HB4.out.trans (hb6.mono HB4.out.size))
        have HM6 := Lib.hid (HM2.out.below HG.out.kind HB6.out)
        have HX6 := Lib.hid hbx6
        have HW6 := Lib.hid hw6
        have HPA := Lib.hid hpa
        have r0 := cell_of (blk_below HR.out HB6.out) (j := 0) rfl
        have r1 := cell_of (blk_below HR.out HB6.out) (j := 1) rfl
        have HO6 := Lib.hid (open_any HM6.out HG.out b HBO.out)
        have HSZ5 : Hid (w.heap.size ≤ w5.heap.size) := Lib.hid (Nat.le_trans HB2.out.size (Nat.le_trans HB4.out.size hb5.size))
        clear hb5 hw6 hpa hb6 hbx6 q0 q1
        go_upto_region 4 with fail
        rw [← HW6.out, ← HPA.out]
        by_cases hqk : q'.kind = 2
        · have HQF : Hid (fol f.I b = .inr q') := Lib.hid (by rw [fol_of HQ9.out, if_pos hqk])
          rw [opV_inr HQF.out] at HO6
          have HQK := Lib.hid hqk
          clear hqk
          have HBASE : Hid (rnF f a (L s) b (L t) = if validN (L s) = false ∨ validN (L t) = false then (f, 176) else match nget f.I (entry f.N p.id (L s) : Int) with
            | none => (f, 170)
            | some x => if entry f.N p.id (L s) = entry f.N q'.id (L t) then (f, 0) else if mvC f x (nget f.I (entry f.N q'.id (L t) : Int)) p q' ≠ 0 then (f, mvC f x (nget f.I (entry f.N q'.id (L t) : Int)) p q') else
              match nget f.I (entry f.N q'.id (L t) : Int) with
              | some y => (putS (drp f q'.id (L t) y) p.id q'.id (L s) (L t) x, 0)
              | none => (putS f p.id q'.id (L s) (L t) x, 0)) := Lib.hid (by
            unfold rnF
            rw [if_neg HNN.out, HPF.out, HQF.out]
            dsimp only
            by_cases hv : validN (L s) = false ∨ validN (L t) = false
            · rw [if_pos hv, if_pos hv]
            · rw [if_neg hv, if_neg hv]
              rcases hx : nget f.I (entry f.N p.id (L s) : Int) with _ | x
              · rfl
              · dsimp only
                by_cases he : entry f.N p.id (L s) = entry f.N q'.id (L t)
                · rw [if_pos he, if_pos he]
                · rw [if_neg he, if_neg he]
                  unfold mvC
                  by_cases hl : x.kind = 2 ∧ Bel f.I x.id q'.id
                  · rw [if_pos hl, if_pos hl, if_pos (by decide)]
                  · rw [if_neg hl, if_neg hl]
                    rcases hy : nget f.I (entry f.N q'.id (L t) : Int) with _ | y
                    · dsimp only
                      by_cases hk : x.kind = 2 ∧ p.id ≠ q'.id ∧ 20 ≤ links f.I f.N q'
                      · rw [if_pos hk, if_pos hk, if_pos (by decide)]
                      · rw [if_neg hk, if_neg hk, if_neg (by decide)]
                    · rfl)
          go_wp2_with fail
          refine HO6.out.mono ?_
          rintro e w7 ⟨rfl, hb7⟩
          obtain ⟨w8, hw8⟩ : ∃ W, W = w7.alloc (.cells #[pA (Y.ip q'.id), pA (Y.hp q'.id)] 84) := ⟨_, rfl⟩
          obtain ⟨pb, hpb⟩ : ∃ k, k = w7.heap.size := ⟨_, rfl⟩
          have hb8 : Below w6.heap.size w6 w8 := by rw [hw8]; exact hb7.trans ((box_below w7 _).mono hb7.size)
          have hbx8 : w8.heap[pb]? = some (.cells #[pA (Y.ip q'.id), pA (Y.hp q'.id)] 84 (0, 0)) := by rw [hw8, hpb]; exact new_block w7 _
          have HB8 := Lib.hid (HB6.out.trans (hb8.mono HB6.out.size))
          have HM8 := Lib.hid (HM2.out.below HG.out.kind HB8.out)
          have HX8 := Lib.hid hbx8
          have HXA := Lib.hid (blk_below HX6.out hb8)
          have HBW : Hid (Below w.heap.size w w8) := Lib.hid (HB2.out.trans (HB8.out.mono HB2.out.size))
          have HW8 := Lib.hid hw8
          have HPB := Lib.hid hpb
          have HSZ7 : Hid (w.heap.size ≤ w7.heap.size) := Lib.hid (Nat.le_trans HB2.out.size (Nat.le_trans HB6.out.size hb7.size))
          clear hb7 hw8 hpb hb8 hbx8 r0 r1
          go_upto_region 7 with fail
          rw [← HW8.out, ← HPB.out]
          have HN1 := Lib.hid (isName_any s w8)
          have HN2 := Lib.hid (isName_any t w8)
          obtain ⟨v1, hv1⟩ : ∃ v, validN (L s) = v := ⟨_, rfl⟩
          obtain ⟨v2, hv2⟩ : ∃ v, validN (L t) = v := ⟨_, rfl⟩
          rw [hv1] at HN1
          rw [hv2] at HN2
          have HV1 := Lib.hid hv1
          have HV2 := Lib.hid hv2
          clear hv1 hv2
          cases v1 with
          | false =>
            have HV : Hid (rnF f a (L s) b (L t) = (f, 176)) := Lib.hid (by rw [HBASE.out, if_pos (.inl HV1.out)])
            go_wp2_with fail
            refine HN1.out.mono ?_
            rintro e w' ⟨rfl, rfl⟩
            go_wp2_with fail
            go_ret
            rw [HV.out]
            exact ChF.same HM.out HG.out HBW.out _
          | true =>
            cases v2 with
            | false =>
              have HV : Hid (rnF f a (L s) b (L t) = (f, 176)) := Lib.hid (by rw [HBASE.out, if_pos (.inr HV2.out)])
              go_wp2_with fail
              refine HN1.out.mono ?_
              rintro e w' ⟨rfl, rfl⟩
              go_wp2_with fail
              refine HN2.out.mono ?_
              rintro e w' ⟨rfl, rfl⟩
              go_wp2_with fail
              go_ret
              rw [HV.out]
              exact ChF.same HM.out HG.out HBW.out _
            | true =>
              have HNV : Hid (¬ (validN (L s) = false ∨ validN (L t) = false)) := Lib.hid (by rw [HV1.out, HV2.out]; decide)
              go_wp2_with fail
              refine HN1.out.mono ?_
              rintro e w' ⟨rfl, rfl⟩
              go_wp2_with fail
              refine HN2.out.mono ?_
              rintro e w' ⟨rfl, rfl⟩
              have HSS : Hid (∀ W, Below w8.heap.size w8 W → (W.cell? ⟨pa, 1, none⟩ = some (pA (Y.hp p.id)) ∧ W.cell? ⟨pb, 1, none⟩ = some (pA (Y.hp q'.id)) ∧ W.cell? ⟨Y.hp p.id, 2, none⟩ = some (.map (some (Y.mp p.id))) ∧ W.cell? ⟨Y.hp q'.id, 2, none⟩ = some (.map (some (Y.mp q'.id)))
                  ∧ (Instr.lookup 79 (.map (some (Y.mp p.id))) (.string s) false).run Try.prog W = .ok (hV (hdO f.I (entry f.N p.id (L s)))) W ∧ (Instr.lookup 79 (.map (some (Y.mp q'.id))) (.string t) false).run Try.prog W = .ok (hV (hdO f.I (entry f.N q'.id (L t)))) W)) := Lib.hid (fun W hW => by
                have hM := HM8.out.below HG.out.kind hW
                exact ⟨cell_of (blk_below HXA.out hW) (j := 1) rfl, cell_of (blk_below HX8.out hW) (j := 1) rfl, (hM.folder HPM.out HPK.out).2.2, (hM.folder HQM.out HQK.out).2.2, (((hM.nod p HPM.out).fol HPK.out).2.look HS.out).2, (((hM.nod q' HQM.out).fol HQK.out).2.look HTS.out).2⟩)
              have HFI : Hid (∀ (W : World) (i : Nat), i ≤ 1000 → Below w8.heap.size w8 W → Calls Try.prog 26 #[pA Y.fp, hV (hdO f.I i)] W fun e w' => e = .returned (iP f.I Y.ip (i : Int)) ∧ Below W.heap.size W w') := Lib.hid (fun W i hi hW => by
                have := find_any (HM8.out.below HG.out.kind hW) HG.out _ (hdO_ok HG.out HBD.out HT.out i hi)
                rw [fP_hdO HG.out] at this
                exact this)
              have HF1 : Hid (∀ W, Below w8.heap.size w8 W → Calls Try.prog 26 #[pA Y.fp, hV (hdO f.I (entry f.N p.id (L s)))] W fun e w' => e = .returned (iP f.I Y.ip (entry f.N p.id (L s) : Int)) ∧ Below W.heap.size W w') := Lib.hid (fun W hW => HFI.out W _ (entry_le HG.out _ _) hW)
              have HF2 : Hid (∀ W, Below w8.heap.size w8 W → Calls Try.prog 26 #[pA Y.fp, hV (hdO f.I (entry f.N q'.id (L t)))] W fun e w' => e = .returned (iP f.I Y.ip (entry f.N q'.id (L t) : Int)) ∧ Below W.heap.size W w') := Lib.hid (fun W hW => HFI.out W _ (entry_le HG.out _ _) hW)
              obtain ⟨h1, hh1⟩ : ∃ v, hV (hdO f.I (entry f.N p.id (L s))) = v := ⟨_, rfl⟩
              obtain ⟨h2, hh2⟩ : ∃ v, hV (hdO f.I (entry f.N q'.id (L t))) = v := ⟨_, rfl⟩
              obtain ⟨i1, hi1⟩ : ∃ v, iP f.I Y.ip (entry f.N p.id (L s) : Int) = v := ⟨_, rfl⟩
              obtain ⟨i2, hi2⟩ : ∃ v, iP f.I Y.ip (entry f.N q'.id (L t) : Int) = v := ⟨_, rfl⟩
              rw [hh1, hh2] at HSS
              rw [hh1, hi1] at HF1
              rw [hh2, hi2] at HF2
              have HI1 := Lib.hid hi1
              have HI2 := Lib.hid hi2
              clear hh1 hh2 hi1 hi2
              go_upto_region 11 with fail
              obtain ⟨n0, n1, n2, n3, n4, n5⟩ := HSS.out w8.drew (Below.refl _ _).drew
              go_region_held3 (fun W => W.cell? ⟨pa, 1, none⟩ = some (pA (Y.hp p.id)) ∧ W.cell? ⟨pb, 1, none⟩ = some (pA (Y.hp q'.id)) ∧ W.cell? ⟨Y.hp p.id, 2, none⟩ = some (.map (some (Y.mp p.id))) ∧ W.cell? ⟨Y.hp q'.id, 2, none⟩ = some (.map (some (Y.mp q'.id)))
                  ∧ (Instr.lookup 79 (.map (some (Y.mp p.id))) (.string s) false).run Try.prog W = .ok h1 W ∧ (Instr.lookup 79 (.map (some (Y.mp q'.id))) (.string t) false).run Try.prog W = .ok h2 W)
                (first
                  | assumption
                  | (with_reducible exact HSS.out _ (Below.refl _ _).drew))
                (first
                  | (go_at_call 26; (with_reducible refine (HF2.out _ (by assumption)).mono ?_); rintro e w10 ⟨rfl, hb10⟩; have hB10 := hB9.trans (hb10.mono hB9.size); have hS10 := HSS.out w10 hB10)
                  | (go_at_call 26; (with_reducible refine (HF1.out _ (Below.refl _ _).drew).mono ?_); rintro e w9 ⟨rfl, hb9⟩; have hB9 : Below w8.heap.size w8 w9 := (Below.refl _ _).drew.trans (hb9.mono (Nat.le_refl _)); have hS9 := HSS.out w9 hB9))
              all_goals
                rename_i hHeld
                clear hHeld hS10 hS9 hb10 hb9 n0 n1 n2 n3 n4 n5
                have HB10 : Hid (Below w.heap.size w w10) := Lib.hid (HBW.out.trans (hB10.mono HBW.out.size))
                have HM10 := Lib.hid (HM8.out.below HG.out.kind hB10)
                have HPA10 := Lib.hid (blk_below HXA.out hB10)
                have HPB10 := Lib.hid (blk_below HX8.out hB10)
                have HBXA : Hid (w.heap.size ≤ pa ∧ w.heap.size ≤ pb) := Lib.hid ⟨by have := HPA.out; have := HSZ5.out; omega, by have := HPB.out; have := HSZ7.out; omega⟩
                clear hB10 hB9
                rcases hx : nget f.I (entry f.N p.id (L s) : Int) with _ | x
                · have hi : i1 = .pointer none := by rw [← HI1.out, iP_none hx]
                  have HV : Hid (rnF f a (L s) b (L t) = (f, 170)) := Lib.hid (by rw [HBASE.out, if_neg HNV.out, hx])
                  clear hx HI1
                  subst hi
                  go_wp2_with fail
                  go_ret
                  rw [HV.out]
                  exact ChF.same HM.out HG.out HB10.out _
                · have hi : i1 = pA (Y.ip x.id) := by rw [← HI1.out, iP_some hx]
                  obtain ⟨hx1, hx2, n, hn1, hn2, hn3, hn4⟩ := HG.out.at_entry hx
                  have HXM := Lib.hid hx1
                  have HXE := Lib.hid hx2
                  have HNM := Lib.hid hn1
                  have HNX : Hid (n.dir = p.id ∧ n.nm = L s ∧ n.id = x.id) := Lib.hid ⟨hn2, hn3, hn4⟩
                  have HXS := Lib.hid hx
                  have e9 := pnn (Y.ip x.id)
                  clear hx HI1 hx1 hx2 hn1 hn2 hn3 hn4
                  subst hi
                  have a0 := cell_of HPA10.out (j := 0) rfl
                  have a1 := cell_of HPA10.out (j := 1) rfl
                  have b0 := cell_of HPB10.out (j := 0) rfl
                  have b1 := cell_of HPB10.out (j := 1) rfl
                  rcases hy : nget f.I (entry f.N q'.id (L t) : Int) with _ | y
                  · have hi : i2 = .pointer none := by rw [← HI2.out, iP_none hy]
                    have HE0 := Lib.hid (HG.out.no_entry hy)
                    have HB1 : Hid (rnF f a (L s) b (L t) = if mvC f x none p q' ≠ 0 then (f, mvC f x none p q') else (putS f p.id q'.id (L s) (L t) x, 0)) := Lib.hid (by
                      rw [HBASE.out, if_neg HNV.out, HXS.out]
                      dsimp only
                      rw [if_neg (by rw [HE0.out, ← HXE.out]; have := HG.out.rng x HXM.out; omega), hy])
                    clear hy HI2
                    subst hi
                    have HMV := Lib.hid (mayMove_any HM10.out HG.out HBD.out HT.out HXM.out HPM.out HQM.out HQK.out none (fun y e => by cases e))
                    unfold oP at HMV
                    obtain ⟨c, hc⟩ : ∃ c, mvC f x none p q' = c := ⟨_, rfl⟩
                    rw [hc] at HMV HB1
                    have e8 := pnil2
                    clear hc
                    go_wp2_with fail
                    refine HMV.out.mono ?_
                    rintro e w11 ⟨rfl, hb11⟩
                    have HB11 : Hid (Below w.heap.size w w11) := Lib.hid (HB10.out.trans (hb11.mono HB10.out.size))
                    have HM11 := Lib.hid (HM10.out.below HG.out.kind hb11)
                    have HPB11 := Lib.hid (blk_below HPB10.out hb11)
                    have a0 := cell_of (blk_below HPA10.out hb11) (j := 0) rfl
                    have a1 := cell_of (blk_below HPA10.out hb11) (j := 1) rfl
                    clear hb11 b0 b1
                    by_cases hc0 : c = 0
                    · subst hc0
                      have HV : Hid (rnF f a (L s) b (L t) = (putS f p.id q'.id (L s) (L t) x, 0)) := Lib.hid (by rw [HB1.out, if_neg (by decide)])
                      have HPBF : Hid (¬ foot Y f.I pb) := Lib.hid (fun hf => by have := HM.out.foot_lt HG.out.kind _ hf; have := HBXA.out; omega)
                      have HX1 := Lib.hid (HXM.out)
                      have HP1 := Lib.hid (HPM.out)
                      have HQ1 := Lib.hid (HQM.out)
                      have HN9 := Lib.hid (HNM.out)
                      have H09 : Hid (entN f.N q'.id (L t) = none) := Lib.hid (HG.out.ent HE0.out)
                      have HLV := Lib.hid (leave_any HM11.out HG.out.ids HG.out.kind HG.out.nmu HG.out.nz HP1.out HPK.out HX1.out (no_loop HG.out HN9.out HX1.out HNX.out.2.2 HP1.out HNX.out.1) HN9.out (by have h1 := HBD.out.nms; have h2 := HT.out; omega) HNX.out.1 HNX.out.2.2 s HNX.out.2.1.symm HS.out)
                      go_wp2_with fail
                      refine HLV.out.mono ?_
                      rintro e w21 ⟨rfl, l1, l2, -⟩
                      have k4 := cell_of (l2.keep_box HPBF.out (HPB11.out)) (j := 0) rfl
                      have k5 := cell_of (l2.keep_box HPBF.out (HPB11.out)) (j := 1) rfl
                      have HEN := Lib.hid (enter_any l1 HG.out.ids HG.out.kind HQ1.out HQK.out HX1.out (by have := HG.out.rng x HX1.out; omega) (by have h9 : (unnm f.N p.id (L s)).length ≤ f.N.length := List.length_filter_le _ _; have h8 : f.N.length ≤ 1000000000 := (by have h1 := HBD.out.nms; have h2 := HT.out; omega); show (unnm f.N p.id (L s)).length ≤ _; omega) t (by show entN (unnm f.N p.id (L s)) _ _ = none; rw [entN_unnm, H09.out]; split <;> rfl) (by have := valid_size HV2.out; omega))
                      have HK2 : Hid (FK Y f.I w w21) := Lib.hid ((FK.of_below HB11.out).trans (Fresh.refl) l2)
                      clear l1 l2
                      go_wp2_with fail
                      refine HEN.out.mono ?_
                      rintro e w22 ⟨rfl, m1, m2, m3⟩
                      have HE : Hid (ChF w bs Y f (putS f p.id q'.id (L s) (L t) x) (.int .i64 0) (.returned (.int .i64 0)) w22) := Lib.hid ⟨Y, rfl, m1, HK2.out.trans (Fresh.refl) m2, Fresh.trans (Fresh.refl) HK2.out.size m3, rfl⟩
                      clear m1 m2 m3 k4 k5
                      go_wp2_with fail
                      go_ret
                      rw [HV.out]
                      exact HE.out
                    · have HV : Hid (rnF f a (L s) b (L t) = (f, c)) := Lib.hid (by rw [HB1.out, if_pos hc0])
                      go_wp2_with fail
                      go_ret
                      rw [HV.out]
                      exact ChF.same HM.out HG.out HB11.out _
                  · have hi : i2 = pA (Y.ip y.id) := by rw [← HI2.out, iP_some hy]
                    obtain ⟨hy1, hy2, m, hm1, hm2, hm3, hm4⟩ := HG.out.at_entry hy
                    have HYM := Lib.hid hy1
                    have HYE := Lib.hid hy2
                    have HYS := Lib.hid hy
                    have HMM : Hid (m ∈ f.N ∧ m.dir = q'.id ∧ m.nm = L t ∧ m.id = y.id) := Lib.hid ⟨hm1, hm2, hm3, hm4⟩
                    clear hy HI2 hy1 hy2 hm1 hm2 hm3 hm4
                    subst hi
                    by_cases hxy : x.id = y.id
                    · have HV : Hid (rnF f a (L s) b (L t) = (f, 0)) := Lib.hid (by
                        rw [HBASE.out, if_neg HNV.out, HXS.out]
                        dsimp only
                        rw [if_pos (by rw [← HXE.out, ← HYE.out, hxy])])
                      rw [hxy] at e9
                      have e8 := peq_same (Y.ip y.id)
                      obtain ⟨xi, hxi⟩ : ∃ k, Y.ip x.id = k := ⟨_, rfl⟩
                      have hxi2 : Y.ip y.id = xi := by rw [← hxy, hxi]
                      rw [hxi, hxi2]
                      rw [hxi2] at e9 e8
                      clear hxi hxi2 hxy
                      go_wp2_with fail
                      go_ret
                      rw [HV.out]
                      exact ChF.same HM.out HG.out HB10.out _
                    · have HNXY := Lib.hid hxy
                      have e8 := peq_ne (fun e => hxy (HM10.out.iinj x HXM.out y HYM.out e)) (HM10.out.nod x HXM.out).box (HM10.out.nod y HYM.out).box
                      have HB1 : Hid (rnF f a (L s) b (L t) = if mvC f x (some y) p q' ≠ 0 then (f, mvC f x (some y) p q') else (putS (drp f q'.id (L t) y) p.id q'.id (L s) (L t) x, 0)) := Lib.hid (by
                        rw [HBASE.out, if_neg HNV.out, HXS.out]
                        dsimp only
                        rw [if_neg (by rw [← HXE.out, ← HYE.out]; exact hxy), HYS.out])
                      have HMV := Lib.hid (mayMove_any HM10.out HG.out HBD.out HT.out HXM.out HPM.out HQM.out HQK.out (some y) (fun z e => by injection e with e; subst e; exact HYM.out))
                      unfold oP at HMV
                      obtain ⟨c, hc⟩ : ∃ c, mvC f x (some y) p q' = c := ⟨_, rfl⟩
                      rw [hc] at HMV HB1
                      have HC := Lib.hid hc
                      have e7 := pnn2 (Y.ip y.id)
                      clear hc hxy
                      go_wp2_with fail
                      refine HMV.out.mono ?_
                      rintro e w11 ⟨rfl, hb11⟩
                      have HB11 : Hid (Below w.heap.size w w11) := Lib.hid (HB10.out.trans (hb11.mono HB10.out.size))
                      have HM11 := Lib.hid (HM10.out.below HG.out.kind hb11)
                      have HPA11 := Lib.hid (blk_below HPA10.out hb11)
                      have HPB11 := Lib.hid (blk_below HPB10.out hb11)
                      have b0 := cell_of (blk_below HPB10.out hb11) (j := 0) rfl
                      have b1 := cell_of (blk_below HPB10.out hb11) (j := 1) rfl
                      clear hb11 a0 a1 e8
                      by_cases hc0 : c = 0
                      · subst hc0
                        have HV : Hid (rnF f a (L s) b (L t) = (putS (drp f q'.id (L t) y) p.id q'.id (L s) (L t) x, 0)) := Lib.hid (by rw [HB1.out, if_neg (by decide)])
                        have HMY : Hid (y.kind = 2 → many f.N y.id = 0) := Lib.hid (fun hk => by
                          have h1 := HC.out
                          unfold mvC at h1
                          split at h1
                          · cases h1
                          · dsimp only at h1
                            unfold mayC at h1
                            by_cases h0 : 0 < many f.N y.id
                            · by_cases hxk : x.kind = 2 <;> simp [hk, h0, hxk] at h1
                            · omega)
                        have HRM := Lib.hid (remove_any HM11.out HG.out HBD.out HT.out HQM.out HQK.out HYM.out HMM.out.1 HMM.out.2.1 HMM.out.2.2.2 HMY.out t HMM.out.2.2.1.symm HTS.out)
                        obtain ⟨f1, hf1⟩ : ∃ g, drp f q'.id (L t) y = g := ⟨_, rfl⟩
                        have hG1 := HG.out.drop HMM.out.1 HYM.out HMM.out.2.2.2 HMY.out
                        rw [HMM.out.2.1, HMM.out.2.2.1, hf1] at hG1
                        have HG1 := Lib.hid hG1
                        have hfI : ∀ z ∈ f.I, z.id ≠ y.id → z ∈ f1.I := fun z hz hne => by
                          rw [← hf1]; unfold drp; split
                          · exact mem_gone.2 ⟨hz, hne⟩
                          · exact hz
                        have hfN : f1.N = unnm f.N q'.id (L t) := by rw [← hf1]; unfold drp; split <;> rfl
                        have HFI : Hid (∀ k, foot Y f1.I k → foot Y f.I k) := Lib.hid (fun k hk => by
                          rw [← hf1] at hk
                          unfold drp at hk
                          split at hk
                          · rcases hk with e | e | ⟨z, hz, e⟩
                            · exact .inl e
                            · exact .inr (.inl e)
                            · exact .inr (.inr ⟨z, (mem_gone.1 hz).1, e⟩)
                          · exact hk)
                        rw [hf1] at HRM HV
                        have HNL : Hid (f1.N.length ≤ 1000000000) := Lib.hid (by
                          rw [hfN]
                          have h9 : (unnm f.N q'.id (L t)).length ≤ f.N.length := List.length_filter_le _ _
                          have h1 := HBD.out.nms; have h2 := HT.out; omega)
                        have hdirs : ∀ z : Nod, z ∈ f.I → z.kind = 2 → (∃ k ∈ f.N, k.dir = z.id) → z.id ≠ y.id := fun z hz hzk ⟨k, hk, hk2⟩ e => by
                          have := HG.out.uid hz HYM.out e
                          subst this
                          exact many_zero.1 (HMY.out hzk) k hk hk2
                        have hx9 : x ∈ f1.I := hfI x HXM.out HNXY.out
                        have hp9 : p ∈ f1.I := hfI p HPM.out (hdirs p HPM.out HPK.out ⟨n, HNM.out, HNX.out.1⟩)
                        have hq9 : q' ∈ f1.I := hfI q' HQM.out (hdirs q' HQM.out HQK.out ⟨m, HMM.out.1, HMM.out.2.1⟩)
                        have hn9 : n ∈ f1.N := by
                          rw [hfN]
                          exact mem_unnm.2 ⟨HNM.out, fun e => HNXY.out (by
                            have h9 := HG.out.ukey HNM.out HMM.out.1 (e.1.trans HMM.out.2.1.symm) (e.2.trans HMM.out.2.2.1.symm)
                            rw [← HNX.out.2.2, h9, HMM.out.2.2.2])⟩
                        have h09 : entN f1.N q'.id (L t) = none := by rw [hfN, entN_unnm, if_pos ⟨rfl, rfl⟩]
                        have HXX := Lib.hid hx9
                        have HPP := Lib.hid hp9
                        have HQQ := Lib.hid hq9
                        have HNN9 := Lib.hid hn9
                        have H0X := Lib.hid h09
                        clear hf1 hG1 hfI hfN hdirs hx9 hp9 hq9 hn9 h09
                        go_wp2_with fail
                        refine HRM.out.mono ?_
                        rintro e w12 ⟨rfl, r1, r2, r3⟩
                        have HPF0 : Hid (¬ foot Y f.I pa ∧ ¬ foot Y f.I pb) := Lib.hid ⟨fun hf => by have := HM.out.foot_lt HG.out.kind _ hf; have := HBXA.out; omega, fun hf => by have := HM.out.foot_lt HG.out.kind _ hf; have := HBXA.out; omega⟩
                        have HPB12 := Lib.hid (r2.keep_box HPF0.out.2 HPB11.out)
                        have a0 := cell_of (r2.keep_box HPF0.out.1 HPA11.out) (j := 0) rfl
                        have a1 := cell_of (r2.keep_box HPF0.out.1 HPA11.out) (j := 1) rfl
                        have HM12 := Lib.hid r1
                        have HK12 : Hid (FK Y f.I w w12) := Lib.hid ((FK.of_below HB11.out).trans Fresh.refl r2)
                        have HPBF : Hid (¬ foot Y f1.I pb) := Lib.hid (fun hf => HPF0.out.2 (HFI.out _ hf))
                        have HFR : Hid (Fresh Y f.I w Y f1.I) := Lib.hid (fun k hk => .inl (HFI.out k hk))
                        clear r1 r2 r3 b0 b1
                        have HX1 := Lib.hid (HXX.out)
                        have HP1 := Lib.hid (HPP.out)
                        have HQ1 := Lib.hid (HQQ.out)
                        have HN9 := Lib.hid (HNN9.out)
                        have H09 : Hid (entN f1.N q'.id (L t) = none) := Lib.hid (H0X.out)
                        have HLV := Lib.hid (leave_any HM12.out HG1.out.ids HG1.out.kind HG1.out.nmu HG1.out.nz HP1.out HPK.out HX1.out (no_loop HG1.out HN9.out HX1.out HNX.out.2.2 HP1.out HNX.out.1) HN9.out (HNL.out) HNX.out.1 HNX.out.2.2 s HNX.out.2.1.symm HS.out)
                        go_wp2_with fail
                        refine HLV.out.mono ?_
                        rintro e w21 ⟨rfl, l1, l2, -⟩
                        have k4 := cell_of (l2.keep_box HPBF.out (HPB12.out)) (j := 0) rfl
                        have k5 := cell_of (l2.keep_box HPBF.out (HPB12.out)) (j := 1) rfl
                        have HEN := Lib.hid (enter_any l1 HG1.out.ids HG1.out.kind HQ1.out HQK.out HX1.out (by have := HG1.out.rng x HX1.out; omega) (by have h9 : (unnm f1.N p.id (L s)).length ≤ f1.N.length := List.length_filter_le _ _; have h8 : f1.N.length ≤ 1000000000 := (HNL.out); show (unnm f1.N p.id (L s)).length ≤ _; omega) t (by show entN (unnm f1.N p.id (L s)) _ _ = none; rw [entN_unnm, H09.out]; split <;> rfl) (by have := valid_size HV2.out; omega))
                        have HK2 : Hid (FK Y f.I w w21) := Lib.hid (HK12.out.trans (HFR.out) l2)
                        clear l1 l2
                        go_wp2_with fail
                        refine HEN.out.mono ?_
                        rintro e w22 ⟨rfl, m1, m2, m3⟩
                        have HE : Hid (ChF w bs Y f (putS f1 p.id q'.id (L s) (L t) x) (.int .i64 0) (.returned (.int .i64 0)) w22) := Lib.hid ⟨Y, rfl, m1, HK2.out.trans (HFR.out) m2, Fresh.trans (HFR.out) HK2.out.size m3, rfl⟩
                        clear m1 m2 m3 k4 k5
                        go_wp2_with fail
                        go_ret
                        rw [HV.out]
                        exact HE.out
                      · have HV : Hid (rnF f a (L s) b (L t) = (f, c)) := Lib.hid (by rw [HB1.out, if_pos hc0])
                        go_wp2_with fail
                        go_ret
                        rw [HV.out]
                        exact ChF.same HM.out HG.out HB11.out _
        · have HQF : Hid (fol f.I b = .inl 173) := Lib.hid (by rw [fol_of HQ9.out, if_neg hqk])
          rw [opV_inl HQF.out] at HO6
          have HV : Hid (rnF f a (L s) b (L t) = (f, 173)) := Lib.hid (by unfold rnF; rw [if_neg HNN.out, HPF.out, HQF.out])
          clear hqk
          go_wp2_with fail
          refine HO6.out.mono ?_
          rintro e w7 ⟨rfl, hb7⟩
          obtain ⟨w8, hw8⟩ : ∃ W, W = w7.alloc (.cells #[.pointer none, .pointer none] 84) := ⟨_, rfl⟩
          have HB8 : Hid (Below w.heap.size w w8) := Lib.hid (HB2.out.trans ((HB6.out.trans ((hb7.trans (by rw [hw8]; exact (box_below w7 _).mono hb7.size)).mono HB6.out.size)).mono HB2.out.size))
          have HW8 := Lib.hid hw8
          clear hb7 hw8
          go_upto_region 7 with fail
          rw [← HW8.out]
          go_wp2_with fail
          go_ret
          rw [HV.out]
          exact ChF.same HM.out HG.out HB8.out _
      · have HPF : Hid (fol f.I a = .inl 173) := Lib.hid (by rw [fol_of HP.out, if_neg hpk])
        rw [opV_inl HPF.out] at HO4
        have HV : Hid (rnF f a (L s) b (L t) = (f, 173)) := Lib.hid (by unfold rnF; rw [if_neg HNN.out, HPF.out])
        clear hpk
        go_wp2_with fail
        refine HO4.out.mono ?_
        rintro e w5 ⟨rfl, hb5⟩
        obtain ⟨w6, hw6⟩ : ∃ W, W = w5.alloc (.cells #[.pointer none, .pointer none] 84) := ⟨_, rfl⟩
        have HB6 : Hid (Below w.heap.size w w6) := Lib.hid (HB2.out.trans ((HB4.out.trans ((hb5.trans (by rw [hw6]; exact (box_below w5 _).mono hb5.size)).mono HB4.out.size)).mono HB2.out.size))
        have HW6 := Lib.hid hw6
        clear hb5 hw6
        go_upto_region 4 with fail
        rw [← HW6.out]
        go_wp2_with fail
        go_ret
        rw [HV.out]
        exact ChF.same HM.out HG.out HB6.out _
end Go.Proofs.Ytoaahhgngelnaaa
