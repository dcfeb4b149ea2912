/-
  What named returns. Condition: a text's length; how much was done.
-/
import Derived.Test.YtoaahhgngelnaaaFName
namespace Go.Proofs.Ytoaahhgngelnaaa
set_option maxRecDepth 100000
open Go.ChangeShapes Go.WideShapes Go.ChangeAt Go.RowKit Go.Proofs.Sg Go.Proofs.Fz

theorem fol_inl {I : List Nod} {h : Hd} {c : Int} (e : fol I h = .inl c) : c = 175 ∨ c = 173 := by
  unfold fol at e
  rcases hq : fnd I h with _ | y
  · rw [hq] at e; injection e with e; exact .inl e.symm
  · rw [hq] at e
    dsimp only at e
    by_cases hk : y.kind = 2
    · rw [if_pos hk] at e; cases e
    · rw [if_neg hk] at e; injection e with e; exact .inr e.symm
theorem opV_inl {Y : Lay} {I : List Nod} {h : Hd} {c : Int} (e : fol I h = .inl c) : opV Y I h = .tuple #[.agg #[.pointer none, .pointer none], .int .i64 c] := by unfold opV; rw [e]
theorem opV_inr {Y : Lay} {I : List Nod} {h : Hd} {x : Nod} (e : fol I h = .inr x) : opV Y I h = .tuple #[.agg #[pA (Y.ip x.id), pA (Y.hp x.id)], .int .i64 0] := by unfold opV; rw [e]
theorem nget_zero {f : Fst} (hg : Gd f) : nget f.I 0 = none := nget_none.2 (fun x hx => by have := (hg.rng x hx).1; omega)
theorem fP_hdO {f : Fst} (hg : Gd f) (ip : Nat → Nat) (i : Nat) : fP f.I ip (hdO f.I i) = iP f.I ip (i : Int) := by
  unfold fP fnd iP hdO
  by_cases h0 : i = 0
  · subst h0
    rw [if_pos rfl, show hd0.id = 0 from rfl, nget_zero hg]
    rw [show ((0 : Nat) : Int) = 0 from rfl, nget_zero hg]
  · rw [if_neg h0]
    dsimp only
    unfold genO
    rcases hq : nget f.I (i : Int) with _ | y
    · rfl
    · dsimp only; rw [if_pos rfl]
theorem hdO_ok {f : Fst} {T : Nat} (hg : Gd f) (hb : Bd f T) (hT : T ≤ 1000000000) (i : Nat) (hi : i ≤ 1000) : HdOk (hdO f.I i) := by
  unfold hdO
  by_cases h0 : i = 0
  · rw [if_pos h0]; exact ⟨by decide, by decide, by decide, by decide⟩
  · rw [if_neg h0]
    unfold genO
    rcases hq : nget f.I (i : Int) with _ | y
    · exact ⟨by dsimp only; omega, by dsimp only; omega, by simp, by simp⟩
    · obtain ⟨h1, h2⟩ := nget_mem hq
      have h3 := hg.rng y h1
      have h4 := hg.gen y h1
      have h5 := hb.gns y.id
      exact ⟨by dsimp only; omega, by dsimp only; omega, by dsimp only; omega, by dsimp only; omega⟩
theorem entry_le {f : Fst} (hg : Gd f) (d : Nat) (s : Txt) : entry f.N d s ≤ 1000 := by
  by_cases h0 : entry f.N d s = 0
  · omega
  · obtain ⟨n, hn, -, -, e⟩ := entry_some h0
    obtain ⟨x, hx⟩ := Option.isSome_iff_exists.1 (hg.nmi n hn).1
    obtain ⟨h1, h2⟩ := nget_mem hx
    have := (hg.rng x h1).2
    omega
/-- What named returns. -/
def nmV (Y : Lay) (f : Fst) (h : Hd) (s : Txt) : Value := match fol f.I h with
  | .inl c => .tuple #[.agg #[.pointer none, .pointer none], .pointer none, .int .i64 c]
  | .inr x => if validN s = true then .tuple #[.agg #[pA (Y.ip x.id), pA (Y.hp x.id)], iP f.I Y.ip (entry f.N x.id s : Int), .int .i64 0] else .tuple #[.agg #[.pointer none, .pointer none], .pointer none, .int .i64 176]
theorem FM.folder {w : World} {bs : Nat} {Y : Lay} {f : Fst} (h : FM w bs Y f) {x : Nod} (hx : x ∈ f.I) (hk : x.kind = 2) : w.cell? ⟨Y.hp x.id, 0, none⟩ = some (.int .i64 (x.par : Int)) ∧ w.cell? ⟨Y.hp x.id, 1, none⟩ = some (.int .i64 (genO f.I x.par : Int)) ∧ w.cell? ⟨Y.hp x.id, 2, none⟩ = some (.map (some (Y.mp x.id))) :=
  ⟨cell_of ((h.nod x hx).fol hk).1 (j := 0) rfl, cell_of ((h.nod x hx).fol hk).1 (j := 1) rfl, cell_of ((h.nod x hx).fol hk).1 (j := 2) rfl⟩
set_option maxHeartbeats 2000000 in
theorem named_any {w : World} {bs : Nat} {Y : Lay} {f : Fst} {T : Nat} (h : FM w bs Y f) (hg : Gd f) (hb : Bd f T) (hT : T ≤ 1000000000) (d : Hd) (hd : HdOk d) (s : ByteArray) (hs : s.size ≤ maxLen) : Calls Try.prog 31 #[pA Y.fp, hV d, .string s] w fun e w' => e = .returned (nmV Y f d (L s)) ∧ Below w.heap.size w w' := by
  obtain ⟨w2, hw2, hb2, hq, hr, hs2⟩ := two_box w (.cells #[.int .i64 d.id, .int .i64 d.gen] 40) (.cells #[.pointer none, .pointer none] 84)
  obtain ⟨q, eq⟩ : ∃ q, q = w.heap.size := ⟨_, rfl⟩
  obtain ⟨r, er⟩ : ∃ r, r = w.heap.size + 1 := ⟨_, rfl⟩
  rw [← eq] at hq
  rw [← er] at hr
  have HW2 := Lib.hid hw2
  have EQ := Lib.hid eq
  have ER := Lib.hid er
  have HB2 := Lib.hid hb2
  have HR := Lib.hid hr
  have HQ := Lib.hid hq
  have HRW : Hid (w.heap.size ≤ r ∧ r < w2.heap.size ∧ q < w2.heap.size) := Lib.hid (by omega)
  clear hw2 eq er hb2 hq hr hs2
  have h2 := h.below hg.kind HB2.out
  have HM2 := Lib.hid h2
  have HG := Lib.hid hg
  have HBD := Lib.hid hb
  have HT := Lib.hid hT
  have HS := Lib.hid hs
  have HF := Lib.hid (open_any h2 hg d hd)
  have HFL : Hid (∀ k, foot Y f.I k → k < w.heap.size) := Lib.hid (h.foot_lt hg.kind)
  have q0 := cell_of HQ.out (j := 0) rfl
  have q1 := cell_of HQ.out (j := 1) rfl
  clear h hg hd h2 hb hT hs
  go_enter Try.func31, Try.ntmps31
  go_upto_region 1 with fail
  rw [← HW2.out, ← ER.out, ← EQ.out]
  rcases hq : fol f.I d with c | x
  · have hc := fol_inl hq
    have HV : Hid (nmV Y f d (L s) = .tuple #[.agg #[.pointer none, .pointer none], .pointer none, .int .i64 c]) := Lib.hid (by unfold nmV; rw [hq])
    rw [opV_inl hq] at HF
    clear hq
    rcases hc with rfl | rfl
    · go_wp2_with fail
      refine HF.out.mono ?_
      rintro e w3 ⟨rfl, hb3⟩
      obtain ⟨w4, hw4⟩ : ∃ x, x = w3.alloc (.cells #[.pointer none, .pointer none] 84) := ⟨_, rfl⟩
      obtain ⟨p, hp⟩ : ∃ x, x = w3.heap.size := ⟨_, rfl⟩
      have hb4 : Below w2.heap.size w2 w4 := by rw [hw4]; exact hb3.trans ((box_below w3 _).mono hb3.size)
      have hr4 := blk_below HR.out hb4
      have HB4 : Hid (Below w.heap.size w w4) := Lib.hid (HB2.out.trans (hb4.mono HB2.out.size))
      have HW4 := Lib.hid hw4
      have HP := Lib.hid hp
      clear hb3 hb4 hw4 hp
      obtain ⟨w9, hw9⟩ : ∃ W9, W9 = ((w4.setCell ⟨r, 0, none⟩ (.pointer none)).setCell ⟨r, 1, none⟩ (.pointer none)) := ⟨_, rfl⟩
      obtain ⟨hwr9, hk9⟩ := set2 hr4 (.pointer none) (.pointer none)
      rw [← hw9] at hwr9 hk9
      have r0 := cell_of hr4 (j := 0) rfl
      have r1 := cell_of hr4 (j := 1) rfl
      have g0 := frozen_of_row w4 r 0 _ _ hr4
      have g1 := frozen_of_row w4 r 1 _ _ hr4
      have z0 := cell_of hk9 (j := 0) rfl
      have z1 := cell_of hk9 (j := 1) rfl
      have HWR := Lib.hid hwr9
      have HW9 := Lib.hid hw9
      clear hw9 hwr9 hk9
      clear hr4
      have HE : Hid (Below w.heap.size w w9) := Lib.hid (HB4.out.trans (HWR.out.below.mono HRW.out.1))
      go_upto_region 2 with fail
      rw [← HW4.out, ← HP.out]
      go_wp2_with fail
      rw [← HW9.out]
      go_wp2_with fail
      exact bodyPost_ret (v := .tuple #[.agg #[.pointer none, .pointer none], .pointer none, .int .i64 175]) (by simp [results, Try.results31, go_sem, z0, z1]) rfl ⟨by rw [HV.out], HE.out⟩
    · go_wp2_with fail
      refine HF.out.mono ?_
      rintro e w3 ⟨rfl, hb3⟩
      obtain ⟨w4, hw4⟩ : ∃ x, x = w3.alloc (.cells #[.pointer none, .pointer none] 84) := ⟨_, rfl⟩
      obtain ⟨p, hp⟩ : ∃ x, x = w3.heap.size := ⟨_, rfl⟩
      have hb4 : Below w2.heap.size w2 w4 := by rw [hw4]; exact hb3.trans ((box_below w3 _).mono hb3.size)
      have hr4 := blk_below HR.out hb4
      have HB4 : Hid (Below w.heap.size w w4) := Lib.hid (HB2.out.trans (hb4.mono HB2.out.size))
      have HW4 := Lib.hid hw4
      have HP := Lib.hid hp
      clear hb3 hb4 hw4 hp
      obtain ⟨w9, hw9⟩ : ∃ W9, W9 = ((w4.setCell ⟨r, 0, none⟩ (.pointer none)).setCell ⟨r, 1, none⟩ (.pointer none)) := ⟨_, rfl⟩
      obtain ⟨hwr9, hk9⟩ := set2 hr4 (.pointer none) (.pointer none)
      rw [← hw9] at hwr9 hk9
      have r0 := cell_of hr4 (j := 0) rfl
      have r1 := cell_of hr4 (j := 1) rfl
      have g0 := frozen_of_row w4 r 0 _ _ hr4
      have g1 := frozen_of_row w4 r 1 _ _ hr4
      have z0 := cell_of hk9 (j := 0) rfl
      have z1 := cell_of hk9 (j := 1) rfl
      have HWR := Lib.hid hwr9
      have HW9 := Lib.hid hw9
      clear hw9 hwr9 hk9
      clear hr4
      have HE : Hid (Below w.heap.size w w9) := Lib.hid (HB4.out.trans (HWR.out.below.mono HRW.out.1))
      go_upto_region 2 with fail
      rw [← HW4.out, ← HP.out]
      go_wp2_with fail
      rw [← HW9.out]
      go_wp2_with fail
      exact bodyPost_ret (v := .tuple #[.agg #[.pointer none, .pointer none], .pointer none, .int .i64 173]) (by simp [results, Try.results31, go_sem, z0, z1]) rfl ⟨by rw [HV.out], HE.out⟩
  · have hx := fol_inr hq
    rw [opV_inr hq] at HF
    go_wp2_with fail
    refine HF.out.mono ?_
    rintro e w3 ⟨rfl, hb3⟩
    obtain ⟨w4, hw4⟩ : ∃ W, W = w3.alloc (.cells #[pA (Y.ip x.id), pA (Y.hp x.id)] 84) := ⟨_, rfl⟩
    obtain ⟨p, hp⟩ : ∃ x, x = w3.heap.size := ⟨_, rfl⟩
    have hb4 : Below w2.heap.size w2 w4 := by rw [hw4]; exact hb3.trans ((box_below w3 _).mono hb3.size)
    have hbx : w4.heap[p]? = some (.cells #[pA (Y.ip x.id), pA (Y.hp x.id)] 84 (0, 0)) := by rw [hw4, hp]; exact new_block w3 _
    have hr4 := blk_below HR.out hb4
    have HM4 := Lib.hid (HM2.out.below HG.out.kind hb4)
    have HB4 : Hid (Below w.heap.size w w4) := Lib.hid (HB2.out.trans (hb4.mono HB2.out.size))
    have HBX := Lib.hid hbx
    have HR4 := Lib.hid hr4
    have HW4 := Lib.hid hw4
    have HP := Lib.hid hp
    have HX := Lib.hid hx
    have HB3S := Lib.hid hb3.size
    have HIN := Lib.hid (isName_any s w4)
    obtain ⟨b, hbv⟩ : ∃ b, validN (L s) = b := ⟨_, rfl⟩
    rw [hbv] at HIN
    have HV : Hid (nmV Y f d (L s) = if b = true then .tuple #[.agg #[pA (Y.ip x.id), pA (Y.hp x.id)], iP f.I Y.ip (entry f.N x.id (L s) : Int), .int .i64 0] else .tuple #[.agg #[.pointer none, .pointer none], .pointer none, .int .i64 176]) := Lib.hid (by unfold nmV; rw [hq]; dsimp only; rw [hbv])
    clear hb3 hb4 hw4 hp hbx hx hq hbv hr4
    go_upto_region 2 with fail
    rw [← HW4.out, ← HP.out]
    go_wp2_with fail
    refine HIN.out.mono ?_
    rintro e w' ⟨rfl, rfl⟩
    cases b with
    | false =>
      have hr4 := HR4.out
      obtain ⟨w9, hw9⟩ : ∃ W9, W9 = ((w4.setCell ⟨r, 0, none⟩ (.pointer none)).setCell ⟨r, 1, none⟩ (.pointer none)) := ⟨_, rfl⟩
      obtain ⟨hwr9, hk9⟩ := set2 hr4 (.pointer none) (.pointer none)
      rw [← hw9] at hwr9 hk9
      have r0 := cell_of hr4 (j := 0) rfl
      have r1 := cell_of hr4 (j := 1) rfl
      have g0 := frozen_of_row w4 r 0 _ _ hr4
      have g1 := frozen_of_row w4 r 1 _ _ hr4
      have z0 := cell_of hk9 (j := 0) rfl
      have z1 := cell_of hk9 (j := 1) rfl
      have HWR := Lib.hid hwr9
      have HW9 := Lib.hid hw9
      clear hw9 hwr9 hk9
      clear hr4
      have HE : Hid (Below w.heap.size w w9) := Lib.hid (HB4.out.trans (HWR.out.below.mono HRW.out.1))
      go_wp2_with fail
      rw [← HW9.out]
      go_wp2_with fail
      exact bodyPost_ret (v := .tuple #[.agg #[.pointer none, .pointer none], .pointer none, .int .i64 176]) (by simp [results, Try.results31, go_sem, z0, z1]) rfl ⟨by rw [HV.out]; rfl, HE.out⟩
    | true =>
      have HPR : Hid (p ≠ r) := Lib.hid (by have := HRW.out.2.1; have := HP.out; have := HB3S.out; omega)
      have HSS : Hid (∀ W, w4.grownBy W (some r) → (W.cell? ⟨p, 0, none⟩ = some (pA (Y.ip x.id)) ∧ W.cell? ⟨p, 1, none⟩ = some (pA (Y.hp x.id)) ∧ W.cell? ⟨Y.hp x.id, 2, none⟩ = some (.map (some (Y.mp x.id))) ∧ (Instr.lookup 79 (.map (some (Y.mp x.id))) (.string s) false).run Try.prog W = .ok (hV (hdO f.I (entry f.N x.id (L s)))) W)) := Lib.hid (fun W hW => by
        have hM := HM4.out.keep (w' := W) (fun k hk => hW.block k (HM4.out.foot_lt HG.out.kind k hk) (by have := HFL.out k hk; have := HRW.out.1; simp; omega))
        exact ⟨cell_of (gb_cells hW HPR.out HBX.out) (j := 0) rfl, cell_of (gb_cells hW HPR.out HBX.out) (j := 1) rfl, (hM.folder HX.out.1 HX.out.2.1).2.2, (((hM.nod x HX.out.1).fol HX.out.2.1).2.look HS.out).2⟩)
      have HFI : Hid (∀ W, Below w4.heap.size w4 W → Calls Try.prog 26 #[pA Y.fp, hV (hdO f.I (entry f.N x.id (L s)))] W fun e w' => e = .returned (iP f.I Y.ip (entry f.N x.id (L s) : Int)) ∧ Below W.heap.size W w') := Lib.hid (fun W hW => by
        have := find_any (HM4.out.below HG.out.kind hW) HG.out _ (hdO_ok HG.out HBD.out HT.out _ (entry_le HG.out x.id (L s)))
        rw [fP_hdO HG.out] at this
        exact this)
      obtain ⟨hh, hhe⟩ : ∃ v, hV (hdO f.I (entry f.N x.id (L s))) = v := ⟨_, rfl⟩
      obtain ⟨iv, hiv⟩ : ∃ v, iP f.I Y.ip (entry f.N x.id (L s) : Int) = v := ⟨_, rfl⟩
      rw [hhe] at HSS HFI
      rw [hiv] at HFI HV
      clear hhe hiv
      go_upto_region 6 with fail
      obtain ⟨n0, n1, n2, n3⟩ := HSS.out w4.drew gb_drew
      go_region_held3 (fun W => W.cell? ⟨p, 0, none⟩ = some (pA (Y.ip x.id)) ∧ W.cell? ⟨p, 1, none⟩ = some (pA (Y.hp x.id)) ∧ W.cell? ⟨Y.hp x.id, 2, none⟩ = some (.map (some (Y.mp x.id))) ∧ (Instr.lookup 79 (.map (some (Y.mp x.id))) (.string s) false).run Try.prog W = .ok hh W)
        (first
          | assumption
          | (with_reducible exact HSS.out _ gb_drew))
        (first
          | (go_at_call 26; (with_reducible refine (HFI.out _ (Below.refl _ _).drew).mono ?_); rintro e w5 ⟨rfl, hb5⟩; have hB5 : Below w4.heap.size w4 w5 := (Below.refl _ _).drew.trans (hb5.mono (Nat.le_refl _)); have hG5 := gb_below hB5 (some r); have hS5 := HSS.out w5 hG5; have hr5 := blk_below HR4.out hB5; have r0 := cell_of hr5 (j := 0) rfl; have r1 := cell_of hr5 (j := 1) rfl; have g0 := frozen_of_row w5 r 0 _ _ hr5; have g1 := frozen_of_row w5 r 1 _ _ hr5; have hS9 := HSS.out _ (gb_trans hG5 (set2 hr5 (pA (Y.ip x.id)) (pA (Y.hp x.id))).1.gb)))
      all_goals
        have hst := (set2 hr5 (pA (Y.ip x.id)) (pA (Y.hp x.id)))
        obtain ⟨w9, hw9⟩ : ∃ W9, W9 = ((w5.setCell ⟨r, 0, none⟩ (pA (Y.ip x.id))).setCell ⟨r, 1, none⟩ (pA (Y.hp x.id))) := ⟨_, rfl⟩
        rw [← hw9] at hst
        have z0 := cell_of hst.2 (j := 0) rfl
        have z1 := cell_of hst.2 (j := 1) rfl
        have HE : Hid (Below w.heap.size w w9) := Lib.hid ((HB4.out.trans (hB5.mono HB4.out.size)).trans (hst.1.below.mono HRW.out.1))
        rename_i hHeld
        clear hHeld hS9 hS5 hG5 hb5 hB5 r0 r1 g0 g1 hst hr5 n0 n1 n2 n3
        rw [← hw9]
        go_wp2_with fail
        exact bodyPost_ret (v := .tuple #[.agg #[pA (Y.ip x.id), pA (Y.hp x.id)], iv, .int .i64 0]) (by simp [results, Try.results31, go_sem, z0, z1]) rfl ⟨by rw [HV.out]; rfl, HE.out⟩
end Go.Proofs.Ytoaahhgngelnaaa
