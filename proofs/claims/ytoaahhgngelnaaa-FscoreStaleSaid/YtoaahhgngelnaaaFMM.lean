/-
  What mayMove returns. Condition: how much was done.
-/
import Derived.Test.YtoaahhgngelnaaaFLies
namespace Go.Proofs.Ytoaahhgngelnaaa
set_option maxRecDepth 100000
open Go.ChangeShapes Go.WideShapes Go.ChangeAt Go.RowKit Go.Proofs.Sg Go.Proofs.Fz

open Classical in
/-- Why x can't get from p to q, in the place of o. -/
noncomputable def mvC (f : Fst) (x : Nod) (o : Option Nod) (p q : Nod) : Int :=
  if x.kind = 2 ∧ Bel f.I x.id q.id then 178 else
  match o with
  | some y => mayC f y (decide (x.kind = 2))
  | none => if x.kind = 2 ∧ p.id ≠ q.id ∧ 20 ≤ links f.I f.N q then 179 else 0
def oP (ip : Nat → Nat) (o : Option Nod) : Value := match o with
  | some y => pA (ip y.id)
  | none => .pointer none
set_option maxHeartbeats 4000000 in
theorem mayMove_any {w : World} {bs : Nat} {Y : Lay} {f : Fst} {T : Nat} (h : FM w bs Y f) (hg : Gd f) (hb : Bd f T) (hT : T ≤ 1000000000) {x p q : Nod} (hx : x ∈ f.I) (hp : p ∈ f.I) (hq : q ∈ f.I) (hqk : q.kind = 2) (o : Option Nod) (ho : ∀ y, o = some y → y ∈ f.I) :
    Calls Try.prog 44 #[pA Y.fp, pA (Y.ip x.id), oP Y.ip o, .agg #[pA (Y.ip p.id), pA (Y.hp p.id)], .agg #[pA (Y.ip q.id), pA (Y.hp q.id)]] w fun e w' => e = .returned (.int .i64 (mvC f x o p q)) ∧ Below w.heap.size w w' := by
  obtain ⟨w2, hw2, hb2, ha, hr, hs2⟩ := two_box w (.cells #[pA (Y.ip p.id), pA (Y.hp p.id)] 84) (.cells #[pA (Y.ip q.id), pA (Y.hp q.id)] 84)
  obtain ⟨a, ea⟩ : ∃ q, q = w.heap.size := ⟨_, rfl⟩
  obtain ⟨r, er⟩ : ∃ r, r = w.heap.size + 1 := ⟨_, rfl⟩
  rw [← ea] at ha
  rw [← er] at hr
  have HW2 := Lib.hid hw2
  have EA := Lib.hid ea
  have ER := Lib.hid er
  have HB2 := Lib.hid hb2
  have HA := Lib.hid ha
  have HR := Lib.hid hr
  have h2 := h.below hg.kind hb2
  have HM2 := Lib.hid h2
  have HG := Lib.hid hg
  have HX := Lib.hid hx
  have HPM := Lib.hid hp
  have HQM := Lib.hid hq
  have HO := Lib.hid ho
  have r0 := cell_of hr (j := 0) rfl
  have r1 := cell_of hr (j := 1) rfl
  have HIS := Lib.hid (isFolder_any (h2.nod x hx) (hg.kind x hx))
  have HLI := Lib.hid (lies_any h2 hg hb hT hq hqk hx)
  obtain ⟨kf, hkf⟩ : ∃ b, decide (x.kind = 2) = b := ⟨_, rfl⟩
  rw [hkf] at HIS
  have HKF : Hid ((x.kind = 2) = (kf = true)) := Lib.hid (by rw [← hkf]; simp)
  have HKD := Lib.hid hkf
  clear hw2 ea er hb2 ha hr hs2 h2 h hg hx hp hq hqk ho hb hT hkf
  go_enter Try.func44, Try.ntmps44
  go_upto_region 1 with fail
  rw [← HW2.out, ← ER.out, ← EA.out]
  go_wp2_with fail
  refine HIS.out.mono ?_
  rintro e w' ⟨rfl, rfl⟩
  cases kf with
  | false =>
    have HNK : Hid (x.kind ≠ 2) := Lib.hid (fun e => by have := HKF.out; rw [e] at this; simp at this)
    rcases o with _ | y
    · have HV : Hid (mvC f x none p q = 0) := Lib.hid (by unfold mvC; rw [if_neg (fun e => HNK.out e.1)]; dsimp only; rw [if_neg (fun e => HNK.out e.1)])
      unfold oP
      have e3 := pnil2
      go_upto_region 6 with fail
      go_quiet (fail)
      obtain ⟨w3, hw3⟩ : ∃ W, W = w2.drewN nq := ⟨_, rfl⟩
      rw [← hw3]
      have HB3 : Hid (Below w.heap.size w w3) := Lib.hid (by rw [hw3]; exact below_drewN HB2.out nq)
      clear hw3
      go_wp2_with fail
      go_ret
      rw [HV.out]
      exact ⟨rfl, HB3.out⟩
    · have HV : Hid (mvC f x (some y) p q = mayC f y false) := Lib.hid (by unfold mvC; rw [if_neg (fun e => HNK.out e.1)]; dsimp only; rw [HKD.out])
      have HMG := Lib.hid (mayGo_any HM2.out HG.out (HO.out y rfl) false)
      unfold oP
      have e3 := pnn2 (Y.ip y.id)
      go_wp2_with fail
      refine HMG.out.mono ?_
      rintro e w' ⟨rfl, rfl⟩
      go_wp2_with fail
      go_ret
      rw [HV.out]
      exact ⟨rfl, HB2.out⟩
  | true =>
    have HYK : Hid (x.kind = 2) := Lib.hid (by have := HKF.out; simpa using this)
    go_wp2_with fail
    refine HLI.out.mono ?_
    rintro e w3 ⟨b, rfl, hbl, hb3⟩
    have HBL := Lib.hid hbl
    have HM3 := Lib.hid (HM2.out.below HG.out.kind hb3)
    have HA3 := Lib.hid (blk_below HA.out hb3)
    have HR3 := Lib.hid (blk_below HR.out hb3)
    have HB3 : Hid (Below w.heap.size w w3) := Lib.hid (HB2.out.trans (hb3.mono HB2.out.size))
    clear hbl hb3 r0 r1
    cases b with
    | true =>
      have HV : Hid (mvC f x o p q = 178) := Lib.hid (by unfold mvC; rw [if_pos ⟨HYK.out, HBL.out.1 rfl⟩])
      go_wp2_with fail
      go_ret
      rw [HV.out]
      exact ⟨rfl, HB3.out⟩
    | false =>
      have HNB : Hid (¬ (x.kind = 2 ∧ Bel f.I x.id q.id)) := Lib.hid (fun e => by have := HBL.out.2 e.2; cases this)
      rcases o with _ | y
      · have HV : Hid (mvC f x none p q = if p.id ≠ q.id ∧ 20 ≤ links f.I f.N q then 179 else 0) := Lib.hid (by
          unfold mvC; rw [if_neg HNB.out]; dsimp only
          by_cases hc : p.id ≠ q.id ∧ 20 ≤ links f.I f.N q
          · rw [if_pos ⟨HYK.out, hc⟩, if_pos hc]
          · rw [if_neg (fun e => hc e.2), if_neg hc])
        unfold oP
        have e3 := pnil2
        have a0 := cell_of HA3.out (j := 0) rfl
        have r0 := cell_of HR3.out (j := 0) rfl
        obtain ⟨p0, p1, -⟩ := (HM3.out.nod p HPM.out).cells
        obtain ⟨q0, q1, -, q3, -⟩ := (HM3.out.nod q HQM.out).cells
        have hne := neqH ⟨(p.id : Int), (p.gen : Int)⟩ ⟨(q.id : Int), (q.gen : Int)⟩
        dsimp only at hne
        obtain ⟨k, hk⟩ : ∃ k, decide ((p.id : Int) = (q.id : Int) ∧ (p.gen : Int) = (q.gen : Int)) = k := ⟨_, rfl⟩
        rw [hk] at hne
        have hgu := guard_neqH
        have HK : Hid ((p.id = q.id) = (k = true)) := Lib.hid (by
          rw [← hk]
          simp only [decide_eq_true_eq, eq_iff_iff]
          exact ⟨fun e => by have := HG.out.uid HPM.out HQM.out e; subst this; exact ⟨rfl, rfl⟩, fun e => by omega⟩)
        clear hk
        obtain ⟨l, hl⟩ : ∃ l, links f.I f.N q = l := ⟨_, rfl⟩
        rw [hl] at q3
        have HL := Lib.hid hl
        clear hl
        cases k with
        | true =>
          have HV2 : Hid (mvC f x none p q = 0) := Lib.hid (by rw [HV.out, if_neg (fun e => e.1 (by rw [HK.out]))])
          go_upto_region 6 with fail
          go_quiet (fail)
          obtain ⟨w4, hw4⟩ : ∃ W, W = w3.drewN nq := ⟨_, rfl⟩
          rw [← hw4]
          have HB4 : Hid (Below w.heap.size w w4) := Lib.hid (by rw [hw4]; exact below_drewN HB3.out nq)
          clear hw4
          go_wp2_with fail
          go_ret
          rw [HV2.out]
          exact ⟨rfl, HB4.out⟩
        | false =>
          have HNE : Hid (p.id ≠ q.id) := Lib.hid (by rw [Ne, HK.out]; decide)
          obtain ⟨tl, htl⟩ : ∃ b, decide ((20 : Int) ≤ (l : Int)) = b := ⟨_, rfl⟩
          have htl2 : decide (20 ≤ l) = tl := by rw [← htl, Bool.eq_iff_iff, decide_eq_true_eq, decide_eq_true_eq]; omega
          have HTL : Hid ((20 ≤ links f.I f.N q) = (tl = true)) := Lib.hid (by rw [HL.out, ← htl2]; simp)
          have HV2 : Hid (mvC f x none p q = if tl = true then 179 else 0) := Lib.hid (by
            rw [HV.out]
            by_cases hc : 20 ≤ links f.I f.N q
            · rw [if_pos ⟨HNE.out, hc⟩, if_pos (by rw [← HTL.out]; exact hc)]
            · rw [if_neg (fun e => hc e.2), if_neg (by rw [← HTL.out]; exact hc)])
          cases tl with
          | true =>
            go_upto_region 6 with fail
            go_quiet (fail)
            obtain ⟨w4, hw4⟩ : ∃ W, W = w3.drewN nq := ⟨_, rfl⟩
            rw [← hw4]
            have HB4 : Hid (Below w.heap.size w w4) := Lib.hid (by rw [hw4]; exact below_drewN HB3.out nq)
            clear hw4
            go_wp2_with fail
            go_ret
            rw [HV2.out]
            exact ⟨rfl, HB4.out⟩
          | false =>
            go_upto_region 6 with fail
            go_quiet (fail)
            obtain ⟨w4, hw4⟩ : ∃ W, W = w3.drewN nq := ⟨_, rfl⟩
            rw [← hw4]
            have HB4 : Hid (Below w.heap.size w w4) := Lib.hid (by rw [hw4]; exact below_drewN HB3.out nq)
            clear hw4
            go_wp2_with fail
            go_ret
            rw [HV2.out]
            exact ⟨rfl, HB4.out⟩
      · have HV : Hid (mvC f x (some y) p q = mayC f y true) := Lib.hid (by unfold mvC; rw [if_neg HNB.out]; dsimp only; rw [HKD.out])
        have HMG := Lib.hid (mayGo_any HM3.out HG.out (HO.out y rfl) true)
        unfold oP
        have e3 := pnn2 (Y.ip y.id)
        go_wp2_with fail
        refine HMG.out.mono ?_
        rintro e w' ⟨rfl, rfl⟩
        go_wp2_with fail
        go_ret
        rw [HV.out]
        exact ⟨rfl, HB3.out⟩
end Go.Proofs.Ytoaahhgngelnaaa
