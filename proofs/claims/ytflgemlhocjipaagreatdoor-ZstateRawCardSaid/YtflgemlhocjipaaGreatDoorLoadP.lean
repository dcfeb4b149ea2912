/-
  What the program's amiss and Load return: the tree of a list, or why there is none. Condition: no path is longer than memory bears.
-/
import Derived.Test.YtflgemlhocjipaaGreatDoorDoP
import Derived.Test.YtflgemlhocjipaaGreatDoorCheckP
import Derived.Test.YtflgemlhocjipaaGreatDoorRef11
namespace Go.Proofs.YtflgemlhocjipaaGreatDoor
set_option maxRecDepth 100000
open Go.ChangeShapes Go.WideShapes Go.ChangeAt Go.RowKit Go.Proofs.Zn Go.Proofs.Zt

theorem chk1_70 {pre : Tr} {z : Nd} (h : valid z.path = false) : chk1 pre z = 70 := by unfold chk1; rw [if_pos h]
section
variable {pre : Tr} {z : Nd} (hv : valid z.path = true)
include hv
theorem chk1_81 (h : lastLe pre z = true) : chk1 pre z = 81 := by unfold chk1; rw [if_neg (by rw [hv]; simp), if_pos h]
variable (hl : lastLe pre z = false)
include hl
theorem chk1_83 (h : parentOk z.path = true ∧ (get pre (parent z.path)).isSome = false) : chk1 pre z = 83 := by unfold chk1; rw [if_neg (by rw [hv]; simp), if_neg (by rw [hl]; simp), if_pos h]
variable (h3 : ¬ (parentOk z.path = true ∧ (get pre (parent z.path)).isSome = false))
include h3
theorem chk1_85 (h : (parentOk z.path = true ∧ ((get pre (parent z.path)).getD nd0).own ≠ 0) ∨ (parentOk z.path = false ∧ z.own ≠ 0)) : chk1 pre z = 85 := by unfold chk1; rw [if_neg (by rw [hv]; simp), if_neg (by rw [hl]; simp), if_neg h3, if_pos h]
variable (h4 : ¬ ((parentOk z.path = true ∧ ((get pre (parent z.path)).getD nd0).own ≠ 0) ∨ (parentOk z.path = false ∧ z.own ≠ 0)))
include h4
theorem chk1_87 (h : 1024 < z.data.length) : chk1 pre z = 87 := by unfold chk1; rw [if_neg (by rw [hv]; simp), if_neg (by rw [hl]; simp), if_neg h3, if_neg h4, if_pos h]
theorem chk1_end (h : ¬ 1024 < z.data.length) : chk1 pre z = if nums z = false then 1 else 0 := by unfold chk1; rw [if_neg (by rw [hv]; simp), if_neg (by rw [hl]; simp), if_neg h3, if_neg h4, if_neg h]
end
theorem nums_all (z : Nd) : [z.cr, z.ch, z.kd, z.ver, z.ks, z.own, z.nx].all inr = nums z := by
  simp only [nums, List.all_cons, List.all_nil, Bool.and_true, Bool.and_assoc]
theorem parent_none {p : Txt} (h : parentOk p = false) : parent p = [] := by

  unfold parentOk at h
  unfold parent
  cases hn : names p with
  | none => rfl
  | some ps =>
    rw [hn] at h
    cases ps with
    | nil => rfl
    | cons _ _ => cases h
theorem parent_short' (l : Txt) : (parent l).length ≤ 488 := by
  cases h : parentOk l
  · unfold parentOk at h
    unfold parent
    cases hn : names l with
    | none => simp
    | some ps =>
      rw [hn] at h
      have : ps = [] := by cases ps with
        | nil => rfl
        | cons _ _ => cases h
      subst this
      simp
  · exact len_le (parent_valid h)
set_option maxHeartbeats 8000000 in
theorem amiss_any {w : World} {tp mb : Nat} {pre : Tr} (ht : TreeW w tp mb pre) (hpre : get pre [] = none) (a : Txt) (z : Nd) (hz : z.path.length ≤ 140737488355328) (hl : valid z.path = true → (!decide (a < z.path)) = lastLe pre z) :
    Calls Tryz.prog 138 #[.pointer (some ⟨tp, 0, none⟩), .string (B a), .agg #[.string (B z.path), .string (B z.data), .int .i64 z.cr, .int .i64 z.ch, .int .i64 z.kd, .int .i64 z.ver, .int .i64 z.ks, .int .i64 z.own, .int .i64 z.nx]] w fun e w' => e = .returned (.int .i64 (chk1 pre z)) ∧ Below w.heap.size w w' := by
  obtain ⟨r, hr⟩ : ∃ r, chk1 pre z = r := ⟨_, rfl⟩
  rw [hr]
  have HRR := Lib.hid hr
  obtain ⟨w1, hw1⟩ : ∃ w1, w1 = w.alloc (.cells #[.string (B z.path), .string (B z.data), .int .i64 z.cr, .int .i64 z.ch, .int .i64 z.kd, .int .i64 z.ver, .int .i64 z.ks, .int .i64 z.own, .int .i64 z.nx] 132) := ⟨_, rfl⟩
  obtain ⟨q, eq⟩ : ∃ q, q = w.heap.size := ⟨_, rfl⟩
  have hb1 : Below w.heap.size w w1 := by rw [hw1]; exact box_below w _
  have hq1 : w1.heap[q]? = some (.cells #[.string (B z.path), .string (B z.data), .int .i64 z.cr, .int .i64 z.ch, .int .i64 z.kd, .int .i64 z.ver, .int .i64 z.ks, .int .i64 z.own, .int .i64 z.nx] 132 (0, 0)) := by rw [hw1, eq]; exact new_block w _
  have HPA := Lib.hid (parent_any (B z.path) w1 (by rw [B_size]; exact hz))
  simp only [LB] at HPA
  obtain ⟨up, hup⟩ : ∃ x, parent z.path = x := ⟨_, rfl⟩
  obtain ⟨po, hpo⟩ : ∃ b, parentOk z.path = b := ⟨_, rfl⟩
  obtain ⟨p, hp⟩ : ∃ x, (get pre up).getD nd0 = x := ⟨_, rfl⟩
  obtain ⟨is, his⟩ : ∃ b, (get pre up).isSome = b := ⟨_, rfl⟩
  rw [hup, hpo] at HPA
  have HUPL : Hid (up.length ≤ 488) := Lib.hid (by rw [← hup]; exact parent_short' _)
  have HP0 : Hid (parentOk z.path = false → valid z.path = true → p.own = 0) := Lib.hid (fun h1 _ => by rw [← hp, ← hup, parent_none h1, hpre]; rfl)
  have HPP : Hid ((get pre (parent z.path)).getD nd0 = p) := Lib.hid (by rw [hup]; exact hp)
  have HPI : Hid ((get pre (parent z.path)).isSome = is) := Lib.hid (by rw [hup]; exact his)
  have HPK := Lib.hid hpo
  have HGP := Lib.hid hp
  have HGI := Lib.hid his
  have HZL := Lib.hid hz
  have HLI := Lib.hid hl
  have HT1 := Lib.hid (ht.below hb1)
  have HB1 := Lib.hid hb1
  have HQ1 := Lib.hid hq1
  have HW1 := Lib.hid hw1
  have EQ := Lib.hid eq
  have q0 := cell_of hq1 (j := 0) rfl
  clear hr ht hpre hz hl hw1 eq hb1 hq1 hup hpo hp his
  go_enter Tryz.func138, Tryz.ntmps138
  go_upto_region 1 with fail
  rw [← HW1.out, ← EQ.out]
  go_wp2_with fail
  refine HPA.out.mono ?_
  rintro e w2 ⟨rfl, hb2⟩
  have ht2 := HT1.out.below hb2
  have hlook := look_ok ht2.map up (by have := HUPL.out; unfold maxLen; omega) HGP.out HGI.out
  have d0 := cell_of ht2.here (j := 0) rfl
  obtain ⟨w3, hw3⟩ : ∃ w3, w3 = w2.alloc (.cells #[.string (B p.path), .string (B p.data), .int .i64 p.cr, .int .i64 p.ch, .int .i64 p.kd, .int .i64 p.ver, .int .i64 p.ks, .int .i64 p.own, .int .i64 p.nx] 132) := ⟨_, rfl⟩
  obtain ⟨u, eu⟩ : ∃ q, q = w2.heap.size := ⟨_, rfl⟩
  have hb3 : Below w2.heap.size w2 w3 := by rw [hw3]; exact box_below w2 _
  have hu3 : w3.heap[u]? = some (.cells #[.string (B p.path), .string (B p.data), .int .i64 p.cr, .int .i64 p.ch, .int .i64 p.kd, .int .i64 p.ver, .int .i64 p.ks, .int .i64 p.own, .int .i64 p.nx] 132 (0, 0)) := by rw [hw3, eu]; exact new_block w2 _
  have hq3 := blk_below (blk_below HQ1.out hb2) hb3
  have HB3 := Lib.hid (HB1.out.trans ((below_step hb2 hb3).mono HB1.out.size))
  have HW3 := Lib.hid hw3
  have EU := Lib.hid eu
  obtain ⟨w4, hw4⟩ : ∃ w4, w4 = w3.alloc (.cells #[.int .i64 z.cr, .int .i64 z.ch, .int .i64 z.kd, .int .i64 z.ver, .int .i64 z.ks, .int .i64 z.own] 130) := ⟨_, rfl⟩
  obtain ⟨s, es⟩ : ∃ q, q = w3.heap.size := ⟨_, rfl⟩
  have hb4 : Below w3.heap.size w3 w4 := by rw [hw4]; exact box_below w3 _
  have HSB : Hid (w4.heap[s]? = some (.cells #[.int .i64 z.cr, .int .i64 z.ch, .int .i64 z.kd, .int .i64 z.ver, .int .i64 z.ks, .int .i64 z.own] 130 (0, 0))) := Lib.hid (by rw [hw4, es]; exact new_block w3 _)
  have HQB := Lib.hid (blk_below hq3 hb4)
  have HUB := Lib.hid (blk_below hu3 hb4)
  have HB4 := Lib.hid (HB3.out.trans (hb4.mono HB3.out.size))
  have HW4 := Lib.hid hw4
  have ES := Lib.hid es
  have HVA := Lib.hid (valid_any (B z.path) w4 (by rw [B_size]; have := HZL.out; omega))
  simp only [LB] at HVA
  obtain ⟨vd, hvd⟩ : ∃ b, valid z.path = b := ⟨_, rfl⟩
  rw [hvd] at HVA
  have HVD := Lib.hid hvd
  clear q0 hb2 ht2 hw3 eu hb3 hu3 hw4 es hb4 hvd
  go_upto_region 3 with fail
  rw [← HW3.out, ← EU.out]
  clear hlook d0
  have q2 := cell_of hq3 (j := 2) rfl
  have q3 := cell_of hq3 (j := 3) rfl
  have q4 := cell_of hq3 (j := 4) rfl
  have q5 := cell_of hq3 (j := 5) rfl
  have q6 := cell_of hq3 (j := 6) rfl
  have q7 := cell_of hq3 (j := 7) rfl
  clear hq3
  go_upto_region 4 with fail
  rw [← HW4.out, ← ES.out]
  clear q2 q3 q4 q5 q6 q7
  have q0 := cell_of HQB.out (j := 0) rfl
  go_wp2_with fail
  refine HVA.out.mono ?_
  rintro e w5 ⟨rfl, hb5⟩
  have HB5 := Lib.hid (HB4.out.trans (hb5.mono HB4.out.size))
  have HQB := Lib.hid (blk_below HQB.out hb5)
  have HUB := Lib.hid (blk_below HUB.out hb5)
  have HSB := Lib.hid (blk_below HSB.out hb5)
  clear hb5
  clear q0
  cases vd with
  | false =>
    have HE : Hid (r = 70) := Lib.hid (by rw [← HRR.out]; exact chk1_70 HVD.out)
    go_wp2_with fail
    go_ret
    exact ⟨ret_i HE.out.symm, HB5.out⟩
  | true =>
    obtain ⟨t, htt⟩ : ∃ t, lastLe pre z = t := ⟨_, rfl⟩
    have hle : (Op.bytesLess z.path a || z.path == a) = t := by rw [← htt, ← HLI.out HVD.out]; exact le_dec z.path a
    have HLL := Lib.hid htt
    have q0 := cell_of HQB.out (j := 0) rfl
    clear htt
    cases t with
    | true =>
      have HE : Hid (r = 81) := Lib.hid (by rw [← HRR.out]; exact chk1_81 HVD.out HLL.out)
      go_wp2_with fail
      go_ret
      exact ⟨ret_i HE.out.symm, HB5.out⟩
    | false =>
      cases po with
      | true =>
        cases is with
        | false =>
          have HE : Hid (r = 83) := Lib.hid (by rw [← HRR.out]; exact chk1_83 HVD.out HLL.out ⟨HPK.out, HPI.out⟩)
          go_wp2_with fail
          go_ret
          exact ⟨ret_i HE.out.symm, HB5.out⟩
        | true =>
          have H3 : Hid (¬ (parentOk z.path = true ∧ (get pre (parent z.path)).isSome = false)) := Lib.hid (by rw [HPI.out]; simp)
          have HIE := Lib.hid (isEph_any p w5)
          obtain ⟨b1, hb1⟩ : ∃ b, (!(p.own == 0)) = b := ⟨_, rfl⟩
          rw [hb1] at HIE
          have HBE := Lib.hid hb1
          clear hb1
          have u0 := cell_of HUB.out (j := 0) rfl
          have u1 := cell_of HUB.out (j := 1) rfl
          have u2 := cell_of HUB.out (j := 2) rfl
          have u3 := cell_of HUB.out (j := 3) rfl
          have u4 := cell_of HUB.out (j := 4) rfl
          have u5 := cell_of HUB.out (j := 5) rfl
          have u6 := cell_of HUB.out (j := 6) rfl
          have u7 := cell_of HUB.out (j := 7) rfl
          have u8 := cell_of HUB.out (j := 8) rfl
          go_wp2_with fail
          refine HIE.out.mono ?_
          rintro e w6 ⟨rfl, hb6⟩
          have HB6 := Lib.hid (HB5.out.trans (hb6.mono HB5.out.size))
          have HQB := Lib.hid (blk_below HQB.out hb6)
          have HUB := Lib.hid (blk_below HUB.out hb6)
          have HSB := Lib.hid (blk_below HSB.out hb6)
          clear hb6
          clear q0 hle u0 u1 u2 u3 u4 u5 u6 u7 u8
          cases b1 with
          | true =>
            have hpo : p.own ≠ 0 := by have := HBE.out; simpa using this
            have HPO0 := Lib.hid hpo
            clear hpo
            have HE : Hid (r = 85) := Lib.hid (by rw [← HRR.out]; exact chk1_85 HVD.out HLL.out H3.out (.inl ⟨HPK.out, by rw [HPP.out]; exact HPO0.out⟩))
            go_wp2_with fail
            go_ret
            exact ⟨ret_i HE.out.symm, HB6.out⟩
          | false =>
            have H4 : Hid (¬ ((parentOk z.path = true ∧ ((get pre (parent z.path)).getD nd0).own ≠ 0) ∨ (parentOk z.path = false ∧ z.own ≠ 0))) := Lib.hid (by
              have hpo : p.own = 0 := by have := HBE.out; simpa using this
              rw [HPP.out, hpo, HPK.out]; simp)
            by_cases hd : 1024 < z.data.length
            · have hd' : (1024 : Int) < (z.data.length : Int) := by omega
              have HD := Lib.hid hd
              have q1 := cell_of HQB.out (j := 1) rfl
              clear hd
              have HE : Hid (r = 87) := Lib.hid (by rw [← HRR.out]; exact chk1_87 HVD.out HLL.out H3.out H4.out HD.out)
              go_wp2_with fail
              go_ret
              exact ⟨ret_i HE.out.symm, HB6.out⟩
            · have hd' : ¬ (1024 : Int) < (z.data.length : Int) := by omega
              have HD := Lib.hid hd
              clear hd
              have q1 := cell_of HQB.out (j := 1) rfl
              have q8 := cell_of HQB.out (j := 8) rfl
              have s0 := cell_of HSB.out (j := 0) rfl
              have s1 := cell_of HSB.out (j := 1) rfl
              have s2 := cell_of HSB.out (j := 2) rfl
              have s3 := cell_of HSB.out (j := 3) rfl
              have s4 := cell_of HSB.out (j := 4) rfl
              have s5 := cell_of HSB.out (j := 5) rfl
              have HFI : Hid (∀ W g, W.heap[g]? = some (.cells #[.int .i64 z.cr, .int .i64 z.ch, .int .i64 z.kd, .int .i64 z.ver, .int .i64 z.ks, .int .i64 z.own, .int .i64 z.nx] 3 (0, 0)) → Calls Tryz.prog 78 #[.slice (some ⟨g, 0, none⟩) 7 7] W fun e w' => e = .returned (.bool (nums z)) ∧ W = w') := Lib.hid (fun W g hg => by
                rw [← nums_all z]
                exact fit_any (xs := [z.cr, z.ch, z.kd, z.ver, z.ks, z.own, z.nx]) ⟨rfl, by omega, fun _ => ⟨g, rfl, fun j hj => by
                  have hj7 : j < 7 := hj
                  match j, hj7 with
                  | 0, _ => exact cell_of hg (j := 0) rfl
                  | 1, _ => exact cell_of hg (j := 1) rfl
                  | 2, _ => exact cell_of hg (j := 2) rfl
                  | 3, _ => exact cell_of hg (j := 3) rfl
                  | 4, _ => exact cell_of hg (j := 4) rfl
                  | 5, _ => exact cell_of hg (j := 5) rfl
                  | 6, _ => exact cell_of hg (j := 6) rfl⟩⟩)
              have HEND : Hid (chk1 pre z = if nums z = false then 1 else 0) := Lib.hid (chk1_end HVD.out HLL.out H3.out H4.out HD.out)
              obtain ⟨nz, hnz⟩ : ∃ b, nums z = b := ⟨_, rfl⟩
              rw [hnz] at HFI HEND
              clear hnz
              go_wp2_with fail
              refine (HFI.out _ _ (new_block _ _)).mono ?_
              rintro e wf ⟨rfl, rfl⟩
              have HBF := Lib.hid (HB6.out.trans ((box_below _ (.cells #[.int .i64 z.cr, .int .i64 z.ch, .int .i64 z.kd, .int .i64 z.ver, .int .i64 z.ks, .int .i64 z.own, .int .i64 z.nx] 3)).mono HB6.out.size))
              cases nz with
              | false =>
                have HE : Hid (r = 1) := Lib.hid (by rw [← HRR.out, HEND.out]; rfl)
                go_wp2_with fail
                go_ret
                exact ⟨ret_i HE.out.symm, HBF.out⟩
              | true =>
                have HE : Hid (r = 0) := Lib.hid (by rw [← HRR.out, HEND.out]; rfl)
                go_wp2_with fail
                go_ret
                exact ⟨ret_i HE.out.symm, HBF.out⟩
      | false =>
        have H3 : Hid (¬ (parentOk z.path = true ∧ (get pre (parent z.path)).isSome = false)) := Lib.hid (by rw [HPK.out]; simp)
        have HIE := Lib.hid (isEph_any p w5)
        obtain ⟨b1, hb1⟩ : ∃ b, (!(p.own == 0)) = b := ⟨_, rfl⟩
        rw [hb1] at HIE
        have HBE := Lib.hid hb1
        clear hb1
        have u0 := cell_of HUB.out (j := 0) rfl
        have u1 := cell_of HUB.out (j := 1) rfl
        have u2 := cell_of HUB.out (j := 2) rfl
        have u3 := cell_of HUB.out (j := 3) rfl
        have u4 := cell_of HUB.out (j := 4) rfl
        have u5 := cell_of HUB.out (j := 5) rfl
        have u6 := cell_of HUB.out (j := 6) rfl
        have u7 := cell_of HUB.out (j := 7) rfl
        have u8 := cell_of HUB.out (j := 8) rfl
        go_wp2_with fail
        refine HIE.out.mono ?_
        rintro e w6 ⟨rfl, hb6⟩
        have HB6 := Lib.hid (HB5.out.trans (hb6.mono HB5.out.size))
        have HQB := Lib.hid (blk_below HQB.out hb6)
        have HUB := Lib.hid (blk_below HUB.out hb6)
        have HSB := Lib.hid (blk_below HSB.out hb6)
        clear hb6
        clear q0 hle u0 u1 u2 u3 u4 u5 u6 u7 u8
        cases b1 with
        | true => exact absurd HBE.out (by rw [HP0.out HPK.out HVD.out]; simp)
        | false =>
          have HIZ := Lib.hid (isEph_any z w6)
          obtain ⟨b2, hb2⟩ : ∃ b, (!(z.own == 0)) = b := ⟨_, rfl⟩
          rw [hb2] at HIZ
          have HBZ := Lib.hid hb2
          clear hb2
          have q0 := cell_of HQB.out (j := 0) rfl
          have q1 := cell_of HQB.out (j := 1) rfl
          have q2 := cell_of HQB.out (j := 2) rfl
          have q3 := cell_of HQB.out (j := 3) rfl
          have q4 := cell_of HQB.out (j := 4) rfl
          have q5 := cell_of HQB.out (j := 5) rfl
          have q6 := cell_of HQB.out (j := 6) rfl
          have q7 := cell_of HQB.out (j := 7) rfl
          have q8 := cell_of HQB.out (j := 8) rfl
          go_wp2_with fail
          refine HIZ.out.mono ?_
          rintro e w7 ⟨rfl, hb7⟩
          have HB7 := Lib.hid (HB6.out.trans (hb7.mono HB6.out.size))
          have HQB := Lib.hid (blk_below HQB.out hb7)
          have HUB := Lib.hid (blk_below HUB.out hb7)
          have HSB := Lib.hid (blk_below HSB.out hb7)
          clear hb7
          clear q0 q1 q2 q3 q4 q5 q6 q7 q8
          cases b2 with
          | true =>
            have hpo : z.own ≠ 0 := by have := HBZ.out; simpa using this
            have HPO0 := Lib.hid hpo
            clear hpo
            have HE : Hid (r = 85) := Lib.hid (by rw [← HRR.out]; exact chk1_85 HVD.out HLL.out H3.out (.inr ⟨HPK.out, HPO0.out⟩))
            go_wp2_with fail
            go_ret
            exact ⟨ret_i HE.out.symm, HB7.out⟩
          | false =>
            have H4 : Hid (¬ ((parentOk z.path = true ∧ ((get pre (parent z.path)).getD nd0).own ≠ 0) ∨ (parentOk z.path = false ∧ z.own ≠ 0))) := Lib.hid (by
              have hpo : z.own = 0 := by have := HBZ.out; simpa using this
              rw [HPK.out, hpo]; simp)
            by_cases hd : 1024 < z.data.length
            · have hd' : (1024 : Int) < (z.data.length : Int) := by omega
              have HD := Lib.hid hd
              have q1 := cell_of HQB.out (j := 1) rfl
              clear hd
              have HE : Hid (r = 87) := Lib.hid (by rw [← HRR.out]; exact chk1_87 HVD.out HLL.out H3.out H4.out HD.out)
              go_wp2_with fail
              go_ret
              exact ⟨ret_i HE.out.symm, HB7.out⟩
            · have hd' : ¬ (1024 : Int) < (z.data.length : Int) := by omega
              have HD := Lib.hid hd
              clear hd
              have q1 := cell_of HQB.out (j := 1) rfl
              have q8 := cell_of HQB.out (j := 8) rfl
              have s0 := cell_of HSB.out (j := 0) rfl
              have s1 := cell_of HSB.out (j := 1) rfl
              have s2 := cell_of HSB.out (j := 2) rfl
              have s3 := cell_of HSB.out (j := 3) rfl
              have s4 := cell_of HSB.out (j := 4) rfl
              have s5 := cell_of HSB.out (j := 5) rfl
              have HFI : Hid (∀ W g, W.heap[g]? = some (.cells #[.int .i64 z.cr, .int .i64 z.ch, .int .i64 z.kd, .int .i64 z.ver, .int .i64 z.ks, .int .i64 z.own, .int .i64 z.nx] 3 (0, 0)) → Calls Tryz.prog 78 #[.slice (some ⟨g, 0, none⟩) 7 7] W fun e w' => e = .returned (.bool (nums z)) ∧ W = w') := Lib.hid (fun W g hg => by
                rw [← nums_all z]
                exact fit_any (xs := [z.cr, z.ch, z.kd, z.ver, z.ks, z.own, z.nx]) ⟨rfl, by omega, fun _ => ⟨g, rfl, fun j hj => by
                  have hj7 : j < 7 := hj
                  match j, hj7 with
                  | 0, _ => exact cell_of hg (j := 0) rfl
                  | 1, _ => exact cell_of hg (j := 1) rfl
                  | 2, _ => exact cell_of hg (j := 2) rfl
                  | 3, _ => exact cell_of hg (j := 3) rfl
                  | 4, _ => exact cell_of hg (j := 4) rfl
                  | 5, _ => exact cell_of hg (j := 5) rfl
                  | 6, _ => exact cell_of hg (j := 6) rfl⟩⟩)
              have HEND : Hid (chk1 pre z = if nums z = false then 1 else 0) := Lib.hid (chk1_end HVD.out HLL.out H3.out H4.out HD.out)
              obtain ⟨nz, hnz⟩ : ∃ b, nums z = b := ⟨_, rfl⟩
              rw [hnz] at HFI HEND
              clear hnz
              go_wp2_with fail
              refine (HFI.out _ _ (new_block _ _)).mono ?_
              rintro e wf ⟨rfl, rfl⟩
              have HBF := Lib.hid (HB7.out.trans ((box_below _ (.cells #[.int .i64 z.cr, .int .i64 z.ch, .int .i64 z.kd, .int .i64 z.ver, .int .i64 z.ks, .int .i64 z.own, .int .i64 z.nx] 3)).mono HB7.out.size))
              cases nz with
              | false =>
                have HE : Hid (r = 1) := Lib.hid (by rw [← HRR.out, HEND.out]; rfl)
                go_wp2_with fail
                go_ret
                exact ⟨ret_i HE.out.symm, HBF.out⟩
              | true =>
                have HE : Hid (r = 0) := Lib.hid (by rw [← HRR.out, HEND.out]; rfl)
                go_wp2_with fail
                go_ret
                exact ⟨ret_i HE.out.symm, HBF.out⟩
end Go.Proofs.YtflgemlhocjipaaGreatDoor
