/-
  What childOf, Owned, remove return and leave. Conditions: the path is one; the tree is good.
-/
import Derived.Test.YtflgemlhocjipaaGreatDoorSetC
import Derived.Test.YtflgemlhocjipaaGreatDoorClos
namespace Go.Proofs.YtflgemlhocjipaaGreatDoor
set_option maxRecDepth 100000
open Go.ChangeShapes Go.WideShapes Go.ChangeAt Go.RowKit Go.Proofs.Zn Go.Proofs.Zt

theorem childOf_any (P : Txt) (w : World) : Calls Tryz.prog 151 #[.string (B P)] w fun e w' => e = .returned (.func (.func 176) #[] #[.pointer (some ⟨w.heap.size, 0, none⟩)]) ∧ w.alloc (.cells #[.string (B P)] 9) = w' := by
  go_enter Tryz.func151, Tryz.ntmps151
  go_wp2_with fail
  go_ret
  exact ⟨rfl, rfl⟩
theorem sel_own (s : Int) (T : Tr) : paths (sel (isOwn s) T) = owned T s := rfl
set_option maxHeartbeats 1000000 in
theorem owned_any {w : World} {tp mb : Nat} {T : Tr} (h : TreeW w tp mb T) (hg : Zt.Good T) (s : Int) :
    Calls Tryz.prog 153 #[.pointer (some ⟨tp, 0, none⟩), .int .i64 s] w fun e w' => ∃ v, e = .returned v ∧ w'.ownsRow w.heap.size 9 1 v (owned T s).length (scells (owned T s)) ∧ Below w.heap.size w w' := by
  obtain ⟨w1, hw1⟩ : ∃ w1, w1 = w.alloc (.cells #[.int .i64 s] 3) := ⟨_, rfl⟩
  obtain ⟨q, eq⟩ : ∃ q, q = w.heap.size := ⟨_, rfl⟩
  have hb1 : Below w.heap.size w w1 := by rw [hw1]; exact box_below w _
  have hq : w1.heap[q]? = some (.cells #[.int .i64 s] 3 (0, 0)) := by rw [hw1, eq]; exact new_block w _
  have HR := Lib.hid (risingO (h.below hb1) hg s q hq)
  have HW1 := Lib.hid hw1
  have EQ := Lib.hid eq
  have HB1 := Lib.hid hb1
  clear h hg hw1 eq hb1 hq
  go_enter Tryz.func153, Tryz.ntmps153
  go_upto_region 1 with fail
  rw [← HW1.out, ← EQ.out]
  go_wp2_with fail
  refine HR.out.mono ?_
  rintro e w2 ⟨v, rfl, hrow, hb2⟩
  have HRW := Lib.hid hrow
  have HB2 := Lib.hid hb2
  clear hrow hb2
  go_wp2_with fail
  go_ret
  have hl : (sel (isOwn s) T).length = (owned T s).length := by rw [← sel_own]; unfold paths; rw [List.length_map]
  exact ⟨_, rfl, by have := HRW.out; rw [sel_own, hl] at this; exact own_base this HB1.out.size, HB1.out.trans (HB2.out.mono HB1.out.size)⟩
theorem kids_len (T : Tr) (P : Txt) : (kids T P).length = (sel (isKid P) T).length := by unfold kids sel isKid; rw [List.length_map]

def removeS (T : Tr) (zx : Int) (c : Chg) : Stp :=
  if parentOk c.path = false then fails 1 else
  if askedE T c ≠ 0 then fails (askedE T c) else
  if kids T c.path ≠ [] then fails 84 else remove T zx c.path
theorem remove_end {w w8 w9 : World} {tp mb : Nat} {T : Tr} {zx : Int} {c : Chg} {z p : Nd} {v : Value} (h1 : parentOk c.path = true) (h2 : askedE T c = 0) (h3 : kids T c.path = []) (hz : z.path = c.path) (hp : get T (parent c.path) = some p)
    (ht : TreeW w9 tp mb (put (wout T c.path) (tz p zx))) (hg : w.grownBy w9 (some mb)) (hs : w.heap.size ≤ w8.heap.size) (hr : w9.ownsRow w8.heap.size 165 3 v 2 (ecells [⟨0, 2, c.path⟩, ⟨0, 4, p.path⟩])) :
    ChPost tp mb (removeS T zx c) w (.returned (.tuple #[.string (B z.path), v, .int .i64 0])) w9 := by
  unfold removeS
  rw [if_neg (by rw [h1]; simp), if_neg (by rw [h2]; simp), if_neg (by rw [h3]; simp)]
  unfold remove kidS
  rw [get_wout, if_neg (parent_ne h1), hp]
  refine ⟨v, by rw [hz], hg, fun _ => ⟨?_, ?_⟩⟩
  · exact ht
  · rw [(get_some hp).2] at hr
    exact own_base hr hs
set_option maxHeartbeats 4000000 in
theorem remove_any {w : World} {tp mb : Nat} {T : Tr} (h : TreeW w tp mb T) (hg : Zt.Good T) (zx : Int) (c : Chg) (hv : valid c.path = true) :
    Calls Tryz.prog 121 #[.pointer (some ⟨tp, 0, none⟩), .int .i64 zx, .agg #[.int .i64 c.kind, .string (B c.path), .string (B c.data), .int .i64 c.ver, .bool c.eph, .bool c.sq]] w (ChPost tp mb (removeS T zx c) w) := by
  obtain ⟨w1, hw1⟩ : ∃ w1, w1 = w.alloc (.cells #[.int .i64 c.kind, .string (B c.path), .string (B c.data), .int .i64 c.ver, .bool c.eph, .bool c.sq] 79) := ⟨_, rfl⟩
  obtain ⟨q, eq⟩ : ∃ q, q = w.heap.size := ⟨_, rfl⟩
  have hb1 : Below w.heap.size w w1 := by rw [hw1]; exact box_below w _
  have hq : w1.heap[q]? = some (.cells #[.int .i64 c.kind, .string (B c.path), .string (B c.data), .int .i64 c.ver, .bool c.eph, .bool c.sq] 79 (0, 0)) := by rw [hw1, eq]; exact new_block w _
  have HPL : Hid (Cq w q tp mb T c w1) := Lib.hid ⟨hb1, h.below hb1, hq⟩
  have HLN := Lib.hid (len_le hv)
  have HPA := Lib.hid (parent_any (B c.path) w1 (by rw [B_size]; have := len_le hv; omega))
  simp only [LB] at HPA
  have HW1 := Lib.hid hw1
  have EQ := Lib.hid eq
  have HG := Lib.hid hg
  have q1 := cell_of hq (j := 1) rfl
  obtain ⟨po, hpo⟩ : ∃ b, parentOk c.path = b := ⟨_, rfl⟩
  obtain ⟨up, hup⟩ : ∃ u, parent c.path = u := ⟨_, rfl⟩
  rw [hpo, hup] at HPA
  have HPO := Lib.hid hpo
  have HUP := Lib.hid hup
  clear h hg hw1 eq hb1 hq hpo hup hv
  go_enter Tryz.func121, Tryz.ntmps121
  go_upto_region 1 with fail
  rw [← HW1.out, ← EQ.out]
  go_wp2_with fail
  refine HPA.out.mono ?_
  rintro e w2 ⟨rfl, hb2⟩
  have HPL2 := Lib.hid (HPL.out.go hb2)
  clear HPL
  have HPL := HPL2
  clear HPL2 hb2 q1
  cases po with
  | false =>
    have HE := Lib.hid (ch_fail (tp := tp) (mb := mb) (S := removeS T zx c) (k := 1) (by unfold removeS; rw [if_pos HPO.out]) (by decide) HPL.out.below)
    go_wp2_with fail
    go_ret3
    exact HE.out
  | true =>
    have HPC := Lib.hid (asked_any HPL.out.tree c (by have := HLN.out; unfold maxLen; omega))
    obtain ⟨k, hk⟩ : ∃ k, askedE T c = k := ⟨_, rfl⟩
    obtain ⟨z, hz⟩ : ∃ p, askedZ T c = p := ⟨_, rfl⟩
    rw [hk, hz] at HPC
    unfold ndv at HPC
    have HK := Lib.hid hk
    have HZ := Lib.hid hz
    have hq := HPL.out.bq
    have q0 := cell_of hq (j := 0) rfl
    have q1 := cell_of hq (j := 1) rfl
    have q2 := cell_of hq (j := 2) rfl
    have q3 := cell_of hq (j := 3) rfl
    have q4 := cell_of hq (j := 4) rfl
    have q5 := cell_of hq (j := 5) rfl
    clear hk hz hq
    go_wp2_with fail
    refine HPC.out.mono ?_
    rintro e w3 ⟨rfl, hb3⟩
    have HPL3 := Lib.hid (HPL.out.go hb3)
    obtain ⟨w4, hw4⟩ : ∃ w4, w4 = w3.alloc (.cells #[.string (B z.path), .string (B z.data), .int .i64 z.cr, .int .i64 z.ch, .int .i64 z.kd, .int .i64 z.ver, .int .i64 z.ks, .int .i64 z.own, .int .i64 z.nx] 132) := ⟨_, rfl⟩
    obtain ⟨s, es⟩ : ∃ s, s = w3.heap.size := ⟨_, rfl⟩
    have hb4 : Below w3.heap.size w3 w4 := by rw [hw4]; exact box_below w3 _
    have hs : w4.heap[s]? = some (.cells #[.string (B z.path), .string (B z.data), .int .i64 z.cr, .int .i64 z.ch, .int .i64 z.kd, .int .i64 z.ver, .int .i64 z.ks, .int .i64 z.own, .int .i64 z.nx] 132 (0, 0)) := by rw [hw4, es]; exact new_block w3 _
    have HPL4 := Lib.hid (HPL3.out.go hb4)
    clear HPL HPL3
    have HPL := HPL4
    have HW4 := Lib.hid hw4
    have ES := Lib.hid es
    have HS := Lib.hid hs
    clear HPL4 hb3 hb4 hw4 es hs q0 q1 q2 q3 q4 q5
    go_upto_region 5 with fail
    rw [← HW4.out, ← ES.out]
    by_cases hk0 : k = 0
    · subst hk0
      have hgz := asked_ok HK.out HZ.out
      have HGZ := Lib.hid hgz
      have HZP : Hid (z.path = c.path) := Lib.hid (get_some hgz).2
      obtain ⟨p, hp, -⟩ := HG.out.par z (get_some hgz).1 (by rw [HZP.out]; exact HPO.out)
      rw [HZP.out, HUP.out] at hp
      have HGP := Lib.hid hp
      have HPI : Hid (NdOk p) := Lib.hid (HG.out.each p (get_some hp).1)
      have hs := HS.out
      have s0 := cell_of hs (j := 0) rfl
      have HCO := Lib.hid (childOf_any z.path w4)
      have hb5 := box_below w4 (.cells #[.string (B z.path)] 9)
      obtain ⟨w5, hw5⟩ : ∃ w5, w5 = w4.alloc (.cells #[.string (B z.path)] 9) := ⟨_, rfl⟩
      obtain ⟨cb, ecb⟩ : ∃ q, q = w4.heap.size := ⟨_, rfl⟩
      have hcb : w5.heap[cb]? = some (.cells #[.string (B z.path)] 9 (0, 0)) := by rw [hw5, ecb]; exact new_block w4 _
      rw [← hw5] at hb5
      rw [← hw5, ← ecb] at HCO
      have HPL5 := Lib.hid (HPL.out.go hb5)
      have HS5 := Lib.hid (blk_below hs hb5)
      have HRI := Lib.hid (risingK HPL5.out.tree HG.out z.path cb hcb)
      clear HPL HS
      have HPL := HPL5
      have HS := HS5
      clear hgz hp hs hb5 hw5 ecb hcb HPL5 HS5
      go_wp2_with fail
      refine HCO.out.mono ?_
      rintro e w5' ⟨rfl, rfl⟩
      go_wp2_with fail
      refine HRI.out.mono ?_
      rintro e w6 ⟨v, rfl, hrow, hb6⟩
      obtain ⟨A, cp, rfl, -, -, -⟩ := own_form hrow
      have HPL6 := Lib.hid (HPL.out.go hb6)
      have HS6 := Lib.hid (blk_below HS.out hb6)
      clear HPL HS
      have HPL := HPL6
      have HS := HS6
      have hkl := kids_len T z.path
      obtain ⟨m, hm⟩ : ∃ m, (sel (isKid z.path) T).length = m := ⟨_, rfl⟩
      rw [hm] at hkl ⊢
      have HKL := Lib.hid hkl
      clear HPL6 HS6 hrow hb6 hkl hm s0
      by_cases hm0 : m = 0
      · subst hm0
        have HKN : Hid (kids T c.path = []) := Lib.hid (by rw [← HZP.out]; exact List.eq_nil_of_length_eq_zero HKL.out)
        have h6 := HPL.out.tree
        have hs6 := HS.out
        have s0 := cell_of hs6 (j := 0) rfl
        have d0 := cell_of h6.here (j := 0) rfl
        obtain ⟨w7, hrun, hm7, hg7⟩ := del_nd h6.map.drew z.path (by rw [HZP.out]; have := HLN.out; unfold maxLen; omega) 0
        have hne : up ≠ z.path := by rw [← HUP.out, HZP.out]; exact parent_ne HPO.out
        have ht7 := h6.put (gb_trans gb_drew hg7) hm7
        have hs7 := gb_cells (gb_trans gb_drew hg7) (h6.map.ne_cells hs6) hs6
        have hgw : get (wout T z.path) up = some p := by rw [get_wout, if_neg hne]; exact HGP.out
        have hlk := look_one ht7.map.drew up (by have := len_le HPI.out.path; rw [(get_some HGP.out).2] at this; unfold maxLen; omega) (z := p) (by rw [hgw]; rfl)
        have hlk0 := look_one ht7.map up (by have := len_le HPI.out.path; rw [(get_some HGP.out).2] at this; unfold maxLen; omega) (z := p) (by rw [hgw]; rfl)
        have HTC := Lib.hid (touch_any (ht7.below ((Below.refl _ _).drew)) (wout_srt HG.out.srt z.path) (by have := wout_len_le T z.path; have := HG.out.len; omega) p HPI.out.ks (by have := len_le HPI.out.path; unfold maxLen; omega) zx 2 z.path)
        have HG7 := Lib.hid (gb_trans (gb_below HPL.out.below (some mb)) (gb_trans gb_drew hg7))
        have e0 := cell_of hs7 (j := 0) rfl
        have f0 := cell_of ht7.here (j := 0) rfl
        have HSM : Hid (s ≠ mb) := Lib.hid (h6.map.ne_cells hs6)
        have HSLT : Hid (s < w7.heap.size) := Lib.hid (blk_lt hs7)
        clear h6 hs6 hm7 hg7 hne ht7 hs7 hgw
        go_upto_region 9 with fail
        go_still_tail 6, (by kernel_rfl)
        change wpList _ _ _ _ _ w6.drew
        go_wp2_with fail
        clear hrun s0 d0
        have HS7 : Hid (w7.drew.cell? ⟨s, 0, none⟩ = some (.string (B z.path)) ∧ w7.drew.cell? ⟨tp, 0, none⟩ = some (.map (some mb))) := Lib.hid ⟨e0, f0⟩
        have HS9 : Hid (∀ w9 : World, TreeW w9 tp mb (put (wout T z.path) (tz p zx)) → w7.drew.grownBy w9 (some mb) → w9.cell? ⟨s, 0, none⟩ = some (.string (B z.path)) ∧ w9.cell? ⟨tp, 0, none⟩ = some (.map (some mb))) := Lib.hid fun w9 ht hg => ⟨(World.cell?_of_block (hg.block s HSLT.out (by simpa using HSM.out))).trans e0, cell_of ht.here (j := 0) rfl⟩
        have HEN : Hid (∀ (v : Value) (w9 : World), TreeW w9 tp mb (put (wout T z.path) (tz p zx)) → w7.drew.grownBy w9 (some mb) → w9.ownsRow w7.drew.heap.size 165 3 v 2 (ecells [⟨0, 2, z.path⟩, ⟨0, 4, p.path⟩]) → ChPost tp mb (removeS T zx c) w (.returned (.tuple #[.string (B z.path), v, .int .i64 0])) w9) := Lib.hid fun v w9 ht hg hr =>
          remove_end (T := T) (zx := zx) (w8 := w7.drew) HPO.out HK.out HKN.out HZP.out (by rw [HUP.out]; exact HGP.out) (by rw [← HZP.out]; exact ht) (gb_trans HG7.out (gb_trans gb_drew hg)) HG7.out.size (by rw [← HZP.out]; exact hr)
        go_region_held3 (fun w' => w'.cell? ⟨s, 0, none⟩ = some (.string (B z.path)) ∧ w'.cell? ⟨tp, 0, none⟩ = some (.map (some mb)))
          (first
            | exact HS7.out
            | assumption)
          (first
            | (go_at_call 148; (with_reducible refine HTC.out.mono ?_); rintro e w9 ⟨v, rfl, ht9, hg9, hrow9⟩; have hS9 := HS9.out w9 ht9 hg9; have HE := Lib.hid (HEN.out v w9 ht9 hg9 hrow9); clear ht9 hg9 hrow9))
        all_goals
          go_wp2_with fail
          go_ret3
          exact HE.out
      · have hm1 : 0 < m := by omega
        have HE := Lib.hid (ch_fail (tp := tp) (mb := mb) (S := removeS T zx c) (k := 84) (by unfold removeS; rw [if_neg (by rw [HPO.out]; simp), if_neg (by rw [HK.out]; simp), if_pos (by rw [← HZP.out]; intro e; have := HKL.out; rw [e] at this; simp at this; omega)]) (by decide) HPL.out.below)
        clear hm0
        go_wp2_with fail
        go_ret3
        exact HE.out
    · have HE := Lib.hid (ch_fail (tp := tp) (mb := mb) (S := removeS T zx c) (k := k) (by unfold removeS; rw [if_neg (by rw [HPO.out]; simp), HK.out, if_pos hk0]) hk0 HPL.out.below)
      have hk1 : (k != 0) = true := by simpa using hk0
      clear hk0
      go_wp2_with fail
      go_ret3
      exact HE.out
end Go.Proofs.YtflgemlhocjipaaGreatDoor
