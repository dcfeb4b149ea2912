/-
  What childOf, Owned, remove return and leave. Conditions: the path is one; the tree is good.
  What change returns and leaves. Conditions: the tree is good; the path's length.
  What Clone and Do return and leave. Conditions: the tree is good; as many changes, and as long paths, as memory bears.
-/
import Derived.Test.YtflgemlhocjipaaGreatDoorSetC
import Derived.Test.YtflgemlhocjipaaGreatDoorClos
import Derived.Test.YtflgemlhocjipaaGreatDoorRows8
namespace Go.Proofs.YtflgemlhocjipaaGreatDoor
set_option maxRecDepth 100000
open Go.ChangeShapes Go.WideShapes Go.ChangeAt Go.RowKit Go.Proofs.Zn Go.Proofs.Zt

theorem childOf_any (P : Txt) (w : World) : Calls Tryz.prog 151 #[.string (B P)] w fun e w' => e = .returned (.func (.func 176) #[] #[.pointer (some ⟨w.heap.size, 0, none⟩)]) ∧ w.alloc (.cells #[.string (B P)] 9) = w' := by
  go_enter Tryz.func151, Tryz.ntmps151
  go_wp2_with fail
  go_ret
  exact ⟨rfl, rfl⟩
theorem sel_own (s : Int) (T : Tr) : paths (sel (isOwn s) T) = owned T s := rfl
set_option maxHeartbeats 1000000 in
theorem owned_any {w : World} {tp mb : Nat} {T : Tr} (h : TreeW w tp mb T) (hg : Zt.Good T) (s : Int) :
    Calls Tryz.prog 153 #[.pointer (some ⟨tp, 0, none⟩), .int .i64 s] w fun e w' => ∃ v, e = .returned v ∧ w'.ownsRow w.heap.size 9 1 v (owned T s).length (scells (owned T s)) ∧ Below w.heap.size w w' := by
  obtain ⟨w1, hw1⟩ : ∃ w1, w1 = w.alloc (.cells #[.int .i64 s] 3) := ⟨_, rfl⟩
  obtain ⟨q, eq⟩ : ∃ q, q = w.heap.size := ⟨_, rfl⟩
  have hb1 : Below w.heap.size w w1 := by rw [hw1]; exact box_below w _
  have hq : w1.heap[q]? = some (.cells #[.int .i64 s] 3 (0, 0)) := by rw [hw1, eq]; exact new_block w _
  have HR := Lib.hid (risingO (h.below hb1) hg s q hq)
  have HW1 := Lib.hid hw1
  have EQ := Lib.hid eq
  have HB1 := Lib.hid hb1
  clear h hg hw1 eq hb1 hq
  go_enter Tryz.func153, Tryz.ntmps153
  go_upto_region 1 with fail
  rw [← HW1.out, ← EQ.out]
  go_wp2_with fail
  refine HR.out.mono ?_
  rintro e w2 ⟨v, rfl, hrow, hb2⟩
  have HRW := Lib.hid hrow
  have HB2 := Lib.hid hb2
  clear hrow hb2
  go_wp2_with fail
  go_ret
  have hl : (sel (isOwn s) T).length = (owned T s).length := by rw [← sel_own]; unfold paths; rw [List.length_map]
  exact ⟨_, rfl, by have := HRW.out; rw [sel_own, hl] at this; exact own_base this HB1.out.size, HB1.out.trans (HB2.out.mono HB1.out.size)⟩
theorem kids_len (T : Tr) (P : Txt) : (kids T P).length = (sel (isKid P) T).length := by unfold kids sel isKid; rw [List.length_map]

def removeS (T : Tr) (zx : Int) (c : Chg) : Stp :=
  if parentOk c.path = false then fails 1 else
  if askedE T c ≠ 0 then fails (askedE T c) else
  if kids T c.path ≠ [] then fails 84 else remove T zx c.path
theorem remove_end {w w8 w9 : World} {tp mb : Nat} {T : Tr} {zx : Int} {c : Chg} {z p : Nd} {v : Value} (h1 : parentOk c.path = true) (h2 : askedE T c = 0) (h3 : kids T c.path = []) (hz : z.path = c.path) (hp : get T (parent c.path) = some p)
    (ht : TreeW w9 tp mb (put (wout T c.path) (tz p zx))) (hg : w.grownBy w9 (some mb)) (hs : w.heap.size ≤ w8.heap.size) (hr : w9.ownsRow w8.heap.size 165 3 v 2 (ecells [⟨0, 2, c.path⟩, ⟨0, 4, p.path⟩])) :
    ChPost tp mb (removeS T zx c) w (.returned (.tuple #[.string (B z.path), v, .int .i64 0])) w9 := by
  unfold removeS
  rw [if_neg (by rw [h1]; simp), if_neg (by rw [h2]; simp), if_neg (by rw [h3]; simp)]
  unfold remove kidS
  rw [get_wout, if_neg (parent_ne h1), hp]
  refine ⟨v, by rw [hz], hg, fun _ => ⟨?_, ?_⟩⟩
  · exact ht
  · rw [(get_some hp).2] at hr
    exact own_base hr hs
set_option maxHeartbeats 4000000 in
theorem remove_any {w : World} {tp mb : Nat} {T : Tr} (h : TreeW w tp mb T) (hg : Zt.Good T) (zx : Int) (c : Chg) (hv : valid c.path = true) :
    Calls Tryz.prog 121 #[.pointer (some ⟨tp, 0, none⟩), .int .i64 zx, .agg #[.int .i64 c.kind, .string (B c.path), .string (B c.data), .int .i64 c.ver, .bool c.eph, .bool c.sq]] w (ChPost tp mb (removeS T zx c) w) := by
  obtain ⟨w1, hw1⟩ : ∃ w1, w1 = w.alloc (.cells #[.int .i64 c.kind, .string (B c.path), .string (B c.data), .int .i64 c.ver, .bool c.eph, .bool c.sq] 79) := ⟨_, rfl⟩
  obtain ⟨q, eq⟩ : ∃ q, q = w.heap.size := ⟨_, rfl⟩
  have hb1 : Below w.heap.size w w1 := by rw [hw1]; exact box_below w _
  have hq : w1.heap[q]? = some (.cells #[.int .i64 c.kind, .string (B c.path), .string (B c.data), .int .i64 c.ver, .bool c.eph, .bool c.sq] 79 (0, 0)) := by rw [hw1, eq]; exact new_block w _
  have HPL : Hid (Cq w q tp mb T c w1) := Lib.hid ⟨hb1, h.below hb1, hq⟩
  have HLN := Lib.hid (len_le hv)
  have HPA := Lib.hid (parent_any (B c.path) w1 (by rw [B_size]; have := len_le hv; omega))
  simp only [LB] at HPA
  have HW1 := Lib.hid hw1
  have EQ := Lib.hid eq
  have HG := Lib.hid hg
  have q1 := cell_of hq (j := 1) rfl
  obtain ⟨po, hpo⟩ : ∃ b, parentOk c.path = b := ⟨_, rfl⟩
  obtain ⟨up, hup⟩ : ∃ u, parent c.path = u := ⟨_, rfl⟩
  rw [hpo, hup] at HPA
  have HPO := Lib.hid hpo
  have HUP := Lib.hid hup
  clear h hg hw1 eq hb1 hq hpo hup hv
  go_enter Tryz.func121, Tryz.ntmps121
  go_upto_region 1 with fail
  rw [← HW1.out, ← EQ.out]
  go_wp2_with fail
  refine HPA.out.mono ?_
  rintro e w2 ⟨rfl, hb2⟩
  have HPL2 := Lib.hid (HPL.out.go hb2)
  clear HPL
  have HPL := HPL2
  clear HPL2 hb2 q1
  cases po with
  | false =>
    have HE := Lib.hid (ch_fail (tp := tp) (mb := mb) (S := removeS T zx c) (k := 1) (by unfold removeS; rw [if_pos HPO.out]) (by decide) HPL.out.below)
    go_wp2_with fail
    go_ret3
    exact HE.out
  | true =>
    have HPC := Lib.hid (asked_any HPL.out.tree c (by have := HLN.out; unfold maxLen; omega))
    obtain ⟨k, hk⟩ : ∃ k, askedE T c = k := ⟨_, rfl⟩
    obtain ⟨z, hz⟩ : ∃ p, askedZ T c = p := ⟨_, rfl⟩
    rw [hk, hz] at HPC
    unfold ndv at HPC
    have HK := Lib.hid hk
    have HZ := Lib.hid hz
    have hq := HPL.out.bq
    have q0 := cell_of hq (j := 0) rfl
    have q1 := cell_of hq (j := 1) rfl
    have q2 := cell_of hq (j := 2) rfl
    have q3 := cell_of hq (j := 3) rfl
    have q4 := cell_of hq (j := 4) rfl
    have q5 := cell_of hq (j := 5) rfl
    clear hk hz hq
    go_wp2_with fail
    refine HPC.out.mono ?_
    rintro e w3 ⟨rfl, hb3⟩
    have HPL3 := Lib.hid (HPL.out.go hb3)
    obtain ⟨w4, hw4⟩ : ∃ w4, w4 = w3.alloc (.cells #[.string (B z.path), .string (B z.data), .int .i64 z.cr, .int .i64 z.ch, .int .i64 z.kd, .int .i64 z.ver, .int .i64 z.ks, .int .i64 z.own, .int .i64 z.nx] 132) := ⟨_, rfl⟩
    obtain ⟨s, es⟩ : ∃ s, s = w3.heap.size := ⟨_, rfl⟩
    have hb4 : Below w3.heap.size w3 w4 := by rw [hw4]; exact box_below w3 _
    have hs : w4.heap[s]? = some (.cells #[.string (B z.path), .string (B z.data), .int .i64 z.cr, .int .i64 z.ch, .int .i64 z.kd, .int .i64 z.ver, .int .i64 z.ks, .int .i64 z.own, .int .i64 z.nx] 132 (0, 0)) := by rw [hw4, es]; exact new_block w3 _
    have HPL4 := Lib.hid (HPL3.out.go hb4)
    clear HPL HPL3
    have HPL := HPL4
    have HW4 := Lib.hid hw4
    have ES := Lib.hid es
    have HS := Lib.hid hs
    clear HPL4 hb3 hb4 hw4 es hs q0 q1 q2 q3 q4 q5
    go_upto_region 5 with fail
    rw [← HW4.out, ← ES.out]
    by_cases hk0 : k = 0
    · subst hk0
      have hgz := asked_ok HK.out HZ.out
      have HGZ := Lib.hid hgz
      have HZP : Hid (z.path = c.path) := Lib.hid (get_some hgz).2
      obtain ⟨p, hp, -⟩ := HG.out.par z (get_some hgz).1 (by rw [HZP.out]; exact HPO.out)
      rw [HZP.out, HUP.out] at hp
      have HGP := Lib.hid hp
      have HPI : Hid (NdOk p) := Lib.hid (HG.out.each p (get_some hp).1)
      have hs := HS.out
      have s0 := cell_of hs (j := 0) rfl
      have HCO := Lib.hid (childOf_any z.path w4)
      have hb5 := box_below w4 (.cells #[.string (B z.path)] 9)
      obtain ⟨w5, hw5⟩ : ∃ w5, w5 = w4.alloc (.cells #[.string (B z.path)] 9) := ⟨_, rfl⟩
      obtain ⟨cb, ecb⟩ : ∃ q, q = w4.heap.size := ⟨_, rfl⟩
      have hcb : w5.heap[cb]? = some (.cells #[.string (B z.path)] 9 (0, 0)) := by rw [hw5, ecb]; exact new_block w4 _
      rw [← hw5] at hb5
      rw [← hw5, ← ecb] at HCO
      have HPL5 := Lib.hid (HPL.out.go hb5)
      have HS5 := Lib.hid (blk_below hs hb5)
      have HRI := Lib.hid (risingK HPL5.out.tree HG.out z.path cb hcb)
      clear HPL HS
      have HPL := HPL5
      have HS := HS5
      clear hgz hp hs hb5 hw5 ecb hcb HPL5 HS5
      go_wp2_with fail
      refine HCO.out.mono ?_
      rintro e w5' ⟨rfl, rfl⟩
      go_wp2_with fail
      refine HRI.out.mono ?_
      rintro e w6 ⟨v, rfl, hrow, hb6⟩
      obtain ⟨A, cp, rfl, -, -, -⟩ := own_form hrow
      have HPL6 := Lib.hid (HPL.out.go hb6)
      have HS6 := Lib.hid (blk_below HS.out hb6)
      clear HPL HS
      have HPL := HPL6
      have HS := HS6
      have hkl := kids_len T z.path
      obtain ⟨m, hm⟩ : ∃ m, (sel (isKid z.path) T).length = m := ⟨_, rfl⟩
      rw [hm] at hkl ⊢
      have HKL := Lib.hid hkl
      clear HPL6 HS6 hrow hb6 hkl hm s0
      by_cases hm0 : m = 0
      · subst hm0
        have HKN : Hid (kids T c.path = []) := Lib.hid (by rw [← HZP.out]; exact List.eq_nil_of_length_eq_zero HKL.out)
        have h6 := HPL.out.tree
        have hs6 := HS.out
        have s0 := cell_of hs6 (j := 0) rfl
        have d0 := cell_of h6.here (j := 0) rfl
        obtain ⟨w7, hrun, hm7, hg7⟩ := del_nd h6.map.drew z.path (by rw [HZP.out]; have := HLN.out; unfold maxLen; omega) 0
        have hne : up ≠ z.path := by rw [← HUP.out, HZP.out]; exact parent_ne HPO.out
        have ht7 := h6.put (gb_trans gb_drew hg7) hm7
        have hs7 := gb_cells (gb_trans gb_drew hg7) (h6.map.ne_cells hs6) hs6
        have hgw : get (wout T z.path) up = some p := by rw [get_wout, if_neg hne]; exact HGP.out
        have hlk := look_one ht7.map.drew up (by have := len_le HPI.out.path; rw [(get_some HGP.out).2] at this; unfold maxLen; omega) (z := p) (by rw [hgw]; rfl)
        have hlk0 := look_one ht7.map up (by have := len_le HPI.out.path; rw [(get_some HGP.out).2] at this; unfold maxLen; omega) (z := p) (by rw [hgw]; rfl)
        have HTC := Lib.hid (touch_any (ht7.below ((Below.refl _ _).drew)) (wout_srt HG.out.srt z.path) (by have := wout_len_le T z.path; have := HG.out.len; omega) p HPI.out.ks (by have := len_le HPI.out.path; unfold maxLen; omega) zx 2 z.path)
        have HG7 := Lib.hid (gb_trans (gb_below HPL.out.below (some mb)) (gb_trans gb_drew hg7))
        have e0 := cell_of hs7 (j := 0) rfl
        have f0 := cell_of ht7.here (j := 0) rfl
        have HSM : Hid (s ≠ mb) := Lib.hid (h6.map.ne_cells hs6)
        have HSLT : Hid (s < w7.heap.size) := Lib.hid (blk_lt hs7)
        clear h6 hs6 hm7 hg7 hne ht7 hs7 hgw
        go_upto_region 9 with fail
        go_still_tail 6, (by kernel_rfl)
        change wpList _ _ _ _ _ w6.drew
        go_wp2_with fail
        clear hrun s0 d0
        have HS7 : Hid (w7.drew.cell? ⟨s, 0, none⟩ = some (.string (B z.path)) ∧ w7.drew.cell? ⟨tp, 0, none⟩ = some (.map (some mb))) := Lib.hid ⟨e0, f0⟩
        have HS9 : Hid (∀ w9 : World, TreeW w9 tp mb (put (wout T z.path) (tz p zx)) → w7.drew.grownBy w9 (some mb) → w9.cell? ⟨s, 0, none⟩ = some (.string (B z.path)) ∧ w9.cell? ⟨tp, 0, none⟩ = some (.map (some mb))) := Lib.hid fun w9 ht hg => ⟨(World.cell?_of_block (hg.block s HSLT.out (by simpa using HSM.out))).trans e0, cell_of ht.here (j := 0) rfl⟩
        have HEN : Hid (∀ (v : Value) (w9 : World), TreeW w9 tp mb (put (wout T z.path) (tz p zx)) → w7.drew.grownBy w9 (some mb) → w9.ownsRow w7.drew.heap.size 165 3 v 2 (ecells [⟨0, 2, z.path⟩, ⟨0, 4, p.path⟩]) → ChPost tp mb (removeS T zx c) w (.returned (.tuple #[.string (B z.path), v, .int .i64 0])) w9) := Lib.hid fun v w9 ht hg hr =>
          remove_end (T := T) (zx := zx) (w8 := w7.drew) HPO.out HK.out HKN.out HZP.out (by rw [HUP.out]; exact HGP.out) (by rw [← HZP.out]; exact ht) (gb_trans HG7.out (gb_trans gb_drew hg)) HG7.out.size (by rw [← HZP.out]; exact hr)
        go_region_held3 (fun w' => w'.cell? ⟨s, 0, none⟩ = some (.string (B z.path)) ∧ w'.cell? ⟨tp, 0, none⟩ = some (.map (some mb)))
          (first
            | exact HS7.out
            | assumption)
          (first
            | (go_at_call 148; (with_reducible refine HTC.out.mono ?_); rintro e w9 ⟨v, rfl, ht9, hg9, hrow9⟩; have hS9 := HS9.out w9 ht9 hg9; have HE := Lib.hid (HEN.out v w9 ht9 hg9 hrow9); clear ht9 hg9 hrow9))
        all_goals
          go_wp2_with fail
          go_ret3
          exact HE.out
      · have hm1 : 0 < m := by omega
        have HE := Lib.hid (ch_fail (tp := tp) (mb := mb) (S := removeS T zx c) (k := 84) (by unfold removeS; rw [if_neg (by rw [HPO.out]; simp), if_neg (by rw [HK.out]; simp), if_pos (by rw [← HZP.out]; intro e; have := HKL.out; rw [e] at this; simp at this; omega)]) (by decide) HPL.out.below)
        clear hm0
        go_wp2_with fail
        go_ret3
        exact HE.out
    · have HE := Lib.hid (ch_fail (tp := tp) (mb := mb) (S := removeS T zx c) (k := k) (by unfold removeS; rw [if_neg (by rw [HPO.out]; simp), HK.out, if_pos hk0]) hk0 HPL.out.below)
      have hk1 : (k != 0) = true := by simpa using hk0
      clear hk0
      go_wp2_with fail
      go_ret3
      exact HE.out
end Go.Proofs.YtflgemlhocjipaaGreatDoor
namespace Go.Proofs.YtflgemlhocjipaaGreatDoor
set_option maxRecDepth 100000
open Go.ChangeShapes Go.WideShapes Go.ChangeAt Go.RowKit Go.Proofs.Zn Go.Proofs.Zt

def checkS (T : Tr) (c : Chg) : Stp := if askedE T c ≠ 0 then fails (askedE T c) else ⟨T, c.path, [], 0⟩
theorem ask_amiss {T : Tr} {c : Chg} (h : ¬ (c.kind = 2 ∧ c.path = [47])) : amissV T c = askedE T c := by
  unfold amissV askedE
  cases get T c.path with
  | none => rfl
  | some z => dsimp only; rw [if_neg h]
theorem asked_get {T : Tr} {c : Chg} (h : askedE T c = 0) : askedZ T c = (get T c.path).getD nd0 := by unfold askedZ; rw [if_pos h]
theorem one_eq {T : Tr} (hg : Zt.Good T) (zx se : Int) (c : Chg) : Zt.one T zx se c =
    if c.kind < 1 ∨ 4 < c.kind then fails 1 else
    if valid c.path = false then fails 70 else
    if c.kind = 1 then create T zx se c else
    if c.kind = 2 then removeS T zx c else
    if c.kind = 3 then setS T zx c else checkS T c := by
  unfold Zt.one
  by_cases h1 : c.kind < 1 ∨ 4 < c.kind
  · rw [if_pos h1, if_pos h1]
  rw [if_neg h1, if_neg h1]
  by_cases h2 : valid c.path = false
  · rw [if_pos h2, if_pos h2]
  rw [if_neg h2, if_neg h2]
  have hv : valid c.path = true := by simpa using h2
  by_cases h3 : c.kind = 1
  · rw [if_pos h3, if_pos h3]
  rw [if_neg h3, if_neg h3]
  by_cases h4 : c.kind = 2
  · have n3 : ¬ (c.kind = 3 ∧ 1024 < c.data.length) := fun h => by omega
    rw [if_neg n3, if_pos h4, if_pos h4]
    unfold removeS
    by_cases h5 : c.path = [47]
    · have hp : parentOk c.path = false := by rw [h5]; exact parentOk_root
      rw [if_pos hp]
      obtain ⟨r, hr, -⟩ := hg.root
      have : amissV T c = 1 := by
        unfold amissV
        rw [h5, hr]
        dsimp only
        rw [if_pos ⟨h4, rfl⟩]
      rw [this, if_pos (by decide)]
    · have hp := valid_parent hv h5
      rw [ask_amiss (fun h => h5 h.2)]
      have hn : ¬ parentOk c.path = false := by rw [hp]; simp
      simp only [if_neg hn]
  · have ha := ask_amiss (T := T) (c := c) (fun h => h4 h.1)
    rw [ha]
    simp only [if_neg h4]
    by_cases h6 : c.kind = 3
    · have n4 : ¬ c.kind = 4 := by omega
      simp only [if_pos h6, if_neg n4]
      unfold setS
      by_cases h7 : 1024 < c.data.length
      · rw [if_pos ⟨h6, h7⟩, if_pos h7]
      · rw [if_neg (fun h => h7 h.2), if_neg h7]
        by_cases h8 : askedE T c ≠ 0
        · rw [if_pos h8, if_pos h8]
        · rw [if_neg h8, if_neg h8, asked_get (by simpa using h8)]
    · have n4 : c.kind = 4 := by omega
      have n3 : ¬ (c.kind = 3 ∧ 1024 < c.data.length) := fun h => h6 h.1
      simp only [if_neg h6, if_pos n4, if_neg n3]
      unfold checkS
      rfl
theorem ch_below {tp mb : Nat} {S : Stp} {w w1 w' : World} {e : Ending} (hb : Below w.heap.size w w1) (h : ChPost tp mb S w1 e w') : ChPost tp mb S w e w' := by
  obtain ⟨v, h1, h2, h3⟩ := h
  exact ⟨v, h1, gb_trans (gb_below hb _) h2, fun e => ⟨(h3 e).1, own_base (h3 e).2 hb.size⟩⟩
theorem ch_res {tp mb : Nat} {S : Stp} {w w' : World} {e : Ending} (h : ChPost tp mb S w e w') : ∃ v, e = .returned (.tuple #[.string (B S.path), v, .int .i64 S.e]) ∧ ChPost tp mb S w (.returned (.tuple #[.string (B S.path), v, .int .i64 S.e])) w' := by
  obtain ⟨v, h1, h2⟩ := h
  exact ⟨v, h1, v, rfl, h2⟩
theorem check_end {w w' : World} {tp mb : Nat} {T : Tr} {c : Chg} (ht : TreeW w' tp mb T) (hb : Below w.heap.size w w') :
    ChPost tp mb (checkS T c) w (.returned (.tuple #[.string (B (askedZ T c).path), .slice none 0 0, .int .i64 (askedE T c)])) w' := by
  unfold checkS
  by_cases h : askedE T c ≠ 0
  · rw [if_pos h]
    have : askedZ T c = nd0 := by unfold askedZ; rw [if_neg h]
    rw [this]
    exact ⟨_, rfl, gb_below hb _, fun e => absurd e h⟩
  · rw [if_neg h]
    have h0 : askedE T c = 0 := by simpa using h
    rw [(get_some (asked_ok h0 rfl)).2, h0]
    exact ⟨_, rfl, gb_below hb _, fun _ => ⟨ht, ⟨rfl, .inl ⟨rfl, rfl⟩⟩⟩⟩
set_option maxHeartbeats 4000000 in
theorem change_any {w : World} {tp mb : Nat} {T : Tr} (h : TreeW w tp mb T) (hg : Zt.Good T) (zx se : Int) (c : Chg) (hp : c.path.length ≤ 140737488355328) :
    Calls Tryz.prog 79 #[.pointer (some ⟨tp, 0, none⟩), .int .i64 zx, .int .i64 se, .agg #[.int .i64 c.kind, .string (B c.path), .string (B c.data), .int .i64 c.ver, .bool c.eph, .bool c.sq]] w (ChPost tp mb (Zt.one T zx se c) w) := by
  obtain ⟨w1, hw1⟩ : ∃ w1, w1 = w.alloc (.cells #[.int .i64 c.kind, .string (B c.path), .string (B c.data), .int .i64 c.ver, .bool c.eph, .bool c.sq] 79) := ⟨_, rfl⟩
  obtain ⟨q, eq⟩ : ∃ q, q = w.heap.size := ⟨_, rfl⟩
  have hb1 : Below w.heap.size w w1 := by rw [hw1]; exact box_below w _
  have hq : w1.heap[q]? = some (.cells #[.int .i64 c.kind, .string (B c.path), .string (B c.data), .int .i64 c.ver, .bool c.eph, .bool c.sq] 79 (0, 0)) := by rw [hw1, eq]; exact new_block w _
  have HPL : Hid (Cq w q tp mb T c w1) := Lib.hid ⟨hb1, h.below hb1, hq⟩
  have HVA := Lib.hid (valid_any (B c.path) w1 (by rw [B_size]; omega))
  simp only [LB] at HVA
  have H1 := Lib.hid (one_eq hg zx se c)
  have HW1 := Lib.hid hw1
  have EQ := Lib.hid eq
  have HG := Lib.hid hg
  have HPN := Lib.hid hp
  have q0 := cell_of hq (j := 0) rfl
  have q1 := cell_of hq (j := 1) rfl
  have q2 := cell_of hq (j := 2) rfl
  have q3 := cell_of hq (j := 3) rfl
  have q4 := cell_of hq (j := 4) rfl
  have q5 := cell_of hq (j := 5) rfl
  clear h hg hw1 eq hb1 hq hp
  go_enter Tryz.func79, Tryz.ntmps79
  go_upto_region 1 with fail
  rw [← HW1.out, ← EQ.out]
  by_cases k1 : c.kind < 1
  · have HE := Lib.hid (ch_fail (tp := tp) (mb := mb) (S := Zt.one T zx se c) (k := 1) (by rw [H1.out, if_pos (.inl k1)]) (by decide) HPL.out.below)
    go_wp2_with fail
    go_ret3
    exact HE.out
  by_cases k4 : 4 < c.kind
  · have HE := Lib.hid (ch_fail (tp := tp) (mb := mb) (S := Zt.one T zx se c) (k := 1) (by rw [H1.out, if_pos (.inr k4)]) (by decide) HPL.out.below)
    go_wp2_with fail
    go_ret3
    exact HE.out
  rw [if_neg (by omega)] at H1
  obtain ⟨vb, hvb⟩ : ∃ b, valid c.path = b := ⟨_, rfl⟩
  rw [hvb] at HVA
  have HVB := Lib.hid hvb
  have K1 := Lib.hid k1
  have K4 := Lib.hid k4
  clear hvb
  go_wp2_with fail
  refine HVA.out.mono ?_
  rintro e w2 ⟨rfl, hb2⟩
  have HPL2 := Lib.hid (HPL.out.go hb2)
  clear HPL
  have HPL := HPL2
  have hq := HPL.out.bq
  clear HPL2 hb2 q0 q1 q2 q3 q4 q5
  have q0 := cell_of hq (j := 0) rfl
  have q1 := cell_of hq (j := 1) rfl
  have q2 := cell_of hq (j := 2) rfl
  have q3 := cell_of hq (j := 3) rfl
  have q4 := cell_of hq (j := 4) rfl
  have q5 := cell_of hq (j := 5) rfl
  clear hq
  cases vb with
  | false =>
    have HE := Lib.hid (ch_fail (tp := tp) (mb := mb) (S := Zt.one T zx se c) (k := 70) (by rw [H1.out, if_pos HVB.out]) (by decide) HPL.out.below)
    go_wp2_with fail
    go_ret3
    exact HE.out
  | true =>
    have H2 : Hid (Zt.one T zx se c = if c.kind = 1 then create T zx se c else if c.kind = 2 then removeS T zx c else if c.kind = 3 then setS T zx c else checkS T c) := Lib.hid (by rw [H1.out, if_neg (by rw [HVB.out]; simp)])
    clear H1
    by_cases c1 : c.kind = 1
    · have t1 : (c.kind == 1) = true := by simpa using c1
      have HC := Lib.hid (create_any HPL.out.tree HG.out zx se c HVB.out)
      have HS : Hid (Zt.one T zx se c = create T zx se c) := Lib.hid (by rw [H2.out, if_pos c1])
      clear c1
      clear k1 k4
      go_wp2_with fail
      refine HC.out.mono ?_
      intro e w3 hpost
      obtain ⟨v, rfl, hp2⟩ := ch_res (ch_below HPL.out.below hpost)
      rw [← HS.out] at hp2 ⊢
      have HE := Lib.hid hp2
      clear hpost hp2
      go_wp2_with fail
      go_ret3
      exact HE.out
    have t1 : (c.kind == 1) = false := by simpa using c1
    by_cases c2 : c.kind = 2
    · have t2 : (c.kind == 2) = true := by simpa using c2
      have HC := Lib.hid (remove_any HPL.out.tree HG.out zx c HVB.out)
      have HS : Hid (Zt.one T zx se c = removeS T zx c) := Lib.hid (by rw [H2.out, if_neg c1, if_pos c2])
      clear c1 c2
      clear k1 k4
      go_wp2_with fail
      refine HC.out.mono ?_
      intro e w3 hpost
      obtain ⟨v, rfl, hp2⟩ := ch_res (ch_below HPL.out.below hpost)
      rw [← HS.out] at hp2 ⊢
      have HE := Lib.hid hp2
      clear hpost hp2
      go_wp2_with fail
      go_ret3
      exact HE.out
    have t2 : (c.kind == 2) = false := by simpa using c2
    by_cases c3 : c.kind = 3
    · have t3 : (c.kind == 3) = true := by simpa using c3
      have HC := Lib.hid (set_any HPL.out.tree HG.out zx c HVB.out)
      have HS : Hid (Zt.one T zx se c = setS T zx c) := Lib.hid (by rw [H2.out, if_neg c1, if_neg c2, if_pos c3])
      clear c1 c2 c3
      clear k1 k4
      go_wp2_with fail
      refine HC.out.mono ?_
      intro e w3 hpost
      obtain ⟨v, rfl, hp2⟩ := ch_res (ch_below HPL.out.below hpost)
      rw [← HS.out] at hp2 ⊢
      have HE := Lib.hid hp2
      clear hpost hp2
      go_wp2_with fail
      go_ret3
      exact HE.out
    have t3 : (c.kind == 3) = false := by simpa using c3
    have HC := Lib.hid (asked_any HPL.out.tree c (by have := HPN.out; unfold maxLen; omega))
    have HS : Hid (Zt.one T zx se c = checkS T c) := Lib.hid (by rw [H2.out, if_neg c1, if_neg c2, if_neg c3])
    obtain ⟨z, hz⟩ : ∃ z, askedZ T c = z := ⟨_, rfl⟩
    obtain ⟨m, hm⟩ : ∃ m, askedE T c = m := ⟨_, rfl⟩
    rw [hz, hm] at HC
    unfold ndv at HC
    have HZ := Lib.hid hz
    have HM := Lib.hid hm
    clear k1 k4 c1 c2 c3 hz hm
    go_wp2_with fail
    refine HC.out.mono ?_
    rintro e w3 ⟨rfl, hb3⟩
    have HPL3 := Lib.hid (HPL.out.go hb3)
    have hE := check_end (c := c) (HPL3.out.tree.below (box_below w3 (.cells #[.string (B z.path), .string (B z.data), .int .i64 z.cr, .int .i64 z.ch, .int .i64 z.kd, .int .i64 z.ver, .int .i64 z.ks, .int .i64 z.own, .int .i64 z.nx] 132))) (HPL3.out.below.trans ((box_below w3 (.cells #[.string (B z.path), .string (B z.data), .int .i64 z.cr, .int .i64 z.ch, .int .i64 z.kd, .int .i64 z.ver, .int .i64 z.ks, .int .i64 z.own, .int .i64 z.nx] 132)).mono HPL3.out.below.size))
    rw [HZ.out, HM.out] at hE
    rw [← HS.out] at hE
    have HE := Lib.hid hE
    clear hb3 hE
    go_wp2_with fail
    go_ret3
    exact HE.out
end Go.Proofs.YtflgemlhocjipaaGreatDoor
namespace Go.Proofs.YtflgemlhocjipaaGreatDoor
set_option maxRecDepth 100000
open Go.ChangeShapes Go.WideShapes Go.ChangeAt Go.RowKit Go.Proofs.Zn Go.Proofs.Zt

def ClPost (T : Tr) (w : World) (e : Ending) (w' : World) : Prop := ∃ up mb, e = .returned (.pointer (some ⟨up, 0, none⟩)) ∧ TreeW w' up mb T ∧ Below w.heap.size w w' ∧ w.heap.size ≤ up ∧ w.heap.size ≤ mb
theorem cl_end {w w2 : World} {T : Tr} {mb : Nat} (hm : MapT w2 mb T) (hb : Below w.heap.size w w2) (h : w.heap.size ≤ mb) : ClPost T w (.returned (.pointer (some ⟨w2.heap.size, 0, none⟩))) (w2.alloc (.cells #[.map (some mb)] 155)) :=
  ⟨_, mb, rfl, ⟨new_block w2 _, hm.below (box_below w2 _)⟩, hb.trans ((box_below w2 _).mono hb.size), hb.size, h⟩
theorem clone_tree {w : World} {tp mb : Nat} {T : Tr} (h : TreeW w tp mb T) : Calls Tryz.prog 75 #[.pointer (some ⟨tp, 0, none⟩)] w (ClPost T w) := by
  have hc := AnyW.maps_Clone_owns cloneM 9 ndR mb T.length (Dm T) w h.map
  change Calls Tryz.prog 117 _ _ _ at hc
  have HC := Lib.hid hc
  have d0 := cell_of h.here (j := 0) rfl
  clear h hc
  go_enter Tryz.func75, Tryz.ntmps75
  go_wp2_with fail
  refine HC.out.mono ?_
  rintro e w2 ⟨rfl, h1, h2, hb⟩
  have HE := Lib.hid (cl_end (mb := w.heap.size) h1 hb (Nat.le_refl _))
  clear h1 h2 hb
  go_wp2_with fail
  go_ret
  exact HE.out

def ChOk (c : Chg) : Prop := c.path.length ≤ 140737488355328
def DoPost (tp : Nat) (a : Ans) (w : World) (e : Ending) (w' : World) : Prop :=
  ∃ v1 v2 mb', e = .returned (.tuple #[v1, v2, .int .i64 a.e]) ∧ TreeW w' tp mb' a.T ∧ w.grownBy w' (some tp) ∧ w'.ownsRow w.heap.size 9 1 v1 a.ps.length (scells a.ps) ∧ w'.ownsRow w.heap.size 165 3 v2 a.es.length (ecells a.es)
theorem do_fail {w w' : World} {tp mb : Nat} {T : Tr} {k : Int} (h : TreeW w tp mb T) (hb : Below w.heap.size w w') : DoPost tp ⟨T, [], [], k⟩ w (.returned (.tuple #[.slice none 0 0, .slice none 0 0, .int .i64 k])) w' :=
  ⟨_, _, mb, rfl, h.below hb, gb_below hb _, ⟨rfl, .inl ⟨rfl, rfl⟩⟩, ⟨rfl, .inl ⟨rfl, rfl⟩⟩⟩
theorem do_end {w wr : World} {tp mb up mb1 : Nat} {T now : Tr} {ps : List Txt} {es : List Evt} {v1 v2 : Value} (h : TreeW w tp mb T) (ht : TreeW wr up mb1 now) (hb : Below w.heap.size w wr)
    (h1 : wr.ownsRow w.heap.size 9 1 v1 ps.length (scells ps)) (h2 : wr.ownsRow w.heap.size 165 3 v2 es.length (ecells es)) : DoPost tp ⟨now, ps, es, 0⟩ w (.returned (.tuple #[v1, v2, .int .i64 0])) (wr.setCell ⟨tp, 0, none⟩ (.map (some mb1))) := by
  have hh := (h.below hb).here
  have h3 := heap_setCell_same wr tp 0 _ 155 (.map (some mb1)) hh
  have hwr : Wr tp wr (wr.setCell ⟨tp, 0, none⟩ (.map (some mb1))) := (Wr.refl tp wr).set 0 _
  have hlt := h.lt
  have hne : ∀ {base e sz n : Nat} {v : Value} {xs : List Value}, wr.ownsRow w.heap.size e sz v n xs → v.ownBlock ≠ some tp := fun ho e => by have := own_ge ho _ e; omega
  refine ⟨v1, v2, mb1, rfl, ⟨h3, ht.map.of_block (hwr.rest mb1 (Ne.symm (ht.map.ne_cells hh)))⟩, gb_trans (gb_below hb _) hwr.gb, own_gb h1 hwr.gb ?_, own_gb h2 hwr.gb ?_⟩
  · exact fun e => by have := own_ge h1 _ e; omega
  · exact fun e => by have := own_ge h2 _ e; omega
theorem one_evs (T : Tr) (zx se : Int) (c : Chg) : (Zt.one T zx se c).evs.length ≤ 2 := by
  unfold Zt.one create remove kidS fails
  repeat' split
  all_goals simp
theorem doGo_at {T0 : Tr} {zx se : Int} {now : Tr} {ps : List Txt} {es : List Evt} {l : List Chg} {k : Nat} {c : Chg} (hc : l[k]? = some c) : doGo T0 zx se now ps es (l.drop k) =
    if (Zt.one now zx se c).e ≠ 0 then ⟨T0, [], [], (Zt.one now zx se c).e⟩ else doGo T0 zx se (Zt.one now zx se c).T (ps ++ [(Zt.one now zx se c).path]) (es ++ (Zt.one now zx se c).evs) (l.drop (k + 1)) := by
  obtain ⟨hk, rfl⟩ := List.getElem?_eq_some_iff.1 hc
  rw [List.drop_eq_getElem_cons hk, doGo]
set_option maxHeartbeats 4000000 in
theorem do_any {w : World} {tp mb : Nat} {T : Tr} (h : TreeW w tp mb T) (hg : Zt.Good T) (zx se : Int) {A : Option Addr} {n cp : Nat} {l : List Chg} (hr : Rd ccell 6 w A n l) (hl : n ≤ 1000000) (hp : ∀ c ∈ l, ChOk c) :
    Calls Tryz.prog 34 #[.pointer (some ⟨tp, 0, none⟩), .int .i64 zx, .int .i64 se, .slice A n cp] w (DoPost tp (doL T zx se l) w) := by
  obtain ⟨i0, hi, hz0, hz1, hz2⟩ := info_parts infoS
  obtain ⟨i1, hi1, hy0, hy1, hy2⟩ := info_parts infoE
  obtain ⟨w1, hw1⟩ : ∃ w1, w1 = w.alloc (.cells #[.int .i64 zx, .int .i64 se] 3) := ⟨_, rfl⟩
  have hb1 : Below w.heap.size w w1 := by rw [hw1]; exact box_below w _
  have hq : w1.heap[w.heap.size]? = some (.cells #[.int .i64 zx, .int .i64 se] 3 (0, 0)) := by rw [hw1]; exact new_block w _
  have HF := Lib.hid (fit_any (w := w1) (A := some ⟨w.heap.size, 0, none⟩) (n := 2) (c := 2) (xs := [zx, se]) ⟨rfl, by omega, fun _ => ⟨_, rfl, fun j hj => by
    match j, hj with
    | 0, _ => exact cell_of hq (j := 0) rfl
    | 1, _ => exact cell_of hq (j := 1) rfl⟩⟩)
  have HT1 := Lib.hid (h.below hb1)
  have HT := Lib.hid h
  have HG := Lib.hid hg
  have HR := Lib.hid hr
  have HP := Lib.hid hp
  have HL := Lib.hid hl
  have HB1 := Lib.hid hb1
  have HW1 := Lib.hid hw1
  obtain ⟨a, ha⟩ : ∃ a, doL T zx se l = a := ⟨_, rfl⟩
  rw [ha]
  have HA := Lib.hid ha
  clear ha
  obtain ⟨b, hb⟩ : ∃ b, [zx, se].all inr = b := ⟨_, rfl⟩
  rw [hb] at HF
  have HBB := Lib.hid hb
  clear h hg hr hp hl hb1 hq hw1 hb
  go_enter Tryz.func34, Tryz.ntmps34
  go_wp2_with fail
  rw [← HW1.out]
  refine HF.out.mono ?_
  rintro e w1' ⟨rfl, rfl⟩
  cases b with
  | false =>
    have HD : Hid (a = ⟨T, [], [], 1⟩) := Lib.hid (by
      rw [← HA.out]
      unfold doL
      rw [if_pos]
      have := HBB.out
      simp only [List.all_cons, List.all_nil, Bool.and_true, Bool.and_eq_false_iff] at this
      exact this)
    have HE : Hid (DoPost tp a w (.returned (.tuple #[.slice none 0 0, .slice none 0 0, .int .i64 1])) w1) := Lib.hid (by rw [HD.out]; exact do_fail HT.out HB1.out)
    go_wp2_with fail
    go_ret3
    exact HE.out
  | true =>
    have hin : inr zx = true ∧ inr se = true := by
      have := HBB.out
      simpa using this
    have HIN := Lib.hid hin
    have HD : Hid (a = doGo T zx se T [] [] (l.drop 0)) := Lib.hid (by
      rw [← HA.out]
      unfold doL
      rw [if_neg (by rw [hin.1, hin.2]; simp), List.drop_zero])
    have HC := Lib.hid (clone_tree HT1.out)
    clear hin
    go_wp2_with fail
    refine HC.out.mono ?_
    rintro e w2 ⟨up, mb1, rfl, ht2, hb2, hu2, hm2⟩
    have HT2 := Lib.hid ht2
    have HB2 := Lib.hid (HB1.out.trans (hb2.mono HB1.out.size))
    have HU2 : Hid (w.heap.size ≤ up) := Lib.hid (by have := HB1.out.size; omega)
    have HM2 : Hid (w.heap.size ≤ mb1) := Lib.hid (by have := HB1.out.size; omega)
    clear ht2 hb2 hu2 hm2
    go_wp2_with fail
    go_loopw [12, 13, 28] (fun p v i wr => ∃ (k : Nat) (now : Tr) (ps : List Txt) (es : List Evt), k ≤ n ∧ i = .int .i64 k ∧ Hid (TreeW wr up mb1 now) ∧ Hid (Zt.Good now) ∧ Hid (wr.ownsRow w.heap.size 9 1 p ps.length (scells ps)) ∧ Hid (wr.ownsRow w.heap.size 165 3 v es.length (ecells es)) ∧
        Hid (a = doGo T zx se now ps es (l.drop k)) ∧ Hid (Below w.heap.size w wr) ∧ Hid (ps.length = k ∧ es.length ≤ 2 * k)) (fun _ _ i _ => n - (intOf i).toNat)
    case atStart => exact ⟨0, T, [], [], Nat.zero_le _, rfl, HT2, HG, Lib.hid ⟨rfl, .inl ⟨rfl, rfl⟩⟩, Lib.hid ⟨rfl, .inl ⟨rfl, rfl⟩⟩, HD, HB2, Lib.hid ⟨rfl, by simp⟩⟩
    case round =>
      obtain ⟨k, now, ps, es, hk, rfl, HTN, HGN, HO1, HO2, HDN, HBN, HLN⟩ := hrel
      by_cases hlt : k < n
      · obtain ⟨bb, off, c, rfl, hc, hcell⟩ := (HR.out.below HBN.out).at hlt
        have HCK := Lib.hid hc
        have HPC := Lib.hid (HP.out c (List.mem_of_getElem? hc))
        have c0 : wr.cell? ⟨bb, off + k * 6, none⟩ = some (.int .i64 c.kind) := hcell 0 _ rfl
        have c1 : wr.cell? ⟨bb, off + k * 6 + 1, none⟩ = some (.string (B c.path)) := hcell 1 _ rfl
        have c2 : wr.cell? ⟨bb, off + k * 6 + 2, none⟩ = some (.string (B c.data)) := hcell 2 _ rfl
        have c3 : wr.cell? ⟨bb, off + k * 6 + 3, none⟩ = some (.int .i64 c.ver) := hcell 3 _ rfl
        have c4 : wr.cell? ⟨bb, off + k * 6 + 4, none⟩ = some (.bool c.eph) := hcell 4 _ rfl
        have c5 : wr.cell? ⟨bb, off + k * 6 + 5, none⟩ = some (.bool c.sq) := hcell 5 _ rfl
        obtain ⟨w3, hw3⟩ : ∃ w3, w3 = wr.alloc (.cells #[.int .i64 c.kind, .string (B c.path), .string (B c.data), .int .i64 c.ver, .bool c.eph, .bool c.sq] 79) := ⟨_, rfl⟩
        obtain ⟨q, eq⟩ : ∃ q, q = wr.heap.size := ⟨_, rfl⟩
        have hb3 : Below wr.heap.size wr w3 := by rw [hw3]; exact box_below wr _
        have hq3 : w3.heap[q]? = some (.cells #[.int .i64 c.kind, .string (B c.path), .string (B c.data), .int .i64 c.ver, .bool c.eph, .bool c.sq] 79 (0, 0)) := by rw [hw3, eq]; exact new_block wr _
        have HB3 := Lib.hid (HBN.out.trans (hb3.mono HBN.out.size))
        have HO13 := Lib.hid (own_below HO1.out hb3)
        have HO23 := Lib.hid (own_below HO2.out hb3)
        have HT3 := Lib.hid (HTN.out.below hb3)
        have HCH := Lib.hid (change_any HT3.out HGN.out zx se c HPC.out)
        have HW3 := Lib.hid hw3
        have EQ := Lib.hid eq
        have q0 := cell_of hq3 (j := 0) rfl
        have q1 := cell_of hq3 (j := 1) rfl
        have q2 := cell_of hq3 (j := 2) rfl
        have q3 := cell_of hq3 (j := 3) rfl
        have q4 := cell_of hq3 (j := 4) rfl
        have q5 := cell_of hq3 (j := 5) rfl
        clear hc hcell hw3 eq hb3 hq3
        go_upto_region 9 with fail
        rw [← HW3.out, ← EQ.out]
        clear c0 c1 c2 c3 c4 c5
        go_wp2_with fail
        refine HCH.out.mono ?_
        rintro e w4 ⟨v, rfl, hg4, h4⟩
        obtain ⟨S, hS⟩ : ∃ S, Zt.one now zx se c = S := ⟨_, rfl⟩
        have HS := Lib.hid hS
        rw [hS] at h4 ⊢
        have HG4 := Lib.hid hg4
        have H4 := Lib.hid h4
        have HB4 := Lib.hid (HB3.out.trans (gb_to hg4 HM2.out HB3.out.size))
        clear hS hg4 h4 q0 q1 q2 q3 q4 q5
        by_cases hE : S.e = 0
        · obtain ⟨ht4, hv4⟩ := H4.out hE
          have hE' : (S.e != 0) = false := by simpa using hE
          have HEV : Hid (S.evs.length ≤ 2) := Lib.hid (by rw [← HS.out]; exact one_evs now zx se c)
          have HGS : Hid (Zt.Good S.T) := Lib.hid (by have := one_good HGN.out HIN.out.1 HIN.out.2 (c := c) (by rw [HS.out]; exact hE); rw [HS.out] at this; exact this)
          have HDD : Hid (a = doGo T zx se S.T (ps ++ [S.path]) (es ++ S.evs) (l.drop (k + 1))) := Lib.hid (by rw [HDN.out, doGo_at HCK.out, HS.out, if_neg (by rw [hE]; simp)])
          obtain ⟨AV, cv, rfl, -, -, hAV⟩ := own_form hv4
          have hrv := Rd.of_own (cell := ecell) (l := S.evs) hv4 (fun _ _ => rfl) (by omega)
          have hcv : AV = none → cv = 0 := fun e => by
            rcases hv4.2 with ⟨e1, _⟩ | ⟨g, cap, cur, e1, _⟩
            · injection e1
            · injection e1 with e1 _ _; rw [e] at e1; cases e1
          have ho14 := own_gb HO13.out HG4.out (own_ne_map HO13.out HT3.out.map)
          have ho24 := own_gb HO23.out HG4.out (own_ne_map HO23.out HT3.out.map)
          have hl47 := HLN.out
          have hnl := HL.out
          have hsz4 := HB4.out.size
          have HT4 := Lib.hid ht4
          have HRV := Lib.hid hrv
          have HV4 := Lib.hid hv4
          have HO24 := Lib.hid ho24
          have HO14 := Lib.hid ho14
          clear hE ht4 hrv hv4 hAV
          go_upto_region 13 with (at_builtin; refine wpList_append_own _ rfl _ _ 40 rfl w.heap.size 9 i0 (.string ⟨#[]⟩) 1 16 Tryz.underlying40 hi hz0 hz1 hz2 rfl (by decide) _ _ _ rfl (ho14.alloc _) ⟨w4.heap.size, 0, none⟩ 1 1 (scell S.path) rfl rfl (cell_one_new _ _ _) (by intro u hu; simp only [scell, List.mem_cons, List.not_mem_nil, or_false] at hu; subst hu; rfl) (by unfold maxLen at *; omega) (by omega) (by simp; omega) ?_; intro v' w5 hown' hg5 hnil5)
          have hB5 := (HB4.out.alloc hsz4 _).grown hg5 (by simp; omega) (fun j hj => (HO14.out.lt j hj).1)
          have hA4 := box_below w4 (.cells #[.string (B S.path)] 9)
          have HT5 := Lib.hid ((HT4.out.below hA4).gbo (own_below HO14.out hA4) hg5 (by decide))
          have ho25 := own_gb' (own_below HO24.out hA4) hg5 (own_apart (own_below HO24.out hA4) (own_below HO14.out hA4) (by decide))
          have hv5 := own_gb' (own_below HV4.out hA4) hg5 (own_apart (own_below HV4.out hA4) (own_below HO14.out hA4) (by decide))
          have hrv5 := Rd.of_own (cell := ecell) (l := S.evs) hv5 (fun _ _ => rfl) (by omega)
          have HB5 := Lib.hid hB5
          have HO15 := Lib.hid hown'
          have HO25 := Lib.hid ho25
          have hsz5 := hB5.size
          clear hown' hg5 hnil5 hA4 hv5 hB5 ho14 ho24 hsz4
          go_wp2_with (at_builtin; refine wpList_append_rd rfl _ _ 43 rfl w.heap.size 165 i1 _ 3 32 Tryz.underlying43 hi1 hy0 hy1 hy2 rfl (by decide) _ _ _ rfl ho25 AV _ cv S.evs rfl hrv5 (fun _ _ => rfl) ecell_one hcv (by unfold maxLen; have := HEV.out; omega) (by have := HEV.out; omega) (by omega) ?_; intro v6 w6 hown6 hg6)
          have HT6 := Lib.hid (HT5.out.gbo ho25 hg6 (by decide))
          have HO16 := Lib.hid (own_gb' HO15.out hg6 (own_apart HO15.out ho25 (by decide)))
          have HB6 := Lib.hid (HB5.out.trans (gb_own ho25 hg6 (Nat.le_refl _) hsz5))
          have HO26 := Lib.hid hown6
          clear ho25 hrv5 hown6 hg6
          go_roundw
          case rel =>
            refine ⟨k + 1, S.T, ps ++ [S.path], es ++ S.evs, hlt, by go_num, HT6, HGS, Lib.hid ?_, Lib.hid ?_, HDD, HB6, Lib.hid ⟨by rw [List.length_append, HLN.out.1]; rfl, by rw [List.length_append]; have := HLN.out; have := HEV.out; omega⟩⟩
            · rw [List.length_append, scells_append]; exact HO16.out
            · rw [List.length_append, ecells_append]; exact HO26.out
          case measure => simp [intOf]; omega
        · have hE' : (S.e != 0) = true := by simpa using hE
          have HDD : Hid (a = ⟨T, [], [], S.e⟩) := Lib.hid (by rw [HDN.out, doGo_at HCK.out, HS.out, if_pos hE])
          have HE : Hid (DoPost tp a w (.returned (.tuple #[.slice none 0 0, .slice none 0 0, .int .i64 S.e])) w4) := Lib.hid (by rw [HDD.out]; exact do_fail HT.out HB4.out)
          clear hE
          go_wp2_with fail
          go_ret3
          exact HE.out
      · have hkn : k = n := by omega
        have HDD : Hid (a = ⟨now, ps, es, 0⟩) := Lib.hid (by rw [HDN.out, hkn, List.drop_of_length_le (by rw [HR.out.len]; exact Nat.le_refl _)]; rfl)
        have HE : Hid (DoPost tp a w (.returned (.tuple #[u12, u13, .int .i64 0])) (wr.setCell ⟨tp, 0, none⟩ (.map (some mb1)))) := Lib.hid (by rw [HDD.out]; exact do_end HT.out HTN.out HBN.out HO1.out HO2.out)
        have htr := (HT.out.below HBN.out).here
        have htn := HTN.out.here
        have t0 := cell_of htr (j := 0) rfl
        have tf := frozen_of_row wr tp 0 _ _ htr
        have d0 := cell_of htn (j := 0) rfl
        clear htr htn hkn
        go_wp2_with fail
        go_ret3
        exact HE.out
end Go.Proofs.YtflgemlhocjipaaGreatDoor
