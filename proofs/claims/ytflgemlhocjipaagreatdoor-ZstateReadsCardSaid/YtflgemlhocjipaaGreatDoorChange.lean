/-
  What change returns and leaves. Conditions: the tree is good; the path's length.
-/
import Derived.Test.YtflgemlhocjipaaGreatDoorRemove
namespace Go.Proofs.YtflgemlhocjipaaGreatDoor
set_option maxRecDepth 100000
open Go.ChangeShapes Go.WideShapes Go.ChangeAt Go.RowKit Go.Proofs.Zn Go.Proofs.Zt

def checkS (T : Tr) (c : Chg) : Stp := if askedE T c ≠ 0 then fails (askedE T c) else ⟨T, c.path, [], 0⟩
theorem ask_amiss {T : Tr} {c : Chg} (h : ¬ (c.kind = 2 ∧ c.path = [47])) : amissV T c = askedE T c := by
  unfold amissV askedE
  cases get T c.path with
  | none => rfl
  | some z => dsimp only; rw [if_neg h]
theorem asked_get {T : Tr} {c : Chg} (h : askedE T c = 0) : askedZ T c = (get T c.path).getD nd0 := by unfold askedZ; rw [if_pos h]
theorem one_eq {T : Tr} (hg : Zt.Good T) (zx se : Int) (c : Chg) : Zt.one T zx se c =
    if c.kind < 1 ∨ 4 < c.kind then fails 1 else
    if valid c.path = false then fails 70 else
    if c.kind = 1 then create T zx se c else
    if c.kind = 2 then removeS T zx c else
    if c.kind = 3 then setS T zx c else checkS T c := by
  unfold Zt.one
  by_cases h1 : c.kind < 1 ∨ 4 < c.kind
  · rw [if_pos h1, if_pos h1]
  rw [if_neg h1, if_neg h1]
  by_cases h2 : valid c.path = false
  · rw [if_pos h2, if_pos h2]
  rw [if_neg h2, if_neg h2]
  have hv : valid c.path = true := by simpa using h2
  by_cases h3 : c.kind = 1
  · rw [if_pos h3, if_pos h3]
  rw [if_neg h3, if_neg h3]
  by_cases h4 : c.kind = 2
  · have n3 : ¬ (c.kind = 3 ∧ 1024 < c.data.length) := fun h => by omega
    rw [if_neg n3, if_pos h4, if_pos h4]
    unfold removeS
    by_cases h5 : c.path = [47]
    · have hp : parentOk c.path = false := by rw [h5]; exact parentOk_root
      rw [if_pos hp]
      obtain ⟨r, hr, -⟩ := hg.root
      have : amissV T c = 1 := by
        unfold amissV
        rw [h5, hr]
        dsimp only
        rw [if_pos ⟨h4, rfl⟩]
      rw [this, if_pos (by decide)]
    · have hp := valid_parent hv h5
      rw [ask_amiss (fun h => h5 h.2)]
      have hn : ¬ parentOk c.path = false := by rw [hp]; simp
      simp only [if_neg hn]
  · have ha := ask_amiss (T := T) (c := c) (fun h => h4 h.1)
    rw [ha]
    simp only [if_neg h4]
    by_cases h6 : c.kind = 3
    · have n4 : ¬ c.kind = 4 := by omega
      simp only [if_pos h6, if_neg n4]
      unfold setS
      by_cases h7 : 1024 < c.data.length
      · rw [if_pos ⟨h6, h7⟩, if_pos h7]
      · rw [if_neg (fun h => h7 h.2), if_neg h7]
        by_cases h8 : askedE T c ≠ 0
        · rw [if_pos h8, if_pos h8]
        · rw [if_neg h8, if_neg h8, asked_get (by simpa using h8)]
    · have n4 : c.kind = 4 := by omega
      have n3 : ¬ (c.kind = 3 ∧ 1024 < c.data.length) := fun h => h6 h.1
      simp only [if_neg h6, if_pos n4, if_neg n3]
      unfold checkS
      rfl
theorem ch_below {tp mb : Nat} {S : Stp} {w w1 w' : World} {e : Ending} (hb : Below w.heap.size w w1) (h : ChPost tp mb S w1 e w') : ChPost tp mb S w e w' := by
  obtain ⟨v, h1, h2, h3⟩ := h
  exact ⟨v, h1, gb_trans (gb_below hb _) h2, fun e => ⟨(h3 e).1, own_base (h3 e).2 hb.size⟩⟩
theorem ch_res {tp mb : Nat} {S : Stp} {w w' : World} {e : Ending} (h : ChPost tp mb S w e w') : ∃ v, e = .returned (.tuple #[.string (B S.path), v, .int .i64 S.e]) ∧ ChPost tp mb S w (.returned (.tuple #[.string (B S.path), v, .int .i64 S.e])) w' := by
  obtain ⟨v, h1, h2⟩ := h
  exact ⟨v, h1, v, rfl, h2⟩
theorem check_end {w w' : World} {tp mb : Nat} {T : Tr} {c : Chg} (ht : TreeW w' tp mb T) (hb : Below w.heap.size w w') :
    ChPost tp mb (checkS T c) w (.returned (.tuple #[.string (B (askedZ T c).path), .slice none 0 0, .int .i64 (askedE T c)])) w' := by
  unfold checkS
  by_cases h : askedE T c ≠ 0
  · rw [if_pos h]
    have : askedZ T c = nd0 := by unfold askedZ; rw [if_neg h]
    rw [this]
    exact ⟨_, rfl, gb_below hb _, fun e => absurd e h⟩
  · rw [if_neg h]
    have h0 : askedE T c = 0 := by simpa using h
    rw [(get_some (asked_ok h0 rfl)).2, h0]
    exact ⟨_, rfl, gb_below hb _, fun _ => ⟨ht, ⟨rfl, .inl ⟨rfl, rfl⟩⟩⟩⟩
set_option maxHeartbeats 4000000 in
theorem change_any {w : World} {tp mb : Nat} {T : Tr} (h : TreeW w tp mb T) (hg : Zt.Good T) (zx se : Int) (c : Chg) (hp : c.path.length ≤ 140737488355328) :
    Calls Tryz.prog 79 #[.pointer (some ⟨tp, 0, none⟩), .int .i64 zx, .int .i64 se, .agg #[.int .i64 c.kind, .string (B c.path), .string (B c.data), .int .i64 c.ver, .bool c.eph, .bool c.sq]] w (ChPost tp mb (Zt.one T zx se c) w) := by
  obtain ⟨w1, hw1⟩ : ∃ w1, w1 = w.alloc (.cells #[.int .i64 c.kind, .string (B c.path), .string (B c.data), .int .i64 c.ver, .bool c.eph, .bool c.sq] 79) := ⟨_, rfl⟩
  obtain ⟨q, eq⟩ : ∃ q, q = w.heap.size := ⟨_, rfl⟩
  have hb1 : Below w.heap.size w w1 := by rw [hw1]; exact box_below w _
  have hq : w1.heap[q]? = some (.cells #[.int .i64 c.kind, .string (B c.path), .string (B c.data), .int .i64 c.ver, .bool c.eph, .bool c.sq] 79 (0, 0)) := by rw [hw1, eq]; exact new_block w _
  have HPL : Hid (Cq w q tp mb T c w1) := Lib.hid ⟨hb1, h.below hb1, hq⟩
  have HVA := Lib.hid (valid_any (B c.path) w1 (by rw [B_size]; omega))
  simp only [LB] at HVA
  have H1 := Lib.hid (one_eq hg zx se c)
  have HW1 := Lib.hid hw1
  have EQ := Lib.hid eq
  have HG := Lib.hid hg
  have HPN := Lib.hid hp
  have q0 := cell_of hq (j := 0) rfl
  have q1 := cell_of hq (j := 1) rfl
  have q2 := cell_of hq (j := 2) rfl
  have q3 := cell_of hq (j := 3) rfl
  have q4 := cell_of hq (j := 4) rfl
  have q5 := cell_of hq (j := 5) rfl
  clear h hg hw1 eq hb1 hq hp
  go_enter Tryz.func79, Tryz.ntmps79
  go_upto_region 1 with fail
  rw [← HW1.out, ← EQ.out]
  by_cases k1 : c.kind < 1
  · have HE := Lib.hid (ch_fail (tp := tp) (mb := mb) (S := Zt.one T zx se c) (k := 1) (by rw [H1.out, if_pos (.inl k1)]) (by decide) HPL.out.below)
    go_wp2_with fail
    go_ret3
    exact HE.out
  by_cases k4 : 4 < c.kind
  · have HE := Lib.hid (ch_fail (tp := tp) (mb := mb) (S := Zt.one T zx se c) (k := 1) (by rw [H1.out, if_pos (.inr k4)]) (by decide) HPL.out.below)
    go_wp2_with fail
    go_ret3
    exact HE.out
  rw [if_neg (by omega)] at H1
  obtain ⟨vb, hvb⟩ : ∃ b, valid c.path = b := ⟨_, rfl⟩
  rw [hvb] at HVA
  have HVB := Lib.hid hvb
  have K1 := Lib.hid k1
  have K4 := Lib.hid k4
  clear hvb
  go_wp2_with fail
  refine HVA.out.mono ?_
  rintro e w2 ⟨rfl, hb2⟩
  have HPL2 := Lib.hid (HPL.out.go hb2)
  clear HPL
  have HPL := HPL2
  have hq := HPL.out.bq
  clear HPL2 hb2 q0 q1 q2 q3 q4 q5
  have q0 := cell_of hq (j := 0) rfl
  have q1 := cell_of hq (j := 1) rfl
  have q2 := cell_of hq (j := 2) rfl
  have q3 := cell_of hq (j := 3) rfl
  have q4 := cell_of hq (j := 4) rfl
  have q5 := cell_of hq (j := 5) rfl
  clear hq
  cases vb with
  | false =>
    have HE := Lib.hid (ch_fail (tp := tp) (mb := mb) (S := Zt.one T zx se c) (k := 70) (by rw [H1.out, if_pos HVB.out]) (by decide) HPL.out.below)
    go_wp2_with fail
    go_ret3
    exact HE.out
  | true =>
    have H2 : Hid (Zt.one T zx se c = if c.kind = 1 then create T zx se c else if c.kind = 2 then removeS T zx c else if c.kind = 3 then setS T zx c else checkS T c) := Lib.hid (by rw [H1.out, if_neg (by rw [HVB.out]; simp)])
    clear H1
    by_cases c1 : c.kind = 1
    · have t1 : (c.kind == 1) = true := by simpa using c1
      have HC := Lib.hid (create_any HPL.out.tree HG.out zx se c HVB.out)
      have HS : Hid (Zt.one T zx se c = create T zx se c) := Lib.hid (by rw [H2.out, if_pos c1])
      clear c1
      clear k1 k4
      go_wp2_with fail
      refine HC.out.mono ?_
      intro e w3 hpost
      obtain ⟨v, rfl, hp2⟩ := ch_res (ch_below HPL.out.below hpost)
      rw [← HS.out] at hp2 ⊢
      have HE := Lib.hid hp2
      clear hpost hp2
      go_wp2_with fail
      go_ret3
      exact HE.out
    have t1 : (c.kind == 1) = false := by simpa using c1
    by_cases c2 : c.kind = 2
    · have t2 : (c.kind == 2) = true := by simpa using c2
      have HC := Lib.hid (remove_any HPL.out.tree HG.out zx c HVB.out)
      have HS : Hid (Zt.one T zx se c = removeS T zx c) := Lib.hid (by rw [H2.out, if_neg c1, if_pos c2])
      clear c1 c2
      clear k1 k4
      go_wp2_with fail
      refine HC.out.mono ?_
      intro e w3 hpost
      obtain ⟨v, rfl, hp2⟩ := ch_res (ch_below HPL.out.below hpost)
      rw [← HS.out] at hp2 ⊢
      have HE := Lib.hid hp2
      clear hpost hp2
      go_wp2_with fail
      go_ret3
      exact HE.out
    have t2 : (c.kind == 2) = false := by simpa using c2
    by_cases c3 : c.kind = 3
    · have t3 : (c.kind == 3) = true := by simpa using c3
      have HC := Lib.hid (set_any HPL.out.tree HG.out zx c HVB.out)
      have HS : Hid (Zt.one T zx se c = setS T zx c) := Lib.hid (by rw [H2.out, if_neg c1, if_neg c2, if_pos c3])
      clear c1 c2 c3
      clear k1 k4
      go_wp2_with fail
      refine HC.out.mono ?_
      intro e w3 hpost
      obtain ⟨v, rfl, hp2⟩ := ch_res (ch_below HPL.out.below hpost)
      rw [← HS.out] at hp2 ⊢
      have HE := Lib.hid hp2
      clear hpost hp2
      go_wp2_with fail
      go_ret3
      exact HE.out
    have t3 : (c.kind == 3) = false := by simpa using c3
    have HC := Lib.hid (asked_any HPL.out.tree c (by have := HPN.out; unfold maxLen; omega))
    have HS : Hid (Zt.one T zx se c = checkS T c) := Lib.hid (by rw [H2.out, if_neg c1, if_neg c2, if_neg c3])
    obtain ⟨z, hz⟩ : ∃ z, askedZ T c = z := ⟨_, rfl⟩
    obtain ⟨m, hm⟩ : ∃ m, askedE T c = m := ⟨_, rfl⟩
    rw [hz, hm] at HC
    unfold ndv at HC
    have HZ := Lib.hid hz
    have HM := Lib.hid hm
    clear k1 k4 c1 c2 c3 hz hm
    go_wp2_with fail
    refine HC.out.mono ?_
    rintro e w3 ⟨rfl, hb3⟩
    have HPL3 := Lib.hid (HPL.out.go hb3)
    have hE := check_end (c := c) (HPL3.out.tree.below (box_below w3 (.cells #[.string (B z.path), .string (B z.data), .int .i64 z.cr, .int .i64 z.ch, .int .i64 z.kd, .int .i64 z.ver, .int .i64 z.ks, .int .i64 z.own, .int .i64 z.nx] 132))) (HPL3.out.below.trans ((box_below w3 (.cells #[.string (B z.path), .string (B z.data), .int .i64 z.cr, .int .i64 z.ch, .int .i64 z.kd, .int .i64 z.ver, .int .i64 z.ks, .int .i64 z.own, .int .i64 z.nx] 132)).mono HPL3.out.below.size))
    rw [HZ.out, HM.out] at hE
    rw [← HS.out] at hE
    have HE := Lib.hid hE
    clear hb3 hE
    go_wp2_with fail
    go_ret3
    exact HE.out
end Go.Proofs.YtflgemlhocjipaaGreatDoor
