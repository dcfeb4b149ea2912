/-
  What touch and asked return and leave. Conditions: the tree rises by its paths and is small; a number is at most 2^62.
-/
import Derived.Test.YtflgemlhocjipaaGreatDoorRows8
namespace Go.Proofs.YtflgemlhocjipaaGreatDoor
set_option maxRecDepth 100000
open Go.ChangeShapes Go.WideShapes Go.ChangeAt Go.RowKit Go.Proofs.Zn Go.Proofs.Zt

def tz (z : Nd) (zx : Int) : Nd := { z with kd := zx, ks := up z.ks }
def TouchPost (tp mb : Nat) (T : Tr) (z : Nd) (zx k : Int) (p : Txt) (w : World) (e : Ending) (w' : World) : Prop :=
  ∃ v, e = .returned v ∧ TreeW w' tp mb (put T (tz z zx)) ∧ w.grownBy w' (some mb) ∧ w'.ownsRow w.heap.size 165 3 v 2 (ecells [⟨0, k, p⟩, ⟨0, 4, z.path⟩])
theorem touch_end {w w4 : World} {tp mb : Nat} {T : Tr} {z : Nd} {zx k : Int} {p : Txt} (hw : w.heap.size ≤ w4.heap.size) (ht : TreeW w4 tp mb (put T (tz z zx))) (hg : w.grownBy w4 (some mb)) :
    TouchPost tp mb T z zx k p w (.returned (.slice (some ⟨w4.heap.size, 0, none⟩) 2 2)) (w4.alloc (.cells #[.int .i64 0, .int .i64 k, .string (B p), .int .i64 0, .int .i64 4, .string (B z.path)] 165)) :=
  ⟨_, rfl, ht.below (box_below w4 _), gb_trans hg (gb_below (box_below w4 _) _), own_new (new_block w4 _) hw (by unfold maxLen; omega) rfl⟩
set_option maxHeartbeats 2000000 in
theorem touch_any {w : World} {tp mb : Nat} {T : Tr} (h : TreeW w tp mb T) (hs : Srt T) (hl : T.length < 1000) (z : Nd) (hz : inr z.ks = true) (hp : z.path.length ≤ maxLen) (zx k : Int) (p : Txt) :
    Calls Tryz.prog 148 #[.pointer (some ⟨tp, 0, none⟩), .int .i64 zx, .agg #[.string (B z.path), .string (B z.data), .int .i64 z.cr, .int .i64 z.ch, .int .i64 z.kd, .int .i64 z.ver, .int .i64 z.ks, .int .i64 z.own, .int .i64 z.nx], .int .i64 k, .string (B p)] w (TouchPost tp mb T z zx k p w) := by
  have HM := Lib.hid (more_any z.ks hz)
  have HD : Hid (⟨z.path, z.data, z.cr, z.ch, zx, z.ver, up z.ks, z.own, z.nx⟩ = tz z zx) := Lib.hid rfl
  obtain ⟨u, hu⟩ : ∃ u, up z.ks = u := ⟨_, rfl⟩
  rw [hu] at HM HD
  obtain ⟨w3, hw3⟩ : ∃ w3, w3 = w.alloc (.cells #[.string (B z.path), .string (B z.data), .int .i64 z.cr, .int .i64 z.ch, .int .i64 zx, .int .i64 z.ver, .int .i64 u, .int .i64 z.own, .int .i64 z.nx] 132) := ⟨_, rfl⟩
  obtain ⟨b, hb⟩ : ∃ b, b = w.heap.size := ⟨_, rfl⟩
  have hB3 : Below w.heap.size w w3 := by rw [hw3]; exact box_below w _
  have hbx : w3.heap[b]? = some (.cells #[.string (B z.path), .string (B z.data), .int .i64 z.cr, .int .i64 z.ch, .int .i64 zx, .int .i64 z.ver, .int .i64 u, .int .i64 z.own, .int .i64 z.nx] 132 (0, 0)) := by rw [hw3, hb]; exact new_block w _
  have h3 := h.below hB3
  obtain ⟨w4, hrun, hm4, hg4⟩ := store_nd h3.map.drew hs ⟨z.path, z.data, z.cr, z.ch, zx, z.ver, u, z.own, z.nx⟩ hp hl
  rw [HD.out] at hm4
  dsimp only at hrun
  have ht4 := h3.put (gb_trans gb_drew hg4) hm4
  have hbx4 := gb_cells (gb_trans gb_drew hg4) (h3.map.ne_cells hbx) hbx
  have hg := gb_trans (gb_below hB3 (some mb)) (gb_trans gb_drew hg4)
  have HE : Hid (TouchPost tp mb T z zx k p w (.returned (.slice (some ⟨w4.heap.size, 0, none⟩) 2 2)) (w4.alloc (.cells #[.int .i64 0, .int .i64 k, .string (B p), .int .i64 0, .int .i64 4, .string (B z.path)] 165))) := Lib.hid (touch_end hg.size ht4 hg)
  have d0 := cell_of h3.here (j := 0) rfl
  have b0 := cell_of hbx (j := 0) rfl
  have b1 := cell_of hbx (j := 1) rfl
  have b2 := cell_of hbx (j := 2) rfl
  have b3 := cell_of hbx (j := 3) rfl
  have b4 := cell_of hbx (j := 4) rfl
  have b5 := cell_of hbx (j := 5) rfl
  have b6 := cell_of hbx (j := 6) rfl
  have b7 := cell_of hbx (j := 7) rfl
  have b8 := cell_of hbx (j := 8) rfl
  have e0 := cell_of hbx4 (j := 0) rfl
  have HW3 := Lib.hid hw3
  have HBB := Lib.hid hb
  clear h hs hz hp hu hw3 hb hB3 hbx h3 hm4 hg4 ht4 hbx4 hg hl
  go_enter Tryz.func148, Tryz.ntmps148
  go_wp2_with (first | (go_at_call 147; (with_reducible refine (HM.out _).mono ?_); rintro e w2 ⟨rfl, rfl⟩) | fail)
  rw [← HW3.out, ← HBB.out]
  go_still_tail 7, (by kernel_rfl)
  change wpList _ _ _ _ _ w3.drew
  go_wp2_with fail
  go_ret
  exact HE.out

/-! ### asked -/
def askedE (T : Tr) (c : Chg) : Int := match get T c.path with
  | none => 80
  | some z => if c.ver ≠ -1 ∧ c.ver ≠ z.ver then 82 else 0
def askedZ (T : Tr) (c : Chg) : Nd := if askedE T c = 0 then (get T c.path).getD nd0 else nd0
theorem ask_none {T : Tr} {c : Chg} (h : (get T c.path).isSome = false) : askedE T c = 80 ∧ askedZ T c = nd0 := by
  have hn : get T c.path = none := by cases hg : get T c.path <;> simp_all
  have : askedE T c = 80 := by unfold askedE; rw [hn]
  exact ⟨this, by unfold askedZ; rw [this]; rfl⟩
theorem ask_bad {T : Tr} {c : Chg} {z : Nd} (h : (get T c.path).isSome = true) (hz : (get T c.path).getD nd0 = z) (h1 : c.ver ≠ -1) (h2 : c.ver ≠ z.ver) : askedE T c = 82 ∧ askedZ T c = nd0 := by
  obtain ⟨y, hy⟩ := Option.isSome_iff_exists.1 h
  rw [hy] at hz
  have hz : y = z := hz
  subst hz
  have : askedE T c = 82 := by unfold askedE; rw [hy]; exact if_pos ⟨h1, h2⟩
  exact ⟨this, by unfold askedZ; rw [this]; rfl⟩
theorem ask_good {T : Tr} {c : Chg} {z : Nd} (h : (get T c.path).isSome = true) (hz : (get T c.path).getD nd0 = z) (h1 : c.ver = -1 ∨ c.ver = z.ver) : askedE T c = 0 ∧ askedZ T c = z := by
  obtain ⟨y, hy⟩ := Option.isSome_iff_exists.1 h
  have hz' := hz
  rw [hy] at hz
  have hz : y = z := hz
  subst hz
  have : askedE T c = 0 := by unfold askedE; rw [hy]; exact if_neg (by omega)
  exact ⟨this, by unfold askedZ; rw [if_pos this]; exact hz'⟩
set_option maxHeartbeats 2000000 in
theorem asked_any {w : World} {tp mb : Nat} {T : Tr} (h : TreeW w tp mb T) (c : Chg) (hp : c.path.length ≤ maxLen) :
    Calls Tryz.prog 123 #[.pointer (some ⟨tp, 0, none⟩), .agg #[.int .i64 c.kind, .string (B c.path), .string (B c.data), .int .i64 c.ver, .bool c.eph, .bool c.sq]] w fun e w' => e = .returned (.tuple #[ndv (askedZ T c), .int .i64 (askedE T c)]) ∧ Below w.heap.size w w' := by
  obtain ⟨z, hz⟩ : ∃ z, (get T c.path).getD nd0 = z := ⟨_, rfl⟩
  obtain ⟨b, hb⟩ : ∃ b, (get T c.path).isSome = b := ⟨_, rfl⟩
  obtain ⟨w2, hw2, hB2, hq, hr, hs2⟩ := two_box w (.cells #[.int .i64 c.kind, .string (B c.path), .string (B c.data), .int .i64 c.ver, .bool c.eph, .bool c.sq] 79) (.cells #[.string ⟨#[]⟩, .string ⟨#[]⟩, .int .i64 0, .int .i64 0, .int .i64 0, .int .i64 0, .int .i64 0, .int .i64 0, .int .i64 0] 132)
  obtain ⟨q, eq⟩ : ∃ q, q = w.heap.size := ⟨_, rfl⟩
  obtain ⟨r, er⟩ : ∃ r, r = w.heap.size + 1 := ⟨_, rfl⟩
  rw [← eq] at hq
  rw [← er] at hr
  have h2 := h.below hB2
  have h3 := h2.below (box_below w2 (.cells #[.string ⟨#[]⟩, .string ⟨#[]⟩, .int .i64 0, .int .i64 0, .int .i64 0, .int .i64 0, .int .i64 0, .int .i64 0, .int .i64 0] 132))
  have l2 := look_ok h2.map.drew c.path hp hz hb
  have l3 := look_ok h3.map.drew c.path hp hz hb
  have d2 := cell_of h2.here (j := 0) rfl
  have d3 := cell_of h3.here (j := 0) rfl
  have q0 := cell_of hq (j := 0) rfl
  have q1 := cell_of hq (j := 1) rfl
  have q2 := cell_of hq (j := 2) rfl
  have q3 := cell_of hq (j := 3) rfl
  have q4 := cell_of hq (j := 4) rfl
  have q5 := cell_of hq (j := 5) rfl
  have qa1 := cell_of (blk_alloc hq (.cells #[.string ⟨#[]⟩, .string ⟨#[]⟩, .int .i64 0, .int .i64 0, .int .i64 0, .int .i64 0, .int .i64 0, .int .i64 0, .int .i64 0] 132)) (j := 1) rfl
  have HB2 := Lib.hid hB2
  have HW2 := Lib.hid hw2
  have HN : Hid (b = false → askedE T c = 80 ∧ askedZ T c = nd0) := Lib.hid fun e => ask_none (hb.trans e)
  have HX : Hid (b = true → c.ver ≠ -1 → c.ver ≠ z.ver → askedE T c = 82 ∧ askedZ T c = nd0) := Lib.hid fun e => ask_bad (hb.trans e) hz
  have HY : Hid (b = true → (c.ver = -1 ∨ c.ver = z.ver) → askedE T c = 0 ∧ askedZ T c = z) := Lib.hid fun e => ask_good (hb.trans e) hz
  have HQ := Lib.hid hq
  have HR := Lib.hid hr
  have EQ := Lib.hid eq
  have ER := Lib.hid er
  have hqr : q ≠ r := by omega
  have hqs : q < w2.heap.size := blk_lt hq
  have hrs : r < w2.heap.size := blk_lt hr
  have hts := h2.lt
  clear h hz hb hB2 h2 h3 hp hw2 hq hr hs2 eq er
  go_enter Tryz.func123, Tryz.ntmps123
  go_upto_region 1 with fail
  rw [← HW2.out, ← ER.out, ← EQ.out]
  go_region
  all_goals
    obtain ⟨w3, hw3⟩ : ∃ w3, w3 = (w2.alloc (.cells #[.string (B z.path), .string (B z.data), .int .i64 z.cr, .int .i64 z.ch, .int .i64 z.kd, .int .i64 z.ver, .int .i64 z.ks, .int .i64 z.own, .int .i64 z.nx] 132)).drew := ⟨_, rfl⟩
    have hB3 : Below w2.heap.size w2 w3 := by rw [hw3]; exact (box_below w2 _).drew
    obtain ⟨s, es⟩ : ∃ s, s = w2.heap.size := ⟨_, rfl⟩
    have hs3 : w3.heap[s]? = some (.cells #[.string (B z.path), .string (B z.data), .int .i64 z.cr, .int .i64 z.ch, .int .i64 z.kd, .int .i64 z.ver, .int .i64 z.ks, .int .i64 z.own, .int .i64 z.nx] 132 (0, 0)) := by rw [hw3, es]; exact new_block w2 _
    have hr3 := blk_below HR.out hB3
    have hq3 := blk_below HQ.out hB3
    have HW3 := Lib.hid hw3
    have ES := Lib.hid es
    have HB3 := Lib.hid (HB2.out.trans (hB3.mono HB2.out.size))
    have HR3 := Lib.hid hr3
    rw [← HW3.out, ← ES.out]
    clear l2 l3 d2 d3 hqs hrs hts qa1 q0 q1 q2 q3 q4 q5 hB3 hw3 es
    cases b with
    | false =>
      obtain ⟨e1, e2⟩ := HN.out rfl
      obtain ⟨w6, hw6⟩ : ∃ w6, w6 = (((((((((w3.setCell ⟨r, 0, none⟩ (.string ⟨#[]⟩)).setCell ⟨r, 1, none⟩ (.string ⟨#[]⟩)).setCell ⟨r, 2, none⟩ (.int .i64 0)).setCell ⟨r, 3, none⟩ (.int .i64 0)).setCell ⟨r, 4, none⟩ (.int .i64 0)).setCell ⟨r, 5, none⟩ (.int .i64 0)).setCell ⟨r, 6, none⟩ (.int .i64 0)).setCell ⟨r, 7, none⟩ (.int .i64 0)).setCell ⟨r, 8, none⟩ (.int .i64 0)) := ⟨_, rfl⟩
      obtain ⟨hwr, h6⟩ := set_nd hr3 nd0
      change Wr r w3 (((((((((w3.setCell ⟨r, 0, none⟩ (.string ⟨#[]⟩)).setCell ⟨r, 1, none⟩ (.string ⟨#[]⟩)).setCell ⟨r, 2, none⟩ (.int .i64 0)).setCell ⟨r, 3, none⟩ (.int .i64 0)).setCell ⟨r, 4, none⟩ (.int .i64 0)).setCell ⟨r, 5, none⟩ (.int .i64 0)).setCell ⟨r, 6, none⟩ (.int .i64 0)).setCell ⟨r, 7, none⟩ (.int .i64 0)).setCell ⟨r, 8, none⟩ (.int .i64 0)) at hwr
      change (((((((((w3.setCell ⟨r, 0, none⟩ (.string ⟨#[]⟩)).setCell ⟨r, 1, none⟩ (.string ⟨#[]⟩)).setCell ⟨r, 2, none⟩ (.int .i64 0)).setCell ⟨r, 3, none⟩ (.int .i64 0)).setCell ⟨r, 4, none⟩ (.int .i64 0)).setCell ⟨r, 5, none⟩ (.int .i64 0)).setCell ⟨r, 6, none⟩ (.int .i64 0)).setCell ⟨r, 7, none⟩ (.int .i64 0)).setCell ⟨r, 8, none⟩ (.int .i64 0)).heap[r]? = some (.cells #[.string ⟨#[]⟩, .string ⟨#[]⟩, .int .i64 0, .int .i64 0, .int .i64 0, .int .i64 0, .int .i64 0, .int .i64 0, .int .i64 0] 132 (0, 0)) at h6
      rw [← hw6] at hwr h6
      have HE : Hid (Ending.returned (.tuple #[.agg #[.string ⟨#[]⟩, .string ⟨#[]⟩, .int .i64 0, .int .i64 0, .int .i64 0, .int .i64 0, .int .i64 0, .int .i64 0, .int .i64 0], .int .i64 80]) = .returned (.tuple #[ndv (askedZ T c), .int .i64 (askedE T c)]) ∧ Below w.heap.size w w6) := Lib.hid ⟨by rw [e1, e2]; rfl, HB3.out.trans (hwr.below.mono (by rw [ER.out]; omega))⟩
      have r0 := cell_of hr3 (j := 0) rfl
      have r1 := cell_of hr3 (j := 1) rfl
      have r2 := cell_of hr3 (j := 2) rfl
      have r3 := cell_of hr3 (j := 3) rfl
      have r4 := cell_of hr3 (j := 4) rfl
      have r5 := cell_of hr3 (j := 5) rfl
      have r6 := cell_of hr3 (j := 6) rfl
      have r7 := cell_of hr3 (j := 7) rfl
      have r8 := cell_of hr3 (j := 8) rfl
      have rf0 := frozen_of_row w3 _ 0 _ _ hr3
      have rf1 := frozen_of_row w3 _ 1 _ _ hr3
      have rf2 := frozen_of_row w3 _ 2 _ _ hr3
      have rf3 := frozen_of_row w3 _ 3 _ _ hr3
      have rf4 := frozen_of_row w3 _ 4 _ _ hr3
      have rf5 := frozen_of_row w3 _ 5 _ _ hr3
      have rf6 := frozen_of_row w3 _ 6 _ _ hr3
      have rf7 := frozen_of_row w3 _ 7 _ _ hr3
      have rf8 := frozen_of_row w3 _ 8 _ _ hr3
      have t0 := cell_of h6 (j := 0) rfl
      have t1 := cell_of h6 (j := 1) rfl
      have t2 := cell_of h6 (j := 2) rfl
      have t3 := cell_of h6 (j := 3) rfl
      have t4 := cell_of h6 (j := 4) rfl
      have t5 := cell_of h6 (j := 5) rfl
      have t6 := cell_of h6 (j := 6) rfl
      have t7 := cell_of h6 (j := 7) rfl
      have t8 := cell_of h6 (j := 8) rfl
      have HW6 := Lib.hid hw6
      clear hwr h6 hw6 hr3 hq3 hs3 e1 e2
      go_wp2_with fail
      rw [← HW6.out]
      exact bodyPost_ret (v := .tuple #[.agg #[.string ⟨#[]⟩, .string ⟨#[]⟩, .int .i64 0, .int .i64 0, .int .i64 0, .int .i64 0, .int .i64 0, .int .i64 0, .int .i64 0], .int .i64 80]) (by simp [results, Tryz.results123, go_sem, t0, t1, t2, t3, t4, t5, t6, t7, t8]) rfl HE.out
    | true =>
      obtain ⟨b1, hb1⟩ : ∃ b, (c.ver != -1) = b := ⟨_, rfl⟩
      obtain ⟨b2, hb2⟩ : ∃ b, (c.ver != z.ver) = b := ⟨_, rfl⟩
      cases b1 with
      | false =>
        obtain ⟨e1, e2⟩ := HY.out rfl (.inl (by simpa using hb1))
        obtain ⟨w6, hw6⟩ : ∃ w6, w6 = (((((((((w3.setCell ⟨r, 0, none⟩ (.string (B z.path))).setCell ⟨r, 1, none⟩ (.string (B z.data))).setCell ⟨r, 2, none⟩ (.int .i64 z.cr)).setCell ⟨r, 3, none⟩ (.int .i64 z.ch)).setCell ⟨r, 4, none⟩ (.int .i64 z.kd)).setCell ⟨r, 5, none⟩ (.int .i64 z.ver)).setCell ⟨r, 6, none⟩ (.int .i64 z.ks)).setCell ⟨r, 7, none⟩ (.int .i64 z.own)).setCell ⟨r, 8, none⟩ (.int .i64 z.nx)) := ⟨_, rfl⟩
        obtain ⟨hwr, h6⟩ := set_nd hr3 z
        change Wr r w3 (((((((((w3.setCell ⟨r, 0, none⟩ (.string (B z.path))).setCell ⟨r, 1, none⟩ (.string (B z.data))).setCell ⟨r, 2, none⟩ (.int .i64 z.cr)).setCell ⟨r, 3, none⟩ (.int .i64 z.ch)).setCell ⟨r, 4, none⟩ (.int .i64 z.kd)).setCell ⟨r, 5, none⟩ (.int .i64 z.ver)).setCell ⟨r, 6, none⟩ (.int .i64 z.ks)).setCell ⟨r, 7, none⟩ (.int .i64 z.own)).setCell ⟨r, 8, none⟩ (.int .i64 z.nx)) at hwr
        change (((((((((w3.setCell ⟨r, 0, none⟩ (.string (B z.path))).setCell ⟨r, 1, none⟩ (.string (B z.data))).setCell ⟨r, 2, none⟩ (.int .i64 z.cr)).setCell ⟨r, 3, none⟩ (.int .i64 z.ch)).setCell ⟨r, 4, none⟩ (.int .i64 z.kd)).setCell ⟨r, 5, none⟩ (.int .i64 z.ver)).setCell ⟨r, 6, none⟩ (.int .i64 z.ks)).setCell ⟨r, 7, none⟩ (.int .i64 z.own)).setCell ⟨r, 8, none⟩ (.int .i64 z.nx)).heap[r]? = some (.cells #[.string (B z.path), .string (B z.data), .int .i64 z.cr, .int .i64 z.ch, .int .i64 z.kd, .int .i64 z.ver, .int .i64 z.ks, .int .i64 z.own, .int .i64 z.nx] 132 (0, 0)) at h6
        rw [← hw6] at hwr h6
        have HE : Hid (Ending.returned (.tuple #[.agg #[.string (B z.path), .string (B z.data), .int .i64 z.cr, .int .i64 z.ch, .int .i64 z.kd, .int .i64 z.ver, .int .i64 z.ks, .int .i64 z.own, .int .i64 z.nx], .int .i64 0]) = .returned (.tuple #[ndv (askedZ T c), .int .i64 (askedE T c)]) ∧ Below w.heap.size w w6) := Lib.hid ⟨by rw [e1, e2]; rfl, HB3.out.trans (hwr.below.mono (by rw [ER.out]; omega))⟩
        have r0 := cell_of hr3 (j := 0) rfl
        have r1 := cell_of hr3 (j := 1) rfl
        have r2 := cell_of hr3 (j := 2) rfl
        have r3 := cell_of hr3 (j := 3) rfl
        have r4 := cell_of hr3 (j := 4) rfl
        have r5 := cell_of hr3 (j := 5) rfl
        have r6 := cell_of hr3 (j := 6) rfl
        have r7 := cell_of hr3 (j := 7) rfl
        have r8 := cell_of hr3 (j := 8) rfl
        have rf0 := frozen_of_row w3 _ 0 _ _ hr3
        have rf1 := frozen_of_row w3 _ 1 _ _ hr3
        have rf2 := frozen_of_row w3 _ 2 _ _ hr3
        have rf3 := frozen_of_row w3 _ 3 _ _ hr3
        have rf4 := frozen_of_row w3 _ 4 _ _ hr3
        have rf5 := frozen_of_row w3 _ 5 _ _ hr3
        have rf6 := frozen_of_row w3 _ 6 _ _ hr3
        have rf7 := frozen_of_row w3 _ 7 _ _ hr3
        have rf8 := frozen_of_row w3 _ 8 _ _ hr3
        have t0 := cell_of h6 (j := 0) rfl
        have t1 := cell_of h6 (j := 1) rfl
        have t2 := cell_of h6 (j := 2) rfl
        have t3 := cell_of h6 (j := 3) rfl
        have t4 := cell_of h6 (j := 4) rfl
        have t5 := cell_of h6 (j := 5) rfl
        have t6 := cell_of h6 (j := 6) rfl
        have t7 := cell_of h6 (j := 7) rfl
        have t8 := cell_of h6 (j := 8) rfl
        have s0 := cell_of hs3 (j := 0) rfl
        have s1 := cell_of hs3 (j := 1) rfl
        have s2 := cell_of hs3 (j := 2) rfl
        have s3 := cell_of hs3 (j := 3) rfl
        have s4 := cell_of hs3 (j := 4) rfl
        have s5 := cell_of hs3 (j := 5) rfl
        have s6 := cell_of hs3 (j := 6) rfl
        have s7 := cell_of hs3 (j := 7) rfl
        have s8 := cell_of hs3 (j := 8) rfl
        have y3 := cell_of hq3 (j := 3) rfl
        have HW6 := Lib.hid hw6
        clear hwr h6 hw6 hr3 hq3 hs3 e1 e2
        go_wp2_with fail
        rw [← HW6.out]
        exact bodyPost_ret (v := .tuple #[.agg #[.string (B z.path), .string (B z.data), .int .i64 z.cr, .int .i64 z.ch, .int .i64 z.kd, .int .i64 z.ver, .int .i64 z.ks, .int .i64 z.own, .int .i64 z.nx], .int .i64 0]) (by simp [results, Tryz.results123, go_sem, t0, t1, t2, t3, t4, t5, t6, t7, t8]) rfl HE.out
      | true =>
        cases b2 with
        | false =>
          obtain ⟨e1, e2⟩ := HY.out rfl (.inr (by simpa using hb2))
          obtain ⟨w6, hw6⟩ : ∃ w6, w6 = (((((((((w3.setCell ⟨r, 0, none⟩ (.string (B z.path))).setCell ⟨r, 1, none⟩ (.string (B z.data))).setCell ⟨r, 2, none⟩ (.int .i64 z.cr)).setCell ⟨r, 3, none⟩ (.int .i64 z.ch)).setCell ⟨r, 4, none⟩ (.int .i64 z.kd)).setCell ⟨r, 5, none⟩ (.int .i64 z.ver)).setCell ⟨r, 6, none⟩ (.int .i64 z.ks)).setCell ⟨r, 7, none⟩ (.int .i64 z.own)).setCell ⟨r, 8, none⟩ (.int .i64 z.nx)) := ⟨_, rfl⟩
          obtain ⟨hwr, h6⟩ := set_nd hr3 z
          change Wr r w3 (((((((((w3.setCell ⟨r, 0, none⟩ (.string (B z.path))).setCell ⟨r, 1, none⟩ (.string (B z.data))).setCell ⟨r, 2, none⟩ (.int .i64 z.cr)).setCell ⟨r, 3, none⟩ (.int .i64 z.ch)).setCell ⟨r, 4, none⟩ (.int .i64 z.kd)).setCell ⟨r, 5, none⟩ (.int .i64 z.ver)).setCell ⟨r, 6, none⟩ (.int .i64 z.ks)).setCell ⟨r, 7, none⟩ (.int .i64 z.own)).setCell ⟨r, 8, none⟩ (.int .i64 z.nx)) at hwr
          change (((((((((w3.setCell ⟨r, 0, none⟩ (.string (B z.path))).setCell ⟨r, 1, none⟩ (.string (B z.data))).setCell ⟨r, 2, none⟩ (.int .i64 z.cr)).setCell ⟨r, 3, none⟩ (.int .i64 z.ch)).setCell ⟨r, 4, none⟩ (.int .i64 z.kd)).setCell ⟨r, 5, none⟩ (.int .i64 z.ver)).setCell ⟨r, 6, none⟩ (.int .i64 z.ks)).setCell ⟨r, 7, none⟩ (.int .i64 z.own)).setCell ⟨r, 8, none⟩ (.int .i64 z.nx)).heap[r]? = some (.cells #[.string (B z.path), .string (B z.data), .int .i64 z.cr, .int .i64 z.ch, .int .i64 z.kd, .int .i64 z.ver, .int .i64 z.ks, .int .i64 z.own, .int .i64 z.nx] 132 (0, 0)) at h6
          rw [← hw6] at hwr h6
          have HE : Hid (Ending.returned (.tuple #[.agg #[.string (B z.path), .string (B z.data), .int .i64 z.cr, .int .i64 z.ch, .int .i64 z.kd, .int .i64 z.ver, .int .i64 z.ks, .int .i64 z.own, .int .i64 z.nx], .int .i64 0]) = .returned (.tuple #[ndv (askedZ T c), .int .i64 (askedE T c)]) ∧ Below w.heap.size w w6) := Lib.hid ⟨by rw [e1, e2]; rfl, HB3.out.trans (hwr.below.mono (by rw [ER.out]; omega))⟩
          have r0 := cell_of hr3 (j := 0) rfl
          have r1 := cell_of hr3 (j := 1) rfl
          have r2 := cell_of hr3 (j := 2) rfl
          have r3 := cell_of hr3 (j := 3) rfl
          have r4 := cell_of hr3 (j := 4) rfl
          have r5 := cell_of hr3 (j := 5) rfl
          have r6 := cell_of hr3 (j := 6) rfl
          have r7 := cell_of hr3 (j := 7) rfl
          have r8 := cell_of hr3 (j := 8) rfl
          have rf0 := frozen_of_row w3 _ 0 _ _ hr3
          have rf1 := frozen_of_row w3 _ 1 _ _ hr3
          have rf2 := frozen_of_row w3 _ 2 _ _ hr3
          have rf3 := frozen_of_row w3 _ 3 _ _ hr3
          have rf4 := frozen_of_row w3 _ 4 _ _ hr3
          have rf5 := frozen_of_row w3 _ 5 _ _ hr3
          have rf6 := frozen_of_row w3 _ 6 _ _ hr3
          have rf7 := frozen_of_row w3 _ 7 _ _ hr3
          have rf8 := frozen_of_row w3 _ 8 _ _ hr3
          have t0 := cell_of h6 (j := 0) rfl
          have t1 := cell_of h6 (j := 1) rfl
          have t2 := cell_of h6 (j := 2) rfl
          have t3 := cell_of h6 (j := 3) rfl
          have t4 := cell_of h6 (j := 4) rfl
          have t5 := cell_of h6 (j := 5) rfl
          have t6 := cell_of h6 (j := 6) rfl
          have t7 := cell_of h6 (j := 7) rfl
          have t8 := cell_of h6 (j := 8) rfl
          have s0 := cell_of hs3 (j := 0) rfl
          have s1 := cell_of hs3 (j := 1) rfl
          have s2 := cell_of hs3 (j := 2) rfl
          have s3 := cell_of hs3 (j := 3) rfl
          have s4 := cell_of hs3 (j := 4) rfl
          have s5 := cell_of hs3 (j := 5) rfl
          have s6 := cell_of hs3 (j := 6) rfl
          have s7 := cell_of hs3 (j := 7) rfl
          have s8 := cell_of hs3 (j := 8) rfl
          have y3 := cell_of hq3 (j := 3) rfl
          have HW6 := Lib.hid hw6
          clear hwr h6 hw6 hr3 hq3 hs3 e1 e2
          go_wp2_with fail
          rw [← HW6.out]
          exact bodyPost_ret (v := .tuple #[.agg #[.string (B z.path), .string (B z.data), .int .i64 z.cr, .int .i64 z.ch, .int .i64 z.kd, .int .i64 z.ver, .int .i64 z.ks, .int .i64 z.own, .int .i64 z.nx], .int .i64 0]) (by simp [results, Tryz.results123, go_sem, t0, t1, t2, t3, t4, t5, t6, t7, t8]) rfl HE.out
        | true =>
          obtain ⟨e1, e2⟩ := HX.out rfl (by simpa using hb1) (by simpa using hb2)
          obtain ⟨w6, hw6⟩ : ∃ w6, w6 = (((((((((w3.setCell ⟨r, 0, none⟩ (.string ⟨#[]⟩)).setCell ⟨r, 1, none⟩ (.string ⟨#[]⟩)).setCell ⟨r, 2, none⟩ (.int .i64 0)).setCell ⟨r, 3, none⟩ (.int .i64 0)).setCell ⟨r, 4, none⟩ (.int .i64 0)).setCell ⟨r, 5, none⟩ (.int .i64 0)).setCell ⟨r, 6, none⟩ (.int .i64 0)).setCell ⟨r, 7, none⟩ (.int .i64 0)).setCell ⟨r, 8, none⟩ (.int .i64 0)) := ⟨_, rfl⟩
          obtain ⟨hwr, h6⟩ := set_nd hr3 nd0
          change Wr r w3 (((((((((w3.setCell ⟨r, 0, none⟩ (.string ⟨#[]⟩)).setCell ⟨r, 1, none⟩ (.string ⟨#[]⟩)).setCell ⟨r, 2, none⟩ (.int .i64 0)).setCell ⟨r, 3, none⟩ (.int .i64 0)).setCell ⟨r, 4, none⟩ (.int .i64 0)).setCell ⟨r, 5, none⟩ (.int .i64 0)).setCell ⟨r, 6, none⟩ (.int .i64 0)).setCell ⟨r, 7, none⟩ (.int .i64 0)).setCell ⟨r, 8, none⟩ (.int .i64 0)) at hwr
          change (((((((((w3.setCell ⟨r, 0, none⟩ (.string ⟨#[]⟩)).setCell ⟨r, 1, none⟩ (.string ⟨#[]⟩)).setCell ⟨r, 2, none⟩ (.int .i64 0)).setCell ⟨r, 3, none⟩ (.int .i64 0)).setCell ⟨r, 4, none⟩ (.int .i64 0)).setCell ⟨r, 5, none⟩ (.int .i64 0)).setCell ⟨r, 6, none⟩ (.int .i64 0)).setCell ⟨r, 7, none⟩ (.int .i64 0)).setCell ⟨r, 8, none⟩ (.int .i64 0)).heap[r]? = some (.cells #[.string ⟨#[]⟩, .string ⟨#[]⟩, .int .i64 0, .int .i64 0, .int .i64 0, .int .i64 0, .int .i64 0, .int .i64 0, .int .i64 0] 132 (0, 0)) at h6
          rw [← hw6] at hwr h6
          have HE : Hid (Ending.returned (.tuple #[.agg #[.string ⟨#[]⟩, .string ⟨#[]⟩, .int .i64 0, .int .i64 0, .int .i64 0, .int .i64 0, .int .i64 0, .int .i64 0, .int .i64 0], .int .i64 82]) = .returned (.tuple #[ndv (askedZ T c), .int .i64 (askedE T c)]) ∧ Below w.heap.size w w6) := Lib.hid ⟨by rw [e1, e2]; rfl, HB3.out.trans (hwr.below.mono (by rw [ER.out]; omega))⟩
          have r0 := cell_of hr3 (j := 0) rfl
          have r1 := cell_of hr3 (j := 1) rfl
          have r2 := cell_of hr3 (j := 2) rfl
          have r3 := cell_of hr3 (j := 3) rfl
          have r4 := cell_of hr3 (j := 4) rfl
          have r5 := cell_of hr3 (j := 5) rfl
          have r6 := cell_of hr3 (j := 6) rfl
          have r7 := cell_of hr3 (j := 7) rfl
          have r8 := cell_of hr3 (j := 8) rfl
          have rf0 := frozen_of_row w3 _ 0 _ _ hr3
          have rf1 := frozen_of_row w3 _ 1 _ _ hr3
          have rf2 := frozen_of_row w3 _ 2 _ _ hr3
          have rf3 := frozen_of_row w3 _ 3 _ _ hr3
          have rf4 := frozen_of_row w3 _ 4 _ _ hr3
          have rf5 := frozen_of_row w3 _ 5 _ _ hr3
          have rf6 := frozen_of_row w3 _ 6 _ _ hr3
          have rf7 := frozen_of_row w3 _ 7 _ _ hr3
          have rf8 := frozen_of_row w3 _ 8 _ _ hr3
          have t0 := cell_of h6 (j := 0) rfl
          have t1 := cell_of h6 (j := 1) rfl
          have t2 := cell_of h6 (j := 2) rfl
          have t3 := cell_of h6 (j := 3) rfl
          have t4 := cell_of h6 (j := 4) rfl
          have t5 := cell_of h6 (j := 5) rfl
          have t6 := cell_of h6 (j := 6) rfl
          have t7 := cell_of h6 (j := 7) rfl
          have t8 := cell_of h6 (j := 8) rfl
          have y3 := cell_of hq3 (j := 3) rfl
          have s5 := cell_of hs3 (j := 5) rfl
          have HW6 := Lib.hid hw6
          clear hwr h6 hw6 hr3 hq3 hs3 e1 e2
          go_wp2_with fail
          rw [← HW6.out]
          exact bodyPost_ret (v := .tuple #[.agg #[.string ⟨#[]⟩, .string ⟨#[]⟩, .int .i64 0, .int .i64 0, .int .i64 0, .int .i64 0, .int .i64 0, .int .i64 0, .int .i64 0], .int .i64 82]) (by simp [results, Tryz.results123, go_sem, t0, t1, t2, t3, t4, t5, t6, t7, t8]) rfl HE.out
end Go.Proofs.YtflgemlhocjipaaGreatDoor
