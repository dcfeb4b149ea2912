/-
  What create returns and leaves. Conditions: the path is one; the tree is good.
  What set returns and leaves. Condition: the tree is good.
-/
import Derived.Test.YtflgemlhocjipaaGreatDoorPlace
namespace Go.Proofs.YtflgemlhocjipaaGreatDoor
set_option maxRecDepth 100000
open Go.ChangeShapes Go.WideShapes Go.ChangeAt Go.RowKit Go.Proofs.Zn Go.Proofs.Zt

/-- What a change returns and leaves. -/
def ChPost (tp mb : Nat) (S : Stp) (w : World) (e : Ending) (w' : World) : Prop :=
  ∃ v, e = .returned (.tuple #[.string (B S.path), v, .int .i64 S.e]) ∧ w.grownBy w' (some mb) ∧ (S.e = 0 → TreeW w' tp mb S.T ∧ w'.ownsRow w.heap.size 165 3 v S.evs.length (ecells S.evs))
theorem ch_fail {tp mb : Nat} {S : Stp} {k : Int} {w w' : World} (hS : S = fails k) (hk : k ≠ 0) (hb : Below w.heap.size w w') : ChPost tp mb S w (.returned (.tuple #[.string ⟨#[]⟩, .slice none 0 0, .int .i64 k])) w' := by
  subst hS
  exact ⟨_, rfl, gb_below hb _, fun e => absurd e hk⟩
structure Cq (w0 : World) (q tp mb : Nat) (T : Tr) (c : Chg) (w : World) : Prop where
  below : Below w0.heap.size w0 w
  tree : TreeW w tp mb T
  bq : w.heap[q]? = some (.cells #[.int .i64 c.kind, .string (B c.path), .string (B c.data), .int .i64 c.ver, .bool c.eph, .bool c.sq] 79 (0, 0))
theorem Cq.go {w0 w w' : World} {q tp mb : Nat} {T : Tr} {c : Chg} (h : Cq w0 q tp mb T c w) (hb : Below w.heap.size w w') : Cq w0 q tp mb T c w' :=
  ⟨h.below.trans (hb.mono h.below.size), h.tree.below hb, blk_below h.bq hb⟩
theorem create_eq {T : Tr} {zx se : Int} {c : Chg} {x : Txt} {p : Nd} (h : place T c = (0, x)) (hp : get T (parent c.path) = some p) (hv : valid c.path = true) :
    create T zx se c = ⟨put (put T (made x c.data zx se c.eph)) (touched p zx true), x, [⟨0, 1, x⟩, ⟨0, 4, p.path⟩], 0⟩ := by
  obtain ⟨_, _, p', hp', _, h1, h2, _, h3, _⟩ := place_ok hv (by rw [h])
  rw [h] at h1 h2 h3
  dsimp only at h1 h2 h3
  have hne := parent_ne h2
  unfold create
  rw [h]
  dsimp only
  rw [if_neg (by simp)]
  unfold kidS
  rw [get_put, if_neg (show ¬ parent x = (made x c.data zx se c.eph).path from hne), h1, hp, (get_some hp).2]
  rfl
theorem place_eq {T : Tr} {c : Chg} {p : Nd} (h0 : (place T c).1 = 0) (hp : plN T c = p) (hv : valid c.path = true) : get T (parent c.path) = some p ∧ c.data.length ≤ 1024 ∧ T.length < 200 := by
  obtain ⟨h1, _, p', hp', _, _, _, _, _, h2, _⟩ := place_ok hv h0
  unfold plN at hp
  rw [if_pos h0, hp'] at hp
  have hp : p' = p := hp
  rw [← hp]
  exact ⟨hp', h1, h2⟩
theorem ne_cell {w : World} {a b : Nat} {c1 c2 : Array Value} {t1 t2 : TypeId} {f1 f2 : Nat × Nat} (h1 : w.heap[a]? = some (.cells c1 t1 f1)) (h2 : w.heap[b]? = some (.cells c2 t2 f2)) (ht : t1 ≠ t2) : a ≠ b := fun e => by
  rw [e, h2] at h1
  injection h1 with h1
  injection h1 with _ h3
  exact ht h3.symm
theorem gb_wr {w a b : World} {mb s : Nat} (h : w.grownBy a (some mb)) (hw : Wr s a b) (hs : w.heap.size ≤ s) : w.grownBy b (some mb) :=
  ⟨hw.below.os.trans h.os, hw.below.tape.trans h.tape, hw.below.output.trans h.output, Nat.le_trans h.size hw.below.size, fun k hk hn => (hw.rest k (by omega)).trans (h.block k hk hn)⟩
theorem create_end {w w8 w9 : World} {tp mb : Nat} {T : Tr} {zx se : Int} {c : Chg} {x : Txt} {p : Nd} {v : Value} (h : place T c = (0, x)) (hp : get T (parent c.path) = some p) (hv : valid c.path = true)
    (ht : TreeW w9 tp mb (put (put T (made x c.data zx se c.eph)) (touched p zx true))) (hg : w.grownBy w9 (some mb)) (hs : w.heap.size ≤ w8.heap.size) (hr : w9.ownsRow w8.heap.size 165 3 v 2 (ecells [⟨0, 1, x⟩, ⟨0, 4, p.path⟩])) :
    ChPost tp mb (create T zx se c) w (.returned (.tuple #[.string (B x), v, .int .i64 0])) w9 := by
  rw [create_eq h hp hv]
  exact ⟨v, rfl, hg, fun _ => ⟨ht, own_base hr hs⟩⟩
set_option maxHeartbeats 4000000 in
theorem create_any {w : World} {tp mb : Nat} {T : Tr} (h : TreeW w tp mb T) (hg : Zt.Good T) (zx se : Int) (c : Chg) (hv : valid c.path = true) :
    Calls Tryz.prog 120 #[.pointer (some ⟨tp, 0, none⟩), .int .i64 zx, .int .i64 se, .agg #[.int .i64 c.kind, .string (B c.path), .string (B c.data), .int .i64 c.ver, .bool c.eph, .bool c.sq]] w (ChPost tp mb (create T zx se c) w) := by
  obtain ⟨w1, hw1⟩ : ∃ w1, w1 = w.alloc (.cells #[.int .i64 c.kind, .string (B c.path), .string (B c.data), .int .i64 c.ver, .bool c.eph, .bool c.sq] 79) := ⟨_, rfl⟩
  obtain ⟨q, eq⟩ : ∃ q, q = w.heap.size := ⟨_, rfl⟩
  have hb1 : Below w.heap.size w w1 := by rw [hw1]; exact box_below w _
  have hq : w1.heap[q]? = some (.cells #[.int .i64 c.kind, .string (B c.path), .string (B c.data), .int .i64 c.ver, .bool c.eph, .bool c.sq] 79 (0, 0)) := by rw [hw1, eq]; exact new_block w _
  have HPL : Hid (Cq w q tp mb T c w1) := Lib.hid ⟨hb1, h.below hb1, hq⟩
  have HPC := Lib.hid (place_any (h.below hb1) hg c hv)
  obtain ⟨k, hk⟩ : ∃ k, (place T c).1 = k := ⟨_, rfl⟩
  obtain ⟨x, hx⟩ : ∃ x, (place T c).2 = x := ⟨_, rfl⟩
  obtain ⟨p, hp⟩ : ∃ p, plN T c = p := ⟨_, rfl⟩
  unfold PlPost at HPC
  rw [hk, hx, hp] at HPC
  unfold ndv at HPC
  have HK := Lib.hid hk
  have HX := Lib.hid hx
  have HP := Lib.hid hp
  have HW1 := Lib.hid hw1
  have EQ := Lib.hid eq
  have HV := Lib.hid hv
  have HG := Lib.hid hg
  have q0 := cell_of hq (j := 0) rfl
  have q1 := cell_of hq (j := 1) rfl
  have q2 := cell_of hq (j := 2) rfl
  have q3 := cell_of hq (j := 3) rfl
  have q4 := cell_of hq (j := 4) rfl
  have q5 := cell_of hq (j := 5) rfl
  clear h hg hv hw1 eq hb1 hq hk hx hp
  go_enter Tryz.func120, Tryz.ntmps120
  go_upto_region 1 with fail
  rw [← HW1.out, ← EQ.out]
  go_wp2_with fail
  refine HPC.out.mono ?_
  rintro e w2 ⟨rfl, hb2⟩
  have HPL2 := Lib.hid (HPL.out.go hb2)
  obtain ⟨w3, hw3⟩ : ∃ w3, w3 = w2.alloc (.cells #[.string (B p.path), .string (B p.data), .int .i64 p.cr, .int .i64 p.ch, .int .i64 p.kd, .int .i64 p.ver, .int .i64 p.ks, .int .i64 p.own, .int .i64 p.nx] 132) := ⟨_, rfl⟩
  obtain ⟨s, es⟩ : ∃ s, s = w2.heap.size := ⟨_, rfl⟩
  have hb3 : Below w2.heap.size w2 w3 := by rw [hw3]; exact box_below w2 _
  have hs : w3.heap[s]? = some (.cells #[.string (B p.path), .string (B p.data), .int .i64 p.cr, .int .i64 p.ch, .int .i64 p.kd, .int .i64 p.ver, .int .i64 p.ks, .int .i64 p.own, .int .i64 p.nx] 132 (0, 0)) := by rw [hw3, es]; exact new_block w2 _
  have HPL3 := Lib.hid (HPL2.out.go hb3)
  have HSZ2 := Lib.hid HPL2.out.below.size
  clear HPL HPL2
  have HPL := HPL3
  have HW3 := Lib.hid hw3
  have ES := Lib.hid es
  have HS := Lib.hid hs
  clear HPL3 hb2 hb3 hw3 es hs q0 q1 q2 q3 q4 q5
  go_upto_region 2 with fail
  rw [← HW3.out, ← ES.out]
  by_cases hk0 : k = 0
  · subst hk0
    obtain ⟨hgp, hdl, hlt⟩ := place_eq HK.out HP.out HV.out
    have HPP : Hid (place T c = (0, x)) := Lib.hid (by rw [← HK.out, ← HX.out])
    have HGP := Lib.hid hgp
    have HDL := Lib.hid hdl
    have HLT := Lib.hid hlt
    have HC := Lib.hid (clone_any (B c.data) w3 (by rw [lenB]; omega))
    have hq := HPL.out.bq
    have hs := HS.out
    have q0 := cell_of hq (j := 0) rfl
    have q1 := cell_of hq (j := 1) rfl
    have q2 := cell_of hq (j := 2) rfl
    have q3 := cell_of hq (j := 3) rfl
    have q4 := cell_of hq (j := 4) rfl
    have q5 := cell_of hq (j := 5) rfl
    have s0 := cell_of hs (j := 0) rfl
    have s1 := cell_of hs (j := 1) rfl
    have s2 := cell_of hs (j := 2) rfl
    have s3 := cell_of hs (j := 3) rfl
    have s4 := cell_of hs (j := 4) rfl
    have s5 := cell_of hs (j := 5) rfl
    have s6 := cell_of hs (j := 6) rfl
    have s7 := cell_of hs (j := 7) rfl
    have s8 := cell_of hs (j := 8) rfl
    clear hq hs hgp hdl hlt
    go_wp2_with fail
    refine HC.out.mono ?_
    rintro e w4 ⟨rfl, hb4⟩
    have HPL4 := Lib.hid (HPL.out.go hb4)
    have HS4 := Lib.hid (blk_below HS.out hb4)
    obtain ⟨w5, hw5⟩ : ∃ w5, w5 = w4.alloc (.cells #[.string (B x), .string (B c.data), .int .i64 zx, .int .i64 zx, .int .i64 zx, .int .i64 0, .int .i64 0, .int .i64 0, .int .i64 0] 132) := ⟨_, rfl⟩
    obtain ⟨u, eu⟩ : ∃ u, u = w4.heap.size := ⟨_, rfl⟩
    have hb5 : Below w4.heap.size w4 w5 := by rw [hw5]; exact box_below w4 _
    have hu : w5.heap[u]? = some (.cells #[.string (B x), .string (B c.data), .int .i64 zx, .int .i64 zx, .int .i64 zx, .int .i64 0, .int .i64 0, .int .i64 0, .int .i64 0] 132 (0, 0)) := by rw [hw5, eu]; exact new_block w4 _
    have HPL5 := Lib.hid (HPL4.out.go hb5)
    have HS5 := Lib.hid (blk_below HS4.out hb5)
    have HS4c := HS4
    have HSW0 : Hid (w.heap.size ≤ s) := Lib.hid (by rw [ES.out]; exact HSZ2.out)
    clear HPL HS
    have HPL := HPL5
    have HS := HS5
    have HB4 : Hid (w.heap.size ≤ w4.heap.size) := Lib.hid HPL4.out.below.size
    have HW5 := Lib.hid hw5
    have EU := Lib.hid eu
    have HU := Lib.hid hu
    have HSU : Hid (s ≠ u) := Lib.hid (by have := blk_lt HS4.out; omega)
    clear HPL4 HS4 HS4c HPL5 HS5 hb4 hb5 hw5 eu hu q0 q1 q2 q3 q4 q5 s0 s1 s2 s3 s4 s5 s6 s7 s8
    go_upto_region 5 with fail
    rw [← HW5.out, ← EU.out]
    have HFR : Hid (get T x = none) := Lib.hid (by obtain ⟨_, _, _, _, _, _, _, _, h, _⟩ := place_ok HV.out HK.out; rw [HX.out] at h; exact h)
    have HXL : Hid (x.length ≤ 488) := Lib.hid (by obtain ⟨_, _, _, _, _, _, _, h, _⟩ := place_ok HV.out HK.out; rw [HX.out] at h; exact len_le h)
    have HPI : Hid (NdOk p) := Lib.hid (HG.out.each p (get_some HGP.out).1)
    have HPL2 : Hid (p.path.length ≤ 488) := Lib.hid (len_le HPI.out.path)
    have HSW : Hid (w.heap.size ≤ s) := HSW0
    have hq := HPL.out.bq
    have q4 := cell_of hq (j := 4) rfl
    clear hq
    obtain ⟨M, hM⟩ : ∃ M, made x c.data zx se c.eph = M := ⟨_, rfl⟩
    have HMD2 := Lib.hid hM
    have HMP : Hid (M.path = x) := Lib.hid (by rw [← hM]; rfl)
    clear hM
    by_cases hep : c.eph = true
    · have HMD : Hid (M = ⟨x, c.data, zx, zx, zx, 0, 0, se, 0⟩) := Lib.hid (by rw [← HMD2.out]; unfold made; rw [hep]; rfl)
      have hu5 := HU.out
      have h7 := heap_setCell_same w5 u 7 _ 132 (.int .i64 se) hu5
      obtain ⟨w6, hw6⟩ : ∃ w6, w6 = w5.setCell ⟨u, 7, none⟩ (.int .i64 se) := ⟨_, rfl⟩
      have hwr : Wr u w5 w6 := by rw [hw6]; exact (Wr.refl u w5).set 7 _
      rw [← hw6] at h7
      replace h7 : w6.heap[u]? = some (.cells #[.string (B x), .string (B c.data), .int .i64 zx, .int .i64 zx, .int .i64 zx, .int .i64 0, .int .i64 0, .int .i64 se, .int .i64 0] 132 (0, 0)) := h7
      have HU6 := Lib.hid h7
      have HT6 : Hid (TreeW w6 tp mb T) := Lib.hid (HPL.out.tree.gb hwr.gb (ne_cell HPL.out.tree.here hu5 (by decide)) (Ne.symm (HPL.out.tree.map.ne_cells hu5)))
      have HS6 := Lib.hid (gb_cells hwr.gb HSU.out HS.out)
      have HB6 : Hid (Below w.heap.size w w6) := Lib.hid (HPL.out.below.trans (hwr.below.mono (by rw [EU.out]; exact HB4.out)))
      have u0 := cell_of hu5 (j := 0) rfl
      have u1 := cell_of hu5 (j := 1) rfl
      have u2 := cell_of hu5 (j := 2) rfl
      have u3 := cell_of hu5 (j := 3) rfl
      have u4 := cell_of hu5 (j := 4) rfl
      have u5 := cell_of hu5 (j := 5) rfl
      have u6 := cell_of hu5 (j := 6) rfl
      have u7 := cell_of hu5 (j := 7) rfl
      have u8 := cell_of hu5 (j := 8) rfl
      have uf := frozen_of_row w5 u 7 _ _ hu5
      have HW6 := Lib.hid hw6
      clear hu5 h7 hw6 hwr
      go_upto_region 7 with fail
      rw [← HW6.out]
      clear q4 hep uf u0 u1 u2 u3 u4 u5 u6 u7 u8
      have h6 := HT6.out
      obtain ⟨w7, hrun, hm7, hg7⟩ := store_nd h6.map.drew HG.out.srt M (by rw [HMP.out]; have := HXL.out; unfold maxLen; omega) (by have := HLT.out; omega)
      have ht7 := h6.put (gb_trans gb_drew hg7) hm7
      have hs7 := gb_cells (gb_trans gb_drew hg7) (h6.map.ne_cells HS6.out) HS6.out
      have HM := Lib.hid (more_any p.nx HPI.out.nx)
      obtain ⟨U, hU⟩ : ∃ U, up p.nx = U := ⟨_, rfl⟩
      rw [hU] at HM
      have hs8 := heap_setCell_same w7 s 8 _ 132 (.int .i64 U) hs7
      obtain ⟨w8, hw8⟩ : ∃ w8, w8 = w7.setCell ⟨s, 8, none⟩ (.int .i64 U) := ⟨_, rfl⟩
      have hwr8 : Wr s w7 w8 := by rw [hw8]; exact (Wr.refl s w7).set 8 _
      rw [← hw8] at hs8
      replace hs8 : w8.heap[s]? = some (.cells #[.string (B p.path), .string (B p.data), .int .i64 p.cr, .int .i64 p.ch, .int .i64 p.kd, .int .i64 p.ver, .int .i64 p.ks, .int .i64 p.own, .int .i64 U] 132 (0, 0)) := hs8
      have ht8 := ht7.gb hwr8.gb (ne_cell ht7.here hs7 (by decide)) (Ne.symm (ht7.map.ne_cells hs7))
      have hl1 : (put T M).length < 1000 := by rw [put_len_new (by rw [HMP.out]; exact HFR.out)]; have := HLT.out; omega
      have HTC := Lib.hid (touch_any ht8 (put_srt HG.out.srt M) hl1 ⟨p.path, p.data, p.cr, p.ch, p.kd, p.ver, p.ks, p.own, U⟩ HPI.out.ks (by have := HPL2.out; unfold maxLen; dsimp only; omega) zx 1 x)
      have HUT : Hid (tz ⟨p.path, p.data, p.cr, p.ch, p.kd, p.ver, p.ks, p.own, U⟩ zx = touched p zx true) := Lib.hid (by rw [← hU]; rfl)
      dsimp only at HTC hrun
      have HG8 := Lib.hid (gb_wr (gb_trans (gb_below HB6.out (some mb)) (gb_trans gb_drew hg7)) hwr8 HSW.out)
      have d0 := cell_of h6.here (j := 0) rfl
      have hu6 := HU6.out
      have u0 := cell_of hu6 (j := 0) rfl
      have u1 := cell_of hu6 (j := 1) rfl
      have u2 := cell_of hu6 (j := 2) rfl
      have u3 := cell_of hu6 (j := 3) rfl
      have u4 := cell_of hu6 (j := 4) rfl
      have u5 := cell_of hu6 (j := 5) rfl
      have u6 := cell_of hu6 (j := 6) rfl
      have u7 := cell_of hu6 (j := 7) rfl
      have u8 := cell_of hu6 (j := 8) rfl
      have s0 := cell_of hs7 (j := 0) rfl
      have s1 := cell_of hs7 (j := 1) rfl
      have s2 := cell_of hs7 (j := 2) rfl
      have s3 := cell_of hs7 (j := 3) rfl
      have s4 := cell_of hs7 (j := 4) rfl
      have s5 := cell_of hs7 (j := 5) rfl
      have s6 := cell_of hs7 (j := 6) rfl
      have s7 := cell_of hs7 (j := 7) rfl
      have s8 := cell_of hs7 (j := 8) rfl
      have r0 := cell_of hs8 (j := 0) rfl
      have r1 := cell_of hs8 (j := 1) rfl
      have r2 := cell_of hs8 (j := 2) rfl
      have r3 := cell_of hs8 (j := 3) rfl
      have r4 := cell_of hs8 (j := 4) rfl
      have r5 := cell_of hs8 (j := 5) rfl
      have r6 := cell_of hs8 (j := 6) rfl
      have r7 := cell_of hs8 (j := 7) rfl
      have r8 := cell_of hs8 (j := 8) rfl
      have sf := frozen_of_row w7 s 8 _ _ hs7
      have HW8 := Lib.hid hw8
      rw [HMD.out] at hrun
      dsimp only at hrun
      clear h6 hm7 hg7 ht7 hs7 hU hs8 hw8 hwr8 ht8 hl1 hu6
      go_still_tail 6, (by kernel_rfl)
      change wpList _ _ _ _ _ w6.drew
      go_wp2_with fail
      refine (HM.out _).mono ?_
      rintro e w2 ⟨rfl, rfl⟩
      go_upto_region 9 with fail
      rw [← HW8.out]
      go_wp2_with fail
      refine HTC.out.mono ?_
      rintro e w9 ⟨v, rfl, ht9, hg9, hrow9⟩
      rw [HUT.out] at ht9
      have HE := Lib.hid (create_end (zx := zx) (se := se) HPP.out HGP.out HV.out (by rw [HMD2.out]; exact ht9) (gb_trans HG8.out hg9) HG8.out.size hrow9)
      clear ht9 hg9 hrow9
      go_wp2_with fail
      go_ret3
      exact HE.out
    · have hep' : c.eph = false := by simpa using hep
      have HMD : Hid (M = ⟨x, c.data, zx, zx, zx, 0, 0, 0, 0⟩) := Lib.hid (by rw [← HMD2.out]; unfold made; rw [hep']; rfl)
      have HU6 := HU
      have HT6 : Hid (TreeW w5 tp mb T) := Lib.hid HPL.out.tree
      have HS6 := HS
      have HB6 : Hid (Below w.heap.size w w5) := Lib.hid HPL.out.below
      clear hep
      go_upto_region 7 with fail
      clear q4 hep'
      have h6 := HT6.out
      obtain ⟨w7, hrun, hm7, hg7⟩ := store_nd h6.map.drew HG.out.srt M (by rw [HMP.out]; have := HXL.out; unfold maxLen; omega) (by have := HLT.out; omega)
      have ht7 := h6.put (gb_trans gb_drew hg7) hm7
      have hs7 := gb_cells (gb_trans gb_drew hg7) (h6.map.ne_cells HS6.out) HS6.out
      have HM := Lib.hid (more_any p.nx HPI.out.nx)
      obtain ⟨U, hU⟩ : ∃ U, up p.nx = U := ⟨_, rfl⟩
      rw [hU] at HM
      have hs8 := heap_setCell_same w7 s 8 _ 132 (.int .i64 U) hs7
      obtain ⟨w8, hw8⟩ : ∃ w8, w8 = w7.setCell ⟨s, 8, none⟩ (.int .i64 U) := ⟨_, rfl⟩
      have hwr8 : Wr s w7 w8 := by rw [hw8]; exact (Wr.refl s w7).set 8 _
      rw [← hw8] at hs8
      replace hs8 : w8.heap[s]? = some (.cells #[.string (B p.path), .string (B p.data), .int .i64 p.cr, .int .i64 p.ch, .int .i64 p.kd, .int .i64 p.ver, .int .i64 p.ks, .int .i64 p.own, .int .i64 U] 132 (0, 0)) := hs8
      have ht8 := ht7.gb hwr8.gb (ne_cell ht7.here hs7 (by decide)) (Ne.symm (ht7.map.ne_cells hs7))
      have hl1 : (put T M).length < 1000 := by rw [put_len_new (by rw [HMP.out]; exact HFR.out)]; have := HLT.out; omega
      have HTC := Lib.hid (touch_any ht8 (put_srt HG.out.srt M) hl1 ⟨p.path, p.data, p.cr, p.ch, p.kd, p.ver, p.ks, p.own, U⟩ HPI.out.ks (by have := HPL2.out; unfold maxLen; dsimp only; omega) zx 1 x)
      have HUT : Hid (tz ⟨p.path, p.data, p.cr, p.ch, p.kd, p.ver, p.ks, p.own, U⟩ zx = touched p zx true) := Lib.hid (by rw [← hU]; rfl)
      dsimp only at HTC hrun
      have HG8 := Lib.hid (gb_wr (gb_trans (gb_below HB6.out (some mb)) (gb_trans gb_drew hg7)) hwr8 HSW.out)
      have d0 := cell_of h6.here (j := 0) rfl
      have hu6 := HU6.out
      have u0 := cell_of hu6 (j := 0) rfl
      have u1 := cell_of hu6 (j := 1) rfl
      have u2 := cell_of hu6 (j := 2) rfl
      have u3 := cell_of hu6 (j := 3) rfl
      have u4 := cell_of hu6 (j := 4) rfl
      have u5 := cell_of hu6 (j := 5) rfl
      have u6 := cell_of hu6 (j := 6) rfl
      have u7 := cell_of hu6 (j := 7) rfl
      have u8 := cell_of hu6 (j := 8) rfl
      have s0 := cell_of hs7 (j := 0) rfl
      have s1 := cell_of hs7 (j := 1) rfl
      have s2 := cell_of hs7 (j := 2) rfl
      have s3 := cell_of hs7 (j := 3) rfl
      have s4 := cell_of hs7 (j := 4) rfl
      have s5 := cell_of hs7 (j := 5) rfl
      have s6 := cell_of hs7 (j := 6) rfl
      have s7 := cell_of hs7 (j := 7) rfl
      have s8 := cell_of hs7 (j := 8) rfl
      have r0 := cell_of hs8 (j := 0) rfl
      have r1 := cell_of hs8 (j := 1) rfl
      have r2 := cell_of hs8 (j := 2) rfl
      have r3 := cell_of hs8 (j := 3) rfl
      have r4 := cell_of hs8 (j := 4) rfl
      have r5 := cell_of hs8 (j := 5) rfl
      have r6 := cell_of hs8 (j := 6) rfl
      have r7 := cell_of hs8 (j := 7) rfl
      have r8 := cell_of hs8 (j := 8) rfl
      have sf := frozen_of_row w7 s 8 _ _ hs7
      have HW8 := Lib.hid hw8
      rw [HMD.out] at hrun
      dsimp only at hrun
      clear h6 hm7 hg7 ht7 hs7 hU hs8 hw8 hwr8 ht8 hl1 hu6
      go_still_tail 6, (by kernel_rfl)
      change wpList _ _ _ _ _ w5.drew
      go_wp2_with fail
      refine (HM.out _).mono ?_
      rintro e w2 ⟨rfl, rfl⟩
      go_upto_region 9 with fail
      rw [← HW8.out]
      go_wp2_with fail
      refine HTC.out.mono ?_
      rintro e w9 ⟨v, rfl, ht9, hg9, hrow9⟩
      rw [HUT.out] at ht9
      have HE := Lib.hid (create_end (zx := zx) (se := se) HPP.out HGP.out HV.out (by rw [HMD2.out]; exact ht9) (gb_trans HG8.out hg9) HG8.out.size hrow9)
      clear ht9 hg9 hrow9
      go_wp2_with fail
      go_ret3
      exact HE.out
  · have HE := Lib.hid (ch_fail (tp := tp) (mb := mb) (S := create T zx se c) (k := k) (by unfold create; rw [HK.out, if_pos hk0]) hk0 HPL.out.below)
    have hk1 : (k != 0) = true := by simpa using hk0
    clear hk0
    go_wp2_with fail
    go_ret3
    exact HE.out
end Go.Proofs.YtflgemlhocjipaaGreatDoor
namespace Go.Proofs.YtflgemlhocjipaaGreatDoor
set_option maxRecDepth 100000
open Go.ChangeShapes Go.WideShapes Go.ChangeAt Go.RowKit Go.Proofs.Zn Go.Proofs.Zt

/-- What a SetTo does. -/
def setS (T : Tr) (zx : Int) (c : Chg) : Stp :=
  if 1024 < c.data.length then fails 87 else
  if askedE T c ≠ 0 then fails (askedE T c) else ⟨put T (setd (askedZ T c) c.data zx), c.path, [⟨0, 3, c.path⟩], 0⟩
theorem asked_ok {T : Tr} {c : Chg} {z : Nd} (h : askedE T c = 0) (hz : askedZ T c = z) : get T c.path = some z := by
  unfold askedZ at hz
  rw [if_pos h] at hz
  unfold askedE at h
  cases hg : get T c.path with
  | none => rw [hg] at h; cases h
  | some y => rw [hg] at hz; exact congrArg some hz
theorem set_end {w w7 : World} {tp mb : Nat} {T : Tr} {zx : Int} {c : Chg} {z : Nd} (hd : ¬ 1024 < c.data.length) (h : askedE T c = 0) (hz : askedZ T c = z) (hp : z.path = c.path)
    (ht : TreeW w7 tp mb (put T (setd z c.data zx))) (hg : w.grownBy w7 (some mb)) (hs : w.heap.size ≤ w7.heap.size) :
    ChPost tp mb (setS T zx c) w (.returned (.tuple #[.string (B z.path), .slice (some ⟨w7.heap.size, 0, none⟩) 1 1, .int .i64 0])) ((w7.alloc (.cells #[.int .i64 0, .int .i64 3, .string (B z.path)] 165)).drew) := by
  unfold setS
  rw [if_neg hd, if_neg (by rw [h]; simp), hz]
  refine ⟨_, by rw [hp], gb_trans hg (gb_trans (gb_below (box_below w7 _) _) gb_drew), fun _ => ⟨(ht.below (box_below w7 _)).below ((Below.refl _ _).drew), ?_⟩⟩
  have := own_new (base := w.heap.size) (sz := 3) (n := 1) (new_block w7 (.cells #[.int .i64 0, .int .i64 3, .string (B z.path)] 165)) hs (by unfold maxLen; omega) rfl
  rw [hp] at this ⊢
  exact this
set_option maxHeartbeats 4000000 in
theorem set_any {w : World} {tp mb : Nat} {T : Tr} (h : TreeW w tp mb T) (hg : Zt.Good T) (zx : Int) (c : Chg) (hv : valid c.path = true) :
    Calls Tryz.prog 122 #[.pointer (some ⟨tp, 0, none⟩), .int .i64 zx, .agg #[.int .i64 c.kind, .string (B c.path), .string (B c.data), .int .i64 c.ver, .bool c.eph, .bool c.sq]] w (ChPost tp mb (setS T zx c) w) := by
  obtain ⟨w1, hw1⟩ : ∃ w1, w1 = w.alloc (.cells #[.int .i64 c.kind, .string (B c.path), .string (B c.data), .int .i64 c.ver, .bool c.eph, .bool c.sq] 79) := ⟨_, rfl⟩
  obtain ⟨q, eq⟩ : ∃ q, q = w.heap.size := ⟨_, rfl⟩
  have hb1 : Below w.heap.size w w1 := by rw [hw1]; exact box_below w _
  have hq : w1.heap[q]? = some (.cells #[.int .i64 c.kind, .string (B c.path), .string (B c.data), .int .i64 c.ver, .bool c.eph, .bool c.sq] 79 (0, 0)) := by rw [hw1, eq]; exact new_block w _
  have HPL : Hid (Cq w q tp mb T c w1) := Lib.hid ⟨hb1, h.below hb1, hq⟩
  have HPC := Lib.hid (asked_any (h.below hb1) c (by have := len_le hv; unfold maxLen; omega))
  obtain ⟨k, hk⟩ : ∃ k, askedE T c = k := ⟨_, rfl⟩
  obtain ⟨p, hp⟩ : ∃ p, askedZ T c = p := ⟨_, rfl⟩
  rw [hk, hp] at HPC
  unfold ndv at HPC
  have HK := Lib.hid hk
  have HP := Lib.hid hp
  have HW1 := Lib.hid hw1
  have EQ := Lib.hid eq
  have HG := Lib.hid hg
  have q0 := cell_of hq (j := 0) rfl
  have q1 := cell_of hq (j := 1) rfl
  have q2 := cell_of hq (j := 2) rfl
  have q3 := cell_of hq (j := 3) rfl
  have q4 := cell_of hq (j := 4) rfl
  have q5 := cell_of hq (j := 5) rfl
  clear h hg hw1 eq hb1 hq hk hp
  go_enter Tryz.func122, Tryz.ntmps122
  go_upto_region 1 with fail
  rw [← HW1.out, ← EQ.out]
  by_cases hd : 1024 < c.data.length
  · have hd' : (1024 : Int) < (c.data.length : Int) := by omega
    have HE := Lib.hid (ch_fail (tp := tp) (mb := mb) (S := setS T zx c) (k := 87) (by unfold setS; rw [if_pos hd]) (by decide) HPL.out.below)
    clear hd
    go_wp2_with fail
    go_ret3
    exact HE.out
  have hd' : ¬ (1024 : Int) < (c.data.length : Int) := by omega
  have HD := Lib.hid hd
  clear hd
  go_wp2_with fail
  refine HPC.out.mono ?_
  rintro e w2 ⟨rfl, hb2⟩
  have HPL2 := Lib.hid (HPL.out.go hb2)
  obtain ⟨w3, hw3⟩ : ∃ w3, w3 = w2.alloc (.cells #[.string (B p.path), .string (B p.data), .int .i64 p.cr, .int .i64 p.ch, .int .i64 p.kd, .int .i64 p.ver, .int .i64 p.ks, .int .i64 p.own, .int .i64 p.nx] 132) := ⟨_, rfl⟩
  obtain ⟨s, es⟩ : ∃ s, s = w2.heap.size := ⟨_, rfl⟩
  have hb3 : Below w2.heap.size w2 w3 := by rw [hw3]; exact box_below w2 _
  have hs : w3.heap[s]? = some (.cells #[.string (B p.path), .string (B p.data), .int .i64 p.cr, .int .i64 p.ch, .int .i64 p.kd, .int .i64 p.ver, .int .i64 p.ks, .int .i64 p.own, .int .i64 p.nx] 132 (0, 0)) := by rw [hw3, es]; exact new_block w2 _
  have HPL3 := Lib.hid (HPL2.out.go hb3)
  have HSZ2 := Lib.hid HPL2.out.below.size
  clear HPL HPL2
  have HPL := HPL3
  have HW3 := Lib.hid hw3
  have ES := Lib.hid es
  have HS := Lib.hid hs
  clear HPL3 hb2 hb3 hw3 es hs q0 q1 q2 q3 q4 q5
  go_upto_region 4 with fail
  rw [← HW3.out, ← ES.out]
  by_cases hk0 : k = 0
  · subst hk0
    have hgp := asked_ok HK.out HP.out
    have HGP := Lib.hid hgp
    have HPI : Hid (NdOk p) := Lib.hid (HG.out.each p (get_some hgp).1)
    have HPP : Hid (p.path = c.path) := Lib.hid (get_some hgp).2
    have HC := Lib.hid (clone_any (B c.data) w3 (by rw [lenB]; have := HD.out; omega))
    have hq := HPL.out.bq
    have q2 := cell_of hq (j := 2) rfl
    clear hq hgp
    go_wp2_with fail
    refine HC.out.mono ?_
    rintro e w4 ⟨rfl, hb4⟩
    have HPL4 := Lib.hid (HPL.out.go hb4)
    have hs4 := blk_below HS.out hb4
    clear HPL HS hb4 q2
    obtain ⟨U, hU⟩ : ∃ U, up p.ver = U := ⟨_, rfl⟩
    have HM := Lib.hid (more_any p.ver HPI.out.ver)
    rw [hU] at HM
    have hx1 := heap_setCell_same w4 s 1 _ 132 (.string (B c.data)) hs4
    have hx2 := heap_setCell_same _ s 3 _ 132 (.int .i64 zx) hx1
    have hx3 := heap_setCell_same _ s 5 _ 132 (.int .i64 U) hx2
    obtain ⟨w5, hw5⟩ : ∃ w5, w5 = (w4.setCell ⟨s, 1, none⟩ (.string (B c.data))).setCell ⟨s, 3, none⟩ (.int .i64 zx) := ⟨_, rfl⟩
    rw [← hw5] at hx2 hx3
    obtain ⟨w6, hw6⟩ : ∃ w6, w6 = w5.setCell ⟨s, 5, none⟩ (.int .i64 U) := ⟨_, rfl⟩
    have hwr : Wr s w4 w6 := by rw [hw6, hw5]; exact (((Wr.refl s w4).set 1 _).set 3 _).set 5 _
    rw [← hw6] at hx3
    replace hx2 : w5.heap[s]? = some (.cells #[.string (B p.path), .string (B c.data), .int .i64 p.cr, .int .i64 zx, .int .i64 p.kd, .int .i64 p.ver, .int .i64 p.ks, .int .i64 p.own, .int .i64 p.nx] 132 (0, 0)) := hx2
    replace hx3 : w6.heap[s]? = some (.cells #[.string (B p.path), .string (B c.data), .int .i64 p.cr, .int .i64 zx, .int .i64 p.kd, .int .i64 U, .int .i64 p.ks, .int .i64 p.own, .int .i64 p.nx] 132 (0, 0)) := hx3
    have ht6 := HPL4.out.tree.gb hwr.gb (ne_cell HPL4.out.tree.here hs4 (by decide)) (Ne.symm (HPL4.out.tree.map.ne_cells hs4))
    obtain ⟨w7, hrun, hm7, hg7⟩ := store_nd ht6.map.drew HG.out.srt ⟨p.path, c.data, p.cr, zx, p.kd, U, p.ks, p.own, p.nx⟩ (by have := len_le HPI.out.path; unfold maxLen; dsimp only; omega) (by have := HG.out.len; omega)
    have ht7 := ht6.put (gb_trans gb_drew hg7) hm7
    have hs7 := gb_cells (gb_trans gb_drew hg7) (ht6.map.ne_cells hx3) hx3
    have hg := gb_trans (gb_wr (gb_below HPL4.out.below (some mb)) hwr (by rw [ES.out]; exact HSZ2.out)) (gb_trans gb_drew hg7)
    have HE := Lib.hid (set_end (zx := zx) HD.out HK.out HP.out HPP.out (by unfold setd; rw [hU]; exact ht7) hg hg.size)
    dsimp only at hrun
    have a0 := cell_of hs4 (j := 0) rfl
    have a1 := cell_of hs4 (j := 1) rfl
    have a2 := cell_of hs4 (j := 2) rfl
    have a3 := cell_of hs4 (j := 3) rfl
    have a4 := cell_of hs4 (j := 4) rfl
    have a5 := cell_of hs4 (j := 5) rfl
    have a6 := cell_of hs4 (j := 6) rfl
    have a7 := cell_of hs4 (j := 7) rfl
    have a8 := cell_of hs4 (j := 8) rfl
    have af0 := frozen_of_row w4 _ 0 _ _ hs4
    have af1 := frozen_of_row w4 _ 1 _ _ hs4
    have af2 := frozen_of_row w4 _ 2 _ _ hs4
    have af3 := frozen_of_row w4 _ 3 _ _ hs4
    have af4 := frozen_of_row w4 _ 4 _ _ hs4
    have af5 := frozen_of_row w4 _ 5 _ _ hs4
    have af6 := frozen_of_row w4 _ 6 _ _ hs4
    have af7 := frozen_of_row w4 _ 7 _ _ hs4
    have af8 := frozen_of_row w4 _ 8 _ _ hs4
    have b0 := cell_of hx2 (j := 0) rfl
    have b1 := cell_of hx2 (j := 1) rfl
    have b2 := cell_of hx2 (j := 2) rfl
    have b3 := cell_of hx2 (j := 3) rfl
    have b4 := cell_of hx2 (j := 4) rfl
    have b5 := cell_of hx2 (j := 5) rfl
    have b6 := cell_of hx2 (j := 6) rfl
    have b7 := cell_of hx2 (j := 7) rfl
    have b8 := cell_of hx2 (j := 8) rfl
    have bf0 := frozen_of_row w5 _ 0 _ _ hx2
    have bf1 := frozen_of_row w5 _ 1 _ _ hx2
    have bf2 := frozen_of_row w5 _ 2 _ _ hx2
    have bf3 := frozen_of_row w5 _ 3 _ _ hx2
    have bf4 := frozen_of_row w5 _ 4 _ _ hx2
    have bf5 := frozen_of_row w5 _ 5 _ _ hx2
    have bf6 := frozen_of_row w5 _ 6 _ _ hx2
    have bf7 := frozen_of_row w5 _ 7 _ _ hx2
    have bf8 := frozen_of_row w5 _ 8 _ _ hx2
    have s0 := cell_of hx3 (j := 0) rfl
    have s1 := cell_of hx3 (j := 1) rfl
    have s2 := cell_of hx3 (j := 2) rfl
    have s3 := cell_of hx3 (j := 3) rfl
    have s4 := cell_of hx3 (j := 4) rfl
    have s5 := cell_of hx3 (j := 5) rfl
    have s6 := cell_of hx3 (j := 6) rfl
    have s7 := cell_of hx3 (j := 7) rfl
    have s8 := cell_of hx3 (j := 8) rfl
    have d0 := cell_of hs7 (j := 0) rfl
    have d1 := cell_of hs7 (j := 1) rfl
    have d2 := cell_of hs7 (j := 2) rfl
    have d3 := cell_of hs7 (j := 3) rfl
    have d4 := cell_of hs7 (j := 4) rfl
    have d5 := cell_of hs7 (j := 5) rfl
    have d6 := cell_of hs7 (j := 6) rfl
    have d7 := cell_of hs7 (j := 7) rfl
    have d8 := cell_of hs7 (j := 8) rfl
    have e0 := cell_of (blk_alloc hs7 (.cells #[.int .i64 0, .int .i64 3, .string (B p.path)] 165)) (j := 0) rfl
    have t0 := cell_of ht6.here (j := 0) rfl
    have HW5 := Lib.hid hw5
    have HW6 := Lib.hid hw6
    clear hs4 hU hx1 hx2 hx3 hw5 hw6 hwr ht6 hm7 hg7 ht7 hs7 hg
    go_upto_region 8 with fail
    rw [← HW5.out]
    go_wp2_with fail
    refine (HM.out _).mono ?_
    rintro e w2 ⟨rfl, rfl⟩
    go_upto_region 9 with fail
    rw [← HW6.out]
    go_still_tail 7, (by kernel_rfl)
    change wpList _ _ _ _ _ w6.drew
    go_wp2_with fail
    go_region
    go_wp2_with fail
    go_ret3
    exact HE.out
  · have HE := Lib.hid (ch_fail (tp := tp) (mb := mb) (S := setS T zx c) (k := k) (by unfold setS; rw [if_neg HD.out, HK.out, if_pos hk0]) hk0 HPL.out.below)
    have hk1 : (k != 0) = true := by simpa using hk0
    clear hk0
    go_wp2_with fail
    go_ret3
    exact HE.out
end Go.Proofs.YtflgemlhocjipaaGreatDoor
