/-
  What the program's Load returns: the tree of a list, or why there is none. Condition: no path is longer than memory bears.
-/
import Derived.Test.YtflgemlhocjipaaGreatDoorLoadP
import Derived.Carry
import Derived.Test.YtflgemlhocjipaaGreatDoorTree3
namespace Go.Proofs.YtflgemlhocjipaaGreatDoor
set_option maxRecDepth 100000
open Go.ChangeShapes Go.WideShapes Go.ChangeAt Go.RowKit Go.Proofs.Zn Go.Proofs.Zt

def LoPost (l : Tr) (w : World) (e : Ending) (w' : World) : Prop := Below w.heap.size w w' ∧ ((chk l ≠ 0 ∧ e = .returned (.tuple #[.pointer none, .int .i64 (chk l)])) ∨ (chk l = 0 ∧ ∃ tp mb, e = .returned (.tuple #[.pointer (some ⟨tp, 0, none⟩), .int .i64 0]) ∧ TreeW w' tp mb l ∧ w.heap.size ≤ tp))
theorem lo_fail {l : Tr} {w w' : World} {r : Int} (h : chk l = r) (hr : r ≠ 0) (hb : Below w.heap.size w w') : LoPost l w (.returned (.tuple #[.pointer none, .int .i64 r])) w' := ⟨hb, .inl (by rw [h]; exact ⟨hr, rfl⟩)⟩
def lastP (l : Tr) (k : Nat) : Txt := match (l.take k).getLast? with
  | none => []
  | some z => z.path
theorem lastP_succ {l : Tr} {k : Nat} {z : Nd} (hz : l[k]? = some z) : lastP l (k + 1) = z.path := by
  obtain ⟨hk, rfl⟩ := List.getElem?_eq_some_iff.1 hz
  unfold lastP
  rw [List.take_succ_eq_append_getElem hk, List.getLast?_append]
  rfl
theorem lastP_le (l : Tr) (k : Nat) (z : Nd) (hv : valid z.path = true) : (!decide (lastP l k < z.path)) = lastLe (l.take k) z := by
  unfold lastP lastLe
  cases (l.take k).getLast? with
  | none =>
    have : ([] : Txt) < z.path := by
      cases hp : z.path with
      | nil => rw [hp] at hv; exact absurd hv (by decide)
      | cons a b => exact List.nil_lt_cons a b
    simp [this]
  | some y => rfl
theorem pre_get {T : Tr} (h : Pre T) : get T [] = none := get_none.2 (fun z hz e => by have := (h.each z hz).path; rw [e] at this; exact absurd this (by decide))
set_option maxHeartbeats 8000000 in
theorem load_any {w : World} {A : Option Addr} {n c : Nat} {l : Tr} (h : Rd ncell 9 w A n l) (hn : n ≤ 1000000) (hp : ∀ z ∈ l, z.path.length ≤ 140737488355328) : Calls Tryz.prog 104 #[.slice A n c] w (LoPost l w) := by
  obtain ⟨r, hr⟩ : ∃ r, chk l = r := ⟨_, rfl⟩
  have HRR := Lib.hid hr
  have HR := Lib.hid h
  have HP := Lib.hid hp
  by_cases hn0 : n = 0
  · subst hn0
    have HE : Hid (LoPost l w (.returned (.tuple #[.pointer none, .int .i64 80])) w) := Lib.hid (lo_fail (by rw [List.eq_nil_of_length_eq_zero h.len]; rfl) (by decide) (Below.refl _ _))
    clear h hp hr
    go_enter Tryz.func104, Tryz.ntmps104
    go_wp2_with fail
    go_ret2
    exact HE.out
  obtain ⟨b, off, z, rfl, hz, hcell⟩ := h.at (k := 0) (by omega)
  have a0 : w.cell? ⟨b, off, none⟩ = some (.string (B z.path)) := by have := hcell 0 _ rfl; simpa using this
  obtain ⟨t, ht⟩ : ∃ t, (z.path == [47]) = t := ⟨_, rfl⟩
  have ht2 : (z.path != [47]) = !t := by rw [← ht]; rfl
  have HH : Hid (headB l = t) := Lib.hid (by
    cases l with
    | nil => cases hz
    | cons x y => simp at hz; subst hz; exact ht)
  have hpos : 0 < n := by omega
  have HN := Lib.hid hn
  clear h hp hr hz hcell hn0
  cases t with
  | false =>
    have HE : Hid (LoPost l w (.returned (.tuple #[.pointer none, .int .i64 80])) w) := Lib.hid (lo_fail (by unfold chk; rw [if_pos HH.out]) (by decide) (Below.refl _ _))
    go_enter Tryz.func104, Tryz.ntmps104
    go_wp2_with fail
    go_ret2
    exact HE.out
  | true =>
    by_cases h200 : 200 < n
    · have HE : Hid (LoPost l w (.returned (.tuple #[.pointer none, .int .i64 86])) w) := Lib.hid (lo_fail (by unfold chk; rw [if_neg (by rw [HH.out]; simp), if_pos (by rw [HR.out.len]; exact h200)]) (by decide) (Below.refl _ _))
      have h200' : (200 : Int) < (n : Int) := by omega
      clear h200
      go_enter Tryz.func104, Tryz.ntmps104
      go_wp2_with fail
      go_ret2
      exact HE.out
    have h200' : ¬ (200 : Int) < (n : Int) := by omega
    have HGO : Hid (chk l = chkGo (l.take 0) (l.drop 0)) := Lib.hid (by unfold chk; rw [if_neg (by rw [HH.out]; simp), if_neg (by rw [HR.out.len]; exact h200), List.take_zero, List.drop_zero])
    have H200 := Lib.hid h200
    clear h200
    obtain ⟨mb, emb⟩ : ∃ q, q = w.heap.size := ⟨_, rfl⟩
    obtain ⟨w1, hw1⟩ : ∃ w1, w1 = w.alloc (.map #[] 0) := ⟨_, rfl⟩
    have hb1 : Below w.heap.size w w1 := by rw [hw1]; exact box_below w _
    have h0 : MapT w1 mb [] := by rw [hw1, emb]; exact World.ownsMap_made w Tryz.prog 9 ndR
    obtain ⟨w2, hw2⟩ : ∃ w2, w2 = w1.alloc (.cells #[.map (some mb)] 155) := ⟨_, rfl⟩
    obtain ⟨tp, etp⟩ : ∃ q, q = mb + 1 := ⟨_, rfl⟩
    have hs1 : w1.heap.size = tp := by rw [hw1, etp, emb]; simp
    have hb2 : Below w1.heap.size w1 w2 := by rw [hw2]; exact box_below w1 _
    have HT2 : Hid (TreeW w2 tp mb (l.take 0)) := Lib.hid ⟨by rw [hw2, ← hs1]; exact new_block w1 _, by rw [List.take_zero]; exact h0.below hb2⟩
    have HB2 := Lib.hid (hb1.trans (hb2.mono hb1.size))
    have HTP : Hid (w.heap.size ≤ tp) := Lib.hid (by rw [← hs1]; exact hb1.size)
    have HW1 := Lib.hid hw1
    have HW2 := Lib.hid hw2
    have EMB := Lib.hid emb
    have ETP := Lib.hid etp
    clear hw1 hw2 emb etp hs1 hb1 hb2 h0
    have hmm := @run_makeMap Tryz.prog
    go_enter Tryz.func104, Tryz.ntmps104
    go_upto_region 6 with fail
    rw [← EMB.out, ← HW1.out, ← HW2.out, ← ETP.out]
    go_wp2_with fail
    clear a0 ht ht2 hmm
    go_loopw [5, 27] (fun a i wr => ∃ k : Nat, k ≤ n ∧ i = .int .i64 k ∧ a = .string (B (lastP l k)) ∧ Hid (TreeW wr tp mb (l.take k)) ∧ Hid (Pre (l.take k)) ∧ Hid (chk l = chkGo (l.take k) (l.drop k)) ∧ Hid (Below w.heap.size w wr)) (fun _ i _ => n - (intOf i).toNat)
    case atStart => exact ⟨0, Nat.zero_le _, rfl, rfl, HT2, Lib.hid (by rw [List.take_zero]; exact pre_nil), HGO, HB2⟩
    case round =>
      obtain ⟨k, hk, rfl, rfl, HT, HPR, HG, HX⟩ := hrel
      have hn := HN.out
      by_cases hlt : k < n
      · obtain ⟨b, off, z, e1, hz, hc⟩ := (HR.out.below HX.out).at hlt
        injection e1 with e1
        injection e1 with e1 e2 _
        subst e1 e2
        have HZK := Lib.hid hz
        have HPZ := Lib.hid (HP.out z (List.mem_of_getElem? hz))
        have a0 : wr.cell? ⟨b, off + k * 9, none⟩ = some (.string (B z.path)) := hc 0 _ rfl
        have a1 : wr.cell? ⟨b, off + k * 9 + 1, none⟩ = some (.string (B z.data)) := hc 1 _ rfl
        have a2 : wr.cell? ⟨b, off + k * 9 + 2, none⟩ = some (.int .i64 z.cr) := hc 2 _ rfl
        have a3 : wr.cell? ⟨b, off + k * 9 + 3, none⟩ = some (.int .i64 z.ch) := hc 3 _ rfl
        have a4 : wr.cell? ⟨b, off + k * 9 + 4, none⟩ = some (.int .i64 z.kd) := hc 4 _ rfl
        have a5 : wr.cell? ⟨b, off + k * 9 + 5, none⟩ = some (.int .i64 z.ver) := hc 5 _ rfl
        have a6 : wr.cell? ⟨b, off + k * 9 + 6, none⟩ = some (.int .i64 z.ks) := hc 6 _ rfl
        have a7 : wr.cell? ⟨b, off + k * 9 + 7, none⟩ = some (.int .i64 z.own) := hc 7 _ rfl
        have a8 : wr.cell? ⟨b, off + k * 9 + 8, none⟩ = some (.int .i64 z.nx) := hc 8 _ rfl
        obtain ⟨w3, hw3⟩ : ∃ w3, w3 = wr.alloc (.cells #[.string (B z.path), .string (B z.data), .int .i64 z.cr, .int .i64 z.ch, .int .i64 z.kd, .int .i64 z.ver, .int .i64 z.ks, .int .i64 z.own, .int .i64 z.nx] 132) := ⟨_, rfl⟩
        obtain ⟨q, eq⟩ : ∃ q, q = wr.heap.size := ⟨_, rfl⟩
        have hb3 : Below wr.heap.size wr w3 := by rw [hw3]; exact box_below wr _
        have hq3 : w3.heap[q]? = some (.cells #[.string (B z.path), .string (B z.data), .int .i64 z.cr, .int .i64 z.ch, .int .i64 z.kd, .int .i64 z.ver, .int .i64 z.ks, .int .i64 z.own, .int .i64 z.nx] 132 (0, 0)) := by rw [hw3, eq]; exact new_block wr _
        have HB3 := Lib.hid hb3
        have HQ3 := Lib.hid hq3
        have HAM := Lib.hid (amiss_any (HT.out.below hb3) (pre_get HPR.out) (lastP l k) z HPZ.out (lastP_le l k z))
        obtain ⟨ee, hee⟩ : ∃ x, chk1 (l.take k) z = x := ⟨_, rfl⟩
        rw [hee] at HAM
        have HEE := Lib.hid hee
        obtain ⟨la, hla⟩ : ∃ x, lastP l k = x := ⟨_, rfl⟩
        rw [hla] at HAM ⊢
        have HW3 := Lib.hid hw3
        have EQ := Lib.hid eq
        have q0 := cell_of hq3 (j := 0) rfl
        have q1 := cell_of hq3 (j := 1) rfl
        have q2 := cell_of hq3 (j := 2) rfl
        have q3 := cell_of hq3 (j := 3) rfl
        have q4 := cell_of hq3 (j := 4) rfl
        have q5 := cell_of hq3 (j := 5) rfl
        have q6 := cell_of hq3 (j := 6) rfl
        have q7 := cell_of hq3 (j := 7) rfl
        have q8 := cell_of hq3 (j := 8) rfl
        clear hz hc hw3 eq hb3 hq3 hee hla
        go_upto_region 10 with fail
        rw [← HW3.out, ← EQ.out]
        clear a0 a1 a2 a3 a4 a5 a6 a7 a8
        go_wp2_with fail
        refine HAM.out.mono ?_
        rintro e w5 ⟨rfl, hb5⟩
        have HB5 := Lib.hid (HB3.out.trans (hb5.mono HB3.out.size))
        have HQ5 := Lib.hid (blk_below HQ3.out hb5)
        clear hb5 q0 q1 q2 q3 q4 q5 q6 q7 q8
        by_cases h0 : ee = 0
        · have t0 : (ee != 0) = false := by simpa using h0
          have HC1 := Lib.hid (chk1_zero.1 (HEE.out.trans h0))
          have HP1 : Hid (Pre (l.take (k + 1))) := Lib.hid (by
            obtain ⟨hk', e⟩ := List.getElem?_eq_some_iff.1 HZK.out
            rw [List.take_succ_eq_append_getElem hk', e]
            exact pre_snoc HPR.out (HEE.out.trans h0))
          have HPUT : Hid (put (l.take k) z = l.take (k + 1)) := Lib.hid (by
            obtain ⟨hk', e⟩ := List.getElem?_eq_some_iff.1 HZK.out
            have h := HP1.out
            rw [List.take_succ_eq_append_getElem hk', e] at h ⊢
            exact put_snoc h)
          have HG1 : Hid (chk l = chkGo (l.take (k + 1)) (l.drop (k + 1))) := Lib.hid (by rw [HG.out, chkGo_at HZK.out, if_neg (by rw [HEE.out, h0]; simp)])
          have HCP : Hid (∀ W, Calls Tryz.prog 139 #[.string (B z.path)] W fun e w' => e = .returned (.string (B z.path)) ∧ Below W.heap.size W w') := Lib.hid (fun W => clone_any (B z.path) W (by rw [B_size]; have := len_le HC1.out.1; omega))
          have HCD : Hid (∀ W, Calls Tryz.prog 139 #[.string (B z.data)] W fun e w' => e = .returned (.string (B z.data)) ∧ Below W.heap.size W w') := Lib.hid (fun W => clone_any (B z.data) W (by rw [B_size]; have := HC1.out.2.2.2.2.1; omega))
          have HSM : Hid (∀ W, Below wr.heap.size wr W → W.heap[q]? = some (.cells #[.string (B z.path), .string (B z.data), .int .i64 z.cr, .int .i64 z.ch, .int .i64 z.kd, .int .i64 z.ver, .int .i64 z.ks, .int .i64 z.own, .int .i64 z.nx] 132 (0, 0)) → (W.cell? ⟨q, 0, none⟩ = some (.string (B z.path)) ∧ W.cell? ⟨q, 1, none⟩ = some (.string (B z.data)) ∧ W.frozen? ⟨q, 0, none⟩ = false ∧ W.frozen? ⟨q, 1, none⟩ = false ∧ W.heap[q]? = some (.cells #[.string (B z.path), .string (B z.data), .int .i64 z.cr, .int .i64 z.ch, .int .i64 z.kd, .int .i64 z.ver, .int .i64 z.ks, .int .i64 z.own, .int .i64 z.nx] 132 (0, 0)) ∧ Below wr.heap.size wr W)) := Lib.hid (fun W hW hq => ⟨cell_of hq (j := 0) rfl, cell_of hq (j := 1) rfl, frozen_of_row W q 0 _ _ hq, frozen_of_row W q 1 _ _ hq, hq, hW⟩)
          have HSG : Hid (∀ W W', (W.cell? ⟨q, 0, none⟩ = some (.string (B z.path)) ∧ W.cell? ⟨q, 1, none⟩ = some (.string (B z.data)) ∧ W.frozen? ⟨q, 0, none⟩ = false ∧ W.frozen? ⟨q, 1, none⟩ = false ∧ W.heap[q]? = some (.cells #[.string (B z.path), .string (B z.data), .int .i64 z.cr, .int .i64 z.ch, .int .i64 z.kd, .int .i64 z.ver, .int .i64 z.ks, .int .i64 z.own, .int .i64 z.nx] 132 (0, 0)) ∧ Below wr.heap.size wr W) → Below W.heap.size W W' → (fun W => W.cell? ⟨q, 0, none⟩ = some (.string (B z.path)) ∧ W.cell? ⟨q, 1, none⟩ = some (.string (B z.data)) ∧ W.frozen? ⟨q, 0, none⟩ = false ∧ W.frozen? ⟨q, 1, none⟩ = false ∧ W.heap[q]? = some (.cells #[.string (B z.path), .string (B z.data), .int .i64 z.cr, .int .i64 z.ch, .int .i64 z.kd, .int .i64 z.ver, .int .i64 z.ks, .int .i64 z.own, .int .i64 z.nx] 132 (0, 0)) ∧ Below wr.heap.size wr W) W') := Lib.hid (fun W W' hS hb => HSM.out W' (hS.2.2.2.2.2.trans (hb.mono hS.2.2.2.2.2.size)) (blk_below hS.2.2.2.2.1 hb))
          have HSA : Hid (∀ W, (W.cell? ⟨q, 0, none⟩ = some (.string (B z.path)) ∧ W.cell? ⟨q, 1, none⟩ = some (.string (B z.data)) ∧ W.frozen? ⟨q, 0, none⟩ = false ∧ W.frozen? ⟨q, 1, none⟩ = false ∧ W.heap[q]? = some (.cells #[.string (B z.path), .string (B z.data), .int .i64 z.cr, .int .i64 z.ch, .int .i64 z.kd, .int .i64 z.ver, .int .i64 z.ks, .int .i64 z.own, .int .i64 z.nx] 132 (0, 0)) ∧ Below wr.heap.size wr W) → (fun W => W.cell? ⟨q, 0, none⟩ = some (.string (B z.path)) ∧ W.cell? ⟨q, 1, none⟩ = some (.string (B z.data)) ∧ W.frozen? ⟨q, 0, none⟩ = false ∧ W.frozen? ⟨q, 1, none⟩ = false ∧ W.heap[q]? = some (.cells #[.string (B z.path), .string (B z.data), .int .i64 z.cr, .int .i64 z.ch, .int .i64 z.kd, .int .i64 z.ver, .int .i64 z.ks, .int .i64 z.own, .int .i64 z.nx] 132 (0, 0)) ∧ Below wr.heap.size wr W) (W.setCell ⟨q, 0, none⟩ (.string (B z.path)))) := Lib.hid (fun W hS => HSM.out _ (hS.2.2.2.2.2.setCell (by rw [EQ.out]; exact Nat.le_refl _) _) (heap_setCell_same W q 0 _ 132 (.string (B z.path)) hS.2.2.2.2.1))
          have HSB : Hid (∀ W, (W.cell? ⟨q, 0, none⟩ = some (.string (B z.path)) ∧ W.cell? ⟨q, 1, none⟩ = some (.string (B z.data)) ∧ W.frozen? ⟨q, 0, none⟩ = false ∧ W.frozen? ⟨q, 1, none⟩ = false ∧ W.heap[q]? = some (.cells #[.string (B z.path), .string (B z.data), .int .i64 z.cr, .int .i64 z.ch, .int .i64 z.kd, .int .i64 z.ver, .int .i64 z.ks, .int .i64 z.own, .int .i64 z.nx] 132 (0, 0)) ∧ Below wr.heap.size wr W) → (fun W => W.cell? ⟨q, 0, none⟩ = some (.string (B z.path)) ∧ W.cell? ⟨q, 1, none⟩ = some (.string (B z.data)) ∧ W.frozen? ⟨q, 0, none⟩ = false ∧ W.frozen? ⟨q, 1, none⟩ = false ∧ W.heap[q]? = some (.cells #[.string (B z.path), .string (B z.data), .int .i64 z.cr, .int .i64 z.ch, .int .i64 z.kd, .int .i64 z.ver, .int .i64 z.ks, .int .i64 z.own, .int .i64 z.nx] 132 (0, 0)) ∧ Below wr.heap.size wr W) (W.setCell ⟨q, 1, none⟩ (.string (B z.data)))) := Lib.hid (fun W hS => HSM.out _ (hS.2.2.2.2.2.setCell (by rw [EQ.out]; exact Nat.le_refl _) _) (heap_setCell_same W q 1 _ 132 (.string (B z.data)) hS.2.2.2.2.1))
          have HS0 := Lib.hid (HSM.out w5.drew HB5.out.drew HQ5.out)
          clear h0
          go_upto_region 13 with fail
          go_region_held3 (fun W => W.cell? ⟨q, 0, none⟩ = some (.string (B z.path)) ∧ W.cell? ⟨q, 1, none⟩ = some (.string (B z.data)) ∧ W.frozen? ⟨q, 0, none⟩ = false ∧ W.frozen? ⟨q, 1, none⟩ = false ∧ W.heap[q]? = some (.cells #[.string (B z.path), .string (B z.data), .int .i64 z.cr, .int .i64 z.ch, .int .i64 z.kd, .int .i64 z.ver, .int .i64 z.ks, .int .i64 z.own, .int .i64 z.nx] 132 (0, 0)) ∧ Below wr.heap.size wr W)
            (first
              | assumption
              | exact HS0.out
              | (with_reducible exact HSA.out _ (by assumption))
              | (with_reducible exact HSB.out _ (by assumption)))
            (first
              | (go_at_call 139; (with_reducible refine (HCP.out _).mono ?_); rintro e w9 ⟨rfl, hb9⟩; have hS9 := HSG.out _ w9 (by assumption) hb9)
              | (go_at_call 139; (with_reducible refine (HCD.out _).mono ?_); rintro e w9 ⟨rfl, hb9⟩; have hS9 := HSG.out _ w9 (by assumption) hb9))
          rename_i hHF
          obtain ⟨W6, hW6⟩ : ∃ W', W' = (w9.setCell ⟨q, 0, none⟩ (.string (B z.path))).setCell ⟨q, 1, none⟩ (.string (B z.data)) := ⟨_, rfl⟩
          rw [← hW6] at hHF ⊢
          have hq6 := hHF.2.2.2.2.1
          have hb6 := hHF.2.2.2.2.2
          have h6 := HT.out.below hb6
          obtain ⟨w7, hrun, hm7, hg7⟩ := store_nd h6.map.drew HPR.out.srt z (by have := len_le HC1.out.1; unfold maxLen; omega) (by have := H200.out; have := HR.out.len; rw [List.length_take]; omega)
          rw [HPUT.out] at hm7
          have HT7 := Lib.hid (h6.put (gb_trans gb_drew hg7) hm7)
          have hq7 := gb_cells (gb_trans gb_drew hg7) (h6.map.ne_cells hq6) hq6
          have HX7 : Hid (Below w.heap.size w w7) := Lib.hid (HX.out.trans (gb_to (gb_trans (gb_below hb6 (some mb)) (gb_trans gb_drew hg7)) (by rw [EMB.out]; exact Nat.le_refl _) HX.out.size))
          have HLP := Lib.hid (lastP_succ HZK.out)
          have d0 := cell_of h6.here (j := 0) rfl
          have q0 := cell_of hq6 (j := 0) rfl
          have q1 := cell_of hq6 (j := 1) rfl
          have q2 := cell_of hq6 (j := 2) rfl
          have q3 := cell_of hq6 (j := 3) rfl
          have q4 := cell_of hq6 (j := 4) rfl
          have q5 := cell_of hq6 (j := 5) rfl
          have q6 := cell_of hq6 (j := 6) rfl
          have q7 := cell_of hq6 (j := 7) rfl
          have q8 := cell_of hq6 (j := 8) rfl
          have e0 := cell_of hq7 (j := 0) rfl
          clear hHF hW6 hS9 hb9 hq6 hb6 h6 hm7 hg7 hq7
          go_upto_region 14 with fail
          go_still_tail 7, (by kernel_rfl)
          change wpList _ _ _ _ _ W6.drew
          go_wp2_with fail
          go_roundw
          case rel => exact ⟨k + 1, hlt, by go_num, by rw [HLP.out], HT7, HP1, HG1, HX7⟩
          case measure => simp [intOf]; omega
        · have t0 : (ee != 0) = true := by simpa using h0
          have HE : Hid (LoPost l w (.returned (.tuple #[.pointer none, .int .i64 ee])) w5) := Lib.hid (lo_fail (by rw [HG.out, chkGo_at HZK.out, HEE.out, if_pos h0]) h0 (HX.out.trans (HB5.out.mono HX.out.size)))
          clear h0
          go_wp2_with fail
          go_ret2
          exact HE.out
      · have hkn : k = n := by omega
        have HE : Hid (LoPost l w (.returned (.tuple #[.pointer (some ⟨tp, 0, none⟩), .int .i64 0])) wr) := Lib.hid (by
          have h1 := HT.out
          have h2 := HG.out
          rw [hkn, List.take_of_length_le (by rw [HR.out.len]; exact Nat.le_refl _)] at h1 h2
          rw [List.drop_of_length_le (by rw [HR.out.len]; exact Nat.le_refl _)] at h2
          exact ⟨HX.out, .inr ⟨h2, tp, mb, rfl, h1, HTP.out⟩⟩)
        clear hkn
        go_wp2_with fail
        go_ret2
        exact HE.out
end Go.Proofs.YtflgemlhocjipaaGreatDoor
