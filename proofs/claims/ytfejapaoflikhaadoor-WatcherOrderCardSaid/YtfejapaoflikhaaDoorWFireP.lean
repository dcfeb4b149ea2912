/-
  What Fire of a table returns and leaves. Condition: the table is good.
-/
import Derived.Test.YtfejapaoflikhaaDoorWDropP
import Derived.Test.YtfejapaoflikhaaDoorWComp
namespace Go.Proofs.YtfejapaoflikhaaDoor
set_option maxRecDepth 100000
open Go.ChangeShapes Go.WideShapes Go.ChangeAt Go.RowKit Go.Proofs.Zn Go.Proofs.Wa

theorem told_snoc (T : Tb) (x : Wt) (e : Ev) : toldA (T ++ [x]) e = toldA T e ++ (if hit e x = true then [⟨x.s, e.k, e.p⟩] else []) := by
  unfold toldA
  rw [List.filter_append, List.map_append]
  cases h : hit e x <;> simp [h]
theorem told_len (T : Tb) (e : Ev) : (toldA T e).length ≤ T.length := by unfold toldA; rw [List.length_map]; exact List.length_filter_le _ _
theorem hit_p {e : Ev} {x : Wt} (h : hit e x = true) : x.p = e.p := by
  unfold hit at h
  simp only [Bool.and_eq_true, beq_iff_eq] at h
  exact h.1
def FiPost (Bs tp : Nat) (v : Value) (L : Tb) (ev : Ev) (w : World) (e : Ending) (w' : World) : Prop :=
  ∃ A c, e = .returned (.slice A (comp (toldA L ev)).length c) ∧ w'.ownsRow w.heap.size 30 3 (.slice A (comp (toldA L ev)).length c) (comp (toldA L ev)).length (ecells (comp (toldA L ev))) ∧ KpPost Bs tp v (fireT L ev) w w'
/-- A row behind all of a world is no block of it. -/
theorem own_new_ne {w : World} {base e sz n : Nat} {v : Value} {xs : List Value} (h : w.ownsRow base e sz v n xs) {k : Nat} (hk : k < base) : v.ownBlock ≠ some k := fun e => by
  have := own_ge h k e
  omega
theorem kp_more {w w1 w2 : World} {Bs tp : Nat} {v u : Value} {M : Tb} (h : KpPost Bs tp v M w w1) (hg : w1.grownBy w2 u.ownBlock) (hu : ∀ k, u.ownBlock = some k → w.heap.size ≤ k) (hn : ∀ v', TabW w1 Bs tp v' M → ∀ k, u.ownBlock = some k → k ≠ tp ∧ v'.ownBlock ≠ some k) : KpPost Bs tp v M w w2 := by
  obtain ⟨v', h1, h2, h3⟩ := h
  refine ⟨v', ⟨?_, own_gb' h1.row hg (fun k hk => (hn v' h1 k hk).2), h1.ge⟩, ⟨hg.os.trans h2.os, hg.tape.trans h2.tape, hg.output.trans h2.output, Nat.le_trans h2.size hg.size, ?_⟩, h3⟩
  · exact (hg.block tp (blk_lt h1.here) (fun e => (hn v' h1 tp e.symm).1 rfl)).trans h1.here
  · intro k hk hkt hkv
    exact (hg.block k (Nat.lt_of_lt_of_le hk h2.size) (fun e => by have := hu k e.symm; omega)).trans (h2.block k hk hkt hkv)
set_option maxHeartbeats 8000000 in
theorem fire_any {w : World} {Bs tp : Nat} {v : Value} {L : Tb} (ht : TabW w Bs tp v L) (hn : L.length ≤ 2000) (ev : Ev) :
    Calls Tryd.prog 15 #[.pointer (some ⟨tp, 0, none⟩), .agg #[.int .i64 ev.s, .int .i64 ev.k, .string (B ev.p)]] w (FiPost Bs tp v L ev w) := by
  obtain ⟨w1, hw1⟩ : ∃ w1, w1 = w.alloc (.cells #[.int .i64 ev.s, .int .i64 ev.k, .string (B ev.p)] 30) := ⟨_, rfl⟩
  obtain ⟨q, eq⟩ : ∃ q, q = w.heap.size := ⟨_, rfl⟩
  have hb1 : Below w.heap.size w w1 := by rw [hw1]; exact box_below w _
  have hq : w1.heap[q]? = some (.cells #[.int .i64 ev.s, .int .i64 ev.k, .string (B ev.p)] 30 (0, 0)) := by rw [hw1, eq]; exact new_block w _
  obtain ⟨A, c, rfl, -, -, -⟩ := ht.rd
  have HT := Lib.hid ht
  have HB1 := Lib.hid hb1
  have HQ1 := Lib.hid hq
  have HW1 := Lib.hid hw1
  have EQ := Lib.hid eq
  have HT1 := Lib.hid (ht.below hb1)
  have HSZ1 : Hid (w.heap.size + 1 ≤ w1.heap.size) := Lib.hid (by have := blk_lt hq; omega)
  have t0 := cell_of HT1.out.here (j := 0) rfl
  obtain ⟨i0, hi, hz0, hz1, hz2⟩ := info_parts infoE
  clear ht hw1 eq hb1 hq
  go_enter Tryd.func15, Tryd.ntmps15
  go_upto_region 1 with fail
  rw [← HW1.out, ← EQ.out]
  go_wp2_with fail
  clear t0
  go_loopw [6, 15] (fun u i wr => ∃ k : Nat, k ≤ L.length ∧ i = .int .i64 k ∧ Hid (wr.ownsRow w1.heap.size 30 3 u (toldA (L.take k) ev).length (ecells (toldA (L.take k) ev))) ∧ Hid (Below w1.heap.size w1 wr)) (fun _ i _ => L.length - (intOf i).toNat)
  case atStart => exact ⟨0, Nat.zero_le _, rfl, Lib.hid (World.ownsRow_nil _ _ _ _), Lib.hid (Below.refl _ _)⟩
  case round =>
    obtain ⟨k, hk, rfl, HO, HX⟩ := hrel
    by_cases hlt : k < L.length
    · obtain ⟨_, _, he, -, -, hrd⟩ := (HT1.out.below HX.out).rd
      injection he with he _ he3
      subst he; subst he3
      obtain ⟨b, off, x, rfl, hx, hcc⟩ := hrd.at hlt
      have c0 : wr.cell? ⟨b, off + k * 3, none⟩ = some (.int .i64 x.s) := hcc 0 _ rfl
      have c1 : wr.cell? ⟨b, off + k * 3 + 1, none⟩ = some (.string (B x.p)) := hcc 1 _ rfl
      have c2 : wr.cell? ⟨b, off + k * 3 + 2, none⟩ = some (.bool x.k) := hcc 2 _ rfl
      obtain ⟨bo, hbe⟩ : ∃ b, b = wr.heap.size := ⟨_, rfl⟩
      obtain ⟨wo, hwo⟩ : ∃ wo, wo = wr.alloc (.cells #[.int .i64 x.s, .string (B x.p), .bool x.k] 45) := ⟨_, rfl⟩
      have hbo : Below wr.heap.size wr wo := by rw [hwo]; exact box_below wr _
      have hxo : wo.heap[bo]? = some (.cells #[.int .i64 x.s, .string (B x.p), .bool x.k] 45 (0, 0)) := by rw [hwo, hbe]; exact new_block wr _
      have HTS : Hid (toldA (L.take (k + 1)) ev = toldA (L.take k) ev ++ (if hit ev x = true then [⟨x.s, ev.k, ev.p⟩] else [])) := Lib.hid (by rw [take_some hx, told_snoc])
      have HXO := Lib.hid hxo
      have HBO := Lib.hid (HX.out.trans (hbo.mono HX.out.size))
      have HOO := Lib.hid (own_below HO.out hbo)
      have HCL := Lib.hid (fclo_any wo q ev x (blk_below HQ1.out HBO.out))
      obtain ⟨r, hr⟩ : ∃ r, hit ev x = r := ⟨_, rfl⟩
      rw [hr] at HCL HTS
      have HR := Lib.hid hr
      have HWO := Lib.hid hwo
      have HBE := Lib.hid hbe
      have hk0 : (0 : Int) ≤ (k : Int) := by omega
      have hki : (k : Int) < (L.length : Int) := by omega
      clear hx hcc hbe hwo hbo hxo hr hrd
      go_upto_region 6 with fail
      rw [← HWO.out, ← HBE.out]
      have o0 := cell_of HXO.out (j := 0) rfl
      have o1 := cell_of HXO.out (j := 1) rfl
      have o2 := cell_of HXO.out (j := 2) rfl
      clear c0 c1 c2
      go_wp2_with fail
      refine HCL.out.mono ?_
      rintro e w5 ⟨rfl, hb5⟩
      have HB5 := Lib.hid (HBO.out.trans (hb5.mono HBO.out.size))
      have HO5 := Lib.hid (own_below HOO.out hb5)
      have hx5 := blk_below HXO.out hb5
      have hq5 := blk_below HQ1.out HB5.out
      clear o0 o1 o2 hb5
      cases r with
      | false =>
        clear hx5 hq5
        go_wp2_with fail
        go_roundw
        case rel => exact ⟨k + 1, by omega, by go_num, Lib.hid (by rw [HTS.out]; simpa using HO5.out), HB5⟩
        case measure => simp [intOf]; omega
      | true =>
        have o0 := cell_of hx5 (j := 0) rfl
        have o1 := cell_of hx5 (j := 1) rfl
        have q1 := cell_of hq5 (j := 1) rfl
        have ho := HO5.out
        have hsz := HB5.out.size
        have htl := told_len (L.take k) ev
        rw [List.length_take, Nat.min_eq_left hk] at htl
        have HPP := Lib.hid (hit_p HR.out)
        clear hx5 hq5
        go_wp2_with (at_builtin; refine wpList_append_own _ rfl _ _ 40 rfl w1.heap.size 30 i0 _ 3 32 Tryd.underlying40 hi hz0 hz1 hz2 rfl (by decide) _ _ _ rfl (ho.alloc _) ⟨w5.heap.size, 0, none⟩ 1 1 (ecell ⟨x.s, ev.k, x.p⟩) rfl rfl (World.news_of_block (new_block w5 _)) (ecell_one _) (by unfold maxLen at *; omega) (by omega) (by simp; omega) ?_; intro v' w6 hown' hg6 hnil6)
        have HB6 := Lib.hid ((HB5.out.alloc hsz _).grown hg6 (by simp; omega) (fun j hj => (HO5.out.lt j hj).1))
        have HO6 : Hid (w6.ownsRow w1.heap.size 30 3 v' (toldA (L.take (k + 1)) ev).length (ecells (toldA (L.take (k + 1)) ev))) := Lib.hid (by
          rw [HTS.out]
          simp only [reduceIte]
          rw [ecells_append, List.length_append, ← HPP.out]
          exact hown')
        clear hown' hg6 hnil6 ho o0 o1 q1 htl
        go_wp2_with fail
        go_roundw
        case rel => exact ⟨k + 1, by omega, by go_num, HO6, HB6⟩
        case measure => simp [intOf]; omega
    · obtain rfl : k = L.length := by omega
      have hki : ¬ (L.length : Int) < (L.length : Int) := by omega
      have ho := HO.out
      rw [List.take_of_length_le (Nat.le_refl _)] at ho
      have HO2 := Lib.hid ho
      obtain ⟨A2, c2, rfl, -, -, -⟩ := own_form ho
      have HBW := Lib.hid (HB1.out.trans (HX.out.mono HB1.out.size))
      have htw := HT.out.below HBW.out
      have HTW := Lib.hid htw
      have hqw := blk_below HQ1.out HX.out
      have HD := Lib.hid (dfuncF_any Bs A L.length c L wr q _ 30 (hit ev) htw.row rfl hqw (by decide) ⟨fun W x h => fclo_any W q ev x h⟩ hn)
      have t0 := cell_of htw.here (j := 0) rfl
      clear ho htw hqw HO
      go_wp2_with fail
      refine HD.out.mono ?_
      rintro e w8 ⟨rfl, h1, h2⟩
      have hh8 := gb_blk h2 HTW.out
      have y0 := cell_of hh8 (j := 0) rfl
      have y1 := frozen_of_row w8 tp 0 _ _ hh8
      have HKP : Hid (KpPost Bs tp (.slice A L.length c) (fireT L ev) w (w8.setCell ⟨tp, 0, none⟩ (.slice A (keepB (hit ev) L).length c))) := Lib.hid (kp_end HT.out HBW.out h1 h2 (by cases A <;> rfl))
      obtain ⟨w9, hw9⟩ : ∃ w9, w9 = w8.setCell ⟨tp, 0, none⟩ (.slice A (keepB (hit ev) L).length c) := ⟨_, rfl⟩
      rw [← hw9] at HKP
      have hwr : Wr tp w8 w9 := by rw [hw9]; exact (Wr.refl tp w8).set 0 _
      have ho8 := own_gb' HO2.out h2 (own_apart HO2.out HTW.out.row (by decide))
      have HO9 := Lib.hid (own_gb ho8 hwr.gb (own_ne ho8 hh8 (by decide)))
      have HTL : Hid ((toldA L ev).length ≤ 2000) := Lib.hid (Nat.le_trans (told_len L ev) hn)
      have HCM := Lib.hid (compact_any _ _ _ _ _ _ HO9.out rfl HTL.out)
      have HW9 := Lib.hid hw9
      clear hw9 hwr ho8 h1 h2 hh8 t0
      go_upto_region 10 with fail
      rw [← HW9.out]
      clear y0 y1
      go_wp2_with fail
      refine HCM.out.mono ?_
      rintro e w10 ⟨rfl, h1, h2⟩
      have HE : Hid (FiPost Bs tp (.slice A L.length c) L ev w (.returned (.slice A2 (comp (toldA L ev)).length c2)) w10) := Lib.hid ⟨A2, c2, rfl, own_base h1 HB1.out.size, kp_more HKP.out h2 (fun k hk => by have := own_ge HO9.out k hk; have := HB1.out.size; omega) (fun v' hv k hk => ⟨fun e => own_ne HO9.out hv.here (by decide) (by rw [hk, e]), fun e => own_apart HO9.out hv.row (by decide) k e hk⟩)⟩
      clear h1 h2
      go_wp2_with fail
      go_ret
      exact HE.out
end Go.Proofs.YtfejapaoflikhaaDoor
