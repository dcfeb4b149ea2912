/-
  What blank, Cut and Punch return and leave. No condition.
-/
import Derived.Test.YtoallenigfbkpaaTWrite
namespace Go.Proofs.Ytoallenigfbkpaa
set_option maxRecDepth 100000
open Go.ChangeShapes Go.WideShapes Go.ChangeAt Go.RowKit Go.Proofs.Sg

/-- What is kept while bytes are laid to 0. -/
structure BlR (w : World) (B sp mb : Nat) (S : Sh) (a p : Nat) (wr : World) : Prop where
  map : MW wr mb (zK S.K S.n a p) (zF S.f a p)
  kept : SK w wr sp mb
  here : wr.heap[sp]? = some (.cells #[.int .i64 (S.n : Int), .map (some mb)] 52 (0, 0))
theorem BlR.wr {w : World} {B sp mb : Nat} {S : Sh} {a p : Nat} {wr w' : World} (h : BlR w B sp mb S a p wr) {e : Nat} (hm : MW w' mb (zK S.K S.n a e) (zF S.f a e)) (hk : SK wr w' sp mb) (hb : w'.heap[sp]? = wr.heap[sp]?) : BlR w B sp mb S a e w' :=
  ⟨hm, h.kept.trans hk, hb.trans h.here⟩
theorem BlR.absent {w : World} {B sp mb : Nat} {S : Sh} {a p e t : Nat} {wr w' : World} (hg : GoodS S) (h : BlR w B sp mb S a p wr) (hw : Below wr.heap.size wr w') (ha : a ≤ p) (hp : p = a ∨ p % 16 = 0) (hpt : p < t) (ht : t ≤ S.n) (he : e = min (p - p % 16 + 16) t) (hk : ¬ (p % 16 = 0 ∧ (e % 16 = 0 ∨ e = S.n))) (hno : p / 16 ∉ zK S.K S.n a p) : BlR w B sp mb S a e w' := by
  have e1 := zK_keep hg ha hp hpt ht he hk
  refine h.wr ?_ (SK.of_below hw) (hw.block _ (blk_lt h.here))
  rw [e1]
  refine (h.map.below hw).congr (fun x => ?_)
  by_cases hx : x = p / 16
  · subst hx
    have h1 := bk_hole (good_bl hg a p) (k := p / 16) hno
    have h2 := bk_hole (good_bl hg a e) (k := p / 16) (by show p / 16 ∉ zK S.K S.n a e; rw [e1]; exact hno)
    exact h1.trans h2.symm
  · exact (bk_blank_other ha (by omega) (by omega) hx).symm
def BlPost (w : World) (B sp mb : Nat) (S : Sh) (a t : Nat) (e : Ending) (w' : World) : Prop := ChPost w B sp mb (bl S a t) (.tuple #[]) e w'
set_option maxHeartbeats 4000000 in
theorem blank_any {w : World} {B sp mb : Nat} {S : Sh} (h : SW w B sp mb S) (a t : Nat) (ha : a ≤ 1048576) (ht : t ≤ S.n) : Calls Try.prog 32 #[.pointer (some ⟨sp, 0, none⟩), .int .i64 (a : Int), .int .i64 (t : Int)] w (BlPost w B sp mb S a t) := by
  obtain ⟨z, hz⟩ : ∃ z : Int, (S.n : Int) = z := ⟨_, rfl⟩
  have HZ := Lib.hid hz
  have HS := Lib.hid h
  have HT := Lib.hid ht
  have HA := Lib.hid ha
  have HL := Lib.hid h.good.lim
  clear h hz ht ha
  go_enter Try.func32, Try.ntmps32
  go_wp2_with fail
  go_loopw [1] (fun i wr => ∃ p : Nat, i = .int .i64 p ∧ Hid (a ≤ p ∧ (p ≤ t ∨ p = a) ∧ (p = a ∨ p % 16 = 0 ∨ p = t)) ∧ Hid (BlR w B sp mb S a p wr)) (fun i _ => t - (intOf i).toNat)
  case atStart => exact ⟨a, rfl, Lib.hid ⟨Nat.le_refl _, .inr rfl, .inl rfl⟩, Lib.hid ⟨by rw [zK_start HS.out.good, zF_none _ (Nat.le_refl _)]; exact HS.out.map, SK.refl, HS.out.here⟩⟩
  case round =>
    obtain ⟨p, rfl, HP, HB⟩ := hrel
    by_cases hlt : p < t
    · have hpt : (p : Int) < (t : Int) := by omega
      have hap := HP.out.1
      have hal : p = a ∨ p % 16 = 0 := by have := HP.out.2.2; omega
      have HPC := Lib.hid (place_any p (by have := HL.out; have := HT.out; omega) wr)
      obtain ⟨k, hk⟩ : ∃ k, p / 16 = k := ⟨_, rfl⟩
      obtain ⟨i, hi⟩ : ∃ i, p % 16 = i := ⟨_, rfl⟩
      obtain ⟨x, hx⟩ : ∃ x : Int, (i : Int) = x := ⟨_, rfl⟩
      obtain ⟨u, hu⟩ : ∃ u : Int, (p : Int) - x = u := ⟨_, rfl⟩
      obtain ⟨v, hv⟩ : ∃ v : Int, u + 16 = v := ⟨_, rfl⟩
      obtain ⟨e, he⟩ : ∃ e, e = min (p - p % 16 + 16) t := ⟨_, rfl⟩
      obtain ⟨y, hy⟩ : ∃ y : Int, (e : Int) = y := ⟨_, rfl⟩
      obtain ⟨r, hr⟩ : ∃ r : Int, ((e % 16 : Nat) : Int) = r := ⟨_, rfl⟩
      rw [hk, hi, hx] at HPC
      have hL := HL.out
      have hT := HT.out
      have hw1 : IntKind.i64.wrap ((p : Int) - x) = u := by rw [IntKind.wrap_i64]; omega
      have hw2 : IntKind.i64.wrap (u + 16) = v := by rw [IntKind.wrap_i64]; omega
      have hmn : min v (t : Int) = y := by omega
      have hrm : Int.tmod y 16 = r := by rw [Int.tmod_eq_emod_of_nonneg (by omega)]; omega
      have hwr : IntKind.i64.wrap r = r := by rw [IntKind.wrap_i64]; omega
      have hk6 : k < 65536 := by omega
      have e0 := cell_of HB.out.here (j := 0) rfl
      have e1 := cell_of HB.out.here (j := 1) rfl
      rw [HZ.out] at e0
      have HR : Hid (p < e ∧ e ≤ t ∧ (e % 16 = 0 ∨ e = t)) := Lib.hid (by omega)
      have HY := Lib.hid hy
      by_cases h0 : i = 0
      · have c0 : (x == 0) = true := by rw [← hx, h0]; rfl
        by_cases h1 : e % 16 = 0
        · have c1 : (r == 0) = true := by rw [← hr, h1]; rfl
          have hgo : p % 16 = 0 ∧ (e % 16 = 0 ∨ e = S.n) := by have := HZ.out; omega
          obtain ⟨w4, hdl, hM4, hg4⟩ := HB.out.map.drop (g := zF S.f a e) hk6 (by rw [← hk]; exact bk_gone HS.out.good hap hgo.1 (by have := HR.out; omega)) (fun x' hx' => bk_blank_other hap (by omega) (by omega) (by rw [hk]; exact hx')) 3
          have hdl2 : ∀ ty, (Builtin.delete_ #[50, 3] ty #[.map (some mb), .int .i64 (k : Int)]).run Try.prog wr = .ok (.tuple #[]) w4 := fun ty => hdl
          have HB4 : Hid (BlR w B sp mb S a e w4) := Lib.hid (HB.out.wr (by
            have h2 := zK_drop HS.out.good hap hgo.1 hlt HT.out (by rw [he, hgo.1]; omega) hgo.2
            rw [h2, hk]; exact hM4) (SK.gb_mb hg4) (hg4.block _ (blk_lt HB.out.here) (by have := HB.out.map.ne_cells HB.out.here; simpa using this)))
          clear hdl hM4 hg4 hgo hk hi hx hu hv he hy hr hL hT hk6 hap hal hlt h0 h1
          go_wp2_with fail
          refine HPC.out.mono ?_
          rintro e' w' ⟨rfl, rfl⟩
          go_wp2_with fail
          go_roundw
          case rel => exact ⟨e, by rw [HY.out], Lib.hid (by have := HR.out; have := HP.out; omega), HB4⟩
          case measure => simp [intOf]; have := HR.out; have := HY.out; omega
        · have c1 : (r == 0) = false := by simp only [beq_eq_false_iff_ne]; omega
          by_cases h2 : e = S.n
          · have c2 : (y == z) = true := by simp only [beq_iff_eq]; have := HZ.out; omega
            have hgo : p % 16 = 0 ∧ (e % 16 = 0 ∨ e = S.n) := by have := HZ.out; omega
            obtain ⟨w4, hdl, hM4, hg4⟩ := HB.out.map.drop (g := zF S.f a e) hk6 (by rw [← hk]; exact bk_gone HS.out.good hap hgo.1 (by have := HR.out; omega)) (fun x' hx' => bk_blank_other hap (by omega) (by omega) (by rw [hk]; exact hx')) 3
            have hdl2 : ∀ ty, (Builtin.delete_ #[50, 3] ty #[.map (some mb), .int .i64 (k : Int)]).run Try.prog wr = .ok (.tuple #[]) w4 := fun ty => hdl
            have HB4 : Hid (BlR w B sp mb S a e w4) := Lib.hid (HB.out.wr (by
              have h2 := zK_drop HS.out.good hap hgo.1 hlt HT.out (by rw [he, hgo.1]; omega) hgo.2
              rw [h2, hk]; exact hM4) (SK.gb_mb hg4) (hg4.block _ (blk_lt HB.out.here) (by have := HB.out.map.ne_cells HB.out.here; simpa using this)))
            clear hdl hM4 hg4 hgo hk hi hx hu hv he hy hr hL hT hk6 hap hal hlt h0 h1 h2
            go_wp2_with fail
            refine HPC.out.mono ?_
            rintro e' w' ⟨rfl, rfl⟩
            go_wp2_with fail
            go_roundw
            case rel => exact ⟨e, by rw [HY.out], Lib.hid (by have := HR.out; have := HP.out; omega), HB4⟩
            case measure => simp [intOf]; have := HR.out; have := HY.out; omega
          · have c2 : (y == z) = false := by simp only [beq_eq_false_iff_ne]; have := HZ.out; omega
            have hgo : ¬ (p % 16 = 0 ∧ (e % 16 = 0 ∨ e = S.n)) := by have := HZ.out; omega
            obtain ⟨bvk, hbv⟩ : ∃ bb, bb = bv (zF S.f a p) k := ⟨_, rfl⟩
            have HSZ : Hid ((Try.prog.info? 61).map (·.size) = some bvk.size) := Lib.hid (by rw [hbv, bv_size]; exact sizeK)
            have HZZ : Hid (Z16.size = bvk.size) := Lib.hid (by rw [hbv, bv_size]; rfl)
            have HON : Hid (bvk.all (·.oneCell') = true) := Lib.hid (by rw [hbv]; exact bv_one _ _)
            obtain ⟨q, hq⟩ : ∃ q, q = wr.heap.size := ⟨_, rfl⟩
            obtain ⟨w2, hw2⟩ : ∃ w2, w2 = wr.alloc (.cells bvk 61) := ⟨_, rfl⟩
            have hb2 : Below wr.heap.size wr w2 := by rw [hw2]; exact box_below wr _
            have hq2 : w2.heap[q]? = some (.cells (bv (zF S.f a p) k) 61 (0, 0)) := by rw [hw2, hq, hbv]; exact new_block wr _
            have HW2 := Lib.hid hw2
            have HQ := Lib.hid hq
            by_cases hin : k ∈ zK S.K S.n a p
            · have hlook := (HB.out.map.look hk6).1 true (by simpa using hin)
              rw [← hbv] at hlook
              obtain ⟨w3, hw3⟩ : ∃ w3, w3 = w2.setCells q i (bcells (List.replicate (e - p) 0)) := ⟨_, rfl⟩
              have hclr := fun ty => run_clear_bytes w2 q i (e - p) (16 - i) (by have := HR.out; omega) (fun j hj => ⟨by rw [cell_of_row w2 q _ _ _ _ hq2, Array.getElem?_eq_getElem (by rw [bv_size]; omega)]; rfl, frozen_of_row w2 q _ _ _ hq2⟩) ty
              rw [← hw3] at hclr
              have hq3 := setCells_block (bcells (List.replicate (e - p) 0)) i w2 _ hq2 (by rw [bcells_length, List.length_replicate, bv_size]; omega)
              rw [← hw3] at hq3
              have hbb := bk_blank (f := S.f) (a := a) (p := p) (e := e) hap (by have := HR.out; omega) (by omega)
              rw [hk, hi] at hbb
              have hq4 : w3.heap[q]? = some (.cells (bv (zF S.f a e) k) 61 (0, 0)) := by
                rw [hq3]
                unfold bv
                rw [hbb, ← bcells_spl]
              have hg3 : w2.grownBy w3 (some q) := by rw [hw3]; exact setCells_grown _ _ _
              have hqmb : q ≠ mb := (HB.out.map.below hb2).ne_cells hq2
              have hqsp : q ≠ sp := by have := blk_lt HB.out.here; omega
              have hM3 : MW w3 mb (zK S.K S.n a p) (zF S.f a p) := (HB.out.map.below hb2).gb hg3 hqmb
              have hh3 := gb_cells hg3 (Ne.symm hqsp) (blk_below HB.out.here hb2)
              obtain ⟨w4, hup, hM4, hg4⟩ := (hM3.keep (w' := w3.drew) rfl).store (g := zF S.f a e) hk6 (fun x' hx' => bk_blank_other hap (by have := HR.out; omega) (by omega) (by rw [hk]; exact hx'))
              have hk3 : SK wr w3 sp mb := ⟨hg3.os.trans hb2.os, hg3.tape.trans hb2.tape, hg3.output.trans hb2.output, Nat.le_trans hb2.size hg3.size, fun j hj _ _ => (hg3.block j (Nat.lt_of_lt_of_le hj hb2.size) (by simp; omega)).trans (hb2.block j hj)⟩
              have HB4 : Hid (BlR w B sp mb S a e w4) := Lib.hid (HB.out.wr (by
                rw [zK_keep HS.out.good hap hal hlt HT.out he hgo]
                rw [ins_of_mem HB.out.map.srt hin] at hM4
                exact hM4) (hk3.trans ((SK.of_below (Below.refl _ _).drew).trans (SK.gb_mb hg4))) ((gb_cells hg4 (hM3.ne_cells hh3) hh3).trans HB.out.here.symm))
              obtain ⟨x0, x1, x2, x3, x4, x5, x6, x7, x8, x9, x10, x11, x12, x13, x14, x15, hC⟩ := bv16 (zF S.f a e) k
              rw [hC] at hq4 hup
              have q0 := cell_of hq4 (j := 0) rfl
              have q1 := cell_of hq4 (j := 1) rfl
              have q2 := cell_of hq4 (j := 2) rfl
              have q3 := cell_of hq4 (j := 3) rfl
              have q4 := cell_of hq4 (j := 4) rfl
              have q5 := cell_of hq4 (j := 5) rfl
              have q6 := cell_of hq4 (j := 6) rfl
              have q7 := cell_of hq4 (j := 7) rfl
              have q8 := cell_of hq4 (j := 8) rfl
              have q9 := cell_of hq4 (j := 9) rfl
              have q10 := cell_of hq4 (j := 10) rfl
              have q11 := cell_of hq4 (j := 11) rfl
              have q12 := cell_of hq4 (j := 12) rfl
              have q13 := cell_of hq4 (j := 13) rfl
              have q14 := cell_of hq4 (j := 14) rfl
              have q15 := cell_of hq4 (j := 15) rfl
              have e3 : w3.cell? ⟨sp, 1, none⟩ = some (.map (some mb)) := cell_of hh3 (j := 1) rfl
              have hs1 := arr_mid q i (i + (e - p)) (by omega) (by omega) (by omega)
              rw [show i + (e - p) - i = e - p by omega] at hs1
              obtain ⟨s1, hs2⟩ : ∃ s1 : Int, x + y = s1 := ⟨_, rfl⟩
              obtain ⟨h9, hs3⟩ : ∃ h9 : Int, ((i + (e - p) : Nat) : Int) = h9 := ⟨_, rfl⟩
              have hw5 : IntKind.i64.wrap (x + y) = s1 := by rw [IntKind.wrap_i64]; omega
              have hw6 : IntKind.i64.wrap (s1 - (p : Int)) = h9 := by rw [IntKind.wrap_i64]; have := HR.out; omega
              rw [hx, hs3] at hs1
              clear hs2 hs3 hk3 hh3 hM3 hqsp hqmb hg3 hbb hq3 hw3 hC hM4 hg4 hin hq4 hbv hq hw2 hb2 hq2 hgo hk hi hx hu hv he hy hr hL hT hk6 hap hal hlt h0 h1 h2
              go_wp2_with fail
              refine HPC.out.mono ?_
              rintro e' w' ⟨rfl, rfl⟩
              go_wp2_with (first
                | (with_reducible refine wpList_allocK rfl rfl ?_)
                | ((with_reducible refine wpList_store_new rfl 61 (.tmp 9) (.tmp 52) rfl Z16 bvk ?_ ?_ HSZ.out HZZ.out HON.out ?_); rfl; rfl; rw [← HW2.out, ← HQ.out])
                | fail)
              go_region
              (try simp only [List.getElem_toArray, List.getElem_cons_succ, List.getElem_cons_zero, Act.put, List.setIfInBounds_toArray, List.set_cons_succ, List.set_cons_zero])
              go_wp2_with fail
              go_roundw
              case rel => exact ⟨e, by rw [HY.out], Lib.hid (by have := HR.out; have := HP.out; omega), HB4⟩
              case measure => simp [intOf]; have := HR.out; have := HY.out; omega
            · have hlook := (HB.out.map.look hk6).1 false (by simpa using hin)
              rw [← hbv] at hlook
              have HB4 : Hid (BlR w B sp mb S a e w2) := Lib.hid (HB.out.absent HS.out.good hb2 hap hal hlt HT.out he hgo (by rw [hk]; exact hin))
              clear hin hbv hq hw2 hb2 hq2 hgo hk hi hx hu hv he hy hr hL hT hk6 hap hal hlt h0 h1 h2
              go_wp2_with fail
              refine HPC.out.mono ?_
              rintro e' w' ⟨rfl, rfl⟩
              go_wp2_with (first
                | (with_reducible refine wpList_allocK rfl rfl ?_)
                | ((with_reducible refine wpList_store_new rfl 61 (.tmp 9) (.tmp 52) rfl Z16 bvk ?_ ?_ HSZ.out HZZ.out HON.out ?_); rfl; rfl; rw [← HW2.out, ← HQ.out])
                | fail)
              go_roundw
              case rel => exact ⟨e, by rw [HY.out], Lib.hid (by have := HR.out; have := HP.out; omega), HB4⟩
              case measure => simp [intOf]; have := HR.out; have := HY.out; omega
      · have c0 : (x == 0) = false := by simp only [beq_eq_false_iff_ne]; omega
        have hgo : ¬ (p % 16 = 0 ∧ (e % 16 = 0 ∨ e = S.n)) := by have := HZ.out; omega
        obtain ⟨bvk, hbv⟩ : ∃ bb, bb = bv (zF S.f a p) k := ⟨_, rfl⟩
        have HSZ : Hid ((Try.prog.info? 61).map (·.size) = some bvk.size) := Lib.hid (by rw [hbv, bv_size]; exact sizeK)
        have HZZ : Hid (Z16.size = bvk.size) := Lib.hid (by rw [hbv, bv_size]; rfl)
        have HON : Hid (bvk.all (·.oneCell') = true) := Lib.hid (by rw [hbv]; exact bv_one _ _)
        obtain ⟨q, hq⟩ : ∃ q, q = wr.heap.size := ⟨_, rfl⟩
        obtain ⟨w2, hw2⟩ : ∃ w2, w2 = wr.alloc (.cells bvk 61) := ⟨_, rfl⟩
        have hb2 : Below wr.heap.size wr w2 := by rw [hw2]; exact box_below wr _
        have hq2 : w2.heap[q]? = some (.cells (bv (zF S.f a p) k) 61 (0, 0)) := by rw [hw2, hq, hbv]; exact new_block wr _
        have HW2 := Lib.hid hw2
        have HQ := Lib.hid hq
        by_cases hin : k ∈ zK S.K S.n a p
        · have hlook := (HB.out.map.look hk6).1 true (by simpa using hin)
          rw [← hbv] at hlook
          obtain ⟨w3, hw3⟩ : ∃ w3, w3 = w2.setCells q i (bcells (List.replicate (e - p) 0)) := ⟨_, rfl⟩
          have hclr := fun ty => run_clear_bytes w2 q i (e - p) (16 - i) (by have := HR.out; omega) (fun j hj => ⟨by rw [cell_of_row w2 q _ _ _ _ hq2, Array.getElem?_eq_getElem (by rw [bv_size]; omega)]; rfl, frozen_of_row w2 q _ _ _ hq2⟩) ty
          rw [← hw3] at hclr
          have hq3 := setCells_block (bcells (List.replicate (e - p) 0)) i w2 _ hq2 (by rw [bcells_length, List.length_replicate, bv_size]; omega)
          rw [← hw3] at hq3
          have hbb := bk_blank (f := S.f) (a := a) (p := p) (e := e) hap (by have := HR.out; omega) (by omega)
          rw [hk, hi] at hbb
          have hq4 : w3.heap[q]? = some (.cells (bv (zF S.f a e) k) 61 (0, 0)) := by
            rw [hq3]
            unfold bv
            rw [hbb, ← bcells_spl]
          have hg3 : w2.grownBy w3 (some q) := by rw [hw3]; exact setCells_grown _ _ _
          have hqmb : q ≠ mb := (HB.out.map.below hb2).ne_cells hq2
          have hqsp : q ≠ sp := by have := blk_lt HB.out.here; omega
          have hM3 : MW w3 mb (zK S.K S.n a p) (zF S.f a p) := (HB.out.map.below hb2).gb hg3 hqmb
          have hh3 := gb_cells hg3 (Ne.symm hqsp) (blk_below HB.out.here hb2)
          obtain ⟨w4, hup, hM4, hg4⟩ := (hM3.keep (w' := w3.drew) rfl).store (g := zF S.f a e) hk6 (fun x' hx' => bk_blank_other hap (by have := HR.out; omega) (by omega) (by rw [hk]; exact hx'))
          have hk3 : SK wr w3 sp mb := ⟨hg3.os.trans hb2.os, hg3.tape.trans hb2.tape, hg3.output.trans hb2.output, Nat.le_trans hb2.size hg3.size, fun j hj _ _ => (hg3.block j (Nat.lt_of_lt_of_le hj hb2.size) (by simp; omega)).trans (hb2.block j hj)⟩
          have HB4 : Hid (BlR w B sp mb S a e w4) := Lib.hid (HB.out.wr (by
            rw [zK_keep HS.out.good hap hal hlt HT.out he hgo]
            rw [ins_of_mem HB.out.map.srt hin] at hM4
            exact hM4) (hk3.trans ((SK.of_below (Below.refl _ _).drew).trans (SK.gb_mb hg4))) ((gb_cells hg4 (hM3.ne_cells hh3) hh3).trans HB.out.here.symm))
          obtain ⟨x0, x1, x2, x3, x4, x5, x6, x7, x8, x9, x10, x11, x12, x13, x14, x15, hC⟩ := bv16 (zF S.f a e) k
          rw [hC] at hq4 hup
          have q0 := cell_of hq4 (j := 0) rfl
          have q1 := cell_of hq4 (j := 1) rfl
          have q2 := cell_of hq4 (j := 2) rfl
          have q3 := cell_of hq4 (j := 3) rfl
          have q4 := cell_of hq4 (j := 4) rfl
          have q5 := cell_of hq4 (j := 5) rfl
          have q6 := cell_of hq4 (j := 6) rfl
          have q7 := cell_of hq4 (j := 7) rfl
          have q8 := cell_of hq4 (j := 8) rfl
          have q9 := cell_of hq4 (j := 9) rfl
          have q10 := cell_of hq4 (j := 10) rfl
          have q11 := cell_of hq4 (j := 11) rfl
          have q12 := cell_of hq4 (j := 12) rfl
          have q13 := cell_of hq4 (j := 13) rfl
          have q14 := cell_of hq4 (j := 14) rfl
          have q15 := cell_of hq4 (j := 15) rfl
          have e3 : w3.cell? ⟨sp, 1, none⟩ = some (.map (some mb)) := cell_of hh3 (j := 1) rfl
          have hs1 := arr_mid q i (i + (e - p)) (by omega) (by omega) (by omega)
          rw [show i + (e - p) - i = e - p by omega] at hs1
          obtain ⟨s1, hs2⟩ : ∃ s1 : Int, x + y = s1 := ⟨_, rfl⟩
          obtain ⟨h9, hs3⟩ : ∃ h9 : Int, ((i + (e - p) : Nat) : Int) = h9 := ⟨_, rfl⟩
          have hw5 : IntKind.i64.wrap (x + y) = s1 := by rw [IntKind.wrap_i64]; omega
          have hw6 : IntKind.i64.wrap (s1 - (p : Int)) = h9 := by rw [IntKind.wrap_i64]; have := HR.out; omega
          rw [hx, hs3] at hs1
          clear hs2 hs3 hk3 hh3 hM3 hqsp hqmb hg3 hbb hq3 hw3 hC hM4 hg4 hin hq4 hbv hq hw2 hb2 hq2 hgo hk hi hx hu hv he hy hr hL hT hk6 hap hal hlt h0
          go_wp2_with fail
          refine HPC.out.mono ?_
          rintro e' w' ⟨rfl, rfl⟩
          go_wp2_with (first
            | (with_reducible refine wpList_allocK rfl rfl ?_)
            | ((with_reducible refine wpList_store_new rfl 61 (.tmp 9) (.tmp 52) rfl Z16 bvk ?_ ?_ HSZ.out HZZ.out HON.out ?_); rfl; rfl; rw [← HW2.out, ← HQ.out])
            | fail)
          go_region
          (try simp only [List.getElem_toArray, List.getElem_cons_succ, List.getElem_cons_zero, Act.put, List.setIfInBounds_toArray, List.set_cons_succ, List.set_cons_zero])
          go_wp2_with fail
          go_roundw
          case rel => exact ⟨e, by rw [HY.out], Lib.hid (by have := HR.out; have := HP.out; omega), HB4⟩
          case measure => simp [intOf]; have := HR.out; have := HY.out; omega
        · have hlook := (HB.out.map.look hk6).1 false (by simpa using hin)
          rw [← hbv] at hlook
          have HB4 : Hid (BlR w B sp mb S a e w2) := Lib.hid (HB.out.absent HS.out.good hb2 hap hal hlt HT.out he hgo (by rw [hk]; exact hin))
          clear hin hbv hq hw2 hb2 hq2 hgo hk hi hx hu hv he hy hr hL hT hk6 hap hal hlt h0
          go_wp2_with fail
          refine HPC.out.mono ?_
          rintro e' w' ⟨rfl, rfl⟩
          go_wp2_with (first
            | (with_reducible refine wpList_allocK rfl rfl ?_)
            | ((with_reducible refine wpList_store_new rfl 61 (.tmp 9) (.tmp 52) rfl Z16 bvk ?_ ?_ HSZ.out HZZ.out HON.out ?_); rfl; rfl; rw [← HW2.out, ← HQ.out])
            | fail)
          go_roundw
          case rel => exact ⟨e, by rw [HY.out], Lib.hid (by have := HR.out; have := HP.out; omega), HB4⟩
          case measure => simp [intOf]; have := HR.out; have := HY.out; omega
    · have hpt : ¬ (p : Int) < (t : Int) := by omega
      have HE : Hid (BlPost w B sp mb S a t (.returned (.tuple #[])) wr) := Lib.hid (by
        have hb := HB.out
        have hp := HP.out
        by_cases h1 : p = t
        · subst h1
          exact ⟨rfl, ⟨hb.here, hb.map, good_bl HS.out.good a p, HS.out.gsp, HS.out.gmb⟩, hb.kept⟩
        · have h2 : p = a := by omega
          subst h2
          have hm := hb.map
          rw [zK_start HS.out.good, zF_none _ (Nat.le_refl _)] at hm
          have e9 : bl S p t = S := bl_none HS.out.good (by omega)
          exact ⟨rfl, by rw [e9]; exact ⟨hb.here, hm, HS.out.good, HS.out.gsp, HS.out.gmb⟩, hb.kept⟩)
      go_wp2_with fail
      first | (go_end0; exact HE.out) | exact HE.out
/-! ### Cut, Punch -/
def cutI (S : Sh) (n : Int) : Sh := if ft 0 n = true then cutS S n.toNat else S
def punchI (S : Sh) (p n : Int) : Sh := if ft p n = true then punchS S p.toNat n.toNat else S
theorem cut_any {w : World} {B sp mb : Nat} {S : Sh} (h : SW w B sp mb S) (n : Int) : Calls Try.prog 22 #[.pointer (some ⟨sp, 0, none⟩), .int .i64 n] w (ChPost w B sp mb (cutI S n) (.bool (ft 0 n))) := by
  obtain ⟨r, hrr⟩ : ∃ r, ft 0 n = r := ⟨_, rfl⟩
  have HF := Lib.hid (fits_any 0 n (by omega) w)
  rw [hrr] at HF
  rw [hrr]
  cases r with
  | false =>
    have HE : Hid (ChPost w B sp mb (cutI S n) (.bool false) (.returned (.bool false)) w) := Lib.hid (by
      unfold cutI
      rw [hrr]
      exact ⟨rfl, h, SK.refl⟩)
    clear h hrr
    go_enter Try.func22, Try.ntmps22
    go_wp2_with fail
    refine HF.out.mono ?_
    rintro e w' ⟨rfl, rfl⟩
    go_wp2_with fail
    go_ret
    exact HE.out
  | true =>
    obtain ⟨f0, f1, f2⟩ := ft_iff.1 hrr
    obtain ⟨N, hN⟩ : ∃ N : Nat, n = (N : Int) := ⟨n.toNat, by omega⟩
    subst hN
    have HBL := Lib.hid (blank_any h N S.n (by omega) (Nat.le_refl _))
    obtain ⟨z, hz⟩ : ∃ z : Int, (S.n : Int) = z := ⟨_, rfl⟩
    have d0 := cell_of h.here (j := 0) rfl
    rw [hz] at HBL d0
    have HE : Hid (∀ w2, SW w2 B sp mb (bl S N S.n) → SK w w2 sp mb → ChPost w B sp mb (cutI S (N : Int)) (.bool true) (.returned (.bool true)) (w2.setCell ⟨sp, 0, none⟩ (.int .i64 (N : Int)))) := Lib.hid (fun w2 h2 hk => by
      have hh := heap_setCell_same w2 sp 0 _ 52 (.int .i64 (N : Int)) h2.here
      have hwr : Wr sp w2 (w2.setCell ⟨sp, 0, none⟩ (.int .i64 (N : Int))) := (Wr.refl sp w2).set 0 _
      unfold cutI
      rw [hrr]
      exact ⟨rfl, ⟨hh, h2.map.gb hwr.gb (h2.map.ne_cells h2.here), good_cut h.good (by omega), h.gsp, h.gmb⟩, hk.trans (SK.gb_sp hwr.gb)⟩)
    clear h hrr f0 f1 f2 hz
    go_enter Try.func22, Try.ntmps22
    go_wp2_with fail
    refine HF.out.mono ?_
    rintro e w' ⟨rfl, rfl⟩
    go_wp2_with fail
    refine HBL.out.mono ?_
    rintro e w2 ⟨rfl, h2, hk⟩
    have HX := Lib.hid (HE.out w2 h2 hk)
    have c0 := cell_of h2.here (j := 0) rfl
    have g0 := frozen_of_row w2 sp 0 _ _ h2.here
    clear h2 hk
    go_wp2_with fail
    go_ret
    exact HX.out
theorem punch_any {w : World} {B sp mb : Nat} {S : Sh} (h : SW w B sp mb S) (p n : Int) (hp : p ≤ 9223372036854775807) : Calls Try.prog 23 #[.pointer (some ⟨sp, 0, none⟩), .int .i64 p, .int .i64 n] w (ChPost w B sp mb (punchI S p n) (.bool (ft p n))) := by
  obtain ⟨r, hrr⟩ : ∃ r, ft p n = r := ⟨_, rfl⟩
  have HF := Lib.hid (fits_any p n hp w)
  rw [hrr] at HF
  rw [hrr]
  cases r with
  | false =>
    have HE : Hid (ChPost w B sp mb (punchI S p n) (.bool false) (.returned (.bool false)) w) := Lib.hid (by
      unfold punchI
      rw [hrr]
      exact ⟨rfl, h, SK.refl⟩)
    clear h hrr
    go_enter Try.func23, Try.ntmps23
    go_wp2_with fail
    refine HF.out.mono ?_
    rintro e w' ⟨rfl, rfl⟩
    go_wp2_with fail
    go_ret
    exact HE.out
  | true =>
    obtain ⟨f0, f1, f2⟩ := ft_iff.1 hrr
    obtain ⟨N, hN⟩ : ∃ N : Nat, n = (N : Int) := ⟨n.toNat, by omega⟩
    obtain ⟨P, hP⟩ : ∃ P : Nat, p = (P : Int) := ⟨p.toNat, by omega⟩
    subst hN; subst hP
    obtain ⟨t, ht⟩ : ∃ t, min (P + N) S.n = t := ⟨_, rfl⟩
    have HBL := Lib.hid (blank_any h P t (by omega) (by omega))
    obtain ⟨z, hz⟩ : ∃ z : Int, (S.n : Int) = z := ⟨_, rfl⟩
    have d0 := cell_of h.here (j := 0) rfl
    rw [hz] at d0
    obtain ⟨y, hy⟩ : ∃ y : Int, (P : Int) + (N : Int) = y := ⟨_, rfl⟩
    have hw1 : IntKind.i64.wrap ((P : Int) + (N : Int)) = y := by rw [IntKind.wrap_i64]; omega
    have hmn : min y z = (t : Int) := by omega
    have HE : Hid (∀ w2, SW w2 B sp mb (bl S P t) → SK w w2 sp mb → ChPost w B sp mb (punchI S (P : Int) (N : Int)) (.bool true) (.returned (.bool true)) w2) := Lib.hid (fun w2 h2 hk => by
      unfold punchI punchS
      rw [hrr, Int.toNat_natCast, Int.toNat_natCast, ht]
      exact ⟨rfl, h2, hk⟩)
    clear h hrr f0 f1 f2 hz hy ht
    go_enter Try.func23, Try.ntmps23
    go_wp2_with fail
    refine HF.out.mono ?_
    rintro e w' ⟨rfl, rfl⟩
    go_wp2_with fail
    refine HBL.out.mono ?_
    rintro e w2 ⟨rfl, h2, hk⟩
    have HX := Lib.hid (HE.out w2 h2 hk)
    clear h2 hk
    go_wp2_with fail
    go_ret
    exact HX.out
end Go.Proofs.Ytoallenigfbkpaa
