/-
  What slices.DeleteFunc with Part's closure returns and leaves. No condition.
-/
import Derived.Test.YtdlhjpcofldfnaaPart
namespace Go.Proofs.Ytdlhjpcofldfnaa
set_option maxRecDepth 100000
open Go.ChangeShapes Go.WideShapes Go.ChangeAt Go.RowKit

theorem grown_trans {a b c : World} {r : Option Nat} (x : a.grownBy b r) (y : b.grownBy c r) : a.grownBy c r := ⟨y.os.trans x.os, y.tape.trans x.tape, y.output.trans x.output, Nat.le_trans x.size y.size, fun k hk hn => (y.block k (Nat.lt_of_lt_of_le hk x.size) hn).trans (x.block k hk hn)⟩
theorem grown_below {w w' : World} {r : Option Nat} (h : Below w.heap.size w w') : w.grownBy w' r := ⟨h.os, h.tape, h.output, h.size, fun k hk _ => h.block k hk⟩
/-- The messages that stay. -/
def keepF (lo hi : Int) (L : List Pk) : List Pk := L.filter fun x => !btw lo hi x
theorem keep_all {lo hi : Int} {L : List Pk} (h : ∀ x ∈ L, btw lo hi x = false) : keepF lo hi L = L := List.filter_eq_self.2 (fun x hx => by rw [h x hx]; rfl)
theorem keep_snoc (lo hi : Int) (L : List Pk) (x : Pk) : keepF lo hi (L ++ [x]) = keepF lo hi L ++ (if btw lo hi x = true then [] else [x]) := by
  unfold keepF
  rw [List.filter_append]
  cases h : btw lo hi x <;> simp [h]
/-- The row in the middle of it. -/
structure DfM (lo hi : Int) (L M : List Pk) (i j : Nat) : Prop where
  lt : i < j
  len : M.length = L.length
  front : M.take i = keepF lo hi (L.take j)
  back : M.drop j = L.drop j
  ok : ∀ x ∈ M, POk x
theorem dfm_get {lo hi : Int} {L M : List Pk} {i j : Nat} (h : DfM lo hi L M i j) (hj : j < L.length) : M.getD j pk0 = L.getD j pk0 := by
  have h1 := h.back
  rw [List.drop_eq_getElem_cons (by rw [h.len]; exact hj), List.drop_eq_getElem_cons hj] at h1
  injection h1 with h1 _
  rw [getD_eq pk0 hj, getD_eq pk0 (by rw [h.len]; exact hj), h1]
theorem dfm_skip {lo hi : Int} {L M : List Pk} {i j : Nat} (h : DfM lo hi L M i j) (hj : j < L.length) (hb : btw lo hi (L.getD j pk0) = true) : DfM lo hi L M i (j + 1) := by
  refine ⟨by have := h.lt; omega, h.len, ?_, ?_, h.ok⟩
  · rw [List.take_succ_eq_append_getElem hj, keep_snoc, ← getD_eq pk0 hj, if_pos hb, List.append_nil]; exact h.front
  · rw [← List.drop_drop, ← List.drop_drop, h.back]
theorem dfm_keep {lo hi : Int} {L M : List Pk} {i j : Nat} (h : DfM lo hi L M i j) (hj : j < L.length) (hb : btw lo hi (L.getD j pk0) = false) (hx : POk (L.getD j pk0)) : DfM lo hi L (M.set i (L.getD j pk0)) (i + 1) (j + 1) := by
  have hlt := h.lt
  have hl := h.len
  refine ⟨by omega, by rw [List.length_set]; exact hl, ?_, ?_, fun x hx' => ?_⟩
  · rw [List.take_succ_eq_append_getElem (by rw [List.length_set]; omega), List.getElem_set_self, List.take_set_of_le (Nat.le_refl _), h.front, List.take_succ_eq_append_getElem hj, keep_snoc, ← getD_eq pk0 hj, if_neg (by rw [hb]; decide)]
  · rw [List.drop_set_of_lt (by omega), ← List.drop_drop, ← List.drop_drop, h.back]
  · rcases List.mem_or_eq_of_mem_set hx' with h1 | h1
    · exact h.ok x h1
    · rw [h1]; exact hx
def DfPost (B : Nat) (w : World) (A : Option Addr) (n c : Nat) (L : List Pk) (lo hi : Int) (e : Ending) (w' : World) : Prop :=
  e = .returned (.slice A (keepF lo hi L).length c) ∧ w'.ownsRow B 31 3 (.slice A (keepF lo hi L).length c) (keepF lo hi L).length (pcells (keepF lo hi L)) ∧ w.grownBy w' (Value.slice A n c).ownBlock
theorem df_fin {w w2 : World} {B g n c i : Nat} {L M : List Pk} {lo hi : Int} {vs : List Value} (hm : DfM lo hi L M i n) (hn : L.length = n) (ho : w2.ownsRow B 31 3 (.slice (some ⟨g, 0, none⟩) n c) n (pcells M)) (hg : w.grownBy w2 (some g)) (hv : vs.length = (n - i) * 3) :
    DfPost B w (some ⟨g, 0, none⟩) n c L lo hi (.returned (.slice (some ⟨g, 0, none⟩) i c)) (w2.setCells g (i * 3) vs) := by
  have hlt := hm.lt
  have hml : M.length = n := by rw [hm.len, hn]
  have hf := hm.front
  rw [List.take_of_length_le (show L.length ≤ n by omega)] at hf
  have hi' : (keepF lo hi L).length = i := by rw [← hf, List.length_take]; omega
  have h1 := own_short (own_set_cells ho (i * 3) vs (by omega)) (show i ≤ n by omega)
  have e : (splice (pcells M) (i * 3) vs).take (i * 3) = pcells (keepF lo hi L) := by
    unfold splice
    rw [List.take_append_of_le_length (by rw [List.length_take, pcells_length]; omega), List.take_take, Nat.min_self, ← hf]
    have h2 : M = M.take i ++ M.drop i := (List.take_append_drop _ _).symm
    conv => lhs; rw [h2, pcells_append]
    rw [List.take_append_of_le_length (by rw [pcells_length, List.length_take]; omega), List.take_of_length_le (by rw [pcells_length, List.length_take]; omega)]
  rw [e] at h1
  exact ⟨by rw [hi'], by rw [hi']; exact h1, grown_trans hg (setCells_grown _ _ _)⟩
set_option maxHeartbeats 4000000 in
theorem dfunc_any (B : Nat) (A : Option Addr) (n c : Nat) (L : List Pk) (w : World) (pb : Nat) (lo hi : Int) (ho : w.ownsRow B 31 3 (.slice A n c) n (pcells L)) (hl : L.length = n) (hok : ∀ x ∈ L, POk x) (hc : Cap w pb lo hi) (hn : n ≤ 2000) :
    Calls Try.prog 30 #[.slice A n c, .func (.func 31) #[] #[.pointer (some ⟨pb, 0, none⟩)]] w (DfPost B w A n c L lo hi) := by
  have HIX := Lib.hid (idx_any A n c L w pb lo hi (row_reads ho hl hok) hc hn)
  have HO := Lib.hid ho
  have HL := Lib.hid hl
  have HOK := Lib.hid hok
  have HC := Lib.hid hc
  have hn2 : (n : Int) ≤ 2000 := by omega
  clear ho hl hok hc
  go_enter Try.func30, Try.ntmps30
  go_wp2_with fail
  refine HIX.out.mono ?_
  rintro e w1 ⟨r, rfl, hr, hb1⟩
  have HB1 := Lib.hid hb1
  clear hb1
  rcases hr with ⟨rfl, hno⟩ | ⟨k, rfl, hk, hbk, hno⟩
  · have HE : Hid (DfPost B w A n c L lo hi (.returned (.slice A n c)) w1) := Lib.hid (by
      have e := keep_all hno
      refine ⟨by rw [e, HL.out], by rw [e, HL.out]; exact own_below HO.out HB1.out, grown_below HB1.out⟩)
    clear hno
    go_wp2_with fail
    go_ret
    exact HE.out
  · rw [HL.out] at hk
    obtain ⟨A', c', e, hnc, hcm, hA⟩ := own_form HO.out
    injection e with e1 e2 e3
    obtain ⟨g, rfl⟩ := hA (by omega)
    subst e1; subst e3
    have HM0 : Hid (DfM lo hi L L k (k + 1)) := Lib.hid ⟨by omega, rfl, by
      rw [List.take_succ_eq_append_getElem (by rw [HL.out]; exact hk), keep_snoc, keep_all hno, ← getD_eq pk0 (by rw [HL.out]; exact hk), if_pos hbk, List.append_nil], rfl, HOK.out⟩
    have HG1 : Hid (w.grownBy w1 (some g)) := Lib.hid (grown_below HB1.out)
    have HO1 := Lib.hid (own_below HO.out HB1.out)
    have HPG : Hid (pb ≠ g) := Lib.hid (fun e => own_ne HO.out HC.out (by decide) (by rw [e]; rfl))
    have hkne : ((k : Int) == -1) = false := by rw [beq_eq_false_iff_ne]; omega
    have hk0 : (k : Int) ≤ 2000 := by omega
    have hk1 : (0 : Int) ≤ (k : Int) := by omega
    have HNC := Lib.hid hnc
    have HK := Lib.hid hk
    clear hno hbk hcm hA hnc hk
    go_wp2_with fail
    go_loopw [5, 6] (fun vi vj wr => ∃ (i j : Nat) (M : List Pk), j ≤ n ∧ vi = .int .i64 i ∧ vj = .int .i64 j ∧ DfM lo hi L M i j ∧ wr.ownsRow B 31 3 (.slice (some ⟨g, 0, none⟩) n c) n (pcells M) ∧ w.grownBy wr (some g)) (fun _ vj _ => n - (intOf vj).toNat)
    case atStart => exact ⟨k, k + 1, L, by have := HK.out; omega, rfl, by go_num, HM0.out, HO1.out, HG1.out⟩
    case round =>
      obtain ⟨i, j, M, hj, rfl, rfl, hdm, hown, hgr⟩ := hrel
      have HDM := Lib.hid hdm
      have HOW := Lib.hid hown
      have HGR := Lib.hid hgr
      have hij := hdm.lt
      clear hdm hown hgr
      by_cases hlt : j < n
      · have hml : M.length = n := by rw [HDM.out.len, HL.out]
        obtain ⟨b, off, x, he, -, -, htk, hxok, h0, h1, h2⟩ := (row_reads HOW.out hml HDM.out.ok).round hlt
        injection he with he
        injection he with he1 he2 he3
        subst he1; subst he2
        have hxe : x = L.getD j pk0 := by
          rw [List.take_succ_eq_append_getElem (by omega)] at htk
          have h3 := List.append_cancel_left htk
          injection h3 with h3 _
          rw [← dfm_get HDM.out (by rw [HL.out]; exact hlt), ← h3, getD_eq pk0 (by omega)]
        have HXE := Lib.hid hxe
        have HXO := Lib.hid hxok
        have h0' := h0
        have h1' := h1
        have h2' := h2
        rw [Nat.zero_add] at h0' h1' h2'
        obtain ⟨bo, hbe⟩ : ∃ b, b = wr.heap.size := ⟨_, rfl⟩
        obtain ⟨wo, hwo⟩ : ∃ wo, wo = wr.alloc (.cells #[.int .i64 x.f, .int .i64 x.t, .string x.b] 31) := ⟨_, rfl⟩
        have hbo : Below wr.heap.size wr wo := by rw [hwo]; exact box_below wr _
        have hxo : wo.heap[bo]? = some (.cells #[.int .i64 x.f, .int .i64 x.t, .string x.b] 31 (0, 0)) := by rw [hwo, hbe]; exact new_block wr _
        have hcap : Cap wr pb lo hi := (HGR.out.block pb (Array.getElem?_eq_some_iff.1 HC.out).1 (fun e => HPG.out (Option.some.inj e))).trans HC.out
        have HXO2 := Lib.hid hxo
        have HOO := Lib.hid (own_below HOW.out hbo)
        have HGO : Hid (w.grownBy wo (some g)) := Lib.hid (grown_trans HGR.out (grown_below hbo))
        have HCL := Lib.hid (clo_any wo pb lo hi x (hcap.kept hbo))
        obtain ⟨r, hr⟩ : ∃ r, r = btw lo hi x := ⟨_, rfl⟩
        rw [← hr] at HCL
        have HRE := Lib.hid hr
        have HWO := Lib.hid hwo
        have HBE := Lib.hid hbe
        have hj0 : (0 : Int) ≤ (j : Int) := by omega
        have hj1 : (j : Int) < (n : Int) := by omega
        have hi0 : (0 : Int) ≤ (i : Int) := by omega
        have hi1 : (i : Int) < (n : Int) := by omega
        clear hml htk hxok hxe hbe hwo hbo hxo hcap hr
        go_upto_region 8 with fail
        rw [← HWO.out, ← HBE.out]
        have o0 := cell_of HXO2.out (j := 0) rfl
        have o1 := cell_of HXO2.out (j := 1) rfl
        have o2 := cell_of HXO2.out (j := 2) rfl
        clear h0 h1 h2 h0' h1' h2'
        go_wp2_with fail
        refine HCL.out.mono ?_
        rintro e w5 ⟨rfl, hb5⟩
        have HO5 := Lib.hid (own_below HOO.out hb5)
        have HG5 : Hid (w.grownBy w5 (some g)) := Lib.hid (grown_trans HGO.out (grown_below hb5))
        have hx5 := (hb5.block _ (Array.getElem?_eq_some_iff.1 HXO2.out).1).trans HXO2.out
        clear o0 o1 o2 hb5
        cases r with
        | true =>
          have HMN := Lib.hid (dfm_skip HDM.out (by rw [HL.out]; exact hlt) (by rw [← HXE.out]; exact HRE.out.symm))
          clear hx5
          go_wp2_with fail
          go_round
          case rel => exact ⟨i, j + 1, M, by omega, rfl, by go_num, HMN.out, HO5.out, HG5.out⟩
          case measure => simp [intOf]; omega
        | false =>
          have HMN := Lib.hid (dfm_keep HDM.out (by rw [HL.out]; exact hlt) (by rw [← HXE.out]; exact HRE.out.symm) (by rw [← HXE.out]; exact HXO.out))
          rw [← HXE.out] at HMN
          obtain ⟨w6, hw6⟩ : ∃ w6, w6 = ((w5.setCell ⟨g, i * 3, none⟩ (.int .i64 x.f)).setCell ⟨g, i * 3 + 1, none⟩ (.int .i64 x.t)).setCell ⟨g, i * 3 + 2, none⟩ (.string x.b) := ⟨_, rfl⟩
          have hw6' : w6 = w5.setCells g (i * 3) (pcell x) := hw6
          have HO6 : Hid (w6.ownsRow B 31 3 (.slice (some ⟨g, 0, none⟩) n c) n (pcells (M.set i x))) := Lib.hid (by
            have h3 := own_set_cells HO5.out (i * 3) (pcell x) (by simp [pcell]; omega)
            have h4 := part_set pcell 3 M i (by rw [HDM.out.len, HL.out]; omega) x (fun _ _ => rfl) rfl
            rw [← hw6'] at h3
            unfold pcells at h3
            rw [h4] at h3
            exact h3)
          have HG6 : Hid (w.grownBy w6 (some g)) := Lib.hid (grown_trans HG5.out (by rw [hw6']; exact setCells_grown _ _ _))
          have o0 := cell_of hx5 (j := 0) rfl
          have o1 := cell_of hx5 (j := 1) rfl
          have o2 := cell_of hx5 (j := 2) rfl
          obtain ⟨⟨v0, y0⟩, f0⟩ : (∃ v, w5.cell? ⟨g, i * 3, none⟩ = some v) ∧ w5.frozen? ⟨g, i * 3, none⟩ = false := ⟨Option.isSome_iff_exists.1 (own_cells HO5.out (i * 3) (by omega)).1, (own_cells HO5.out (i * 3) (by omega)).2⟩
          obtain ⟨⟨v1, y1⟩, f1⟩ : (∃ v, w5.cell? ⟨g, i * 3 + 1, none⟩ = some v) ∧ w5.frozen? ⟨g, i * 3 + 1, none⟩ = false := ⟨Option.isSome_iff_exists.1 (own_cells HO5.out (i * 3 + 1) (by omega)).1, (own_cells HO5.out (i * 3 + 1) (by omega)).2⟩
          obtain ⟨⟨v2, y2⟩, f2⟩ : (∃ v, w5.cell? ⟨g, i * 3 + 2, none⟩ = some v) ∧ w5.frozen? ⟨g, i * 3 + 2, none⟩ = false := ⟨Option.isSome_iff_exists.1 (own_cells HO5.out (i * 3 + 2) (by omega)).1, (own_cells HO5.out (i * 3 + 2) (by omega)).2⟩
          have HW6 := Lib.hid hw6
          clear hw6 hw6' hx5
          go_upto_region 10 with fail
          rw [← HW6.out]
          clear o0 o1 o2 y0 y1 y2 f0 f1 f2
          go_wp2_with fail
          go_round
          case rel => exact ⟨i + 1, j + 1, _, by omega, by go_num, by go_num, HMN.out, HO6.out, HG6.out⟩
          case measure => simp [intOf]; omega
      · obtain rfl : j = n := by omega
        have hj1 : ¬ (j : Int) < (j : Int) := by omega
        obtain ⟨A2, hs2, hA2⟩ := slice_from g j c i (by omega) HNC.out
        have hA2' := hA2 (by have := HNC.out; omega)
        subst hA2'
        obtain ⟨vs, hvl, hclr⟩ := run_clear_row wr g (i * 3) (j - i) (c - i) (by omega) (fun q hq => own_cells HOW.out _ (by omega))
        have hs3 := slice_to g j c i (by have := HNC.out; omega)
        have HE := Lib.hid (df_fin HDM.out HL.out HOW.out HGR.out hvl)
        clear hA2 hvl
        go_wp2_with fail
        go_ret
        exact HE.out
end Go.Proofs.Ytdlhjpcofldfnaa
