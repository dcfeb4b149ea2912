/-
  What slices.IndexFunc and slices.DeleteFunc of watches return and leave, with any closure that holds one box. No condition.
-/
import Derived.Test.YtfejapaoflikhaaDoorWAdd
namespace Go.Proofs.YtfejapaoflikhaaDoor
set_option maxRecDepth 100000
open Go.ChangeShapes Go.WideShapes Go.ChangeAt Go.RowKit Go.Proofs.Zn Go.Proofs.Wa

theorem grown_trans {a b c : World} {r : Option Nat} (x : a.grownBy b r) (y : b.grownBy c r) : a.grownBy c r := ⟨y.os.trans x.os, y.tape.trans x.tape, y.output.trans x.output, Nat.le_trans x.size y.size, fun k hk hn => (y.block k (Nat.lt_of_lt_of_le hk x.size) hn).trans (x.block k hk hn)⟩
/-- The closure, its box. -/
structure Clo (f pb : Nat) (o : Obj) (p : Wt → Bool) : Prop where
  run : ∀ W x, W.heap[pb]? = some o → Calls Tryd.prog f #[.agg #[.int .i64 x.s, .string (B x.p), .bool x.k], .pointer (some ⟨pb, 0, none⟩)] W fun en w' => en = .returned (.bool (p x)) ∧ Below W.heap.size W w'
def keepB (p : Wt → Bool) (L : Tb) : Tb := L.filter fun x => !p x
theorem keep_all {p : Wt → Bool} {L : Tb} (h : ∀ x ∈ L, p x = false) : keepB p L = L := List.filter_eq_self.2 (fun x hx => by rw [h x hx]; rfl)
theorem keep_snoc (p : Wt → Bool) (L : Tb) (x : Wt) : keepB p (L ++ [x]) = keepB p L ++ (if p x = true then [] else [x]) := by
  unfold keepB
  rw [List.filter_append]
  cases h : p x <;> simp [h]
theorem take_some {α : Type} {L : List α} {j : Nat} {x : α} (h : L[j]? = some x) : L.take (j + 1) = L.take j ++ [x] := by
  obtain ⟨h1, rfl⟩ := List.getElem?_eq_some_iff.1 h
  exact List.take_succ_eq_append_getElem h1
/-- The row in the middle of it. -/
structure DfM (p : Wt → Bool) (L M : Tb) (i j : Nat) : Prop where
  lt : i < j
  len : M.length = L.length
  front : M.take i = keepB p (L.take j)
  back : M.drop j = L.drop j
theorem dfm_get {p : Wt → Bool} {L M : Tb} {i j : Nat} (h : DfM p L M i j) : M[j]? = L[j]? := by
  have h1 := congrArg (fun l : Tb => l[0]?) h.back
  simpa [List.getElem?_drop] using h1
theorem dfm_skip {p : Wt → Bool} {L M : Tb} {i j : Nat} (h : DfM p L M i j) {x : Wt} (hj : L[j]? = some x) (hb : p x = true) : DfM p L M i (j + 1) := by
  refine ⟨by have := h.lt; omega, h.len, ?_, ?_⟩
  · rw [take_some hj, keep_snoc, if_pos hb, List.append_nil]; exact h.front
  · rw [← List.drop_drop, ← List.drop_drop, h.back]
theorem dfm_keep {p : Wt → Bool} {L M : Tb} {i j : Nat} (h : DfM p L M i j) {x : Wt} (hj : L[j]? = some x) (hb : p x = false) : DfM p L (M.set i x) (i + 1) (j + 1) := by
  have hlt := h.lt
  have hl := h.len
  have hjl := (List.getElem?_eq_some_iff.1 hj).1
  refine ⟨by omega, by rw [List.length_set]; exact hl, ?_, ?_⟩
  · rw [List.take_succ_eq_append_getElem (by rw [List.length_set]; omega), List.getElem_set_self, List.take_set_of_le (Nat.le_refl _), h.front, take_some hj, keep_snoc, if_neg (by rw [hb]; decide)]
  · rw [List.drop_set_of_lt (by omega), ← List.drop_drop, ← List.drop_drop, h.back]
def IxPost (w : World) (L : Tb) (p : Wt → Bool) (e : Ending) (w' : World) : Prop :=
  ∃ r : Int, e = .returned (.int .i64 r) ∧ ((r = -1 ∧ ∀ x ∈ L, p x = false) ∨ ∃ (k : Nat) (x : Wt), r = k ∧ L[k]? = some x ∧ p x = true ∧ ∀ y ∈ L.take k, p y = false) ∧ Below w.heap.size w w'
def DfPost (Bs : Nat) (w : World) (A : Option Addr) (n c : Nat) (L : Tb) (p : Wt → Bool) (e : Ending) (w' : World) : Prop :=
  e = .returned (.slice A (keepB p L).length c) ∧ w'.ownsRow Bs 45 3 (.slice A (keepB p L).length c) (keepB p L).length (wcells (keepB p L)) ∧ w.grownBy w' (Value.slice A n c).ownBlock
theorem df_fin {w w2 : World} {Bs g n c i : Nat} {L M : Tb} {p : Wt → Bool} {vs : List Value} (hm : DfM p L M i n) (hn : L.length = n) (ho : w2.ownsRow Bs 45 3 (.slice (some ⟨g, 0, none⟩) n c) n (wcells M)) (hg : w.grownBy w2 (some g)) (hv : vs.length = (n - i) * 3) :
    DfPost Bs w (some ⟨g, 0, none⟩) n c L p (.returned (.slice (some ⟨g, 0, none⟩) i c)) (w2.setCells g (i * 3) vs) := by
  have hlt := hm.lt
  have hml : M.length = n := by rw [hm.len, hn]
  have hf := hm.front
  rw [List.take_of_length_le (show L.length ≤ n by omega)] at hf
  have hi' : (keepB p L).length = i := by rw [← hf, List.length_take]; omega
  have h1 := own_short (own_set_cells ho (i * 3) vs (by omega)) (show i ≤ n by omega)
  have e : (splice (wcells M) (i * 3) vs).take (i * 3) = wcells (keepB p L) := by
    unfold splice
    rw [List.take_append_of_le_length (by rw [List.length_take, wcells_length]; omega), List.take_take, Nat.min_self, ← hf]
    have h2 : M = M.take i ++ M.drop i := (List.take_append_drop _ _).symm
    conv => lhs; rw [h2, wcells_append]
    rw [List.take_append_of_le_length (by rw [wcells_length, List.length_take]; omega), List.take_of_length_le (by rw [wcells_length, List.length_take]; omega)]
  rw [e] at h1
  exact ⟨by rw [hi'], by rw [hi']; exact h1, grown_trans hg (setCells_grown _ _ _)⟩
set_option maxHeartbeats 4000000 in
theorem idxF_any (A : Option Addr) (n c : Nat) (L : Tb) (w : World) (pb : Nat) (o : Obj) (p : Wt → Bool) (hR : Rd wcell 3 w A n L) (hc : w.heap[pb]? = some o) (hf : Clo 24 pb o p) (hn : n ≤ 2000) :
    Calls Tryd.prog 36 #[.slice A n c, .func (.func 24) #[] #[.pointer (some ⟨pb, 0, none⟩)]] w (IxPost w L p) := by
  have HR := Lib.hid hR
  have HC := Lib.hid hc
  have HF := Lib.hid hf
  have HL := Lib.hid hR.len
  have hn2 : (n : Int) ≤ 2000 := by omega
  clear hR hc hf
  go_enter Tryd.func36, Tryd.ntmps36
  go_wp2_with fail
  go_loopw [8] (fun vk wr => ∃ k : Nat, k ≤ n ∧ vk = .int .i64 k ∧ (∀ x ∈ L.take k, p x = false) ∧ Below w.heap.size w wr) (fun vk _ => n - (intOf vk).toNat)
  case atStart => exact ⟨0, Nat.zero_le _, rfl, fun x hx => by simp at hx, Below.refl _ _⟩
  case round =>
    obtain ⟨k, hk, rfl, hno, hbw⟩ := hrel
    have HNO := Lib.hid hno
    have HBW := Lib.hid hbw
    clear hno hbw
    by_cases hlt : k < n
    · obtain ⟨b, off, x, rfl, hx, hcc⟩ := (HR.out.below HBW.out).at hlt
      have HX := Lib.hid hx
      have c0 : wr.cell? ⟨b, off + k * 3, none⟩ = some (.int .i64 x.s) := hcc 0 _ rfl
      have c1 : wr.cell? ⟨b, off + k * 3 + 1, none⟩ = some (.string (B x.p)) := hcc 1 _ rfl
      have c2 : wr.cell? ⟨b, off + k * 3 + 2, none⟩ = some (.bool x.k) := hcc 2 _ rfl
      have HCL := Lib.hid (HF.out.run wr x (blk_below HC.out HBW.out))
      obtain ⟨r, hr⟩ : ∃ r, p x = r := ⟨_, rfl⟩
      rw [hr] at HCL
      have HRE := Lib.hid hr
      have hk0 : (0 : Int) ≤ (k : Int) := by omega
      have hk1 : (k : Int) < (n : Int) := by omega
      clear hx hcc hr
      go_wp2_with fail
      refine HCL.out.mono ?_
      rintro e w5 ⟨rfl, hb5⟩
      have HB5 := Lib.hid (HBW.out.trans (hb5.mono HBW.out.size))
      clear hb5 c0 c1 c2
      cases r with
      | true =>
        have HE : Hid (IxPost w L p (.returned (.int .i64 (k : Int))) w5) := Lib.hid ⟨_, rfl, .inr ⟨k, x, rfl, HX.out, HRE.out, HNO.out⟩, HB5.out⟩
        go_wp2_with fail
        go_ret
        exact HE.out
      | false =>
        go_wp2_with fail
        go_round
        case rel => exact ⟨k + 1, by omega, by go_num, fun y hy => by
          rw [take_some HX.out] at hy
          rcases List.mem_append.1 hy with hy | hy
          · exact HNO.out y hy
          · rcases List.mem_singleton.1 hy with rfl; exact HRE.out, HB5.out⟩
        case measure => simp [intOf]; omega
    · obtain rfl : k = n := by omega
      have hk1 : ¬ (k : Int) < (k : Int) := by omega
      have HE : Hid (IxPost w L p (.returned (.int .i64 (-1))) wr) := Lib.hid ⟨_, rfl, .inl ⟨rfl, fun x hx => HNO.out x (by rw [List.take_of_length_le (by rw [HL.out]; exact Nat.le_refl _)]; exact hx)⟩, HBW.out⟩
      go_wp2_with fail
      go_ret
      exact HE.out
set_option maxHeartbeats 8000000 in
theorem dfuncF_any (Bs : Nat) (A : Option Addr) (n c : Nat) (L : Tb) (w : World) (pb : Nat) (cs : Array Value) (t : TypeId) (p : Wt → Bool) (ho : w.ownsRow Bs 45 3 (.slice A n c) n (wcells L)) (hl : L.length = n) (hc : w.heap[pb]? = some (.cells cs t (0, 0))) (ht : t ≠ 45) (hf : Clo 24 pb (.cells cs t (0, 0)) p) (hn : n ≤ 2000) :
    Calls Tryd.prog 26 #[.slice A n c, .func (.func 24) #[] #[.pointer (some ⟨pb, 0, none⟩)]] w (DfPost Bs w A n c L p) := by
  have HIX := Lib.hid (idxF_any A n c L w pb _ p (Rd.of_own ho (fun _ _ => rfl) (by omega)) hc hf hn)
  have HO := Lib.hid ho
  have HL := Lib.hid hl
  have HC := Lib.hid hc
  have HF := Lib.hid hf
  have HT := Lib.hid ht
  have hn2 : (n : Int) ≤ 2000 := by omega
  clear ho hl hc hf ht
  go_enter Tryd.func26, Tryd.ntmps26
  go_wp2_with fail
  refine HIX.out.mono ?_
  rintro e w1 ⟨r, rfl, hr, hb1⟩
  have HB1 := Lib.hid hb1
  clear hb1
  rcases hr with ⟨rfl, hno⟩ | ⟨k, x, rfl, hkx, hbk, hno⟩
  · have HE : Hid (DfPost Bs w A n c L p (.returned (.slice A n c)) w1) := Lib.hid (by
      have e := keep_all hno
      refine ⟨by rw [e, HL.out], by rw [e, HL.out]; exact own_below HO.out HB1.out, gb_below HB1.out _⟩)
    clear hno
    go_wp2_with fail
    go_ret
    exact HE.out
  · have hk : k < n := by rw [← HL.out]; exact (List.getElem?_eq_some_iff.1 hkx).1
    obtain ⟨A', c', e, hnc, hcm, hA⟩ := own_form HO.out
    injection e with e1 e2 e3
    obtain ⟨g, rfl⟩ := hA (by omega)
    subst e1; subst e3
    have HM0 : Hid (DfM p L L k (k + 1)) := Lib.hid ⟨by omega, rfl, by
      rw [take_some hkx, keep_snoc, keep_all hno, if_pos hbk, List.append_nil], rfl⟩
    have HG1 : Hid (w.grownBy w1 (some g)) := Lib.hid (gb_below HB1.out _)
    have HO1 := Lib.hid (own_below HO.out HB1.out)
    have HPG : Hid (pb ≠ g) := Lib.hid (fun e => own_ne HO.out HC.out HT.out (by rw [e]; rfl))
    have hkne : ((k : Int) == -1) = false := by rw [beq_eq_false_iff_ne]; omega
    have hk0 : (k : Int) ≤ 2000 := by omega
    have hk1 : (0 : Int) ≤ (k : Int) := by omega
    have HNC := Lib.hid hnc
    have HK := Lib.hid hk
    clear hno hbk hcm hA hnc hk hkx
    go_wp2_with fail
    go_loopw [5, 6] (fun vi vj wr => ∃ (i j : Nat) (M : Tb), j ≤ n ∧ vi = .int .i64 i ∧ vj = .int .i64 j ∧ DfM p L M i j ∧ wr.ownsRow Bs 45 3 (.slice (some ⟨g, 0, none⟩) n c) n (wcells M) ∧ w.grownBy wr (some g)) (fun _ vj _ => n - (intOf vj).toNat)
    case atStart => exact ⟨k, k + 1, L, by have := HK.out; omega, rfl, by go_num, HM0.out, HO1.out, HG1.out⟩
    case round =>
      obtain ⟨i, j, M, hj, rfl, rfl, hdm, hown, hgr⟩ := hrel
      have HDM := Lib.hid hdm
      have HOW := Lib.hid hown
      have HGR := Lib.hid hgr
      have hij := hdm.lt
      clear hdm hown hgr
      by_cases hlt : j < n
      · have hml : M.length = n := by rw [HDM.out.len, HL.out]
        obtain ⟨b, off, x, he, hx, hcc⟩ := (Rd.of_own (cell := wcell) (l := M) HOW.out (fun _ _ => rfl) (by omega)).at hlt
        injection he with he
        injection he with he1 he2 he3
        subst he1; subst he2
        have h0 : wr.cell? ⟨g, 0 + j * 3, none⟩ = some (.int .i64 x.s) := hcc 0 _ rfl
        have h1 : wr.cell? ⟨g, 0 + j * 3 + 1, none⟩ = some (.string (B x.p)) := hcc 1 _ rfl
        have h2 : wr.cell? ⟨g, 0 + j * 3 + 2, none⟩ = some (.bool x.k) := hcc 2 _ rfl
        have HX : Hid (L[j]? = some x) := Lib.hid (by rw [← dfm_get HDM.out]; exact hx)
        have h0' := h0
        have h1' := h1
        have h2' := h2
        rw [Nat.zero_add] at h0' h1' h2'
        obtain ⟨bo, hbe⟩ : ∃ b, b = wr.heap.size := ⟨_, rfl⟩
        obtain ⟨wo, hwo⟩ : ∃ wo, wo = wr.alloc (.cells #[.int .i64 x.s, .string (B x.p), .bool x.k] 45) := ⟨_, rfl⟩
        have hbo : Below wr.heap.size wr wo := by rw [hwo]; exact box_below wr _
        have hxo : wo.heap[bo]? = some (.cells #[.int .i64 x.s, .string (B x.p), .bool x.k] 45 (0, 0)) := by rw [hwo, hbe]; exact new_block wr _
        have hcap : wr.heap[pb]? = some (.cells cs t (0, 0)) := (HGR.out.block pb (Array.getElem?_eq_some_iff.1 HC.out).1 (fun e => HPG.out (Option.some.inj e))).trans HC.out
        have HXO2 := Lib.hid hxo
        have HOO := Lib.hid (own_below HOW.out hbo)
        have HGO : Hid (w.grownBy wo (some g)) := Lib.hid (grown_trans HGR.out (gb_below hbo _))
        have HCL := Lib.hid (HF.out.run wo x (blk_below hcap hbo))
        obtain ⟨r, hr⟩ : ∃ r, p x = r := ⟨_, rfl⟩
        rw [hr] at HCL
        have HRE := Lib.hid hr
        have HWO := Lib.hid hwo
        have HBE := Lib.hid hbe
        have hj0 : (0 : Int) ≤ (j : Int) := by omega
        have hj1 : (j : Int) < (n : Int) := by omega
        have hi0 : (0 : Int) ≤ (i : Int) := by omega
        have hi1 : (i : Int) < (n : Int) := by omega
        clear hml hx hcc hbe hwo hbo hxo hcap hr
        go_upto_region 8 with fail
        rw [← HWO.out, ← HBE.out]
        have o0 := cell_of HXO2.out (j := 0) rfl
        have o1 := cell_of HXO2.out (j := 1) rfl
        have o2 := cell_of HXO2.out (j := 2) rfl
        clear h0 h1 h2 h0' h1' h2'
        go_wp2_with fail
        refine HCL.out.mono ?_
        rintro e w5 ⟨rfl, hb5⟩
        have HO5 := Lib.hid (own_below HOO.out hb5)
        have HG5 : Hid (w.grownBy w5 (some g)) := Lib.hid (grown_trans HGO.out (gb_below hb5 _))
        have hx5 := (hb5.block _ (Array.getElem?_eq_some_iff.1 HXO2.out).1).trans HXO2.out
        clear o0 o1 o2 hb5
        cases r with
        | true =>
          have HMN := Lib.hid (dfm_skip HDM.out HX.out HRE.out)
          clear hx5
          go_wp2_with fail
          go_round
          case rel => exact ⟨i, j + 1, M, by omega, rfl, by go_num, HMN.out, HO5.out, HG5.out⟩
          case measure => simp [intOf]; omega
        | false =>
          have HMN := Lib.hid (dfm_keep HDM.out HX.out HRE.out)
          obtain ⟨w6, hw6⟩ : ∃ w6, w6 = ((w5.setCell ⟨g, i * 3, none⟩ (.int .i64 x.s)).setCell ⟨g, i * 3 + 1, none⟩ (.string (B x.p))).setCell ⟨g, i * 3 + 2, none⟩ (.bool x.k) := ⟨_, rfl⟩
          have hw6' : w6 = w5.setCells g (i * 3) (wcell x) := hw6
          have HO6 : Hid (w6.ownsRow Bs 45 3 (.slice (some ⟨g, 0, none⟩) n c) n (wcells (M.set i x))) := Lib.hid (by
            have h3 := own_set_cells HO5.out (i * 3) (wcell x) (by simp [wcell]; omega)
            have h4 := part_set wcell 3 M i (by rw [HDM.out.len, HL.out]; omega) x (fun _ _ => rfl) rfl
            rw [← hw6'] at h3
            unfold wcells at h3
            rw [h4] at h3
            exact h3)
          have HG6 : Hid (w.grownBy w6 (some g)) := Lib.hid (grown_trans HG5.out (by rw [hw6']; exact setCells_grown _ _ _))
          have o0 := cell_of hx5 (j := 0) rfl
          have o1 := cell_of hx5 (j := 1) rfl
          have o2 := cell_of hx5 (j := 2) rfl
          obtain ⟨⟨v0, y0⟩, f0⟩ : (∃ v, w5.cell? ⟨g, i * 3, none⟩ = some v) ∧ w5.frozen? ⟨g, i * 3, none⟩ = false := ⟨Option.isSome_iff_exists.1 (own_cells HO5.out (i * 3) (by omega)).1, (own_cells HO5.out (i * 3) (by omega)).2⟩
          obtain ⟨⟨v1, y1⟩, f1⟩ : (∃ v, w5.cell? ⟨g, i * 3 + 1, none⟩ = some v) ∧ w5.frozen? ⟨g, i * 3 + 1, none⟩ = false := ⟨Option.isSome_iff_exists.1 (own_cells HO5.out (i * 3 + 1) (by omega)).1, (own_cells HO5.out (i * 3 + 1) (by omega)).2⟩
          obtain ⟨⟨v2, y2⟩, f2⟩ : (∃ v, w5.cell? ⟨g, i * 3 + 2, none⟩ = some v) ∧ w5.frozen? ⟨g, i * 3 + 2, none⟩ = false := ⟨Option.isSome_iff_exists.1 (own_cells HO5.out (i * 3 + 2) (by omega)).1, (own_cells HO5.out (i * 3 + 2) (by omega)).2⟩
          have HW6 := Lib.hid hw6
          clear hw6 hw6' hx5
          go_upto_region 10 with fail
          rw [← HW6.out]
          clear o0 o1 o2 y0 y1 y2 f0 f1 f2
          go_wp2_with fail
          go_round
          case rel => exact ⟨i + 1, j + 1, _, by omega, by go_num, by go_num, HMN.out, HO6.out, HG6.out⟩
          case measure => simp [intOf]; omega
      · obtain rfl : j = n := by omega
        have hj1 : ¬ (j : Int) < (j : Int) := by omega
        obtain ⟨A2, hs2, hA2⟩ := slice_fromW g j c i (by omega) HNC.out
        have hA2' := hA2 (by have := HNC.out; omega)
        subst hA2'
        obtain ⟨vs, hvl, hclr⟩ := run_clear_rowW wr g (i * 3) (j - i) (c - i) (by omega) (fun q hq => own_cells HOW.out _ (by omega))
        have hs3 := slice_toW g j c i (by have := HNC.out; omega)
        have HE := Lib.hid (df_fin HDM.out HL.out HOW.out HGR.out hvl)
        clear hA2 hvl
        go_wp2_with fail
        go_ret
        exact HE.out
set_option maxHeartbeats 4000000 in
theorem idxD_any (A : Option Addr) (n c : Nat) (L : Tb) (w : World) (pb : Nat) (o : Obj) (p : Wt → Bool) (hR : Rd wcell 3 w A n L) (hc : w.heap[pb]? = some o) (hf : Clo 34 pb o p) (hn : n ≤ 2000) :
    Calls Tryd.prog 36 #[.slice A n c, .func (.func 34) #[] #[.pointer (some ⟨pb, 0, none⟩)]] w (IxPost w L p) := by
  have HR := Lib.hid hR
  have HC := Lib.hid hc
  have HF := Lib.hid hf
  have HL := Lib.hid hR.len
  have hn2 : (n : Int) ≤ 2000 := by omega
  clear hR hc hf
  go_enter Tryd.func36, Tryd.ntmps36
  go_wp2_with fail
  go_loopw [8] (fun vk wr => ∃ k : Nat, k ≤ n ∧ vk = .int .i64 k ∧ (∀ x ∈ L.take k, p x = false) ∧ Below w.heap.size w wr) (fun vk _ => n - (intOf vk).toNat)
  case atStart => exact ⟨0, Nat.zero_le _, rfl, fun x hx => by simp at hx, Below.refl _ _⟩
  case round =>
    obtain ⟨k, hk, rfl, hno, hbw⟩ := hrel
    have HNO := Lib.hid hno
    have HBW := Lib.hid hbw
    clear hno hbw
    by_cases hlt : k < n
    · obtain ⟨b, off, x, rfl, hx, hcc⟩ := (HR.out.below HBW.out).at hlt
      have HX := Lib.hid hx
      have c0 : wr.cell? ⟨b, off + k * 3, none⟩ = some (.int .i64 x.s) := hcc 0 _ rfl
      have c1 : wr.cell? ⟨b, off + k * 3 + 1, none⟩ = some (.string (B x.p)) := hcc 1 _ rfl
      have c2 : wr.cell? ⟨b, off + k * 3 + 2, none⟩ = some (.bool x.k) := hcc 2 _ rfl
      have HCL := Lib.hid (HF.out.run wr x (blk_below HC.out HBW.out))
      obtain ⟨r, hr⟩ : ∃ r, p x = r := ⟨_, rfl⟩
      rw [hr] at HCL
      have HRE := Lib.hid hr
      have hk0 : (0 : Int) ≤ (k : Int) := by omega
      have hk1 : (k : Int) < (n : Int) := by omega
      clear hx hcc hr
      go_wp2_with fail
      refine HCL.out.mono ?_
      rintro e w5 ⟨rfl, hb5⟩
      have HB5 := Lib.hid (HBW.out.trans (hb5.mono HBW.out.size))
      clear hb5 c0 c1 c2
      cases r with
      | true =>
        have HE : Hid (IxPost w L p (.returned (.int .i64 (k : Int))) w5) := Lib.hid ⟨_, rfl, .inr ⟨k, x, rfl, HX.out, HRE.out, HNO.out⟩, HB5.out⟩
        go_wp2_with fail
        go_ret
        exact HE.out
      | false =>
        go_wp2_with fail
        go_round
        case rel => exact ⟨k + 1, by omega, by go_num, fun y hy => by
          rw [take_some HX.out] at hy
          rcases List.mem_append.1 hy with hy | hy
          · exact HNO.out y hy
          · rcases List.mem_singleton.1 hy with rfl; exact HRE.out, HB5.out⟩
        case measure => simp [intOf]; omega
    · obtain rfl : k = n := by omega
      have hk1 : ¬ (k : Int) < (k : Int) := by omega
      have HE : Hid (IxPost w L p (.returned (.int .i64 (-1))) wr) := Lib.hid ⟨_, rfl, .inl ⟨rfl, fun x hx => HNO.out x (by rw [List.take_of_length_le (by rw [HL.out]; exact Nat.le_refl _)]; exact hx)⟩, HBW.out⟩
      go_wp2_with fail
      go_ret
      exact HE.out
set_option maxHeartbeats 8000000 in
theorem dfuncD_any (Bs : Nat) (A : Option Addr) (n c : Nat) (L : Tb) (w : World) (pb : Nat) (cs : Array Value) (t : TypeId) (p : Wt → Bool) (ho : w.ownsRow Bs 45 3 (.slice A n c) n (wcells L)) (hl : L.length = n) (hc : w.heap[pb]? = some (.cells cs t (0, 0))) (ht : t ≠ 45) (hf : Clo 34 pb (.cells cs t (0, 0)) p) (hn : n ≤ 2000) :
    Calls Tryd.prog 26 #[.slice A n c, .func (.func 34) #[] #[.pointer (some ⟨pb, 0, none⟩)]] w (DfPost Bs w A n c L p) := by
  have HIX := Lib.hid (idxD_any A n c L w pb _ p (Rd.of_own ho (fun _ _ => rfl) (by omega)) hc hf hn)
  have HO := Lib.hid ho
  have HL := Lib.hid hl
  have HC := Lib.hid hc
  have HF := Lib.hid hf
  have HT := Lib.hid ht
  have hn2 : (n : Int) ≤ 2000 := by omega
  clear ho hl hc hf ht
  go_enter Tryd.func26, Tryd.ntmps26
  go_wp2_with fail
  refine HIX.out.mono ?_
  rintro e w1 ⟨r, rfl, hr, hb1⟩
  have HB1 := Lib.hid hb1
  clear hb1
  rcases hr with ⟨rfl, hno⟩ | ⟨k, x, rfl, hkx, hbk, hno⟩
  · have HE : Hid (DfPost Bs w A n c L p (.returned (.slice A n c)) w1) := Lib.hid (by
      have e := keep_all hno
      refine ⟨by rw [e, HL.out], by rw [e, HL.out]; exact own_below HO.out HB1.out, gb_below HB1.out _⟩)
    clear hno
    go_wp2_with fail
    go_ret
    exact HE.out
  · have hk : k < n := by rw [← HL.out]; exact (List.getElem?_eq_some_iff.1 hkx).1
    obtain ⟨A', c', e, hnc, hcm, hA⟩ := own_form HO.out
    injection e with e1 e2 e3
    obtain ⟨g, rfl⟩ := hA (by omega)
    subst e1; subst e3
    have HM0 : Hid (DfM p L L k (k + 1)) := Lib.hid ⟨by omega, rfl, by
      rw [take_some hkx, keep_snoc, keep_all hno, if_pos hbk, List.append_nil], rfl⟩
    have HG1 : Hid (w.grownBy w1 (some g)) := Lib.hid (gb_below HB1.out _)
    have HO1 := Lib.hid (own_below HO.out HB1.out)
    have HPG : Hid (pb ≠ g) := Lib.hid (fun e => own_ne HO.out HC.out HT.out (by rw [e]; rfl))
    have hkne : ((k : Int) == -1) = false := by rw [beq_eq_false_iff_ne]; omega
    have hk0 : (k : Int) ≤ 2000 := by omega
    have hk1 : (0 : Int) ≤ (k : Int) := by omega
    have HNC := Lib.hid hnc
    have HK := Lib.hid hk
    clear hno hbk hcm hA hnc hk hkx
    go_wp2_with fail
    go_loopw [5, 6] (fun vi vj wr => ∃ (i j : Nat) (M : Tb), j ≤ n ∧ vi = .int .i64 i ∧ vj = .int .i64 j ∧ DfM p L M i j ∧ wr.ownsRow Bs 45 3 (.slice (some ⟨g, 0, none⟩) n c) n (wcells M) ∧ w.grownBy wr (some g)) (fun _ vj _ => n - (intOf vj).toNat)
    case atStart => exact ⟨k, k + 1, L, by have := HK.out; omega, rfl, by go_num, HM0.out, HO1.out, HG1.out⟩
    case round =>
      obtain ⟨i, j, M, hj, rfl, rfl, hdm, hown, hgr⟩ := hrel
      have HDM := Lib.hid hdm
      have HOW := Lib.hid hown
      have HGR := Lib.hid hgr
      have hij := hdm.lt
      clear hdm hown hgr
      by_cases hlt : j < n
      · have hml : M.length = n := by rw [HDM.out.len, HL.out]
        obtain ⟨b, off, x, he, hx, hcc⟩ := (Rd.of_own (cell := wcell) (l := M) HOW.out (fun _ _ => rfl) (by omega)).at hlt
        injection he with he
        injection he with he1 he2 he3
        subst he1; subst he2
        have h0 : wr.cell? ⟨g, 0 + j * 3, none⟩ = some (.int .i64 x.s) := hcc 0 _ rfl
        have h1 : wr.cell? ⟨g, 0 + j * 3 + 1, none⟩ = some (.string (B x.p)) := hcc 1 _ rfl
        have h2 : wr.cell? ⟨g, 0 + j * 3 + 2, none⟩ = some (.bool x.k) := hcc 2 _ rfl
        have HX : Hid (L[j]? = some x) := Lib.hid (by rw [← dfm_get HDM.out]; exact hx)
        have h0' := h0
        have h1' := h1
        have h2' := h2
        rw [Nat.zero_add] at h0' h1' h2'
        obtain ⟨bo, hbe⟩ : ∃ b, b = wr.heap.size := ⟨_, rfl⟩
        obtain ⟨wo, hwo⟩ : ∃ wo, wo = wr.alloc (.cells #[.int .i64 x.s, .string (B x.p), .bool x.k] 45) := ⟨_, rfl⟩
        have hbo : Below wr.heap.size wr wo := by rw [hwo]; exact box_below wr _
        have hxo : wo.heap[bo]? = some (.cells #[.int .i64 x.s, .string (B x.p), .bool x.k] 45 (0, 0)) := by rw [hwo, hbe]; exact new_block wr _
        have hcap : wr.heap[pb]? = some (.cells cs t (0, 0)) := (HGR.out.block pb (Array.getElem?_eq_some_iff.1 HC.out).1 (fun e => HPG.out (Option.some.inj e))).trans HC.out
        have HXO2 := Lib.hid hxo
        have HOO := Lib.hid (own_below HOW.out hbo)
        have HGO : Hid (w.grownBy wo (some g)) := Lib.hid (grown_trans HGR.out (gb_below hbo _))
        have HCL := Lib.hid (HF.out.run wo x (blk_below hcap hbo))
        obtain ⟨r, hr⟩ : ∃ r, p x = r := ⟨_, rfl⟩
        rw [hr] at HCL
        have HRE := Lib.hid hr
        have HWO := Lib.hid hwo
        have HBE := Lib.hid hbe
        have hj0 : (0 : Int) ≤ (j : Int) := by omega
        have hj1 : (j : Int) < (n : Int) := by omega
        have hi0 : (0 : Int) ≤ (i : Int) := by omega
        have hi1 : (i : Int) < (n : Int) := by omega
        clear hml hx hcc hbe hwo hbo hxo hcap hr
        go_upto_region 8 with fail
        rw [← HWO.out, ← HBE.out]
        have o0 := cell_of HXO2.out (j := 0) rfl
        have o1 := cell_of HXO2.out (j := 1) rfl
        have o2 := cell_of HXO2.out (j := 2) rfl
        clear h0 h1 h2 h0' h1' h2'
        go_wp2_with fail
        refine HCL.out.mono ?_
        rintro e w5 ⟨rfl, hb5⟩
        have HO5 := Lib.hid (own_below HOO.out hb5)
        have HG5 : Hid (w.grownBy w5 (some g)) := Lib.hid (grown_trans HGO.out (gb_below hb5 _))
        have hx5 := (hb5.block _ (Array.getElem?_eq_some_iff.1 HXO2.out).1).trans HXO2.out
        clear o0 o1 o2 hb5
        cases r with
        | true =>
          have HMN := Lib.hid (dfm_skip HDM.out HX.out HRE.out)
          clear hx5
          go_wp2_with fail
          go_round
          case rel => exact ⟨i, j + 1, M, by omega, rfl, by go_num, HMN.out, HO5.out, HG5.out⟩
          case measure => simp [intOf]; omega
        | false =>
          have HMN := Lib.hid (dfm_keep HDM.out HX.out HRE.out)
          obtain ⟨w6, hw6⟩ : ∃ w6, w6 = ((w5.setCell ⟨g, i * 3, none⟩ (.int .i64 x.s)).setCell ⟨g, i * 3 + 1, none⟩ (.string (B x.p))).setCell ⟨g, i * 3 + 2, none⟩ (.bool x.k) := ⟨_, rfl⟩
          have hw6' : w6 = w5.setCells g (i * 3) (wcell x) := hw6
          have HO6 : Hid (w6.ownsRow Bs 45 3 (.slice (some ⟨g, 0, none⟩) n c) n (wcells (M.set i x))) := Lib.hid (by
            have h3 := own_set_cells HO5.out (i * 3) (wcell x) (by simp [wcell]; omega)
            have h4 := part_set wcell 3 M i (by rw [HDM.out.len, HL.out]; omega) x (fun _ _ => rfl) rfl
            rw [← hw6'] at h3
            unfold wcells at h3
            rw [h4] at h3
            exact h3)
          have HG6 : Hid (w.grownBy w6 (some g)) := Lib.hid (grown_trans HG5.out (by rw [hw6']; exact setCells_grown _ _ _))
          have o0 := cell_of hx5 (j := 0) rfl
          have o1 := cell_of hx5 (j := 1) rfl
          have o2 := cell_of hx5 (j := 2) rfl
          obtain ⟨⟨v0, y0⟩, f0⟩ : (∃ v, w5.cell? ⟨g, i * 3, none⟩ = some v) ∧ w5.frozen? ⟨g, i * 3, none⟩ = false := ⟨Option.isSome_iff_exists.1 (own_cells HO5.out (i * 3) (by omega)).1, (own_cells HO5.out (i * 3) (by omega)).2⟩
          obtain ⟨⟨v1, y1⟩, f1⟩ : (∃ v, w5.cell? ⟨g, i * 3 + 1, none⟩ = some v) ∧ w5.frozen? ⟨g, i * 3 + 1, none⟩ = false := ⟨Option.isSome_iff_exists.1 (own_cells HO5.out (i * 3 + 1) (by omega)).1, (own_cells HO5.out (i * 3 + 1) (by omega)).2⟩
          obtain ⟨⟨v2, y2⟩, f2⟩ : (∃ v, w5.cell? ⟨g, i * 3 + 2, none⟩ = some v) ∧ w5.frozen? ⟨g, i * 3 + 2, none⟩ = false := ⟨Option.isSome_iff_exists.1 (own_cells HO5.out (i * 3 + 2) (by omega)).1, (own_cells HO5.out (i * 3 + 2) (by omega)).2⟩
          have HW6 := Lib.hid hw6
          clear hw6 hw6' hx5
          go_upto_region 10 with fail
          rw [← HW6.out]
          clear o0 o1 o2 y0 y1 y2 f0 f1 f2
          go_wp2_with fail
          go_round
          case rel => exact ⟨i + 1, j + 1, _, by omega, by go_num, by go_num, HMN.out, HO6.out, HG6.out⟩
          case measure => simp [intOf]; omega
      · obtain rfl : j = n := by omega
        have hj1 : ¬ (j : Int) < (j : Int) := by omega
        obtain ⟨A2, hs2, hA2⟩ := slice_fromW g j c i (by omega) HNC.out
        have hA2' := hA2 (by have := HNC.out; omega)
        subst hA2'
        obtain ⟨vs, hvl, hclr⟩ := run_clear_rowW wr g (i * 3) (j - i) (c - i) (by omega) (fun q hq => own_cells HOW.out _ (by omega))
        have hs3 := slice_toW g j c i (by have := HNC.out; omega)
        have HE := Lib.hid (df_fin HDM.out HL.out HOW.out HGR.out hvl)
        clear hA2 hvl
        go_wp2_with fail
        go_ret
        exact HE.out
end Go.Proofs.YtfejapaoflikhaaDoor
