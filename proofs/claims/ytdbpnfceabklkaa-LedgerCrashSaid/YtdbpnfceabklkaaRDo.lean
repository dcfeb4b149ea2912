/-
  What the document's Do and Next return. Condition: not too many records.
-/
import Derived.Test.YtdbpnfceabklkaaRefs
namespace Go.Proofs.Ytdbpnfceabklkaa
set_option maxRecDepth 100000
open Go.ChangeShapes Go.WideShapes Go.ChangeAt Go.RowKit

theorem cell_same {w w' : World} {b off : Nat} (h : w'.heap[b]? = w.heap[b]?) : w'.cell? ⟨b, off, none⟩ = w.cell? ⟨b, off, none⟩ := by unfold World.cell?; rw [h]
/-- Texts that stand where no method of a ledger writes. -/
def STr (B : Nat) (w : World) (A : Option Addr) (n : Nat) (l : List (List Int)) : Prop :=
  SReads w A n l ∧ (0 < n → ∃ b off, A = some ⟨b, off, none⟩ ∧ (b < B ∨ ∃ cs fr, w.heap[b]? = some (.cells cs 9 fr)))
theorem STr.kl {B : Nat} {w w' : World} {A : Option Addr} {n : Nat} {l : List (List Int)} (h : STr B w A n l) (hk : Kl B w w') : STr B w' A n l := by
  obtain ⟨⟨h1, h2, h3⟩, h4⟩ := h
  refine ⟨⟨h1, fun hn => ?_, h3⟩, fun hn => ?_⟩
  · obtain ⟨b, off, rfl, hc⟩ := h2 hn
    obtain ⟨b', off', e, hs⟩ := h4 hn
    injection e with e; injection e with e1 e2; subst e1; subst e2
    refine ⟨b, off, rfl, fun i hi => ?_⟩
    rcases hs with hs | ⟨cs, fr, hs⟩
    · exact (hk.below.cell (p := ⟨b, off + i, none⟩) hs).trans (hc i hi)
    · exact (cell_same ((hk.tag _ _ _ _ hs (by decide)).trans hs.symm)).trans (hc i hi)
  · obtain ⟨b, off, e, hs⟩ := h4 hn
    refine ⟨b, off, e, ?_⟩
    rcases hs with hs | ⟨cs, fr, hs⟩
    · exact .inl hs
    · exact .inr ⟨cs, fr, hk.tag _ _ _ _ hs (by decide)⟩
theorem STr.kept {B : Nat} {w w' : World} {A : Option Addr} {n : Nat} {l : List (List Int)} (h : STr B w A n l) (hb : Below w.heap.size w w') (hB : B ≤ w.heap.size) : STr B w' A n l := h.kl (Kl.of_below hb hB)
theorem STr.none (B : Nat) (w : World) : STr B w none 0 [] := ⟨⟨rfl, fun h => absurd h (by decide), fun s hs => by cases hs⟩, fun h => absurd h (by decide)⟩
theorem own_str {w : World} {base B n : Nat} {v : Value} {l : List (List Int)} (h : w.ownsRow base 9 1 v n (strs l)) (hB : ∀ s ∈ l, Bys s) : ∃ A c, v = .slice A n c ∧ STr B w A n l ∧ n ≤ c ∧ c ≤ maxLen := by
  obtain ⟨A, c, rfl, h1, h2, h3⟩ := own_sreads h hB
  refine ⟨A, c, rfl, ⟨h1, fun hn => ?_⟩, h2, h3⟩
  rcases h.2 with ⟨e, e2⟩ | ⟨g, cap, cur, e, hbg, hg, -⟩
  · injection e with e1 e2 e3; omega
  · injection e with e1 e2 e3
    exact ⟨g, 0, e1, .inr ⟨_, _, hg⟩⟩
/-! ### An append of texts -/
theorem strs_cells (l : List (List Int)) : ∀ u ∈ strs l, u.oneCell' = true := fun u hu => by
  unfold strs at hu
  obtain ⟨s, _, rfl⟩ := List.mem_map.1 hu
  rfl
theorem run_append_st (w : World) (base ty : Nat) (v : Value) (n : Nat) (xs : List Value) (hown : w.ownsRow base 9 1 v n xs) (A : Option Addr) (m c : Nat) (l : List (List Int)) (hr : SReads w A m l) (h47 : n + m ≤ 100000000) (hbase : base ≤ w.heap.size) :
    ∃ v' w', (Builtin.append_ #[29, 29] ty #[v, .slice A m c]).run Try.prog w = .ok v' w' ∧ w'.ownsRow base 9 1 v' (n + m) (xs ++ strs l) ∧ w.grownBy w' v.ownBlock := by
  obtain ⟨i, hi, hz, hsize, hby⟩ := info_parts info9
  rcases A with _ | ad
  · have hm : m = 0 := by
      rcases Nat.eq_zero_or_pos m with h0 | h0
      · exact h0
      · obtain ⟨b, off, h, _⟩ := hr.2.1 h0
        cases h
    subst hm
    have hn : l = [] := List.eq_nil_of_length_eq_zero hr.1
    subst hn
    refine ⟨v, w, ?_, by simpa [strs] using hown, World.grownBy.refl w _⟩
    rcases hown.2 with ⟨rfl, rfl⟩ | ⟨g, cap, cur, rfl, _, _, hnc, _⟩
    · simp [Builtin.append_, run_underlying Try.underlying29, sizeOf, typeInfo, hi, Builtin.lenOf, Builtin.firstCells]
    · simp [Builtin.append_, run_underlying Try.underlying29, sizeOf, typeInfo, hi, Builtin.lenOf, Builtin.firstCells, hnc, storeCells]
  · have hcells : ∀ j u, (strs l)[j]? = some u → w.cell? (ad.add j) = some u := by
      intro j u hu
      rcases Nat.eq_zero_or_pos m with h0 | h0
      · have hn : l = [] := List.eq_nil_of_length_eq_zero (hr.1.trans h0)
        subst hn
        simp [strs] at hu
      · obtain ⟨b, off, h, hc⟩ := hr.2.1 h0
        injection h with h
        subst h
        have hj : j < m := by have := (List.getElem?_eq_some_iff.1 hu).1; rw [strs_length, hr.1] at this; exact this
        have := hc j hj
        unfold strs at hu
        rw [List.getElem?_map, List.getElem?_eq_getElem (by rw [hr.1]; exact hj)] at hu
        rw [getD_eq _ (by rw [hr.1]; exact hj)] at this
        rw [← Option.some.inj hu]
        have e : (Addr.add ⟨b, off, none⟩ j) = ⟨b, off + j, none⟩ := by
          unfold Addr.add
          by_cases h0 : j = 0
          · subst h0; rfl
          · rw [if_neg h0]
        rw [e]; exact this
    obtain ⟨v', w', hrun, h2, h3, _⟩ := run_append_own (P := Try.prog) w base 29 ty 9 i _ 1 16 Try.underlying29 hi hz hsize hby rfl (by decide) v n xs hown ad m c (strs l) (by rw [strs_length, hr.1, Nat.mul_one]) hcells (strs_cells l) (by unfold maxLen; omega) (by omega) hbase
    exact ⟨v', w', hrun, h2, h3⟩
theorem wpList_append_st {w : World} {ops : Array Oper} {rest : List Oper} {o : Oper} {a : Act} {Q : Exit → Act → World → Prop} (hgd : o.guard = none) (s x : Operand)
    (ho : o.op = .call { callee := .builtin .append, args := #[s, x], argTypes := #[29, 29] })
    (base : Nat) (v : Value) (n : Nat) (xs : List Value) (hs : a.eval s = v) (hown : w.ownsRow base 9 1 v n xs) (A : Option Addr) (m c : Nat) (l : List (List Int)) (hx : a.eval x = .slice A m c) (hr : SReads w A m l) (h47 : n + m ≤ 100000000) (hbase : base ≤ w.heap.size)
    (h : ∀ v' w', w'.ownsRow base 9 1 v' (n + m) (xs ++ strs l) → w.grownBy w' v.ownBlock → wpList Try.prog ops Q rest (a.put o.dst v') w') : wpList Try.prog ops Q (o :: rest) a w := by
  refine wpList_plain hgd fun K hK => ?_
  obtain ⟨v', w', hrun, h2, h3⟩ := run_append_st w base o.type v n xs hown A m c l hr h47 hbase
  unfold Oper.wp execOp
  simp only [ho, resolve, invoke, builtin, Sem.run_bind, Sem.run_pure, Result.andThen_ok, List.map_toArray, List.map_cons, List.map_nil, hs, hx, hrun]
  exact hK _ _ (h v' w' h2 h3)
/-! ### The document's state -/
def doNow (k e : Int) (s : List Int) (all now : List (List Int)) : List (List Int) := if e ≠ 0 then now else if k = 0 then now ++ [s] else if k = 2 then all else now
def doFirm (k e : Int) (all now firm : List (List Int)) : List (List Int) := if e ≠ 0 then firm else if k = 1 then now else if k = 2 then all else firm
def DoPost (B : Nat) (w : World) (now firm : List (List Int)) (e : Ending) (w' : World) : Prop :=
  ∃ A1 n1 c1 A2 n2 c2, e = .returned (.agg #[.slice A1 n1 c1, .slice A2 n2 c2]) ∧ STr B w' A1 n1 now ∧ STr B w' A2 n2 firm ∧ Below w.heap.size w w'
/-- The boxes of Do. -/
structure DBox (w : World) (v1 v2 k S v3 : Value) (wc : World) : Prop where
  b0 : wc.heap[w.heap.size]? = some (.cells #[v1, v2] 31 (0, 0))
  b1 : wc.heap[w.heap.size + 1]? = some (.cells #[k, S, v3] 33 (0, 0))
  b2 : wc.heap[w.heap.size + 1 + 1]? = some (.cells #[.slice none 0 0, .slice none 0 0] 31 (0, 0))
  below : Below w.heap.size w wc
theorem dbox_mk (w : World) (v1 v2 k S v3 : Value) : DBox w v1 v2 k S v3 (((w.alloc (.cells #[v1, v2] 31)).alloc (.cells #[k, S, v3] 33)).alloc (.cells #[.slice none 0 0, .slice none 0 0] 31)) := by
  have s1 : (w.alloc (.cells #[v1, v2] 31)).heap.size = w.heap.size + 1 := by simp
  have s2 : ((w.alloc (.cells #[v1, v2] 31)).alloc (.cells #[k, S, v3] 33)).heap.size = w.heap.size + 1 + 1 := by simp
  refine ⟨?_, ?_, ?_, ((box_below w _).alloc (by rw [s1]; omega) _).alloc (by rw [s2]; omega) _⟩
  · have h1 := ((box_below (w.alloc (.cells #[v1, v2] 31)) (.cells #[k, S, v3] 33)).alloc (by rw [s2]; omega) (.cells #[.slice none 0 0, .slice none 0 0] 31)).block w.heap.size (by rw [s1]; omega)
    exact h1.trans (new_block w _)
  · have h1 := (box_below ((w.alloc (.cells #[v1, v2] 31)).alloc (.cells #[k, S, v3] 33)) (.cells #[.slice none 0 0, .slice none 0 0] 31)).block (w.heap.size + 1) (by rw [s2]; omega)
    have h2 := new_block (w.alloc (.cells #[v1, v2] 31)) (.cells #[k, S, v3] 33)
    rw [s1] at h2
    exact h1.trans h2
  · have h2 := new_block ((w.alloc (.cells #[v1, v2] 31)).alloc (.cells #[k, S, v3] 33)) (.cells #[.slice none 0 0, .slice none 0 0] 31)
    rw [s2] at h2
    exact h2
theorem STr.other {B r : Nat} {w w' : World} {A : Option Addr} {n : Nat} {l : List (List Int)} {cs : Array Value} {t : TypeId} {fr : Nat × Nat} (h : STr B w A n l) (hk : ∀ k, k ≠ r → w'.heap[k]? = w.heap[k]?) (hr : w.heap[r]? = some (.cells cs t fr)) (ht : t ≠ 9) (hB : B ≤ r) : STr B w' A n l := by
  obtain ⟨⟨h1, h2, h3⟩, h4⟩ := h
  have hne : ∀ b, (b < B ∨ ∃ cs fr, w.heap[b]? = some (.cells cs 9 fr)) → b ≠ r := fun b hb e => by
    subst e
    rcases hb with hb | ⟨cs', fr', hb⟩
    · omega
    · rw [hr] at hb; injection hb with hb; injection hb with _ hb _; exact ht hb
  refine ⟨⟨h1, fun hn => ?_, h3⟩, fun hn => ?_⟩
  · obtain ⟨b, off, rfl, hc⟩ := h2 hn
    obtain ⟨b', off', e, hs⟩ := h4 hn
    injection e with e; injection e with e1 e2; subst e1; subst e2
    exact ⟨b, off, rfl, fun i hi => (cell_same (hk b (hne b hs))).trans (hc i hi)⟩
  · obtain ⟨b, off, e, hs⟩ := h4 hn
    refine ⟨b, off, e, ?_⟩
    rcases hs with hs | ⟨cs', fr', hs'⟩
    · exact .inl hs
    · exact .inr ⟨cs', fr', (hk b (hne b (.inr ⟨cs', fr', hs'⟩))).trans hs'⟩
theorem set_two {w : World} {r : Nat} {t : TypeId} {x y a b : Value} (h : w.heap[r]? = some (.cells #[x, y] t (0, 0))) : ((w.setCell ⟨r, 0, none⟩ a).setCell ⟨r, 1, none⟩ b).heap[r]? = some (.cells #[a, b] t (0, 0)) :=
  heap_setCell_same _ r 1 _ t b (heap_setCell_same w r 0 _ t a h)
theorem set_two_other (w : World) (r : Nat) (a b : Value) (k : Nat) (hk : k ≠ r) : ((w.setCell ⟨r, 0, none⟩ a).setCell ⟨r, 1, none⟩ b).heap[k]? = w.heap[k]? :=
  (heap_setCell_other _ _ _ _ hk).trans (heap_setCell_other _ _ _ _ hk)
theorem set_two_below {w0 w : World} {B r : Nat} (h : Below B w0 w) (hr : B ≤ r) (a b : Value) : Below B w0 ((w.setCell ⟨r, 0, none⟩ a).setCell ⟨r, 1, none⟩ b) := (h.setCell hr _).setCell hr _
/-- The way out of Do. -/
theorem rdo_end {w wx : World} {B : Nat} {A1 A2 : Option Addr} {n1 c1 n2 c2 : Nat} {now firm now' firm' : List (List Int)} {x y : Value} {tmps : Array Value} (ht : tmps.getD 6 undef = .pointer (some ⟨w.heap.size + 1 + 1, 0, none⟩)) (hB : B ≤ w.heap.size) (h1 : STr B wx A1 n1 now) (h2 : STr B wx A2 n2 firm) (hr : wx.heap[w.heap.size + 1 + 1]? = some (.cells #[x, y] 31 (0, 0))) (hb : Below w.heap.size w wx) (e1 : now = now') (e2 : firm = firm') :
    bodyPost Try.prog Try.f15 (DoPost B w now' firm') Exit.ret { tmps := tmps, defers := [] } ((wx.setCell ⟨w.heap.size + 1 + 1, 0, none⟩ (.slice A1 n1 c1)).setCell ⟨w.heap.size + 1 + 1, 1, none⟩ (.slice A2 n2 c2)) := by
  subst e1; subst e2
  refine bodyPost_ret (v := .agg #[.slice A1 n1 c1, .slice A2 n2 c2]) (results_c (T := 31) (cs := [.slice A1 n1 c1, .slice A2 n2 c2]) rfl Try.underlying31 rfl _ _ (w.heap.size + 1 + 1) rfl ht (set_two hr)) rfl ?_
  exact ⟨A1, n1, c1, A2, n2, c2, rfl, h1.other (set_two_other _ _ _ _) hr (by decide) (by omega), h2.other (set_two_other _ _ _ _) hr (by decide) (by omega), set_two_below hb (by omega) _ _⟩
theorem rdo_bad (B : Nat) (A1 A2 A3 : Option Addr) (n1 c1 n2 c2 n3 c3 : Nat) (k e : Int) (S : ByteArray) (now firm all : List (List Int)) (w : World) (hB : B ≤ w.heap.size) (h1 : STr B w A1 n1 now) (h2 : STr B w A2 n2 firm) (he : e ≠ 0) :
    Calls Try.prog 15 #[.agg #[.slice A1 n1 c1, .slice A2 n2 c2], .agg #[.int .i64 k, .string S, .slice A3 n3 c3], .int .i64 e] w (DoPost B w (doNow k e (sb S) all now) (doFirm k e all now firm)) := by
  have HE := Lib.hid he
  have hne : (e != 0) = true := by simpa using he
  clear he
  have H1 := Lib.hid h1
  have H2 := Lib.hid h2
  clear h1 h2
  go_enter Try.func15, Try.ntmps15
  go_upto_region 0 with fail
  go_cut [3, 4, 6] (fun s3 s4 s6 wx => s3 = .pointer (some ⟨w.heap.size, 0, none⟩) ∧ s4 = .pointer (some ⟨w.heap.size + 1, 0, none⟩) ∧ s6 = .pointer (some ⟨w.heap.size + 1 + 1, 0, none⟩) ∧ DBox w (.slice A1 n1 c1) (.slice A2 n2 c2) (.int .i64 k) (.string S) (.slice A3 n3 c3) wx)
  case first =>
    go_wp2_with fail
    go_meet
    exact ⟨rfl, rfl, rfl, dbox_mk _ _ _ _ _ _⟩
  case rest =>
    obtain ⟨rfl, rfl, rfl, hbx⟩ := hcut
    have HX := Lib.hid hbx
    have d0 := cell_of hbx.b0 (j := 0) rfl
    have d1 := cell_of hbx.b0 (j := 1) rfl
    have df0 := frozen_of_row _ w.heap.size 0 _ _ hbx.b0
    have df1 := frozen_of_row _ w.heap.size 1 _ _ hbx.b0
    have o0 := cell_of hbx.b1 (j := 0) rfl
    have o1 := cell_of hbx.b1 (j := 1) rfl
    have o2 := cell_of hbx.b1 (j := 2) rfl
    have r0 := cell_of hbx.b2 (j := 0) rfl
    have r1 := cell_of hbx.b2 (j := 1) rfl
    have rf0 := frozen_of_row _ (w.heap.size + 1 + 1) 0 _ _ hbx.b2
    have rf1 := frozen_of_row _ (w.heap.size + 1 + 1) 1 _ _ hbx.b2
    have HK1 := Lib.hid (H1.out.kept hbx.below hB)
    have HK2 := Lib.hid (H2.out.kept hbx.below hB)
    clear hbx
    go_wp2
    exact rdo_end rfl hB HK1.out HK2.out HX.out.b2 HX.out.below (by unfold doNow; rw [if_pos HE.out]) (by unfold doFirm; rw [if_pos HE.out])
theorem rdo_sync (B : Nat) (A1 A2 A3 : Option Addr) (n1 c1 n2 c2 n3 c3 : Nat) (k e : Int) (S : ByteArray) (now firm all : List (List Int)) (w : World) (hB : B ≤ w.heap.size) (h1 : STr B w A1 n1 now) (h2 : STr B w A2 n2 firm) (he : e = 0) (hk : k = 1) :
    Calls Try.prog 15 #[.agg #[.slice A1 n1 c1, .slice A2 n2 c2], .agg #[.int .i64 k, .string S, .slice A3 n3 c3], .int .i64 e] w (DoPost B w (doNow k e (sb S) all now) (doFirm k e all now firm)) := by
  subst he; subst hk
  have H1 := Lib.hid h1
  have H2 := Lib.hid h2
  clear h1 h2
  go_enter Try.func15, Try.ntmps15
  go_upto_region 0 with fail
  go_cut [3, 4, 6] (fun s3 s4 s6 wx => s3 = .pointer (some ⟨w.heap.size, 0, none⟩) ∧ s4 = .pointer (some ⟨w.heap.size + 1, 0, none⟩) ∧ s6 = .pointer (some ⟨w.heap.size + 1 + 1, 0, none⟩) ∧ DBox w (.slice A1 n1 c1) (.slice A2 n2 c2) (.int .i64 1) (.string S) (.slice A3 n3 c3) wx)
  case first =>
    go_wp2_with fail
    go_meet
    exact ⟨rfl, rfl, rfl, dbox_mk _ _ _ _ _ _⟩
  case rest =>
    obtain ⟨rfl, rfl, rfl, hbx⟩ := hcut
    have HX := Lib.hid hbx
    have d0 := cell_of hbx.b0 (j := 0) rfl
    have d1 := cell_of hbx.b0 (j := 1) rfl
    have df0 := frozen_of_row _ w.heap.size 0 _ _ hbx.b0
    have df1 := frozen_of_row _ w.heap.size 1 _ _ hbx.b0
    have o0 := cell_of hbx.b1 (j := 0) rfl
    have o1 := cell_of hbx.b1 (j := 1) rfl
    have o2 := cell_of hbx.b1 (j := 2) rfl
    have r0 := cell_of hbx.b2 (j := 0) rfl
    have r1 := cell_of hbx.b2 (j := 1) rfl
    have rf0 := frozen_of_row _ (w.heap.size + 1 + 1) 0 _ _ hbx.b2
    have rf1 := frozen_of_row _ (w.heap.size + 1 + 1) 1 _ _ hbx.b2
    have HK1 := Lib.hid (H1.out.kept hbx.below hB)
    have HK2 := Lib.hid (H2.out.kept hbx.below hB)
    clear hbx
    go_wp2
    refine rdo_end rfl hB (HK1.out.other (r := w.heap.size) (fun k hk => heap_setCell_other _ _ _ _ hk) HX.out.b0 (by decide) hB) (HK1.out.other (r := w.heap.size) (fun k hk => heap_setCell_other _ _ _ _ hk) HX.out.b0 (by decide) hB) ((heap_setCell_other _ _ _ _ (by show w.heap.size + 1 + 1 ≠ w.heap.size; omega)).trans HX.out.b2) (HX.out.below.setCell (Nat.le_refl _) _) rfl rfl
theorem rdo_rest (B : Nat) (A1 A2 A3 : Option Addr) (n1 c1 n2 c2 n3 c3 : Nat) (k e : Int) (S : ByteArray) (now firm all : List (List Int)) (w : World) (hB : B ≤ w.heap.size) (h1 : STr B w A1 n1 now) (h2 : STr B w A2 n2 firm) (he : e = 0) (hk : k ≠ 0 ∧ k ≠ 1 ∧ k ≠ 2) :
    Calls Try.prog 15 #[.agg #[.slice A1 n1 c1, .slice A2 n2 c2], .agg #[.int .i64 k, .string S, .slice A3 n3 c3], .int .i64 e] w (DoPost B w (doNow k e (sb S) all now) (doFirm k e all now firm)) := by
  subst he
  have HKK := Lib.hid hk
  obtain ⟨hk0, hk1, hk2⟩ := hk
  have hb0 : (k == 0) = false := by simpa using hk0
  have hb1 : (k == 1) = false := by simpa using hk1
  have hb2 : (k == 2) = false := by simpa using hk2
  have H1 := Lib.hid h1
  have H2 := Lib.hid h2
  clear h1 h2
  go_enter Try.func15, Try.ntmps15
  go_upto_region 0 with fail
  go_cut [3, 4, 6] (fun s3 s4 s6 wx => s3 = .pointer (some ⟨w.heap.size, 0, none⟩) ∧ s4 = .pointer (some ⟨w.heap.size + 1, 0, none⟩) ∧ s6 = .pointer (some ⟨w.heap.size + 1 + 1, 0, none⟩) ∧ DBox w (.slice A1 n1 c1) (.slice A2 n2 c2) (.int .i64 k) (.string S) (.slice A3 n3 c3) wx)
  case first =>
    go_wp2_with fail
    go_meet
    exact ⟨rfl, rfl, rfl, dbox_mk _ _ _ _ _ _⟩
  case rest =>
    obtain ⟨rfl, rfl, rfl, hbx⟩ := hcut
    have HX := Lib.hid hbx
    have d0 := cell_of hbx.b0 (j := 0) rfl
    have d1 := cell_of hbx.b0 (j := 1) rfl
    have df0 := frozen_of_row _ w.heap.size 0 _ _ hbx.b0
    have df1 := frozen_of_row _ w.heap.size 1 _ _ hbx.b0
    have o0 := cell_of hbx.b1 (j := 0) rfl
    have o1 := cell_of hbx.b1 (j := 1) rfl
    have o2 := cell_of hbx.b1 (j := 2) rfl
    have r0 := cell_of hbx.b2 (j := 0) rfl
    have r1 := cell_of hbx.b2 (j := 1) rfl
    have rf0 := frozen_of_row _ (w.heap.size + 1 + 1) 0 _ _ hbx.b2
    have rf1 := frozen_of_row _ (w.heap.size + 1 + 1) 1 _ _ hbx.b2
    have HK1 := Lib.hid (H1.out.kept hbx.below hB)
    have HK2 := Lib.hid (H2.out.kept hbx.below hB)
    clear hbx
    go_wp2
    refine rdo_end rfl hB HK1.out HK2.out HX.out.b2 HX.out.below ?_ ?_
    · unfold doNow; rw [if_neg (by simp), if_neg HKK.out.1, if_neg HKK.out.2.2]
    · unfold doFirm; rw [if_neg (by simp), if_neg HKK.out.2.1, if_neg HKK.out.2.2]
theorem rdo_replace (B : Nat) (A1 A2 A3 : Option Addr) (n1 c1 n2 c2 n3 c3 : Nat) (k e : Int) (S : ByteArray) (now firm all : List (List Int)) (w : World) (hB : B ≤ w.heap.size) (h1 : STr B w A1 n1 now) (h2 : STr B w A2 n2 firm) (h3 : STr B w A3 n3 all) (he : e = 0) (hk : k = 2) :
    Calls Try.prog 15 #[.agg #[.slice A1 n1 c1, .slice A2 n2 c2], .agg #[.int .i64 k, .string S, .slice A3 n3 c3], .int .i64 e] w (DoPost B w (doNow k e (sb S) all now) (doFirm k e all now firm)) := by
  subst he; subst hk
  have H3 := Lib.hid h3
  clear h3
  have H1 := Lib.hid h1
  have H2 := Lib.hid h2
  clear h1 h2
  go_enter Try.func15, Try.ntmps15
  go_upto_region 0 with fail
  go_cut [3, 4, 6] (fun s3 s4 s6 wx => s3 = .pointer (some ⟨w.heap.size, 0, none⟩) ∧ s4 = .pointer (some ⟨w.heap.size + 1, 0, none⟩) ∧ s6 = .pointer (some ⟨w.heap.size + 1 + 1, 0, none⟩) ∧ DBox w (.slice A1 n1 c1) (.slice A2 n2 c2) (.int .i64 2) (.string S) (.slice A3 n3 c3) wx)
  case first =>
    go_wp2_with fail
    go_meet
    exact ⟨rfl, rfl, rfl, dbox_mk _ _ _ _ _ _⟩
  case rest =>
    obtain ⟨rfl, rfl, rfl, hbx⟩ := hcut
    have HX := Lib.hid hbx
    have d0 := cell_of hbx.b0 (j := 0) rfl
    have d1 := cell_of hbx.b0 (j := 1) rfl
    have df0 := frozen_of_row _ w.heap.size 0 _ _ hbx.b0
    have df1 := frozen_of_row _ w.heap.size 1 _ _ hbx.b0
    have o0 := cell_of hbx.b1 (j := 0) rfl
    have o1 := cell_of hbx.b1 (j := 1) rfl
    have o2 := cell_of hbx.b1 (j := 2) rfl
    have r0 := cell_of hbx.b2 (j := 0) rfl
    have r1 := cell_of hbx.b2 (j := 1) rfl
    have rf0 := frozen_of_row _ (w.heap.size + 1 + 1) 0 _ _ hbx.b2
    have rf1 := frozen_of_row _ (w.heap.size + 1 + 1) 1 _ _ hbx.b2
    have HK1 := Lib.hid (H1.out.kept hbx.below hB)
    have HK2 := Lib.hid (H2.out.kept hbx.below hB)
    clear hbx
    have HK3 := Lib.hid (H3.out.kept HX.out.below hB)
    go_wp2
    have b0' : (wc.setCell ⟨w.heap.size, 0, none⟩ (.slice A3 n3 c3)).heap[w.heap.size]? = some (.cells #[.slice A3 n3 c3, .slice A2 n2 c2] 31 (0, 0)) := heap_setCell_same _ _ 0 _ 31 _ HX.out.b0
    have h3 := (HK3.out.other (r := w.heap.size) (w' := (wc.setCell ⟨w.heap.size, 0, none⟩ (.slice A3 n3 c3))) (fun k hk => heap_setCell_other _ _ _ _ hk) HX.out.b0 (by decide) hB).other (r := w.heap.size) (w' := ((wc.setCell ⟨w.heap.size, 0, none⟩ (.slice A3 n3 c3)).setCell ⟨w.heap.size, 1, none⟩ (.slice A3 n3 c3))) (fun k hk => heap_setCell_other _ _ _ _ hk) b0' (by decide) hB
    exact rdo_end rfl hB h3 h3 ((heap_setCell_other _ _ _ _ (by show w.heap.size + 1 + 1 ≠ w.heap.size; omega)).trans ((heap_setCell_other _ _ _ _ (by show w.heap.size + 1 + 1 ≠ w.heap.size; omega)).trans HX.out.b2)) ((HX.out.below.setCell (Nat.le_refl _) _).setCell (Nat.le_refl _) _) rfl rfl
end Go.Proofs.Ytdbpnfceabklkaa
