/-
  What slices.Delete of one lease leaves of a row. No condition.
  What slices.Insert of one lease returns and leaves. Condition: the row is not long.
-/
import Derived.Test.YtflgemlhocjipaaGreatDoorLEq
import Derived.Deep.RegionLaw
import Derived.Lib.AppendZeros
import Derived.Shelf.RegionOpenPlain
namespace Go.Proofs.YtflgemlhocjipaaGreatDoor.Lq
set_option maxRecDepth 100000
open Go.ChangeShapes Go.WideShapes Go.ChangeAt Go.RowKit Go.Proofs.Le

set_option maxHeartbeats 2000000 in
theorem del_any {w : World} {B g c : Nat} {L : Tb} (h : w.ownsRow B 100 3 (.slice (some ⟨g, 0, none⟩) L.length c) L.length (lcells L)) (k : Nat) (hk : k < L.length) (hL : L.length ≤ 2000) :
    Calls Tryz.prog 154 #[.slice (some ⟨g, 0, none⟩) L.length c, .int .i64 (k : Int), .int .i64 ((k : Int) + 1)] w fun e w' => e = .returned (.slice (some ⟨g, 0, none⟩) (L.length - 1) c) ∧
      w'.ownsRow B 100 3 (.slice (some ⟨g, 0, none⟩) (L.length - 1) c) (L.length - 1) (lcells (L.eraseIdx k)) ∧ w.grownBy w' (some g) := by
  obtain ⟨i0, hi, hz0, hz1, hz2⟩ := info_parts infoL
  obtain ⟨cur, -, -, hnc, -⟩ := own_at h
  have hj : ((k + 1 : Nat) : Int) = (k : Int) + 1 := by omega
  obtain ⟨v1, hs1⟩ := slice_lhm g L.length c k (k + 1) L.length (by omega) (by omega) hnc
  have hs2 := slice_toW g L.length c k (by omega)
  obtain ⟨A, hs3, hA⟩ := slice_fromW g L.length c (k + 1) (by omega) hnc
  rw [hj] at hs1 hs3
  obtain ⟨m, hm⟩ : ∃ m, m = L.length - 1 := ⟨_, rfl⟩
  have hmm : k + (L.length - (k + 1)) = m := by omega
  obtain ⟨A2, hs4, hA2⟩ := slice_lh g m c m L.length (by omega) (by omega)
  have hA2' := hA2 (by omega)
  subst hA2'
  rw [show L.length - m = 1 by omega] at hs4
  obtain ⟨news, hnews⟩ : ∃ news, news = (lcells L).drop ((k + 1) * 3) := ⟨_, rfl⟩
  have hpl := lcells_length L
  have hnl : news.length = (L.length - (k + 1)) * 3 := by rw [hnews, List.length_drop, hpl]; omega
  have s1 : Hid (news.length = (L.length - (k + 1)) * 3) := Lib.hid hnl
  have s2 : Hid (∀ u ∈ news, u.oneCell' = true) := Lib.hid (fun u hu => lcells_one L u (by rw [hnews] at hu; exact List.mem_of_mem_drop hu))
  have s3 : Hid (∀ j u, news[j]? = some u → w.drew.cell? (A.add j) = some u) := Lib.hid (fun j u hu => by
    have hlt := (List.getElem?_eq_some_iff.1 hu).1
    rw [hA (by omega), Go.WideShapes.add_plain]
    refine own_cell h _ _ ?_
    rw [hnews, List.getElem?_drop] at hu
    exact hu)
  have s4 : Hid (∀ j, j < news.length → (w.drew.cell? ⟨g, 0 + k * 3 + j, none⟩).isSome = true ∧ w.drew.frozen? ⟨g, 0 + k * 3 + j, none⟩ = false) := Lib.hid (fun j hj' => own_cells h _ (by omega))
  obtain ⟨w2, hw2⟩ : ∃ w2, w2 = w.drew.setCells g (k * 3) news := ⟨_, rfl⟩
  have hd : w.drew.ownsRow B 100 3 (.slice (some ⟨g, 0, none⟩) L.length c) L.length (lcells L) := h
  have hown2 : w2.ownsRow B 100 3 (.slice (some ⟨g, 0, none⟩) L.length c) L.length (splice (lcells L) (k * 3) news) := by
    rw [hw2]; exact own_set_cells hd _ _ (by omega)
  obtain ⟨vs, hvl, hclr⟩ := run_clear_rowW w2 g (m * 3) 1 (c - m) (by omega) (fun j hj' => own_cells hown2 _ (by omega))
  have HE : Hid ((w2.setCells g (m * 3) vs).ownsRow B 100 3 (.slice (some ⟨g, 0, none⟩) m c) m (lcells (L.eraseIdx k)) ∧ w.grownBy (w2.setCells g (m * 3) vs) (some g)) := Lib.hid (by
    constructor
    · have h3 := own_short (own_set_cells hown2 (m * 3) vs (by omega)) (show m ≤ L.length by omega)
      rw [hnews, hm, lcells_cut L k hk vs] at h3
      rw [hm]; exact h3
    · have g1 : w.grownBy w.drew (some g) := ⟨rfl, rfl, rfl, Nat.le_refl _, fun _ _ _ => rfl⟩
      have g2 : w.drew.grownBy w2 (some g) := by rw [hw2]; exact setCells_grown _ _ _
      have g3 : w2.grownBy (w2.setCells g (m * 3) vs) (some g) := setCells_grown _ _ _
      have gt : ∀ {a b c : World}, a.grownBy b (some g) → b.grownBy c (some g) → a.grownBy c (some g) := fun x y => ⟨y.os.trans x.os, y.tape.trans x.tape, y.output.trans x.output, Nat.le_trans x.size y.size, fun k hk hn => (y.block k (Nat.lt_of_lt_of_le hk x.size) hn).trans (x.block k hk hn)⟩
      exact gt (gt g1 g2) g3)
  have HM := Lib.hid hm
  have HW2 := Lib.hid hw2
  have hne : ((k : Int) == (k : Int) + 1) = false := by rw [beq_eq_false_iff_ne]; omega
  have hroom : k + (L.length - (k + 1)) ≤ c := by omega
  have HRM := Lib.hid hroom
  have HMM := Lib.hid hmm
  clear h hj hnews hpl hnl hA hA2 hm hw2 hd hown2 hvl hroom hmm
  rw [← HM.out]
  go_enter Tryz.func154, Tryz.ntmps154
  go_wp2_with fail
  go_region_law (first
    | (refine step_append_room rfl (.tmp 22) (.tmp 25) 98 rfl 100 i0 3 Tryz.underlying98 hi hz1 g 0 k c (by simp [Act.eval, Act.put]) A (L.length - (k + 1)) (c - (k + 1)) news (by simp [Act.eval, Act.put]) s1.out s3.out s2.out HRM.out s4.out ?_)
    | fail)
  rw [← HW2.out, HMM.out]
  go_wp2_with fail
  go_ret
  exact ⟨rfl, HE.out.1, HE.out.2⟩
end Go.Proofs.YtflgemlhocjipaaGreatDoor.Lq
namespace Go.Proofs.YtflgemlhocjipaaGreatDoor.Lq
set_option maxRecDepth 100000
open Go.ChangeShapes Go.WideShapes Go.ChangeAt Go.RowKit Go.Proofs.Le

/-- What stands behind append(s[:i], make([]T, n)...) where there is no room. -/
theorem run_append_grow_zeros {P : Program} (w : World) (t tn ty e : TypeId) (i : TypeInfo) (z : Value) (kn : IntKind) (ht : P.underlying t = some (.slice e)) (htn : P.underlying tn = some (.int kn)) (hi : P.info? e = some i) (hz : i.zero = some z)
    (base : Option Addr) (sLen sCap : Nat) (olds : List Value) (hold : (Builtin.firstCells i.size sLen (.slice base sLen sCap)).run P w.drew = .ok olds.toArray w.drew)
    (n : Nat) (h0 : 0 < n) (hs : 0 < i.size) (hg : sCap < sLen + n) (h63 : ((sLen + n : Nat) : Int) ≤ 9223372036854775807) (h48 : n * i.bytes ≤ 281474976710656) (hfit : Builtin.nextslicecap (sLen + n) sCap * i.bytes ≤ 281474976710656) :
    (Builtin.append_ #[t, tn] ty #[.slice base sLen sCap, .int .i64 n]).run P w =
      .ok (.slice (some ⟨w.heap.size, 0, none⟩) (sLen + n) (grownCap w (sLen + n) sCap e)) (w.drew.alloc (.cells (olds.toArray ++ Builtin.zeroCells z.cells n ++ Builtin.zeroCells z.cells (grownCap w (sLen + n) sCap e - (sLen + n))) e)) := by
  have hn : ¬ (sLen + n ≤ sCap) := by omega
  have h63' : ¬ (9223372036854775807 < ((sLen : Int) + (n : Int))) := by omega
  have h48' : ¬ (281474976710656 < Builtin.nextslicecap (sLen + n) sCap * i.bytes) := by omega
  have hw : IntKind.i64.wrap (n : Int) = n := by rw [IntKind.wrap_i64]; omega
  have h48i : ¬ (281474976710656 < (n : Int) * (i.bytes : Int)) := by
    rw [← Int.natCast_mul]
    omega
  have hneg : ¬ ((n : Int) < 0) := by omega
  have hns : ¬ (n * i.size = 0) := Nat.mul_ne_zero (by omega) (by omega)
  simp [Builtin.append_, run_underlying ht, run_underlying htn, sizeOf, typeInfo, zeroValue, hi, hz, asInt, asIntOf, hw, hn, hneg, hns, h63', h48', h48i, Question.forced, hold, newRow, grownCap]
/-- Three parts laid into a row. -/
theorem splice_end {A Z D X : List Value} (h : Z.length = X.length + D.length) : splice (splice (A ++ Z) A.length X) (A.length + X.length) D = A ++ (X ++ D) := by
  unfold splice
  rw [List.take_append_of_le_length (Nat.le_refl _), List.take_length, List.drop_append, List.drop_eq_nil_of_le (by omega), List.nil_append, Nat.add_sub_cancel_left, List.take_append, List.take_of_length_le (by omega), Nat.add_sub_cancel_left, List.take_append_of_le_length (Nat.le_refl _), List.take_length,
    List.drop_eq_nil_of_le (by simp only [List.length_append, List.length_drop]; omega), List.append_nil, List.append_assoc]
theorem splice_mid {A Z D X : List Value} (h : Z.length = X.length + D.length) : splice (splice (A ++ Z) (A.length + X.length) D) A.length X = A ++ (X ++ D) := by
  unfold splice
  have e1 : ((A ++ Z).take (A.length + X.length)) = A ++ Z.take X.length := by rw [List.take_append, List.take_of_length_le (by omega), Nat.add_sub_cancel_left]
  have e2 : (A ++ Z).drop (A.length + X.length + D.length) = [] := List.drop_eq_nil_of_le (by rw [List.length_append]; omega)
  rw [e1, e2, List.append_nil, List.append_assoc, List.take_append_of_le_length (Nat.le_refl _), List.take_length, List.drop_append, List.drop_eq_nil_of_le (by omega), List.nil_append, Nat.add_sub_cancel_left, List.drop_append, List.drop_eq_nil_of_le (by rw [List.length_take]; omega), List.nil_append, List.length_take, Nat.min_eq_left (by omega), Nat.sub_self, List.drop_zero]
theorem own_long {w : World} {B e size n g c : Nat} {xs : List Value} (h : w.ownsRow B e size (.slice (some ⟨g, 0, none⟩) n c) n xs) {m : Nat} (hn : n ≤ m) (hm : m ≤ c) : ∃ zs, zs.length = (m - n) * size ∧ w.ownsRow B e size (.slice (some ⟨g, 0, none⟩) m c) m (xs ++ zs) := by
  obtain ⟨cur, hg, hB, hnc, hcm, hcs, ht, hx⟩ := own_at h
  have h1 : n * size ≤ m * size := Nat.mul_le_mul_right _ hn
  have h2 : m * size ≤ c * size := Nat.mul_le_mul_right _ hm
  have hl : cur.toList.length = c * size := by rw [Array.length_toList]; exact hcs
  refine ⟨(cur.toList.take (m * size)).drop (n * size), by rw [List.length_drop, List.length_take, Nat.min_eq_left (by omega), Nat.sub_mul], ?_⟩
  have e : xs ++ (cur.toList.take (m * size)).drop (n * size) = cur.toList.take (m * size) := by
    rw [← ht]
    conv => rhs; rw [← List.take_append_drop (n * size) (cur.toList.take (m * size))]
    rw [List.take_take, Nat.min_eq_left h1]
  rw [e]
  exact ⟨by rw [List.length_take]; omega, .inr ⟨g, c, cur, rfl, hB, hg, hm, hcm, hcs, rfl⟩⟩
def InPost (B : Nat) (v : Value) (M : Tb) (w : World) (e : Ending) (w' : World) : Prop := ∃ v', e = .returned v' ∧ w'.ownsRow B 100 3 v' M.length (lcells M) ∧ w.grownBy w' v.ownBlock ∧ (∀ g, v'.ownBlock = some g → v.ownBlock = some g ∨ w.heap.size ≤ g)
theorem size3 : (Tryz.prog.info? 100).map (·.size) = some 3 := by kernel_rfl
set_option maxHeartbeats 4000000 in
theorem insert_any {w : World} {Bs n c vb : Nat} {A : Option Addr} {L : Tb} (ho : w.ownsRow Bs 100 3 (.slice A n c) n (lcells L)) (hn : L.length = n) (hl : n ≤ 1000) (hB : Bs ≤ w.heap.size) (x : Ls) (hv : w.heap[vb]? = some (.cells #[.int .i64 x.i, .int .i64 x.s, .int .i64 x.l] 100 (0, 0))) (hvg : ∀ g, A = some g → g.block ≠ vb) (i : Nat) (hi : i ≤ n) :
    Calls Tryz.prog 82 #[.slice A n c, .int .i64 i, .slice (some ⟨vb, 0, none⟩) 1 1] w (InPost Bs (.slice A n c) (L.take i ++ x :: L.drop i) w) := by
  obtain ⟨i0, hi0, hz0, hz1, hz2⟩ := info_parts infoL
  obtain ⟨A', c', e0, hnc, hcm, hA⟩ := own_form ho
  injection e0 with e1 _ e3
  subst e1 e3
  have hsrc : ∀ j u, (lcell x)[j]? = some u → w.cell? ((⟨vb, 0, none⟩ : Addr).add j) = some u := fun j u hu => by
    rw [add_plain, Nat.zero_add, cell_of_row w vb j _ _ _ hv]
    show (lcell x).toArray[j]? = some u
    rw [List.getElem?_toArray]
    exact hu
  by_cases hin : i = n
  · subst hin
    have e : L.take i ++ x :: L.drop i = L ++ [x] := by rw [← hn, List.take_length, List.drop_length]
    rw [e]
    have hp : Hid (∀ g cap w', w'.ownsRow Bs 100 3 (.slice (some ⟨g, 0, none⟩) (i + 1) cap) (i + 1) (lcells L ++ lcell x) → w.grownBy w' (Value.slice A i c).ownBlock → ((Value.slice A i c).ownBlock = some g ∨ g = w.heap.size) → InPost Bs (.slice A i c) (L ++ [x]) w (.returned (.slice (some ⟨g, 0, none⟩) (i + 1) cap)) w') := Lib.hid (fun g cap w' h1 h2 h3 => ⟨_, rfl, by
      have e : lcells (L ++ [x]) = lcells L ++ lcell x := by rw [lcells_append]; simp [lcells]
      rw [e, List.length_append, hn]
      exact h1, h2, fun g' hg' => by
      simp only [Value.ownBlock, Option.some.injEq] at hg'
      subst hg'
      rcases h3 with h3 | h3
      · exact .inl h3
      · exact .inr (by omega)⟩)
    have hone := lcell_one x
    have hs0 : ∃ s0 : Value, ∀ W : World, (Instr.slice 98 (.slice A i c) (some (.int .i64 (i : Int))) none none).run Tryz.prog W = .ok s0 W := by
      cases A with
      | none =>
        have hc0 : c = 0 := own_cap ho rfl
        have hi0' : i = 0 := by omega
        subst hc0 hi0'
        have ee : Tryz.prog.elem 98 = 100 := by kernel_rfl
        refine ⟨.slice none 0 0, fun W => ?_⟩
        rw [run_slice_l (P := Tryz.prog) (w := W) 98 none 0 0 Tryz.underlying98 .i64 ((0 : Nat) : Int) (by omega) (by omega)]
        simp [ee, sizeOf, typeInfo, hi0, hz1, sliced]
      | some a =>
        obtain ⟨g, hg⟩ := (by
          rcases ho.2 with ⟨e, _⟩ | ⟨g, cap, cur, e, _⟩
          · cases e
          · exact ⟨g, by injection e⟩ : ∃ g, some a = some (⟨g, 0, none⟩ : Addr))
        injection hg with hg
        subst hg
        obtain ⟨A2, h2, -⟩ := slice_fromW g i c i (Nat.le_refl _) hnc
        exact ⟨_, h2⟩
    obtain ⟨s0, hs0⟩ := hs0
    clear hA hv hvg hi e hn hcm
    go_enter Tryz.func82, Tryz.ntmps82
    go_wp2_with (at_builtin; refine wpList_append_lies _ rfl _ _ 98 rfl Bs 100 i0 (.agg #[.int .i64 0, .int .i64 0, .int .i64 0]) 3 24 Tryz.underlying98 hi0 hz0 hz1 hz2 rfl (by decide) _ i (lcells L) rfl ho ⟨vb, 0, none⟩ 1 1 (lcell x) rfl rfl hsrc hone (by omega) (by unfold maxLen; omega) (by omega) hB w.heap.size rfl ?_; intro g cap w' h1 h2 h3 h4)
    have HE := Lib.hid (hp.out g cap w' h1 h2 h3)
    clear h1 h2 h3 h4
    go_wp2_with fail
    go_ret
    exact HE.out
  · have hin' : ((i : Int) == (n : Int)) = false := by rw [beq_eq_false_iff_ne]; omega
    have hlt : i < n := by omega
    obtain ⟨g, rfl⟩ := hA (by omega)
    have hgv : g ≠ vb := hvg _ rfl
    have hown := own_at ho
    obtain ⟨cur, hg, hBg, -, -, -, -, -⟩ := hown
    have hgl : g < w.heap.size := blk_lt hg
    obtain ⟨Pr, hPr⟩ : ∃ l, lcells (L.take i) = l := ⟨_, rfl⟩
    obtain ⟨D, hD⟩ : ∃ l, lcells (L.drop i) = l := ⟨_, rfl⟩
    obtain ⟨X, hX⟩ : ∃ l, lcell x = l := ⟨_, rfl⟩
    have hPl : Pr.length = i * 3 := by rw [← hPr, lcells_length, List.length_take]; omega
    have hDl : D.length = (n - i) * 3 := by rw [← hD, lcells_length, List.length_drop]; omega
    have hXl : X.length = 3 := by rw [← hX]; rfl
    have hPD : lcells L = Pr ++ D := by rw [← hPr, ← hD]; exact lcells_split L i
    have hM : lcells (L.take i ++ x :: L.drop i) = Pr ++ (X ++ D) := by rw [lcells_append, hPr, ← hX, ← hD]; simp [lcells]
    have hMl : (L.take i ++ x :: L.drop i).length = n + 1 := by rw [List.length_append, List.length_cons, List.length_take, List.length_drop]; omega
    have hD1 : ∀ u ∈ D, u.oneCell' = true := by rw [← hD]; exact lcells_one _
    have hX1 : ∀ u ∈ X, u.oneCell' = true := by rw [← hX]; exact lcell_one x
    rw [hPD] at ho
    rw [hX] at hsrc
    have hcell : ∀ j u, (Pr ++ D)[j]? = some u → w.cell? ⟨g, j, none⟩ = some u := fun j u hu => own_cell ho j u hu
    have hdc : ∀ j u, D[j]? = some u → w.cell? ((⟨g, i * 3, none⟩ : Addr).add j) = some u := fun j u hu => by
      rw [add_plain]
      refine hcell _ u ?_
      rw [List.getElem?_append_right (by omega), hPl, Nat.add_sub_cancel_left]
      exact hu
    obtain ⟨i1, hi1⟩ : ∃ k, k = i + 1 := ⟨_, rfl⟩
    obtain ⟨n1, hn1⟩ : ∃ k, k = n + 1 := ⟨_, rfl⟩
    have hwi : IntKind.i64.wrap ((i : Int) + 1) = (i1 : Int) := by rw [IntKind.wrap_i64]; omega
    have hwn : IntKind.i64.wrap ((n : Int) + 1) = (n1 : Int) := by rw [IntKind.wrap_i64]; omega
    obtain ⟨A0, hs0, hA0⟩ := slice_fromW g n c i (by omega) hnc
    obtain rfl := hA0 (by omega)
    rw [← hn1] at hMl
    have hn1' : (n : Int) + 1 = (n1 : Int) := by omega
    have hi1' : (i : Int) + 1 = (i1 : Int) := by omega
    have hwi1 : IntKind.i64.wrap (i1 : Int) = (i1 : Int) := by rw [IntKind.wrap_i64]; omega
    have hwn1 : IntKind.i64.wrap (n1 : Int) = (n1 : Int) := by rw [IntKind.wrap_i64]; omega
    have hmix : Tryz.prog.follows .mixedOrders = true := by kernel_rfl
    by_cases hroom : c < n1
    · have hcn : n = c := by omega
      subst hcn
      obtain ⟨k, hk⟩ : ∃ k, k = n1 - i := ⟨_, rfl⟩
      have hwk : IntKind.i64.wrap ((n1 : Int) - (i : Int)) = (k : Int) := by rw [IntKind.wrap_i64]; omega
      have hc1 : (n : Int) < (n1 : Int) := by omega
      have hk' : (n1 : Int) - (i : Int) = (k : Int) := by omega
      have hst := slice_toW g n n i (by omega)
      have hold : (Builtin.firstCells i0.size i (.slice (some ⟨g, 0, none⟩) i n)).run Tryz.prog w.drew = .ok Pr.toArray w.drew := by
        rw [hz1]
        exact run_firstCells_some w.drew 3 i ⟨g, 0, none⟩ i n Pr hPl (fun j v hj => by
          rw [add_plain, Nat.zero_add]
          refine hcell j v ?_
          rw [List.getElem?_append_left (by have := (List.getElem?_eq_some_iff.1 hj).1; omega)]
          exact hj)
      have hrun := fun ty => run_append_grow_zeros (P := Tryz.prog) w 98 3 ty 100 i0 _ .i64 Tryz.underlying98 Tryz.underlying3 hi0 hz0 (some ⟨g, 0, none⟩) i n Pr hold k (by omega) (by omega) (by omega) (by omega) (by rw [hz2]; omega) (by rw [hz2]; exact growslice_fits (by omega) (by omega))
      have hik : i + k = n1 := by omega
      rw [hik] at hrun
      obtain ⟨H, hH⟩ : ∃ H, H = w.heap.size := ⟨_, rfl⟩
      obtain ⟨cap, hcap⟩ : ∃ q, q = grownCap w n1 n 100 := ⟨_, rfl⟩
      have hge : n1 ≤ cap := by rw [hcap]; exact grownCap_ge _ _ _ _
      have hcle : cap ≤ maxLen := by rw [hcap]; exact grownCap_le_maxLen _ _ _ _ (by unfold maxLen; omega)
      obtain ⟨Z1, hZ1⟩ : ∃ Z, Z = Builtin.zeroCells (Value.agg #[.int .i64 0, .int .i64 0, .int .i64 0]).cells k := ⟨_, rfl⟩
      obtain ⟨Z2, hZ2⟩ : ∃ Z, Z = Builtin.zeroCells (Value.agg #[.int .i64 0, .int .i64 0, .int .i64 0]).cells (cap - n1) := ⟨_, rfl⟩
      have hZ1l : Z1.size = k * 3 := by rw [hZ1]; simp [Builtin.zeroCells, Value.cells]
      have hZ2l : Z2.size = (cap - n1) * 3 := by rw [hZ2]; simp [Builtin.zeroCells, Value.cells]
      have hZ1t : Z1.toList.length = k * 3 := (Array.length_toList (xs := Z1)).trans hZ1l
      rw [← hcap, ← hH, ← hZ1, ← hZ2] at hrun
      obtain ⟨w1, hw1⟩ : ∃ w1, w1 = w.drew.alloc (.cells (Pr.toArray ++ Z1 ++ Z2) 100) := ⟨_, rfl⟩
      rw [← hw1] at hrun
      have hb1 : Below w.heap.size w w1 := by rw [hw1]; exact ((Below.refl _ _).drew.alloc (Nat.le_refl _) _)
      have hH1 : w1.heap[H]? = some (.cells (Pr.toArray ++ Z1 ++ Z2) 100 (0, 0)) := by rw [hw1, hH]; exact new_block w.drew _
      have ho1 : w1.ownsRow Bs 100 3 (.slice (some ⟨H, 0, none⟩) n1 cap) n1 (Pr ++ Z1.toList) := by
        refine ⟨by rw [List.length_append, hZ1t]; omega, .inr ⟨H, cap, _, rfl, by omega, hH1, hge, hcle, by rw [Array.size_append, Array.size_append, List.size_toArray, hZ1l, hZ2l]; omega, ?_⟩⟩
        rw [Array.toList_append, Array.toList_append, show Pr.toArray.toList = Pr from rfl, List.take_append_of_le_length (by rw [List.length_append, hZ1t]; omega), List.take_of_length_le (by rw [List.length_append, hZ1t]; omega)]
      obtain ⟨A1, hs1, hA1⟩ := slice_fromW H n1 cap i (by omega) hge
      obtain rfl := hA1 (by omega)
      obtain ⟨A2, hs2, hA2⟩ := slice_fromW H n1 cap i1 (by omega) hge
      obtain rfl := hA2 (by omega)
      have hm1 : Nat.min 1 (n1 - i) = 1 := Nat.min_eq_left (by omega)
      have hm2 : Nat.min (n - i) (n1 - i1) = n - i := Nat.min_eq_left (by omega)
      have hcp1 : ∀ ty dc, (Builtin.copy_ #[98, 98] ty #[.slice (some ⟨H, i * 3, none⟩) (n1 - i) dc, .slice (some ⟨vb, 0, none⟩) 1 1]).run Tryz.prog w1 = .ok (goInt (Nat.min 1 (n1 - i))) (w1.setCells H (i * 3) X) := fun ty dc =>
        run_copy_size w1 _ _ ty 100 H (i * 3) (n1 - i) dc ⟨vb, 0, none⟩ 1 1 3 X Tryz.underlying98 size3 (by rw [hXl, hm1])
          (fun j v hj => by
            have h := hsrc j v hj
            rw [add_plain] at h ⊢
            exact (hb1.cell (p := ⟨vb, 0 + j, none⟩) (cell_lt h)).trans h)
          (fun j hj => (own_cells ho1 (i * 3 + j) (by omega)).1) (fun j hj => (own_cells ho1 (i * 3 + j) (by omega)).2) hX1
      have ho2 := own_set_cells ho1 (i * 3) X (by omega)
      obtain ⟨w2, hw2⟩ : ∃ w2, w2 = w1.setCells H (i * 3) X := ⟨_, rfl⟩
      rw [← hw2] at ho2 hcp1
      have hg2 : w1.grownBy w2 (some H) := by rw [hw2]; exact setCells_grown _ _ _
      have hb2 : Below w.heap.size w w2 := hb1.trans (gb_to hg2 (by omega) hb1.size)
      have ho2' : w2.drew.ownsRow Bs 100 3 (.slice (some ⟨H, 0, none⟩) n1 cap) n1 (splice (Pr ++ Z1.toList) (i * 3) X) := ho2
      have hcp2 : ∀ ty dc sc, (Builtin.copy_ #[98, 98] ty #[.slice (some ⟨H, i1 * 3, none⟩) (n1 - i1) dc, .slice (some ⟨g, i * 3, none⟩) (n - i) sc]).run Tryz.prog w2.drew = .ok (goInt (Nat.min (n - i) (n1 - i1))) (w2.drew.setCells H (i1 * 3) D) := fun ty dc sc =>
        run_copy_size w2.drew _ _ ty 100 H (i1 * 3) (n1 - i1) dc ⟨g, i * 3, none⟩ (n - i) sc 3 D Tryz.underlying98 size3 (by rw [hDl, hm2])
          (fun j v hj => by
            have h := hdc j v hj
            rw [add_plain] at h ⊢
            exact (hb2.cell (p := ⟨g, i * 3 + j, none⟩) (cell_lt h)).trans h)
          (fun j hj => (own_cells ho2' (i1 * 3 + j) (by omega)).1) (fun j hj => (own_cells ho2' (i1 * 3 + j) (by omega)).2) hD1
      have ho3 := own_set_cells ho2' (i1 * 3) D (by omega)
      have hg3 : w2.drew.grownBy (w2.drew.setCells H (i1 * 3) D) (some H) := setCells_grown _ _ _
      have HE : Hid (InPost Bs (.slice (some ⟨g, 0, none⟩) n n) (L.take i ++ x :: L.drop i) w (.returned (.slice (some ⟨H, 0, none⟩) n1 cap)) (w2.drew.setCells H (i1 * 3) D)) := Lib.hid (by
        have e := splice_end (A := Pr) (Z := Z1.toList) (D := D) (X := X) (by rw [hZ1t, hXl, hDl]; omega)
        rw [hPl, hXl, show i * 3 + 3 = i1 * 3 by omega] at e
        rw [e] at ho3
        refine ⟨_, rfl, ?_, gb_below (hb2.trans (gb_to (gb_trans gb_drew hg3) (by omega) hb2.size)) _, fun g' hg' => ?_⟩
        · rw [hMl, hM]; exact ho3
        · simp only [Value.ownBlock, Option.some.injEq] at hg'
          exact .inr (by omega))
      have HRUN := Lib.hid hrun
      clear hA hv hvg hi hrun ho ho1 ho2 ho2' ho3 hg2 hg3 hw1 hw2 hb1 hb2 hH1 hZ1 hZ2 hZ1l hZ2l hold hdc hcell hM hPD hsrc hX1 hD1 hA1 hA2 hA0 hcm hcle hPr hD hX hg hMl hn1 hi1 hk hcap hH hik
      go_enter Tryz.func82, Tryz.ntmps82
      go_upto_region 10 with (at_builtin; refine Lib.wpList_append_run _ rfl _ _ 98 3 rfl _ _ rfl rfl _ _ (HRUN.out _) ?_)
      go_wp2_with fail
      go_region
      go_wp2_with fail
      go_ret
      exact HE.out
    · have hnr : n1 ≤ c := by omega
      have hc1 : ¬ (c : Int) < (n1 : Int) := by omega
      obtain ⟨Z, hZl, ho1⟩ := own_long ho (show n ≤ n1 by omega) hnr
      rw [List.append_assoc] at ho1
      have hst := slice_toW g n c n1 hnr
      obtain ⟨A1, hs1, hA1⟩ := slice_fromW g n1 c i (by omega) hnr
      obtain rfl := hA1 (by omega)
      obtain ⟨A2, hs2, hA2⟩ := slice_fromW g n1 c i1 (by omega) hnr
      obtain rfl := hA2 (by omega)
      have hm1 : Nat.min 1 (n1 - i) = 1 := Nat.min_eq_left (by omega)
      have hm2 : Nat.min (n1 - i) (n1 - i1) = n - i := (Nat.min_eq_right (by omega)).trans (by omega)
      have hshv : w.shape? vb = some (100, 3) := by simp [World.shape?, hv]
      have hshg : w.shape? g = some (100, cur.size) := by simp [World.shape?, hg]
      have hcur : cur.size ≠ 0 := by
        have h := (own_cells ho 0 (by omega)).1
        rw [cell_of_row w g 0 cur _ _ hg] at h
        intro e0
        rw [Array.getElem?_eq_none (by omega)] at h
        cases h
      have hov : ∀ lb cb, (callFunc 124 #[.slice (some ⟨vb, 0, none⟩) 1 1, .slice (some ⟨g, i1 * 3, none⟩) lb cb]).run Tryz.prog w = .ok (.value (.bool false)) w := fun lb cb => by
        rw [run_callFunc_extern Tryz.func124 (by kernel_rfl) (by kernel_rfl) (by kernel_rfl) (e := Extern.SlicesOverlaps.overlaps #[98, 98] #[4]) (by kernel_rfl),
          Lib.run_overlaps_apart w 98 4 100 Tryz.underlying98 3 (fun W => by simp [sizeOf, typeInfo, hi0, hz1]) ⟨vb, 0, none⟩ ⟨g, i1 * 3, none⟩ 1 1 lb cb (Ne.symm hgv) 100 100 3 cur.size hshv hshg hcur (frozen_of_row w vb 0 _ _ hv) (frozen_of_row w vb 3 _ _ hv)]
        rfl
      have ho1' : w.drew.ownsRow Bs 100 3 (.slice (some ⟨g, 0, none⟩) n1 c) n1 (Pr ++ (D ++ Z)) := ho1
      have hcp2 : ∀ ty dc sc, (Builtin.copy_ #[98, 98] ty #[.slice (some ⟨g, i1 * 3, none⟩) (n1 - i1) dc, .slice (some ⟨g, i * 3, none⟩) (n1 - i) sc]).run Tryz.prog w.drew = .ok (goInt (Nat.min (n1 - i) (n1 - i1))) (w.drew.setCells g (i1 * 3) D) := fun ty dc sc =>
        run_copy_size w.drew _ _ ty 100 g (i1 * 3) (n1 - i1) dc ⟨g, i * 3, none⟩ (n1 - i) sc 3 D Tryz.underlying98 size3 (by rw [hDl, hm2])
          (fun j v hj => hdc j v hj)
          (fun j hj => (own_cells ho1' (i1 * 3 + j) (by omega)).1) (fun j hj => (own_cells ho1' (i1 * 3 + j) (by omega)).2) hD1
      have ho2 := own_set_cells ho1' (i1 * 3) D (by omega)
      obtain ⟨w2, hw2⟩ : ∃ w2, w2 = w.drew.setCells g (i1 * 3) D := ⟨_, rfl⟩
      rw [← hw2] at ho2 hcp2
      have hg2 : w.grownBy w2 (some g) := gb_trans gb_drew (by rw [hw2]; exact setCells_grown _ _ _)
      have hvb2 : w2.heap[vb]? = some (.cells #[.int .i64 x.i, .int .i64 x.s, .int .i64 x.l] 100 (0, 0)) := gb_cells hg2 (Ne.symm hgv) hv
      have hcp1 : ∀ ty dc, (Builtin.copy_ #[98, 98] ty #[.slice (some ⟨g, i * 3, none⟩) (n1 - i) dc, .slice (some ⟨vb, 0, none⟩) 1 1]).run Tryz.prog w2 = .ok (goInt (Nat.min 1 (n1 - i))) (w2.setCells g (i * 3) X) := fun ty dc =>
        run_copy_size w2 _ _ ty 100 g (i * 3) (n1 - i) dc ⟨vb, 0, none⟩ 1 1 3 X Tryz.underlying98 size3 (by rw [hXl, hm1])
          (fun j v hj => by
            rw [add_plain, Nat.zero_add, cell_of_row w2 vb j _ _ _ hvb2]
            show (lcell x).toArray[j]? = some v
            rw [List.getElem?_toArray, hX]
            exact hj)
          (fun j hj => (own_cells ho2 (i * 3 + j) (by omega)).1) (fun j hj => (own_cells ho2 (i * 3 + j) (by omega)).2) hX1
      have ho3 := own_set_cells ho2 (i * 3) X (by omega)
      have hg3 : w2.grownBy (w2.setCells g (i * 3) X) (some g) := setCells_grown _ _ _
      have HE : Hid (InPost Bs (.slice (some ⟨g, 0, none⟩) n c) (L.take i ++ x :: L.drop i) w (.returned (.slice (some ⟨g, 0, none⟩) n1 c)) (w2.setCells g (i * 3) X)) := Lib.hid (by
        have e := splice_mid (A := Pr) (Z := D ++ Z) (D := D) (X := X) (by rw [List.length_append, hZl, hXl, hDl]; omega)
        rw [hPl, hXl, show i * 3 + 3 = i1 * 3 by omega] at e
        rw [e] at ho3
        refine ⟨_, rfl, ?_, gb_trans hg2 hg3, fun g' hg' => ?_⟩
        · rw [hMl, hM]; exact ho3
        · simp only [Value.ownBlock, Option.some.injEq] at hg'
          exact .inl (by simp [Value.ownBlock, hg']))
      clear hA hv hvg hi ho ho1 ho1' ho2 ho3 hg2 hg3 hw2 hdc hcell hM hPD hsrc hX1 hD1 hA1 hA2 hA0 hcm hPr hD hX hg hMl hn1 hi1 hroom hshv hshg hcur hvb2 hZl
      go_enter Tryz.func82, Tryz.ntmps82
      go_wp2_with (simp only [hov])
      go_region
      go_wp2_with fail
      go_ret
      exact HE.out
end Go.Proofs.YtflgemlhocjipaaGreatDoor.Lq
