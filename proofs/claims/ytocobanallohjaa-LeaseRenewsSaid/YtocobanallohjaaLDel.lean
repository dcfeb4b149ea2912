/-
  What slices.Delete of one lease leaves of a row. No condition.
-/
import Derived.Test.YtocobanallohjaaLRow
import Derived.Deep.RegionLaw
namespace Go.Proofs.Ytocobanallohjaa
set_option maxRecDepth 100000
open Go.ChangeShapes Go.WideShapes Go.ChangeAt Go.RowKit Go.Proofs.Le

set_option maxHeartbeats 2000000 in
theorem del_any {w : World} {B g c : Nat} {L : Tb} (h : w.ownsRow B 30 3 (.slice (some ⟨g, 0, none⟩) L.length c) L.length (lcells L)) (k : Nat) (hk : k < L.length) (hL : L.length ≤ 2000) :
    Calls Try.prog 33 #[.slice (some ⟨g, 0, none⟩) L.length c, .int .i64 (k : Int), .int .i64 ((k : Int) + 1)] w fun e w' => e = .returned (.slice (some ⟨g, 0, none⟩) (L.length - 1) c) ∧
      w'.ownsRow B 30 3 (.slice (some ⟨g, 0, none⟩) (L.length - 1) c) (L.length - 1) (lcells (L.eraseIdx k)) ∧ w.grownBy w' (some g) := by
  obtain ⟨i0, hi, hz0, hz1, hz2⟩ := info_parts infoL
  obtain ⟨cur, -, -, hnc, -⟩ := own_at h
  have hj : ((k + 1 : Nat) : Int) = (k : Int) + 1 := by omega
  obtain ⟨v1, hs1⟩ := slice_lhm g L.length c k (k + 1) L.length (by omega) (by omega) hnc
  have hs2 := slice_toW g L.length c k (by omega)
  obtain ⟨A, hs3, hA⟩ := slice_fromW g L.length c (k + 1) (by omega) hnc
  rw [hj] at hs1 hs3
  obtain ⟨m, hm⟩ : ∃ m, m = L.length - 1 := ⟨_, rfl⟩
  have hmm : k + (L.length - (k + 1)) = m := by omega
  obtain ⟨A2, hs4, hA2⟩ := slice_lh g m c m L.length (by omega) (by omega)
  have hA2' := hA2 (by omega)
  subst hA2'
  rw [show L.length - m = 1 by omega] at hs4
  obtain ⟨news, hnews⟩ : ∃ news, news = (lcells L).drop ((k + 1) * 3) := ⟨_, rfl⟩
  have hpl := lcells_length L
  have hnl : news.length = (L.length - (k + 1)) * 3 := by rw [hnews, List.length_drop, hpl]; omega
  have s1 : Hid (news.length = (L.length - (k + 1)) * 3) := Lib.hid hnl
  have s2 : Hid (∀ u ∈ news, u.oneCell' = true) := Lib.hid (fun u hu => lcells_one L u (by rw [hnews] at hu; exact List.mem_of_mem_drop hu))
  have s3 : Hid (∀ j u, news[j]? = some u → w.drew.cell? (A.add j) = some u) := Lib.hid (fun j u hu => by
    have hlt := (List.getElem?_eq_some_iff.1 hu).1
    rw [hA (by omega), Go.WideShapes.add_plain]
    refine own_cell h _ _ ?_
    rw [hnews, List.getElem?_drop] at hu
    exact hu)
  have s4 : Hid (∀ j, j < news.length → (w.drew.cell? ⟨g, 0 + k * 3 + j, none⟩).isSome = true ∧ w.drew.frozen? ⟨g, 0 + k * 3 + j, none⟩ = false) := Lib.hid (fun j hj' => own_cells h _ (by omega))
  obtain ⟨w2, hw2⟩ : ∃ w2, w2 = w.drew.setCells g (k * 3) news := ⟨_, rfl⟩
  have hd : w.drew.ownsRow B 30 3 (.slice (some ⟨g, 0, none⟩) L.length c) L.length (lcells L) := h
  have hown2 : w2.ownsRow B 30 3 (.slice (some ⟨g, 0, none⟩) L.length c) L.length (splice (lcells L) (k * 3) news) := by
    rw [hw2]; exact own_set_cells hd _ _ (by omega)
  obtain ⟨vs, hvl, hclr⟩ := run_clear_rowW w2 g (m * 3) 1 (c - m) (by omega) (fun j hj' => own_cells hown2 _ (by omega))
  have HE : Hid ((w2.setCells g (m * 3) vs).ownsRow B 30 3 (.slice (some ⟨g, 0, none⟩) m c) m (lcells (L.eraseIdx k)) ∧ w.grownBy (w2.setCells g (m * 3) vs) (some g)) := Lib.hid (by
    constructor
    · have h3 := own_short (own_set_cells hown2 (m * 3) vs (by omega)) (show m ≤ L.length by omega)
      rw [hnews, hm, lcells_cut L k hk vs] at h3
      rw [hm]; exact h3
    · have g1 : w.grownBy w.drew (some g) := ⟨rfl, rfl, rfl, Nat.le_refl _, fun _ _ _ => rfl⟩
      have g2 : w.drew.grownBy w2 (some g) := by rw [hw2]; exact setCells_grown _ _ _
      have g3 : w2.grownBy (w2.setCells g (m * 3) vs) (some g) := setCells_grown _ _ _
      have gt : ∀ {a b c : World}, a.grownBy b (some g) → b.grownBy c (some g) → a.grownBy c (some g) := fun x y => ⟨y.os.trans x.os, y.tape.trans x.tape, y.output.trans x.output, Nat.le_trans x.size y.size, fun k hk hn => (y.block k (Nat.lt_of_lt_of_le hk x.size) hn).trans (x.block k hk hn)⟩
      exact gt (gt g1 g2) g3)
  have HM := Lib.hid hm
  have HW2 := Lib.hid hw2
  have hne : ((k : Int) == (k : Int) + 1) = false := by rw [beq_eq_false_iff_ne]; omega
  have hroom : k + (L.length - (k + 1)) ≤ c := by omega
  have HRM := Lib.hid hroom
  have HMM := Lib.hid hmm
  clear h hj hnews hpl hnl hA hA2 hm hw2 hd hown2 hvl hroom hmm
  rw [← HM.out]
  go_enter Try.func33, Try.ntmps33
  go_wp2_with fail
  go_region_law (first
    | (refine step_append_room rfl (.tmp 22) (.tmp 25) 38 rfl 30 i0 3 Try.underlying38 hi hz1 g 0 k c (by simp [Act.eval, Act.put]) A (L.length - (k + 1)) (c - (k + 1)) news (by simp [Act.eval, Act.put]) s1.out s3.out s2.out HRM.out s4.out ?_)
    | fail)
  rw [← HW2.out, HMM.out]
  go_wp2_with fail
  go_ret
  exact ⟨rfl, HE.out.1, HE.out.2⟩
end Go.Proofs.Ytocobanallohjaa
