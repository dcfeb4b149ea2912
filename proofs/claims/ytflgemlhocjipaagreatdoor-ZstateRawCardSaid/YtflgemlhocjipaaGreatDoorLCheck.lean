/-
  What the document's own Check returns of any list. Condition: the list is not long.
-/
import Derived.Test.YtflgemlhocjipaaGreatDoorSSame
namespace Go.Proofs.YtflgemlhocjipaaGreatDoor.Lq
set_option maxRecDepth 100000
open Go.ChangeShapes Go.WideShapes Go.ChangeAt Go.RowKit Go.Proofs.Le

theorem take_op {ops : Array Oper} {Q : Exit → Act → World → Prop} {S : World → Prop} {fuel : Nat} {listed : Array Bool} {l : List Value} {ds : List Deferred} {w : World} (i d : Nat) (v : Value) {o : Oper} (hi : ops[i]? = some o) (hd : o.dst = some d)
    (hs : Region.noSelect ops = true) (hf : Region.free .any ops listed i = true) (hr : (Region.ready .any ops listed).contains i = true) (hQ : ∀ c a w, Q (.panic c) (a.put o.dst v) w → Q (.panic c) a w)
    (hy : YieldsIf Tryz.prog ops S o v (Act.mk l.toArray ds)) (hS : S w) (h : wpAnyH Tryz.prog .any ops Q S fuel (listed.setIfInBounds i true) (Act.mk (l.set d v).toArray ds) w) : wpAnyH Tryz.prog .any ops Q S (fuel + 1) listed (Act.mk l.toArray ds) w := by
  refine wpAnyH_take hi hs hf hr hQ hy hS ?_
  rw [hd]
  simpa [Act.put] using h
def CkPost (w : World) (T : Tb) (e : Ending) (w' : World) : Prop := ((Le.Good T ∧ e = .returned (.int .i64 0)) ∨ (¬ Le.Good T ∧ e = .returned (.int .i64 1))) ∧ Below w.heap.size w w'
set_option maxHeartbeats 16000000 in
theorem rcheck_any {w : World} {A : Option Addr} {n c : Nat} {T : Tb} (hR : Rd lcell 3 w A n T) (hn : n ≤ 100000) : Calls Tryz.prog 29 #[.slice A n c] w (CkPost w T) := by
  have HR := Lib.hid hR
  have HL := Lib.hid hR.len
  clear hR
  go_enter Tryz.func29, Tryz.ntmps29
  go_wp2_with fail
  go_loopw [3] (fun i wr => ∃ k : Nat, k ≤ n ∧ i = .int .i64 k ∧ Hid (Srt (T.take k) ∧ ∀ x ∈ T.take k, okL x = true) ∧ Hid (Below w.heap.size w wr)) (fun i _ => n - (intOf i).toNat)
  case atStart => exact ⟨0, Nat.zero_le _, rfl, Lib.hid ⟨List.Pairwise.nil, fun x hx => by simp at hx⟩, Lib.hid (Below.refl _ _)⟩
  case round =>
    obtain ⟨k, hk, rfl, HI, HX⟩ := hrel
    by_cases hlt : k < n
    · obtain ⟨b, off, x, rfl, hx, hcc⟩ := (HR.out.below HX.out).at hlt
      have HXX := Lib.hid hx
      have c0 : wr.cell? ⟨b, off + k * 3, none⟩ = some (.int .i64 x.i) := hcc 0 _ rfl
      have c1 : wr.cell? ⟨b, off + k * 3 + 1, none⟩ = some (.int .i64 x.s) := hcc 1 _ rfl
      have c2 : wr.cell? ⟨b, off + k * 3 + 2, none⟩ = some (.int .i64 x.l) := hcc 2 _ rfl
      have hk0 : (0 : Int) ≤ (k : Int) := by omega
      have hki : (k : Int) < (n : Int) := by omega
      have hwk : IntKind.i64.wrap ((k : Int) + 1) = (k : Int) + 1 := by rw [IntKind.wrap_i64]; omega
      have HTK := Lib.hid (take_some hx)
      have HRI := Lib.hid (fun W => right_any x W)
      obtain ⟨t, ht⟩ : ∃ t, okL x = t := ⟨_, rfl⟩
      rw [ht] at HRI
      have HOK := Lib.hid ht
      have HBAD : Hid (¬ (okL x = true ∧ ∀ y ∈ T.take k, y.i < x.i) → ¬ Le.Good T) := Lib.hid (fun h hg => h (by
        have hm := List.mem_of_getElem? HXX.out
        refine ⟨hg.each x hm, fun y hy => ?_⟩
        have h1 := good_take hg (k + 1)
        rw [HTK.out] at h1
        exact (List.pairwise_append.1 h1.srt).2.2 y hy x (by simp)))
      by_cases hz : k = 0
      · have HS : Hid (∀ W, Below wr.heap.size wr W → (W.cell? ⟨b, off + k * 3, none⟩ = some (.int .i64 x.i) ∧ W.cell? ⟨b, off + k * 3 + 1, none⟩ = some (.int .i64 x.s) ∧ W.cell? ⟨b, off + k * 3 + 2, none⟩ = some (.int .i64 x.l) ∧ Below wr.heap.size wr W)) := Lib.hid (fun W hW => by
          have kk : ∀ j u, wr.cell? ⟨b, j, none⟩ = some u → W.cell? ⟨b, j, none⟩ = some u := fun j u hu => (hW.cell (p := ⟨b, j, none⟩) (cell_lt hu)).trans hu
          exact ⟨kk _ _ c0, kk _ _ c1, kk _ _ c2, hW⟩)
        have g1 : decide ((0 : Int) < (k : Int)) = false := by rw [decide_eq_false_iff_not]; omega
        have g2 : decide (0 < k) = false := by rw [decide_eq_false_iff_not]; omega
        have HZ := Lib.hid hz
        clear hx hcc ht hz
        cases t with
        | false =>
          go_upto_region 4 with fail
          refine wp_region_held_drew (S := fun W => W.cell? ⟨b, off + k * 3, none⟩ = some (.int .i64 x.i) ∧ W.cell? ⟨b, off + k * 3 + 1, none⟩ = some (.int .i64 x.s) ∧ W.cell? ⟨b, off + k * 3 + 2, none⟩ = some (.int .i64 x.l) ∧ Below wr.heap.size wr W) (by kernel_rfl) (HS.out _ (Below.refl _ _).drew) (fun hHeld => ?_)
          refine take_op 0 10 (.slice (some ⟨b, off, none⟩) n c) rfl rfl (by kernel_rfl) (by kernel_rfl) (by kernel_rfl) (fun _ _ _ h => h) (.inl ⟨by rfl, fun w' hw' => by obtain ⟨s0, s1, s2, -⟩ := hw'; go_simp⟩) hHeld ?_
          simp only [List.set_cons_zero, List.set_cons_succ]
          refine take_op 1 11 (.int .i64 (k : Int)) rfl rfl (by kernel_rfl) (by kernel_rfl) (by kernel_rfl) (fun _ _ _ h => h) (.inl ⟨by rfl, fun w' hw' => by obtain ⟨s0, s1, s2, -⟩ := hw'; go_simp⟩) hHeld ?_
          simp only [List.set_cons_zero, List.set_cons_succ]
          refine take_op 2 12 (.pointer (some ⟨b, off + k * 3, none⟩)) rfl rfl (by kernel_rfl) (by kernel_rfl) (by kernel_rfl) (fun _ _ _ h => h) (.inl ⟨by rfl, fun w' hw' => by obtain ⟨s0, s1, s2, -⟩ := hw'; go_simp⟩) hHeld ?_
          simp only [List.set_cons_zero, List.set_cons_succ]
          refine take_op 3 13 (.agg #[.int .i64 x.i, .int .i64 x.s, .int .i64 x.l]) rfl rfl (by kernel_rfl) (by kernel_rfl) (by kernel_rfl) (fun _ _ _ h => h) (.inl ⟨by rfl, fun w' hw' => by obtain ⟨s0, s1, s2, -⟩ := hw'; go_simp⟩) hHeld ?_
          simp only [List.set_cons_zero, List.set_cons_succ]
          refine wpAnyH_ready (rs := [4]) (by kernel_rfl) (by simp) (AllReadyH.cons rfl (fun K hK => ?_) AllReadyH.nil)
          go_simp
          refine (HRI.out _).mono ?_
          rintro e w9 ⟨rfl, hb9⟩
          have hB9 := below_step (a := wr) (Below.refl _ _).drew hb9
          go_wp2_with fail
          refine hK.out _ _ (HS.out _ hB9) (fun hHeld2 => ?_)
          refine take_op 5 15 (.bool true) rfl rfl (by kernel_rfl) (by kernel_rfl) (by kernel_rfl) (fun _ _ _ h => h) (.inl ⟨by rfl, fun w' hw' => by obtain ⟨s0, s1, s2, -⟩ := hw'; go_simp⟩) hHeld2 ?_
          simp only [List.set_cons_zero, List.set_cons_succ]
          refine take_op 6 16 (.bool true) rfl rfl (by kernel_rfl) (by kernel_rfl) (by kernel_rfl) (fun _ _ _ h => h) (.inl ⟨by rfl, fun w' hw' => by obtain ⟨s0, s1, s2, -⟩ := hw'; go_simp⟩) hHeld2 ?_
          simp only [List.set_cons_zero, List.set_cons_succ]
          refine take_op 7 17 (undef) rfl rfl (by kernel_rfl) (by kernel_rfl) (by kernel_rfl) (fun _ _ _ h => h) (.inr ⟨by rfl, rfl⟩) hHeld2 ?_
          simp only [List.set_cons_zero, List.set_cons_succ]
          refine take_op 8 18 (undef) rfl rfl (by kernel_rfl) (by kernel_rfl) (by kernel_rfl) (fun _ _ _ h => h) (.inr ⟨by rfl, rfl⟩) hHeld2 ?_
          simp only [List.set_cons_zero, List.set_cons_succ]
          refine take_op 9 19 (undef) rfl rfl (by kernel_rfl) (by kernel_rfl) (by kernel_rfl) (fun _ _ _ h => h) (.inr ⟨by rfl, rfl⟩) hHeld2 ?_
          simp only [List.set_cons_zero, List.set_cons_succ]
          refine take_op 10 20 (undef) rfl rfl (by kernel_rfl) (by kernel_rfl) (by kernel_rfl) (fun _ _ _ h => h) (.inr ⟨by rfl, rfl⟩) hHeld2 ?_
          simp only [List.set_cons_zero, List.set_cons_succ]
          refine take_op 11 21 (undef) rfl rfl (by kernel_rfl) (by kernel_rfl) (by kernel_rfl) (fun _ _ _ h => h) (.inr ⟨by rfl, rfl⟩) hHeld2 ?_
          simp only [List.set_cons_zero, List.set_cons_succ]
          refine take_op 12 22 (undef) rfl rfl (by kernel_rfl) (by kernel_rfl) (by kernel_rfl) (fun _ _ _ h => h) (.inr ⟨by rfl, rfl⟩) hHeld2 ?_
          simp only [List.set_cons_zero, List.set_cons_succ]
          refine take_op 13 23 (undef) rfl rfl (by kernel_rfl) (by kernel_rfl) (by kernel_rfl) (fun _ _ _ h => h) (.inr ⟨by rfl, rfl⟩) hHeld2 ?_
          simp only [List.set_cons_zero, List.set_cons_succ]
          refine take_op 14 24 (undef) rfl rfl (by kernel_rfl) (by kernel_rfl) (by kernel_rfl) (fun _ _ _ h => h) (.inr ⟨by rfl, rfl⟩) hHeld2 ?_
          simp only [List.set_cons_zero, List.set_cons_succ]
          refine take_op 15 25 (undef) rfl rfl (by kernel_rfl) (by kernel_rfl) (by kernel_rfl) (fun _ _ _ h => h) (.inr ⟨by rfl, rfl⟩) hHeld2 ?_
          simp only [List.set_cons_zero, List.set_cons_succ]
          refine take_op 16 26 (undef) rfl rfl (by kernel_rfl) (by kernel_rfl) (by kernel_rfl) (fun _ _ _ h => h) (.inr ⟨by rfl, rfl⟩) hHeld2 ?_
          simp only [List.set_cons_zero, List.set_cons_succ]
          refine take_op 17 27 (undef) rfl rfl (by kernel_rfl) (by kernel_rfl) (by kernel_rfl) (fun _ _ _ h => h) (.inr ⟨by rfl, rfl⟩) hHeld2 ?_
          simp only [List.set_cons_zero, List.set_cons_succ]
          refine take_op 18 28 (undef) rfl rfl (by kernel_rfl) (by kernel_rfl) (by kernel_rfl) (fun _ _ _ h => h) (.inr ⟨by rfl, rfl⟩) hHeld2 ?_
          simp only [List.set_cons_zero, List.set_cons_succ]
          refine take_op 19 29 (undef) rfl rfl (by kernel_rfl) (by kernel_rfl) (by kernel_rfl) (fun _ _ _ h => h) (.inr ⟨by rfl, rfl⟩) hHeld2 ?_
          simp only [List.set_cons_zero, List.set_cons_succ]
          refine take_op 20 30 (undef) rfl rfl (by kernel_rfl) (by kernel_rfl) (by kernel_rfl) (fun _ _ _ h => h) (.inr ⟨by rfl, rfl⟩) hHeld2 ?_
          simp only [List.set_cons_zero, List.set_cons_succ]
          refine take_op 21 31 (undef) rfl rfl (by kernel_rfl) (by kernel_rfl) (by kernel_rfl) (fun _ _ _ h => h) (.inr ⟨by rfl, rfl⟩) hHeld2 ?_
          simp only [List.set_cons_zero, List.set_cons_succ]
          refine take_op 22 32 (undef) rfl rfl (by kernel_rfl) (by kernel_rfl) (by kernel_rfl) (fun _ _ _ h => h) (.inr ⟨by rfl, rfl⟩) hHeld2 ?_
          simp only [List.set_cons_zero, List.set_cons_succ]
          refine take_op 23 33 (.bool true) rfl rfl (by kernel_rfl) (by kernel_rfl) (by kernel_rfl) (fun _ _ _ h => h) (.inl ⟨by rfl, fun w' hw' => by obtain ⟨s0, s1, s2, -⟩ := hw'; go_simp⟩) hHeld2 ?_
          simp only [List.set_cons_zero, List.set_cons_succ]
          refine wpAnyH_done (by kernel_rfl) ?_ _
          all_goals
            have HE : Hid (CkPost w T (.returned (.int .i64 1)) w9) := Lib.hid ⟨.inr ⟨HBAD.out (fun h => by rw [HOK.out] at h; simp at h), rfl⟩, HX.out.trans (hB9.mono HX.out.size)⟩
            clear hb9 hB9
            go_wp2_with fail
            go_ret
            exact HE.out
        | true =>
          go_upto_region 4 with fail
          refine wp_region_held_drew (S := fun W => W.cell? ⟨b, off + k * 3, none⟩ = some (.int .i64 x.i) ∧ W.cell? ⟨b, off + k * 3 + 1, none⟩ = some (.int .i64 x.s) ∧ W.cell? ⟨b, off + k * 3 + 2, none⟩ = some (.int .i64 x.l) ∧ Below wr.heap.size wr W) (by kernel_rfl) (HS.out _ (Below.refl _ _).drew) (fun hHeld => ?_)
          refine take_op 0 10 (.slice (some ⟨b, off, none⟩) n c) rfl rfl (by kernel_rfl) (by kernel_rfl) (by kernel_rfl) (fun _ _ _ h => h) (.inl ⟨by rfl, fun w' hw' => by obtain ⟨s0, s1, s2, -⟩ := hw'; go_simp⟩) hHeld ?_
          simp only [List.set_cons_zero, List.set_cons_succ]
          refine take_op 1 11 (.int .i64 (k : Int)) rfl rfl (by kernel_rfl) (by kernel_rfl) (by kernel_rfl) (fun _ _ _ h => h) (.inl ⟨by rfl, fun w' hw' => by obtain ⟨s0, s1, s2, -⟩ := hw'; go_simp⟩) hHeld ?_
          simp only [List.set_cons_zero, List.set_cons_succ]
          refine take_op 2 12 (.pointer (some ⟨b, off + k * 3, none⟩)) rfl rfl (by kernel_rfl) (by kernel_rfl) (by kernel_rfl) (fun _ _ _ h => h) (.inl ⟨by rfl, fun w' hw' => by obtain ⟨s0, s1, s2, -⟩ := hw'; go_simp⟩) hHeld ?_
          simp only [List.set_cons_zero, List.set_cons_succ]
          refine take_op 3 13 (.agg #[.int .i64 x.i, .int .i64 x.s, .int .i64 x.l]) rfl rfl (by kernel_rfl) (by kernel_rfl) (by kernel_rfl) (fun _ _ _ h => h) (.inl ⟨by rfl, fun w' hw' => by obtain ⟨s0, s1, s2, -⟩ := hw'; go_simp⟩) hHeld ?_
          simp only [List.set_cons_zero, List.set_cons_succ]
          refine wpAnyH_ready (rs := [4]) (by kernel_rfl) (by simp) (AllReadyH.cons rfl (fun K hK => ?_) AllReadyH.nil)
          go_simp
          refine (HRI.out _).mono ?_
          rintro e w9 ⟨rfl, hb9⟩
          have hB9 := below_step (a := wr) (Below.refl _ _).drew hb9
          go_wp2_with fail
          refine hK.out _ _ (HS.out _ hB9) (fun hHeld2 => ?_)
          refine take_op 5 15 (.bool false) rfl rfl (by kernel_rfl) (by kernel_rfl) (by kernel_rfl) (fun _ _ _ h => h) (.inl ⟨by rfl, fun w' hw' => by obtain ⟨s0, s1, s2, -⟩ := hw'; go_simp⟩) hHeld2 ?_
          simp only [List.set_cons_zero, List.set_cons_succ]
          refine take_op 6 16 (.bool false) rfl rfl (by kernel_rfl) (by kernel_rfl) (by kernel_rfl) (fun _ _ _ h => h) (.inl ⟨by rfl, fun w' hw' => by obtain ⟨s0, s1, s2, -⟩ := hw'; go_simp⟩) hHeld2 ?_
          simp only [List.set_cons_zero, List.set_cons_succ]
          refine take_op 7 17 (.int .i64 (k : Int)) rfl rfl (by kernel_rfl) (by kernel_rfl) (by kernel_rfl) (fun _ _ _ h => h) (.inl ⟨by rfl, fun w' hw' => by obtain ⟨s0, s1, s2, -⟩ := hw'; go_simp⟩) hHeld2 ?_
          simp only [List.set_cons_zero, List.set_cons_succ]
          refine take_op 8 18 (.bool false) rfl rfl (by kernel_rfl) (by kernel_rfl) (by kernel_rfl) (fun _ _ _ h => h) (.inl ⟨by rfl, fun w' hw' => by obtain ⟨s0, s1, s2, -⟩ := hw'; go_simp⟩) hHeld2 ?_
          simp only [List.set_cons_zero, List.set_cons_succ]
          refine take_op 9 19 (.bool false) rfl rfl (by kernel_rfl) (by kernel_rfl) (by kernel_rfl) (fun _ _ _ h => h) (.inl ⟨by rfl, fun w' hw' => by obtain ⟨s0, s1, s2, -⟩ := hw'; go_simp⟩) hHeld2 ?_
          simp only [List.set_cons_zero, List.set_cons_succ]
          refine take_op 10 20 (undef) rfl rfl (by kernel_rfl) (by kernel_rfl) (by kernel_rfl) (fun _ _ _ h => h) (.inr ⟨by rfl, rfl⟩) hHeld2 ?_
          simp only [List.set_cons_zero, List.set_cons_succ]
          refine take_op 11 21 (undef) rfl rfl (by kernel_rfl) (by kernel_rfl) (by kernel_rfl) (fun _ _ _ h => h) (.inr ⟨by rfl, rfl⟩) hHeld2 ?_
          simp only [List.set_cons_zero, List.set_cons_succ]
          refine take_op 12 22 (undef) rfl rfl (by kernel_rfl) (by kernel_rfl) (by kernel_rfl) (fun _ _ _ h => h) (.inr ⟨by rfl, rfl⟩) hHeld2 ?_
          simp only [List.set_cons_zero, List.set_cons_succ]
          refine take_op 13 23 (undef) rfl rfl (by kernel_rfl) (by kernel_rfl) (by kernel_rfl) (fun _ _ _ h => h) (.inr ⟨by rfl, rfl⟩) hHeld2 ?_
          simp only [List.set_cons_zero, List.set_cons_succ]
          refine take_op 14 24 (undef) rfl rfl (by kernel_rfl) (by kernel_rfl) (by kernel_rfl) (fun _ _ _ h => h) (.inr ⟨by rfl, rfl⟩) hHeld2 ?_
          simp only [List.set_cons_zero, List.set_cons_succ]
          refine take_op 15 25 (undef) rfl rfl (by kernel_rfl) (by kernel_rfl) (by kernel_rfl) (fun _ _ _ h => h) (.inr ⟨by rfl, rfl⟩) hHeld2 ?_
          simp only [List.set_cons_zero, List.set_cons_succ]
          refine take_op 16 26 (undef) rfl rfl (by kernel_rfl) (by kernel_rfl) (by kernel_rfl) (fun _ _ _ h => h) (.inr ⟨by rfl, rfl⟩) hHeld2 ?_
          simp only [List.set_cons_zero, List.set_cons_succ]
          refine take_op 17 27 (undef) rfl rfl (by kernel_rfl) (by kernel_rfl) (by kernel_rfl) (fun _ _ _ h => h) (.inr ⟨by rfl, rfl⟩) hHeld2 ?_
          simp only [List.set_cons_zero, List.set_cons_succ]
          refine take_op 18 28 (undef) rfl rfl (by kernel_rfl) (by kernel_rfl) (by kernel_rfl) (fun _ _ _ h => h) (.inr ⟨by rfl, rfl⟩) hHeld2 ?_
          simp only [List.set_cons_zero, List.set_cons_succ]
          refine take_op 19 29 (undef) rfl rfl (by kernel_rfl) (by kernel_rfl) (by kernel_rfl) (fun _ _ _ h => h) (.inr ⟨by rfl, rfl⟩) hHeld2 ?_
          simp only [List.set_cons_zero, List.set_cons_succ]
          refine take_op 20 30 (undef) rfl rfl (by kernel_rfl) (by kernel_rfl) (by kernel_rfl) (fun _ _ _ h => h) (.inr ⟨by rfl, rfl⟩) hHeld2 ?_
          simp only [List.set_cons_zero, List.set_cons_succ]
          refine take_op 21 31 (undef) rfl rfl (by kernel_rfl) (by kernel_rfl) (by kernel_rfl) (fun _ _ _ h => h) (.inr ⟨by rfl, rfl⟩) hHeld2 ?_
          simp only [List.set_cons_zero, List.set_cons_succ]
          refine take_op 22 32 (.bool false) rfl rfl (by kernel_rfl) (by kernel_rfl) (by kernel_rfl) (fun _ _ _ h => h) (.inl ⟨by rfl, fun w' hw' => by obtain ⟨s0, s1, s2, -⟩ := hw'; go_simp⟩) hHeld2 ?_
          simp only [List.set_cons_zero, List.set_cons_succ]
          refine take_op 23 33 (.bool false) rfl rfl (by kernel_rfl) (by kernel_rfl) (by kernel_rfl) (fun _ _ _ h => h) (.inl ⟨by rfl, fun w' hw' => by obtain ⟨s0, s1, s2, -⟩ := hw'; go_simp⟩) hHeld2 ?_
          simp only [List.set_cons_zero, List.set_cons_succ]
          refine wpAnyH_done (by kernel_rfl) ?_ _
          all_goals
            have HX9 := Lib.hid (HX.out.trans (hB9.mono HX.out.size))
            have HI9 : Hid (Srt (T.take (k + 1)) ∧ ∀ x ∈ T.take (k + 1), okL x = true) := Lib.hid (by
              rw [HTK.out, HZ.out, List.take_zero, List.nil_append]
              exact ⟨List.pairwise_singleton _ _, fun z hz => by rcases List.mem_singleton.1 hz with rfl; exact HOK.out⟩)
            clear hb9 hB9
            go_wp2_with fail
            go_roundw
            case rel => exact ⟨k + 1, by omega, by go_num, HI9, HX9⟩
            case measure => simp [intOf]; omega
      · obtain ⟨j, hj⟩ : ∃ j, j = k - 1 := ⟨_, rfl⟩
        obtain ⟨b', off', y, hA', hy, hdd⟩ := (HR.out.below HX.out).at (show j < n by omega)
        injection hA' with hA'
        injection hA' with e1 e2 e3
        subst e1; subst e2
        have d0 : wr.cell? ⟨b, off + j * 3, none⟩ = some (.int .i64 y.i) := hdd 0 _ rfl
        have HS : Hid (∀ W, Below wr.heap.size wr W → (W.cell? ⟨b, off + k * 3, none⟩ = some (.int .i64 x.i) ∧ W.cell? ⟨b, off + k * 3 + 1, none⟩ = some (.int .i64 x.s) ∧ W.cell? ⟨b, off + k * 3 + 2, none⟩ = some (.int .i64 x.l) ∧ W.cell? ⟨b, off + j * 3, none⟩ = some (.int .i64 y.i) ∧ Below wr.heap.size wr W)) := Lib.hid (fun W hW => by
          have kk : ∀ j u, wr.cell? ⟨b, j, none⟩ = some u → W.cell? ⟨b, j, none⟩ = some u := fun j u hu => (hW.cell (p := ⟨b, j, none⟩) (cell_lt hu)).trans hu
          exact ⟨kk _ _ c0, kk _ _ c1, kk _ _ c2, kk _ _ d0, hW⟩)
        have g1 : decide ((0 : Int) < (k : Int)) = true := by rw [decide_eq_true_eq]; omega
        have g2 : decide (0 < k) = true := by rw [decide_eq_true_eq]; omega
        have hwj : IntKind.i64.wrap ((k : Int) - 1) = (j : Int) := by rw [IntKind.wrap_i64]; omega
        have hwj' : (k : Int) - 1 = (j : Int) := by omega
        have hwjj : IntKind.i64.wrap (j : Int) = (j : Int) := by rw [IntKind.wrap_i64]; omega
        have hj0 : (0 : Int) ≤ (j : Int) := by omega
        have hji : (j : Int) < (n : Int) := by omega
        have HLA : Hid (y ∈ T.take k ∧ ∀ z ∈ T.take k, z.i ≤ y.i) := Lib.hid (by
          have h1 : T.take k = T.take j ++ [y] := by rw [show k = j + 1 by omega]; exact take_some hy
          have h2 := lst_all HI.out.1
          rw [h1] at h2 ⊢
          rw [lst_snoc] at h2
          exact ⟨by simp, h2⟩)
        obtain ⟨s, hs⟩ : ∃ s, decide (x.i ≤ y.i) = s := ⟨_, rfl⟩
        have HSS := Lib.hid hs
        clear hx hcc ht hz hy hdd hj
        cases t with
        | false =>
          go_upto_region 4 with fail
          refine wp_region_held_drew (S := fun W => W.cell? ⟨b, off + k * 3, none⟩ = some (.int .i64 x.i) ∧ W.cell? ⟨b, off + k * 3 + 1, none⟩ = some (.int .i64 x.s) ∧ W.cell? ⟨b, off + k * 3 + 2, none⟩ = some (.int .i64 x.l) ∧ W.cell? ⟨b, off + j * 3, none⟩ = some (.int .i64 y.i) ∧ Below wr.heap.size wr W) (by kernel_rfl) (HS.out _ (Below.refl _ _).drew) (fun hHeld => ?_)
          refine take_op 0 10 (.slice (some ⟨b, off, none⟩) n c) rfl rfl (by kernel_rfl) (by kernel_rfl) (by kernel_rfl) (fun _ _ _ h => h) (.inl ⟨by rfl, fun w' hw' => by obtain ⟨s0, s1, s2, s3, -⟩ := hw'; go_simp⟩) hHeld ?_
          simp only [List.set_cons_zero, List.set_cons_succ]
          refine take_op 1 11 (.int .i64 (k : Int)) rfl rfl (by kernel_rfl) (by kernel_rfl) (by kernel_rfl) (fun _ _ _ h => h) (.inl ⟨by rfl, fun w' hw' => by obtain ⟨s0, s1, s2, s3, -⟩ := hw'; go_simp⟩) hHeld ?_
          simp only [List.set_cons_zero, List.set_cons_succ]
          refine take_op 2 12 (.pointer (some ⟨b, off + k * 3, none⟩)) rfl rfl (by kernel_rfl) (by kernel_rfl) (by kernel_rfl) (fun _ _ _ h => h) (.inl ⟨by rfl, fun w' hw' => by obtain ⟨s0, s1, s2, s3, -⟩ := hw'; go_simp⟩) hHeld ?_
          simp only [List.set_cons_zero, List.set_cons_succ]
          refine take_op 3 13 (.agg #[.int .i64 x.i, .int .i64 x.s, .int .i64 x.l]) rfl rfl (by kernel_rfl) (by kernel_rfl) (by kernel_rfl) (fun _ _ _ h => h) (.inl ⟨by rfl, fun w' hw' => by obtain ⟨s0, s1, s2, s3, -⟩ := hw'; go_simp⟩) hHeld ?_
          simp only [List.set_cons_zero, List.set_cons_succ]
          refine wpAnyH_ready (rs := [4]) (by kernel_rfl) (by simp) (AllReadyH.cons rfl (fun K hK => ?_) AllReadyH.nil)
          go_simp
          refine (HRI.out _).mono ?_
          rintro e w9 ⟨rfl, hb9⟩
          have hB9 := below_step (a := wr) (Below.refl _ _).drew hb9
          go_wp2_with fail
          refine hK.out _ _ (HS.out _ hB9) (fun hHeld2 => ?_)
          refine take_op 5 15 (.bool true) rfl rfl (by kernel_rfl) (by kernel_rfl) (by kernel_rfl) (fun _ _ _ h => h) (.inl ⟨by rfl, fun w' hw' => by obtain ⟨s0, s1, s2, s3, -⟩ := hw'; go_simp⟩) hHeld2 ?_
          simp only [List.set_cons_zero, List.set_cons_succ]
          refine take_op 6 16 (.bool true) rfl rfl (by kernel_rfl) (by kernel_rfl) (by kernel_rfl) (fun _ _ _ h => h) (.inl ⟨by rfl, fun w' hw' => by obtain ⟨s0, s1, s2, s3, -⟩ := hw'; go_simp⟩) hHeld2 ?_
          simp only [List.set_cons_zero, List.set_cons_succ]
          refine take_op 7 17 (undef) rfl rfl (by kernel_rfl) (by kernel_rfl) (by kernel_rfl) (fun _ _ _ h => h) (.inr ⟨by rfl, rfl⟩) hHeld2 ?_
          simp only [List.set_cons_zero, List.set_cons_succ]
          refine take_op 8 18 (undef) rfl rfl (by kernel_rfl) (by kernel_rfl) (by kernel_rfl) (fun _ _ _ h => h) (.inr ⟨by rfl, rfl⟩) hHeld2 ?_
          simp only [List.set_cons_zero, List.set_cons_succ]
          refine take_op 9 19 (undef) rfl rfl (by kernel_rfl) (by kernel_rfl) (by kernel_rfl) (fun _ _ _ h => h) (.inr ⟨by rfl, rfl⟩) hHeld2 ?_
          simp only [List.set_cons_zero, List.set_cons_succ]
          refine take_op 10 20 (undef) rfl rfl (by kernel_rfl) (by kernel_rfl) (by kernel_rfl) (fun _ _ _ h => h) (.inr ⟨by rfl, rfl⟩) hHeld2 ?_
          simp only [List.set_cons_zero, List.set_cons_succ]
          refine take_op 11 21 (undef) rfl rfl (by kernel_rfl) (by kernel_rfl) (by kernel_rfl) (fun _ _ _ h => h) (.inr ⟨by rfl, rfl⟩) hHeld2 ?_
          simp only [List.set_cons_zero, List.set_cons_succ]
          refine take_op 12 22 (undef) rfl rfl (by kernel_rfl) (by kernel_rfl) (by kernel_rfl) (fun _ _ _ h => h) (.inr ⟨by rfl, rfl⟩) hHeld2 ?_
          simp only [List.set_cons_zero, List.set_cons_succ]
          refine take_op 13 23 (undef) rfl rfl (by kernel_rfl) (by kernel_rfl) (by kernel_rfl) (fun _ _ _ h => h) (.inr ⟨by rfl, rfl⟩) hHeld2 ?_
          simp only [List.set_cons_zero, List.set_cons_succ]
          refine take_op 14 24 (undef) rfl rfl (by kernel_rfl) (by kernel_rfl) (by kernel_rfl) (fun _ _ _ h => h) (.inr ⟨by rfl, rfl⟩) hHeld2 ?_
          simp only [List.set_cons_zero, List.set_cons_succ]
          refine take_op 15 25 (undef) rfl rfl (by kernel_rfl) (by kernel_rfl) (by kernel_rfl) (fun _ _ _ h => h) (.inr ⟨by rfl, rfl⟩) hHeld2 ?_
          simp only [List.set_cons_zero, List.set_cons_succ]
          refine take_op 16 26 (undef) rfl rfl (by kernel_rfl) (by kernel_rfl) (by kernel_rfl) (fun _ _ _ h => h) (.inr ⟨by rfl, rfl⟩) hHeld2 ?_
          simp only [List.set_cons_zero, List.set_cons_succ]
          refine take_op 17 27 (undef) rfl rfl (by kernel_rfl) (by kernel_rfl) (by kernel_rfl) (fun _ _ _ h => h) (.inr ⟨by rfl, rfl⟩) hHeld2 ?_
          simp only [List.set_cons_zero, List.set_cons_succ]
          refine take_op 18 28 (undef) rfl rfl (by kernel_rfl) (by kernel_rfl) (by kernel_rfl) (fun _ _ _ h => h) (.inr ⟨by rfl, rfl⟩) hHeld2 ?_
          simp only [List.set_cons_zero, List.set_cons_succ]
          refine take_op 19 29 (undef) rfl rfl (by kernel_rfl) (by kernel_rfl) (by kernel_rfl) (fun _ _ _ h => h) (.inr ⟨by rfl, rfl⟩) hHeld2 ?_
          simp only [List.set_cons_zero, List.set_cons_succ]
          refine take_op 20 30 (undef) rfl rfl (by kernel_rfl) (by kernel_rfl) (by kernel_rfl) (fun _ _ _ h => h) (.inr ⟨by rfl, rfl⟩) hHeld2 ?_
          simp only [List.set_cons_zero, List.set_cons_succ]
          refine take_op 21 31 (undef) rfl rfl (by kernel_rfl) (by kernel_rfl) (by kernel_rfl) (fun _ _ _ h => h) (.inr ⟨by rfl, rfl⟩) hHeld2 ?_
          simp only [List.set_cons_zero, List.set_cons_succ]
          refine take_op 22 32 (undef) rfl rfl (by kernel_rfl) (by kernel_rfl) (by kernel_rfl) (fun _ _ _ h => h) (.inr ⟨by rfl, rfl⟩) hHeld2 ?_
          simp only [List.set_cons_zero, List.set_cons_succ]
          refine take_op 23 33 (.bool true) rfl rfl (by kernel_rfl) (by kernel_rfl) (by kernel_rfl) (fun _ _ _ h => h) (.inl ⟨by rfl, fun w' hw' => by obtain ⟨s0, s1, s2, s3, -⟩ := hw'; go_simp⟩) hHeld2 ?_
          simp only [List.set_cons_zero, List.set_cons_succ]
          refine wpAnyH_done (by kernel_rfl) ?_ _
          all_goals
            have HE : Hid (CkPost w T (.returned (.int .i64 1)) w9) := Lib.hid ⟨.inr ⟨HBAD.out (fun h => by rw [HOK.out] at h; simp at h), rfl⟩, HX.out.trans (hB9.mono HX.out.size)⟩
            clear hb9 hB9
            go_wp2_with fail
            go_ret
            exact HE.out
        | true =>
          cases s with
          | true =>
            go_upto_region 4 with fail
            refine wp_region_held_drew (S := fun W => W.cell? ⟨b, off + k * 3, none⟩ = some (.int .i64 x.i) ∧ W.cell? ⟨b, off + k * 3 + 1, none⟩ = some (.int .i64 x.s) ∧ W.cell? ⟨b, off + k * 3 + 2, none⟩ = some (.int .i64 x.l) ∧ W.cell? ⟨b, off + j * 3, none⟩ = some (.int .i64 y.i) ∧ Below wr.heap.size wr W) (by kernel_rfl) (HS.out _ (Below.refl _ _).drew) (fun hHeld => ?_)
            refine take_op 0 10 (.slice (some ⟨b, off, none⟩) n c) rfl rfl (by kernel_rfl) (by kernel_rfl) (by kernel_rfl) (fun _ _ _ h => h) (.inl ⟨by rfl, fun w' hw' => by obtain ⟨s0, s1, s2, s3, -⟩ := hw'; go_simp⟩) hHeld ?_
            simp only [List.set_cons_zero, List.set_cons_succ]
            refine take_op 1 11 (.int .i64 (k : Int)) rfl rfl (by kernel_rfl) (by kernel_rfl) (by kernel_rfl) (fun _ _ _ h => h) (.inl ⟨by rfl, fun w' hw' => by obtain ⟨s0, s1, s2, s3, -⟩ := hw'; go_simp⟩) hHeld ?_
            simp only [List.set_cons_zero, List.set_cons_succ]
            refine take_op 2 12 (.pointer (some ⟨b, off + k * 3, none⟩)) rfl rfl (by kernel_rfl) (by kernel_rfl) (by kernel_rfl) (fun _ _ _ h => h) (.inl ⟨by rfl, fun w' hw' => by obtain ⟨s0, s1, s2, s3, -⟩ := hw'; go_simp⟩) hHeld ?_
            simp only [List.set_cons_zero, List.set_cons_succ]
            refine take_op 3 13 (.agg #[.int .i64 x.i, .int .i64 x.s, .int .i64 x.l]) rfl rfl (by kernel_rfl) (by kernel_rfl) (by kernel_rfl) (fun _ _ _ h => h) (.inl ⟨by rfl, fun w' hw' => by obtain ⟨s0, s1, s2, s3, -⟩ := hw'; go_simp⟩) hHeld ?_
            simp only [List.set_cons_zero, List.set_cons_succ]
            refine wpAnyH_ready (rs := [4]) (by kernel_rfl) (by simp) (AllReadyH.cons rfl (fun K hK => ?_) AllReadyH.nil)
            go_simp
            refine (HRI.out _).mono ?_
            rintro e w9 ⟨rfl, hb9⟩
            have hB9 := below_step (a := wr) (Below.refl _ _).drew hb9
            go_wp2_with fail
            refine hK.out _ _ (HS.out _ hB9) (fun hHeld2 => ?_)
            refine take_op 5 15 (.bool false) rfl rfl (by kernel_rfl) (by kernel_rfl) (by kernel_rfl) (fun _ _ _ h => h) (.inl ⟨by rfl, fun w' hw' => by obtain ⟨s0, s1, s2, s3, -⟩ := hw'; go_simp⟩) hHeld2 ?_
            simp only [List.set_cons_zero, List.set_cons_succ]
            refine take_op 6 16 (.bool false) rfl rfl (by kernel_rfl) (by kernel_rfl) (by kernel_rfl) (fun _ _ _ h => h) (.inl ⟨by rfl, fun w' hw' => by obtain ⟨s0, s1, s2, s3, -⟩ := hw'; go_simp⟩) hHeld2 ?_
            simp only [List.set_cons_zero, List.set_cons_succ]
            refine take_op 7 17 (.int .i64 (k : Int)) rfl rfl (by kernel_rfl) (by kernel_rfl) (by kernel_rfl) (fun _ _ _ h => h) (.inl ⟨by rfl, fun w' hw' => by obtain ⟨s0, s1, s2, s3, -⟩ := hw'; go_simp⟩) hHeld2 ?_
            simp only [List.set_cons_zero, List.set_cons_succ]
            refine take_op 8 18 (.bool true) rfl rfl (by kernel_rfl) (by kernel_rfl) (by kernel_rfl) (fun _ _ _ h => h) (.inl ⟨by rfl, fun w' hw' => by obtain ⟨s0, s1, s2, s3, -⟩ := hw'; go_simp⟩) hHeld2 ?_
            simp only [List.set_cons_zero, List.set_cons_succ]
            refine take_op 9 19 (.bool true) rfl rfl (by kernel_rfl) (by kernel_rfl) (by kernel_rfl) (fun _ _ _ h => h) (.inl ⟨by rfl, fun w' hw' => by obtain ⟨s0, s1, s2, s3, -⟩ := hw'; go_simp⟩) hHeld2 ?_
            simp only [List.set_cons_zero, List.set_cons_succ]
            refine take_op 10 20 (.slice (some ⟨b, off, none⟩) n c) rfl rfl (by kernel_rfl) (by kernel_rfl) (by kernel_rfl) (fun _ _ _ h => h) (.inl ⟨by rfl, fun w' hw' => by obtain ⟨s0, s1, s2, s3, -⟩ := hw'; go_simp⟩) hHeld2 ?_
            simp only [List.set_cons_zero, List.set_cons_succ]
            refine take_op 11 21 (.int .i64 (k : Int)) rfl rfl (by kernel_rfl) (by kernel_rfl) (by kernel_rfl) (fun _ _ _ h => h) (.inl ⟨by rfl, fun w' hw' => by obtain ⟨s0, s1, s2, s3, -⟩ := hw'; go_simp⟩) hHeld2 ?_
            simp only [List.set_cons_zero, List.set_cons_succ]
            refine take_op 12 22 (.pointer (some ⟨b, off + k * 3, none⟩)) rfl rfl (by kernel_rfl) (by kernel_rfl) (by kernel_rfl) (fun _ _ _ h => h) (.inl ⟨by rfl, fun w' hw' => by obtain ⟨s0, s1, s2, s3, -⟩ := hw'; go_simp⟩) hHeld2 ?_
            simp only [List.set_cons_zero, List.set_cons_succ]
            refine take_op 13 23 (.pointer (some ⟨b, off + k * 3, none⟩)) rfl rfl (by kernel_rfl) (by kernel_rfl) (by kernel_rfl) (fun _ _ _ h => h) (.inl ⟨by rfl, fun w' hw' => by obtain ⟨s0, s1, s2, s3, -⟩ := hw'; go_simp⟩) hHeld2 ?_
            simp only [List.set_cons_zero, List.set_cons_succ]
            refine take_op 14 24 (.int .i64 x.i) rfl rfl (by kernel_rfl) (by kernel_rfl) (by kernel_rfl) (fun _ _ _ h => h) (.inl ⟨by rfl, fun w' hw' => by obtain ⟨s0, s1, s2, s3, -⟩ := hw'; go_simp⟩) hHeld2 ?_
            simp only [List.set_cons_zero, List.set_cons_succ]
            refine take_op 15 25 (.slice (some ⟨b, off, none⟩) n c) rfl rfl (by kernel_rfl) (by kernel_rfl) (by kernel_rfl) (fun _ _ _ h => h) (.inl ⟨by rfl, fun w' hw' => by obtain ⟨s0, s1, s2, s3, -⟩ := hw'; go_simp⟩) hHeld2 ?_
            simp only [List.set_cons_zero, List.set_cons_succ]
            refine take_op 16 26 (.int .i64 (k : Int)) rfl rfl (by kernel_rfl) (by kernel_rfl) (by kernel_rfl) (fun _ _ _ h => h) (.inl ⟨by rfl, fun w' hw' => by obtain ⟨s0, s1, s2, s3, -⟩ := hw'; go_simp⟩) hHeld2 ?_
            simp only [List.set_cons_zero, List.set_cons_succ]
            refine take_op 17 27 (.int .i64 (j : Int)) rfl rfl (by kernel_rfl) (by kernel_rfl) (by kernel_rfl) (fun _ _ _ h => h) (.inl ⟨by rfl, fun w' hw' => by obtain ⟨s0, s1, s2, s3, -⟩ := hw'; go_simp⟩) hHeld2 ?_
            simp only [List.set_cons_zero, List.set_cons_succ]
            refine take_op 18 28 (.pointer (some ⟨b, off + j * 3, none⟩)) rfl rfl (by kernel_rfl) (by kernel_rfl) (by kernel_rfl) (fun _ _ _ h => h) (.inl ⟨by rfl, fun w' hw' => by obtain ⟨s0, s1, s2, s3, -⟩ := hw'; go_simp⟩) hHeld2 ?_
            simp only [List.set_cons_zero, List.set_cons_succ]
            refine take_op 19 29 (.pointer (some ⟨b, off + j * 3, none⟩)) rfl rfl (by kernel_rfl) (by kernel_rfl) (by kernel_rfl) (fun _ _ _ h => h) (.inl ⟨by rfl, fun w' hw' => by obtain ⟨s0, s1, s2, s3, -⟩ := hw'; go_simp⟩) hHeld2 ?_
            simp only [List.set_cons_zero, List.set_cons_succ]
            refine take_op 20 30 (.int .i64 y.i) rfl rfl (by kernel_rfl) (by kernel_rfl) (by kernel_rfl) (fun _ _ _ h => h) (.inl ⟨by rfl, fun w' hw' => by obtain ⟨s0, s1, s2, s3, -⟩ := hw'; go_simp⟩) hHeld2 ?_
            simp only [List.set_cons_zero, List.set_cons_succ]
            refine take_op 21 31 (.bool true) rfl rfl (by kernel_rfl) (by kernel_rfl) (by kernel_rfl) (fun _ _ _ h => h) (.inl ⟨by rfl, fun w' hw' => by obtain ⟨s0, s1, s2, s3, -⟩ := hw'; go_simp⟩) hHeld2 ?_
            simp only [List.set_cons_zero, List.set_cons_succ]
            refine take_op 22 32 (.bool true) rfl rfl (by kernel_rfl) (by kernel_rfl) (by kernel_rfl) (fun _ _ _ h => h) (.inl ⟨by rfl, fun w' hw' => by obtain ⟨s0, s1, s2, s3, -⟩ := hw'; go_simp⟩) hHeld2 ?_
            simp only [List.set_cons_zero, List.set_cons_succ]
            refine take_op 23 33 (.bool true) rfl rfl (by kernel_rfl) (by kernel_rfl) (by kernel_rfl) (fun _ _ _ h => h) (.inl ⟨by rfl, fun w' hw' => by obtain ⟨s0, s1, s2, s3, -⟩ := hw'; go_simp⟩) hHeld2 ?_
            simp only [List.set_cons_zero, List.set_cons_succ]
            refine wpAnyH_done (by kernel_rfl) ?_ _
            all_goals
              have HE : Hid (CkPost w T (.returned (.int .i64 1)) w9) := Lib.hid ⟨.inr ⟨HBAD.out (fun h => by
                have h1 := h.2 y HLA.out.1
                have h2 := HSS.out
                simp at h2
                omega), rfl⟩, HX.out.trans (hB9.mono HX.out.size)⟩
              clear hb9 hB9
              go_wp2_with fail
              go_ret
              exact HE.out
          | false =>
            go_upto_region 4 with fail
            refine wp_region_held_drew (S := fun W => W.cell? ⟨b, off + k * 3, none⟩ = some (.int .i64 x.i) ∧ W.cell? ⟨b, off + k * 3 + 1, none⟩ = some (.int .i64 x.s) ∧ W.cell? ⟨b, off + k * 3 + 2, none⟩ = some (.int .i64 x.l) ∧ W.cell? ⟨b, off + j * 3, none⟩ = some (.int .i64 y.i) ∧ Below wr.heap.size wr W) (by kernel_rfl) (HS.out _ (Below.refl _ _).drew) (fun hHeld => ?_)
            refine take_op 0 10 (.slice (some ⟨b, off, none⟩) n c) rfl rfl (by kernel_rfl) (by kernel_rfl) (by kernel_rfl) (fun _ _ _ h => h) (.inl ⟨by rfl, fun w' hw' => by obtain ⟨s0, s1, s2, s3, -⟩ := hw'; go_simp⟩) hHeld ?_
            simp only [List.set_cons_zero, List.set_cons_succ]
            refine take_op 1 11 (.int .i64 (k : Int)) rfl rfl (by kernel_rfl) (by kernel_rfl) (by kernel_rfl) (fun _ _ _ h => h) (.inl ⟨by rfl, fun w' hw' => by obtain ⟨s0, s1, s2, s3, -⟩ := hw'; go_simp⟩) hHeld ?_
            simp only [List.set_cons_zero, List.set_cons_succ]
            refine take_op 2 12 (.pointer (some ⟨b, off + k * 3, none⟩)) rfl rfl (by kernel_rfl) (by kernel_rfl) (by kernel_rfl) (fun _ _ _ h => h) (.inl ⟨by rfl, fun w' hw' => by obtain ⟨s0, s1, s2, s3, -⟩ := hw'; go_simp⟩) hHeld ?_
            simp only [List.set_cons_zero, List.set_cons_succ]
            refine take_op 3 13 (.agg #[.int .i64 x.i, .int .i64 x.s, .int .i64 x.l]) rfl rfl (by kernel_rfl) (by kernel_rfl) (by kernel_rfl) (fun _ _ _ h => h) (.inl ⟨by rfl, fun w' hw' => by obtain ⟨s0, s1, s2, s3, -⟩ := hw'; go_simp⟩) hHeld ?_
            simp only [List.set_cons_zero, List.set_cons_succ]
            refine wpAnyH_ready (rs := [4]) (by kernel_rfl) (by simp) (AllReadyH.cons rfl (fun K hK => ?_) AllReadyH.nil)
            go_simp
            refine (HRI.out _).mono ?_
            rintro e w9 ⟨rfl, hb9⟩
            have hB9 := below_step (a := wr) (Below.refl _ _).drew hb9
            go_wp2_with fail
            refine hK.out _ _ (HS.out _ hB9) (fun hHeld2 => ?_)
            refine take_op 5 15 (.bool false) rfl rfl (by kernel_rfl) (by kernel_rfl) (by kernel_rfl) (fun _ _ _ h => h) (.inl ⟨by rfl, fun w' hw' => by obtain ⟨s0, s1, s2, s3, -⟩ := hw'; go_simp⟩) hHeld2 ?_
            simp only [List.set_cons_zero, List.set_cons_succ]
            refine take_op 6 16 (.bool false) rfl rfl (by kernel_rfl) (by kernel_rfl) (by kernel_rfl) (fun _ _ _ h => h) (.inl ⟨by rfl, fun w' hw' => by obtain ⟨s0, s1, s2, s3, -⟩ := hw'; go_simp⟩) hHeld2 ?_
            simp only [List.set_cons_zero, List.set_cons_succ]
            refine take_op 7 17 (.int .i64 (k : Int)) rfl rfl (by kernel_rfl) (by kernel_rfl) (by kernel_rfl) (fun _ _ _ h => h) (.inl ⟨by rfl, fun w' hw' => by obtain ⟨s0, s1, s2, s3, -⟩ := hw'; go_simp⟩) hHeld2 ?_
            simp only [List.set_cons_zero, List.set_cons_succ]
            refine take_op 8 18 (.bool true) rfl rfl (by kernel_rfl) (by kernel_rfl) (by kernel_rfl) (fun _ _ _ h => h) (.inl ⟨by rfl, fun w' hw' => by obtain ⟨s0, s1, s2, s3, -⟩ := hw'; go_simp⟩) hHeld2 ?_
            simp only [List.set_cons_zero, List.set_cons_succ]
            refine take_op 9 19 (.bool true) rfl rfl (by kernel_rfl) (by kernel_rfl) (by kernel_rfl) (fun _ _ _ h => h) (.inl ⟨by rfl, fun w' hw' => by obtain ⟨s0, s1, s2, s3, -⟩ := hw'; go_simp⟩) hHeld2 ?_
            simp only [List.set_cons_zero, List.set_cons_succ]
            refine take_op 10 20 (.slice (some ⟨b, off, none⟩) n c) rfl rfl (by kernel_rfl) (by kernel_rfl) (by kernel_rfl) (fun _ _ _ h => h) (.inl ⟨by rfl, fun w' hw' => by obtain ⟨s0, s1, s2, s3, -⟩ := hw'; go_simp⟩) hHeld2 ?_
            simp only [List.set_cons_zero, List.set_cons_succ]
            refine take_op 11 21 (.int .i64 (k : Int)) rfl rfl (by kernel_rfl) (by kernel_rfl) (by kernel_rfl) (fun _ _ _ h => h) (.inl ⟨by rfl, fun w' hw' => by obtain ⟨s0, s1, s2, s3, -⟩ := hw'; go_simp⟩) hHeld2 ?_
            simp only [List.set_cons_zero, List.set_cons_succ]
            refine take_op 12 22 (.pointer (some ⟨b, off + k * 3, none⟩)) rfl rfl (by kernel_rfl) (by kernel_rfl) (by kernel_rfl) (fun _ _ _ h => h) (.inl ⟨by rfl, fun w' hw' => by obtain ⟨s0, s1, s2, s3, -⟩ := hw'; go_simp⟩) hHeld2 ?_
            simp only [List.set_cons_zero, List.set_cons_succ]
            refine take_op 13 23 (.pointer (some ⟨b, off + k * 3, none⟩)) rfl rfl (by kernel_rfl) (by kernel_rfl) (by kernel_rfl) (fun _ _ _ h => h) (.inl ⟨by rfl, fun w' hw' => by obtain ⟨s0, s1, s2, s3, -⟩ := hw'; go_simp⟩) hHeld2 ?_
            simp only [List.set_cons_zero, List.set_cons_succ]
            refine take_op 14 24 (.int .i64 x.i) rfl rfl (by kernel_rfl) (by kernel_rfl) (by kernel_rfl) (fun _ _ _ h => h) (.inl ⟨by rfl, fun w' hw' => by obtain ⟨s0, s1, s2, s3, -⟩ := hw'; go_simp⟩) hHeld2 ?_
            simp only [List.set_cons_zero, List.set_cons_succ]
            refine take_op 15 25 (.slice (some ⟨b, off, none⟩) n c) rfl rfl (by kernel_rfl) (by kernel_rfl) (by kernel_rfl) (fun _ _ _ h => h) (.inl ⟨by rfl, fun w' hw' => by obtain ⟨s0, s1, s2, s3, -⟩ := hw'; go_simp⟩) hHeld2 ?_
            simp only [List.set_cons_zero, List.set_cons_succ]
            refine take_op 16 26 (.int .i64 (k : Int)) rfl rfl (by kernel_rfl) (by kernel_rfl) (by kernel_rfl) (fun _ _ _ h => h) (.inl ⟨by rfl, fun w' hw' => by obtain ⟨s0, s1, s2, s3, -⟩ := hw'; go_simp⟩) hHeld2 ?_
            simp only [List.set_cons_zero, List.set_cons_succ]
            refine take_op 17 27 (.int .i64 (j : Int)) rfl rfl (by kernel_rfl) (by kernel_rfl) (by kernel_rfl) (fun _ _ _ h => h) (.inl ⟨by rfl, fun w' hw' => by obtain ⟨s0, s1, s2, s3, -⟩ := hw'; go_simp⟩) hHeld2 ?_
            simp only [List.set_cons_zero, List.set_cons_succ]
            refine take_op 18 28 (.pointer (some ⟨b, off + j * 3, none⟩)) rfl rfl (by kernel_rfl) (by kernel_rfl) (by kernel_rfl) (fun _ _ _ h => h) (.inl ⟨by rfl, fun w' hw' => by obtain ⟨s0, s1, s2, s3, -⟩ := hw'; go_simp⟩) hHeld2 ?_
            simp only [List.set_cons_zero, List.set_cons_succ]
            refine take_op 19 29 (.pointer (some ⟨b, off + j * 3, none⟩)) rfl rfl (by kernel_rfl) (by kernel_rfl) (by kernel_rfl) (fun _ _ _ h => h) (.inl ⟨by rfl, fun w' hw' => by obtain ⟨s0, s1, s2, s3, -⟩ := hw'; go_simp⟩) hHeld2 ?_
            simp only [List.set_cons_zero, List.set_cons_succ]
            refine take_op 20 30 (.int .i64 y.i) rfl rfl (by kernel_rfl) (by kernel_rfl) (by kernel_rfl) (fun _ _ _ h => h) (.inl ⟨by rfl, fun w' hw' => by obtain ⟨s0, s1, s2, s3, -⟩ := hw'; go_simp⟩) hHeld2 ?_
            simp only [List.set_cons_zero, List.set_cons_succ]
            refine take_op 21 31 (.bool false) rfl rfl (by kernel_rfl) (by kernel_rfl) (by kernel_rfl) (fun _ _ _ h => h) (.inl ⟨by rfl, fun w' hw' => by obtain ⟨s0, s1, s2, s3, -⟩ := hw'; go_simp⟩) hHeld2 ?_
            simp only [List.set_cons_zero, List.set_cons_succ]
            refine take_op 22 32 (.bool false) rfl rfl (by kernel_rfl) (by kernel_rfl) (by kernel_rfl) (fun _ _ _ h => h) (.inl ⟨by rfl, fun w' hw' => by obtain ⟨s0, s1, s2, s3, -⟩ := hw'; go_simp⟩) hHeld2 ?_
            simp only [List.set_cons_zero, List.set_cons_succ]
            refine take_op 23 33 (.bool false) rfl rfl (by kernel_rfl) (by kernel_rfl) (by kernel_rfl) (fun _ _ _ h => h) (.inl ⟨by rfl, fun w' hw' => by obtain ⟨s0, s1, s2, s3, -⟩ := hw'; go_simp⟩) hHeld2 ?_
            simp only [List.set_cons_zero, List.set_cons_succ]
            refine wpAnyH_done (by kernel_rfl) ?_ _
            all_goals
              have HX9 := Lib.hid (HX.out.trans (hB9.mono HX.out.size))
              have HI9 : Hid (Srt (T.take (k + 1)) ∧ ∀ x ∈ T.take (k + 1), okL x = true) := Lib.hid (by
                rw [HTK.out]
                refine ⟨srt_snoc HI.out.1 (fun z hz => ?_), fun z hz => ?_⟩
                · have h1 := HLA.out.2 z hz
                  have h2 := HSS.out
                  simp at h2
                  omega
                · rcases List.mem_append.1 hz with hz | hz
                  · exact HI.out.2 z hz
                  · rcases List.mem_singleton.1 hz with rfl; exact HOK.out)
              clear hb9 hB9
              go_wp2_with fail
              go_roundw
              case rel => exact ⟨k + 1, by omega, by go_num, HI9, HX9⟩
              case measure => simp [intOf]; omega
    · obtain rfl : k = n := by omega
      have hki : ¬ (k : Int) < (k : Int) := by omega
      have HI2 : Hid (Srt T ∧ ∀ x ∈ T, okL x = true) := Lib.hid (by
        have h := HI.out
        rw [List.take_of_length_le (by rw [HL.out]; exact Nat.le_refl _)] at h
        exact h)
      by_cases h1 : 100 < k
      · have h1' : (100 : Int) < (k : Int) := by omega
        have HE : Hid (CkPost w T (.returned (.int .i64 1)) wr) := Lib.hid ⟨.inr ⟨fun hg => by have := hg.len; rw [HL.out] at this; omega, rfl⟩, HX.out⟩
        clear h1
        go_wp2_with fail
        go_ret
        exact HE.out
      · have h1' : ¬ (100 : Int) < (k : Int) := by omega
        have HE : Hid (CkPost w T (.returned (.int .i64 0)) wr) := Lib.hid ⟨.inl ⟨⟨HI2.out.1, by rw [HL.out]; omega, HI2.out.2⟩, rfl⟩, HX.out⟩
        clear h1
        go_wp2_with fail
        go_ret
        exact HE.out
end Go.Proofs.YtflgemlhocjipaaGreatDoor.Lq
