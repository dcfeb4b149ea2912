/-
  What All, Kids, New and End return and leave. Condition: the tree is good.
-/
import Derived.Test.YtflgemlhocjipaaGreatDoorDoP
namespace Go.Proofs.YtflgemlhocjipaaGreatDoor
set_option maxRecDepth 100000
open Go.ChangeShapes Go.WideShapes Go.ChangeAt Go.RowKit Go.Proofs.Zn Go.Proofs.Zt

theorem keys_any (mb : Nat) (W : World) : Calls Tryz.prog 89 #[.map (some mb)] W fun e w' => e = .returned (.func (.func 131) #[] #[.pointer (some ⟨W.heap.size, 0, none⟩)]) ∧ W.alloc (.cells #[.map (some mb)] 153) = w' :=
  (callsIn_wide.1 (maps_Keys_any (some mb) W)).mono fun _ _ h => ⟨h.1, h.2.symm⟩
def SoPost (T : Tr) (w : World) (e : Ending) (w' : World) : Prop := ∃ v, e = .returned v ∧ w'.ownsRow w.heap.size 9 1 v T.length (scells (paths T)) ∧ Below w.heap.size w w'
theorem sorted_any {w : World} {mb : Nat} {T : Tr} (h : MapT w mb T) (hs : Srt T) (hl : T.length ≤ 1000) :
    Calls Tryz.prog 88 #[.func (.func 131) #[] #[.pointer (some ⟨w.heap.size, 0, none⟩)]] (w.alloc (.cells #[.map (some mb)] 153)) (SoPost T (w.alloc (.cells #[.map (some mb)] 153))) := by
  refine (callsIn_wide.1 (slices_Sorted_keys mb T.length (Dm T) ndR w h (by rw [dm_size]; unfold maxLen; omega) (by rw [dm_size]; omega))).mono ?_
  rintro e w' ⟨v, ss, rfl, hp, hrow, -, hb⟩
  rw [dm_keys] at hp
  have e1 := sort_perm hp (paths_lt hs)
  have e2 : ss.length = T.length := by have := hp.length_eq; rw [this]; unfold paths; rw [List.length_map]
  change w'.ownsRow _ _ _ _ _ ((ss.mergeSort leB).map encStr) at hrow
  rw [e1, e2, show (paths T).map encStr = scells (paths T) from scells_enc _] at hrow
  exact ⟨v, rfl, hrow, hb⟩
set_option maxHeartbeats 4000000 in
theorem all_any {w : World} {tp mb : Nat} {T : Tr} (h : TreeW w tp mb T) (hg : Zt.Good T) :
    Calls Tryz.prog 45 #[.pointer (some ⟨tp, 0, none⟩)] w fun e w' => ∃ v, e = .returned v ∧ w'.ownsRow w.heap.size 132 9 v T.length (ncells T) ∧ Below w.heap.size w w' := by
  obtain ⟨i0, hi, hz0, hz1, hz2⟩ := info_parts infoZ
  have HK := Lib.hid (keys_any mb w)
  have HS := Lib.hid (sorted_any h.map hg.srt (by have := hg.len; omega))
  obtain ⟨w1, hw1⟩ : ∃ w1, w1 = w.alloc (.cells #[.map (some mb)] 153) := ⟨_, rfl⟩
  have hb1 : Below w.heap.size w w1 := by rw [hw1]; exact box_below w _
  rw [← hw1] at HK HS
  have HT1 := Lib.hid (h.below hb1)
  have HG := Lib.hid hg
  have HB1 := Lib.hid hb1
  have HPO : Hid (0 < T.length) := Lib.hid (by obtain ⟨r, hr, -⟩ := hg.root; exact List.length_pos_of_mem (get_some hr).1)
  have HLN := Lib.hid hg.len
  have d0 := cell_of h.here (j := 0) rfl
  clear h hg hw1 hb1
  go_enter Tryz.func45, Tryz.ntmps45
  go_wp2_with fail
  refine HK.out.mono ?_
  rintro e w1' ⟨rfl, rfl⟩
  go_wp2_with fail
  refine HS.out.mono ?_
  rintro e w2 ⟨v, rfl, hrow, hb2⟩
  obtain ⟨A, cp, rfl, -, -, hA⟩ := own_form hrow
  obtain ⟨g, rfl⟩ := hA HPO.out
  have HROW := Lib.hid (own_base hrow HB1.out.size)
  have HB2 := Lib.hid (HB1.out.trans (hb2.mono HB1.out.size))
  have HT2 := Lib.hid (HT1.out.below hb2)
  have HLT2 : Hid (g < w2.heap.size) := Lib.hid (hrow.lt g rfl).2
  clear hrow hb2 hA d0
  go_wp2_with fail
  go_loopw [3, 13] (fun l i wr => ∃ k : Nat, k ≤ T.length ∧ i = .int .i64 k ∧ Hid (wr.ownsRow w2.heap.size 132 9 l k (ncells (T.take k))) ∧ Hid (Below w2.heap.size w2 wr)) (fun _ i _ => T.length - (intOf i).toNat)
  case atStart => exact ⟨0, Nat.zero_le _, rfl, Lib.hid ⟨rfl, .inl ⟨rfl, rfl⟩⟩, Lib.hid (Below.refl _ _)⟩
  case round =>
    obtain ⟨k, hk, rfl, HO, HX⟩ := hrel
    by_cases hlt : k < T.length
    · obtain ⟨z, hz⟩ : ∃ z, T[k] = z := ⟨_, rfl⟩
      have hzm : z ∈ T := by rw [← hz]; exact List.getElem_mem hlt
      have HPK : Hid ((scells (paths T))[k]? = some (.string (B z.path))) := Lib.hid (by rw [scells_map]; unfold paths; rw [List.map_map, List.getElem?_map, List.getElem?_eq_getElem hlt, hz]; rfl)
      have HTK : Hid (T.take (k + 1) = T.take k ++ [z]) := Lib.hid (by rw [List.take_succ_eq_append_getElem hlt, hz])
      have htr := HT2.out.below HX.out
      have c0 := own_cell (own_below HROW.out HX.out) k _ HPK.out
      have hlook := look_one htr.map z.path (by have := len_le (HG.out.each z hzm).path; unfold maxLen; omega) (z := z) (by rw [get_mem HG.out.srt hzm]; rfl)
      have d0 := cell_of htr.here (j := 0) rfl
      have ho := HO.out
      have hsz := HX.out.size
      have hln := HLN.out
      have hglt := HLT2.out
      clear hz hzm htr
      go_wp2_with (at_builtin; refine wpList_append_own _ rfl _ _ 27 rfl w2.heap.size 132 i0 _ 9 88 Tryz.underlying27 hi hz0 hz1 hz2 rfl (by decide) _ _ _ rfl (ho.alloc _) ⟨wr.heap.size, 0, none⟩ 1 1 (ncell z) rfl rfl (World.news_of_block (new_block wr _)) (ncell_one z) (by unfold maxLen at *; omega) (by omega) (by simp; omega) ?_; intro v' w5 hown' hg5 hnil5)
      have hB5 := (HX.out.alloc hsz _).grown hg5 (by simp; omega) (fun j hj => (HO.out.lt j hj).1)
      have HB5 := Lib.hid hB5
      have HO5 := Lib.hid hown'
      clear hown' hg5 hnil5 hB5 ho hlook c0 d0
      go_roundw
      case rel => exact ⟨k + 1, hlt, by go_num, Lib.hid (by rw [HTK.out, ncells_append]; exact HO5.out), HB5⟩
      case measure => simp [intOf]; omega
    · have hkn : k = T.length := by omega
      have HE := Lib.hid HO.out
      rw [hkn, List.take_of_length_le (Nat.le_refl _)] at HE
      clear hkn
      go_wp2_with fail
      go_ret
      exact ⟨_, rfl, own_base HE.out HB2.out.size, HB2.out.trans (HX.out.mono HB2.out.size)⟩
/-! ### New -/
theorem new_any (w : World) : Calls Tryz.prog 38 #[] w (ClPost Zt.new w) := by
  have h0 : MapT (w.alloc (.map #[] 0)) w.heap.size [] := World.ownsMap_made w Tryz.prog 9 ndR
  obtain ⟨w2, hrun, hm, hg⟩ := store_nd h0 List.Pairwise.nil ⟨[47], [], 0, 0, 0, 0, 0, 0, 0⟩ (by decide) (by decide)
  dsimp only at hrun
  have hb2 : Below w.heap.size w w2 := (box_below w (.map #[] 0)).trans (gb_to hg (Nat.le_refl _) (by simp))
  have HE := Lib.hid (cl_end (T := Zt.new) hm hb2 (Nat.le_refl _))
  clear h0 hm hg hb2
  have hmm := @run_makeMap Tryz.prog
  go_enter Tryz.func38, Tryz.ntmps38
  go_wp2_with fail
  go_ret
  exact HE.out
end Go.Proofs.YtflgemlhocjipaaGreatDoor
