/-
  What All, Kids, New and End return and leave. Condition: the tree is good.
  What End returns and leaves. Condition: the tree is good.
-/
import Derived.Test.YtflgemlhocjipaaGreatDoorDoP
namespace Go.Proofs.YtflgemlhocjipaaGreatDoor
set_option maxRecDepth 100000
open Go.ChangeShapes Go.WideShapes Go.ChangeAt Go.RowKit Go.Proofs.Zn Go.Proofs.Zt

theorem keys_any (mb : Nat) (W : World) : Calls Tryz.prog 89 #[.map (some mb)] W fun e w' => e = .returned (.func (.func 131) #[] #[.pointer (some ⟨W.heap.size, 0, none⟩)]) ∧ W.alloc (.cells #[.map (some mb)] 153) = w' :=
  (callsIn_wide.1 (maps_Keys_any (some mb) W)).mono fun _ _ h => ⟨h.1, h.2.symm⟩
def SoPost (T : Tr) (w : World) (e : Ending) (w' : World) : Prop := ∃ v, e = .returned v ∧ w'.ownsRow w.heap.size 9 1 v T.length (scells (paths T)) ∧ Below w.heap.size w w'
theorem sorted_any {w : World} {mb : Nat} {T : Tr} (h : MapT w mb T) (hs : Srt T) (hl : T.length ≤ 1000) :
    Calls Tryz.prog 88 #[.func (.func 131) #[] #[.pointer (some ⟨w.heap.size, 0, none⟩)]] (w.alloc (.cells #[.map (some mb)] 153)) (SoPost T (w.alloc (.cells #[.map (some mb)] 153))) := by
  refine (callsIn_wide.1 (slices_Sorted_keys mb T.length (Dm T) ndR w h (by rw [dm_size]; unfold maxLen; omega) (by rw [dm_size]; omega))).mono ?_
  rintro e w' ⟨v, ss, rfl, hp, hrow, -, hb⟩
  rw [dm_keys] at hp
  have e1 := sort_perm hp (paths_lt hs)
  have e2 : ss.length = T.length := by have := hp.length_eq; rw [this]; unfold paths; rw [List.length_map]
  change w'.ownsRow _ _ _ _ _ ((ss.mergeSort leB).map encStr) at hrow
  rw [e1, e2, show (paths T).map encStr = scells (paths T) from scells_enc _] at hrow
  exact ⟨v, rfl, hrow, hb⟩
set_option maxHeartbeats 4000000 in
theorem all_any {w : World} {tp mb : Nat} {T : Tr} (h : TreeW w tp mb T) (hg : Zt.Good T) :
    Calls Tryz.prog 45 #[.pointer (some ⟨tp, 0, none⟩)] w fun e w' => ∃ v, e = .returned v ∧ w'.ownsRow w.heap.size 132 9 v T.length (ncells T) ∧ Below w.heap.size w w' := by
  obtain ⟨i0, hi, hz0, hz1, hz2⟩ := info_parts infoZ
  have HK := Lib.hid (keys_any mb w)
  have HS := Lib.hid (sorted_any h.map hg.srt (by have := hg.len; omega))
  obtain ⟨w1, hw1⟩ : ∃ w1, w1 = w.alloc (.cells #[.map (some mb)] 153) := ⟨_, rfl⟩
  have hb1 : Below w.heap.size w w1 := by rw [hw1]; exact box_below w _
  rw [← hw1] at HK HS
  have HT1 := Lib.hid (h.below hb1)
  have HG := Lib.hid hg
  have HB1 := Lib.hid hb1
  have HPO : Hid (0 < T.length) := Lib.hid (by obtain ⟨r, hr, -⟩ := hg.root; exact List.length_pos_of_mem (get_some hr).1)
  have HLN := Lib.hid hg.len
  have d0 := cell_of h.here (j := 0) rfl
  clear h hg hw1 hb1
  go_enter Tryz.func45, Tryz.ntmps45
  go_wp2_with fail
  refine HK.out.mono ?_
  rintro e w1' ⟨rfl, rfl⟩
  go_wp2_with fail
  refine HS.out.mono ?_
  rintro e w2 ⟨v, rfl, hrow, hb2⟩
  obtain ⟨A, cp, rfl, -, -, hA⟩ := own_form hrow
  obtain ⟨g, rfl⟩ := hA HPO.out
  have HROW := Lib.hid (own_base hrow HB1.out.size)
  have HB2 := Lib.hid (HB1.out.trans (hb2.mono HB1.out.size))
  have HT2 := Lib.hid (HT1.out.below hb2)
  have HLT2 : Hid (g < w2.heap.size) := Lib.hid (hrow.lt g rfl).2
  clear hrow hb2 hA d0
  go_wp2_with fail
  go_loopw [3, 13] (fun l i wr => ∃ k : Nat, k ≤ T.length ∧ i = .int .i64 k ∧ Hid (wr.ownsRow w2.heap.size 132 9 l k (ncells (T.take k))) ∧ Hid (Below w2.heap.size w2 wr)) (fun _ i _ => T.length - (intOf i).toNat)
  case atStart => exact ⟨0, Nat.zero_le _, rfl, Lib.hid ⟨rfl, .inl ⟨rfl, rfl⟩⟩, Lib.hid (Below.refl _ _)⟩
  case round =>
    obtain ⟨k, hk, rfl, HO, HX⟩ := hrel
    by_cases hlt : k < T.length
    · obtain ⟨z, hz⟩ : ∃ z, T[k] = z := ⟨_, rfl⟩
      have hzm : z ∈ T := by rw [← hz]; exact List.getElem_mem hlt
      have HPK : Hid ((scells (paths T))[k]? = some (.string (B z.path))) := Lib.hid (by rw [scells_map]; unfold paths; rw [List.map_map, List.getElem?_map, List.getElem?_eq_getElem hlt, hz]; rfl)
      have HTK : Hid (T.take (k + 1) = T.take k ++ [z]) := Lib.hid (by rw [List.take_succ_eq_append_getElem hlt, hz])
      have htr := HT2.out.below HX.out
      have c0 := own_cell (own_below HROW.out HX.out) k _ HPK.out
      have hlook := look_one htr.map z.path (by have := len_le (HG.out.each z hzm).path; unfold maxLen; omega) (z := z) (by rw [get_mem HG.out.srt hzm]; rfl)
      have d0 := cell_of htr.here (j := 0) rfl
      have ho := HO.out
      have hsz := HX.out.size
      have hln := HLN.out
      have hglt := HLT2.out
      clear hz hzm htr
      go_wp2_with (at_builtin; refine wpList_append_own _ rfl _ _ 27 rfl w2.heap.size 132 i0 _ 9 88 Tryz.underlying27 hi hz0 hz1 hz2 rfl (by decide) _ _ _ rfl (ho.alloc _) ⟨wr.heap.size, 0, none⟩ 1 1 (ncell z) rfl rfl (World.news_of_block (new_block wr _)) (ncell_one z) (by unfold maxLen at *; omega) (by omega) (by simp; omega) ?_; intro v' w5 hown' hg5 hnil5)
      have hB5 := (HX.out.alloc hsz _).grown hg5 (by simp; omega) (fun j hj => (HO.out.lt j hj).1)
      have HB5 := Lib.hid hB5
      have HO5 := Lib.hid hown'
      clear hown' hg5 hnil5 hB5 ho hlook c0 d0
      go_roundw
      case rel => exact ⟨k + 1, hlt, by go_num, Lib.hid (by rw [HTK.out, ncells_append]; exact HO5.out), HB5⟩
      case measure => simp [intOf]; omega
    · have hkn : k = T.length := by omega
      have HE := Lib.hid HO.out
      rw [hkn, List.take_of_length_le (Nat.le_refl _)] at HE
      clear hkn
      go_wp2_with fail
      go_ret
      exact ⟨_, rfl, own_base HE.out HB2.out.size, HB2.out.trans (HX.out.mono HB2.out.size)⟩
/-! ### New -/
theorem new_any (w : World) : Calls Tryz.prog 38 #[] w (ClPost Zt.new w) := by
  have h0 : MapT (w.alloc (.map #[] 0)) w.heap.size [] := World.ownsMap_made w Tryz.prog 9 ndR
  obtain ⟨w2, hrun, hm, hg⟩ := store_nd h0 List.Pairwise.nil ⟨[47], [], 0, 0, 0, 0, 0, 0, 0⟩ (by decide) (by decide)
  dsimp only at hrun
  have hb2 : Below w.heap.size w w2 := (box_below w (.map #[] 0)).trans (gb_to hg (Nat.le_refl _) (by simp))
  have HE := Lib.hid (cl_end (T := Zt.new) hm hb2 (Nat.le_refl _))
  clear h0 hm hg hb2
  have hmm := @run_makeMap Tryz.prog
  go_enter Tryz.func38, Tryz.ntmps38
  go_wp2_with fail
  go_ret
  exact HE.out
end Go.Proofs.YtflgemlhocjipaaGreatDoor
namespace Go.Proofs.YtflgemlhocjipaaGreatDoor
set_option maxRecDepth 100000
open Go.ChangeShapes Go.WideShapes Go.ChangeAt Go.RowKit Go.Proofs.Zn Go.Proofs.Zt

/-! ### End -/
def EnPost (tp : Nat) (a : Tr × List Evt) (w : World) (e : Ending) (w' : World) : Prop :=
  ∃ v mb', e = .returned v ∧ TreeW w' tp mb' a.1 ∧ w.grownBy w' (some tp) ∧ w'.ownsRow w.heap.size 165 3 v a.2.length (ecells a.2)
theorem ccell_one (x : Chg) : ∀ u ∈ ccell x, u.oneCell' = true := fun u hu => by
  simp only [ccell, List.mem_cons, List.not_mem_nil, or_false] at hu
  rcases hu with rfl | rfl | rfl | rfl | rfl | rfl <;> rfl
set_option maxHeartbeats 4000000 in
theorem end_any {w : World} {tp mb : Nat} {T : Tr} (h : TreeW w tp mb T) (hg : Zt.Good T) (zx se : Int) :
    Calls Tryz.prog 127 #[.pointer (some ⟨tp, 0, none⟩), .int .i64 zx, .int .i64 se] w (EnPost tp (endL T zx se) w) := by
  obtain ⟨i0, hi, hz0, hz1, hz2⟩ := info_parts infoC
  have HOW := Lib.hid (owned_any h hg se)
  have HT := Lib.hid h
  have HG := Lib.hid hg
  have HED := Lib.hid (end_do hg zx se)
  obtain ⟨a, ha⟩ : ∃ a, endL T zx se = a := ⟨_, rfl⟩
  rw [ha] at HED ⊢
  obtain ⟨ow, how⟩ : ∃ ow, owned T se = ow := ⟨_, rfl⟩
  rw [how] at HOW HED
  have HOL : Hid (ow.length ≤ 200 ∧ ∀ p ∈ ow, p.length ≤ 488) := Lib.hid (by
    rw [← how]
    refine ⟨?_, fun p hp => ?_⟩
    · unfold owned; rw [List.length_map]; exact Nat.le_trans (List.length_filter_le _ _) hg.len
    · obtain ⟨z, hz, rfl⟩ := List.mem_map.1 hp
      exact len_le (hg.each z (List.mem_filter.1 hz).1).path)
  clear h hg ha how
  go_enter Tryz.func127, Tryz.ntmps127
  go_wp2_with fail
  refine HOW.out.mono ?_
  rintro e w1 ⟨v, rfl, hrow, hb1⟩
  obtain ⟨A, cp, rfl, -, -, -⟩ := own_form hrow
  have HROW := Lib.hid hrow
  have HB1 := Lib.hid hb1
  clear hrow hb1
  go_wp2_with fail
  go_loopw [7, 17] (fun l i wr => ∃ k : Nat, k ≤ ow.length ∧ i = .int .i64 k ∧ Hid (wr.ownsRow w1.heap.size 79 6 l k (ccells ((ow.take k).map delC))) ∧ Hid (Below w1.heap.size w1 wr)) (fun _ i _ => ow.length - (intOf i).toNat)
  case atStart => exact ⟨0, Nat.zero_le _, rfl, Lib.hid ⟨rfl, .inl ⟨rfl, rfl⟩⟩, Lib.hid (Below.refl _ _)⟩
  case round =>
    obtain ⟨k, hk, rfl, HO, HX⟩ := hrel
    have hol := HOL.out.1
    by_cases hlt : k < ow.length
    · obtain ⟨p, hp⟩ : ∃ y, ow[k] = y := ⟨_, rfl⟩
      have hro := own_below HROW.out HX.out
      obtain ⟨A', c', e1, -, -, hA⟩ := own_form hro
      obtain ⟨g, hgA⟩ := hA (by omega)
      injection e1 with e1 _ e3
      subst e1 e3
      subst hgA
      have c0 := own_cell hro k _ (show (scells ow)[k]? = some (.string (B p)) by rw [scells_map, List.getElem?_map, List.getElem?_eq_getElem hlt, hp]; rfl)
      have HTK : Hid (ow.take (k + 1) = ow.take k ++ [p]) := Lib.hid (by rw [List.take_succ_eq_append_getElem hlt, hp])
      have ho := HO.out
      have hsz := HX.out.size
      have hsz1 := HB1.out.size
      clear hp hro hA
      go_wp2_with (at_builtin; refine wpList_append_own _ rfl _ _ 36 rfl w1.heap.size 79 i0 _ 6 56 Tryz.underlying36 hi hz0 hz1 hz2 rfl (by decide) _ _ _ rfl (ho.alloc _) ⟨wr.heap.size, 0, none⟩ 1 1 (ccell (delC p)) rfl rfl (World.news_of_block (new_block wr _)) (ccell_one _) (by unfold maxLen at *; omega) (by omega) (by simp; omega) ?_; intro v' w5 hown' hg5 hnil5)
      have hB5 := (HX.out.alloc hsz (.cells #[.int .i64 2, .string (B p), .string ⟨#[]⟩, .int .i64 (-1), .bool false, .bool false] 79)).grown hg5 (by simp; omega) (fun j hj => (HO.out.lt j hj).1)
      have HB5 := Lib.hid hB5
      have HO5 := Lib.hid hown'
      clear hown' hg5 hnil5 hB5 ho c0
      go_roundw
      case rel => exact ⟨k + 1, hlt, by go_num, Lib.hid (by rw [HTK.out, List.map_append, ccells_append]; exact HO5.out), HB5⟩
      case measure => simp [intOf]; omega
    · have hkn : k = ow.length := by omega
      have HO2 := Lib.hid HO.out
      rw [hkn, List.take_of_length_le (Nat.le_refl _)] at HO2
      have HX2 := Lib.hid (HB1.out.trans (HX.out.mono HB1.out.size))
      have ho2 := HO2.out
      obtain ⟨A2, c2, rfl, -, -, -⟩ := own_form ho2
      have hrd := Rd.of_own (cell := ccell) (l := ow.map delC) ho2 (fun _ _ => rfl) (by omega)
      have HDO := Lib.hid (do_any (cp := c2) (HT.out.below HX2.out) HG.out zx se hrd (by omega) (fun c hc => by
        obtain ⟨p, hp, rfl⟩ := List.mem_map.1 hc
        have := HOL.out.2 p hp
        show p.length ≤ _
        omega))
      have HKN := Lib.hid hkn
      clear hkn ho2 hrd
      go_wp2_with fail
      rw [HKN.out]
      refine HDO.out.mono ?_
      rintro e w4 ⟨v1, v2, mb', rfl, ht4, hg4, -, hr2⟩
      rw [HED.out.1] at ht4
      rw [HED.out.2] at hr2
      have HE : Hid (EnPost tp a w (.returned v2) w4) := Lib.hid ⟨v2, mb', rfl, ht4, gb_trans (gb_below HX2.out _) hg4, own_base hr2 HX2.out.size⟩
      clear ht4 hg4 hr2
      go_wp2_with fail
      go_ret
      exact HE.out
end Go.Proofs.YtflgemlhocjipaaGreatDoor
