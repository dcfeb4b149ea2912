/-
  The document's End. Conditions: memory holds the list, a good tree.
-/
import Derived.Test.YtfkhnnmibecbeaaGreatDoorRef8
namespace Go.Proofs.YtfkhnnmibecbeaaGreatDoor
set_option maxRecDepth 100000
open Go.ChangeShapes Go.WideShapes Go.ChangeAt Go.RowKit Go.Proofs.Zn Go.Proofs.Zt

/-- A list of znodes: the one that came in, or one of the call's own. -/
def TRow (w wr : World) (v : Value) (T : Tr) : Prop := (∃ A c, v = .slice A T.length c ∧ Rd ncell 9 w A T.length T) ∨ wr.ownsRow w.heap.size 41 9 v T.length (ncells T)
theorem TRow.rd {w wr : World} {v : Value} {T : Tr} (h : TRow w wr v T) (hb : Below w.heap.size w wr) : ∃ A c, v = .slice A T.length c ∧ Rd ncell 9 wr A T.length T := by
  rcases h with ⟨A, c, rfl, hr⟩ | h
  · exact ⟨A, c, rfl, hr.below hb⟩
  · exact TrV.of_own h
theorem TRow.below {w wr w' : World} {v : Value} {T : Tr} (h : TRow w wr v T) (hb : Below wr.heap.size wr w') : TRow w w' v T := by
  rcases h with h | h
  · exact .inl h
  · exact .inr (own_below h hb)
theorem TRow.gb {w wr w' : World} {v u : Value} {T : Tr} {base e sz n : Nat} {xs : List Value} (h : TRow w wr v T) (ho : wr.ownsRow base e sz u n xs) (hg : wr.grownBy w' u.ownBlock) (hne : 41 ≠ e) : TRow w w' v T := by
  rcases h with h | h
  · exact .inl h
  · exact .inr (own_gb' h hg (own_apart h ho hne))
theorem endGo_snoc (zx : Int) (p : Txt) : ∀ (l : List Txt) (T : Tr) (es : List Evt), endGo zx T es (l ++ [p]) = ((remove (endGo zx T es l).1 zx p).T, (endGo zx T es l).2 ++ (remove (endGo zx T es l).1 zx p).evs)
  | [], T, es => rfl
  | q :: l, T, es => by rw [List.cons_append, endGo, endGo, endGo_snoc zx p l]
theorem wout_kin {T : Tr} (hg : Zt.Good T) (p q : Txt) : inr ((get (wout T p) q).getD nd0).ks = true ∧ inr ((get (wout T p) q).getD nd0).nx = true := by
  cases h : get (wout T p) q with
  | none => exact ⟨inr_zero, inr_zero⟩
  | some z => exact ⟨(hg.each z ((mem_wout T p z).1 (get_some h).1).1).ks, (hg.each z ((mem_wout T p z).1 (get_some h).1).1).nx⟩
/-- What stands when k of the session's znodes are gone. -/
theorem end_pre {T : Tr} (hg : Zt.Good T) {zx se : Int} (hx : inr zx = true) (h0 : se ≠ 0) (k : Nat) : Zt.Good (endGo zx T [] ((owned T se).take k)).1 ∧ (endGo zx T [] ((owned T se).take k)).2.length ≤ 2 * (owned T se).length := by
  have := end_go (T0 := T) (se := se) hx h0 ((owned T se).take k) [] [] hg ((owned_nodup hg.srt se).sublist (List.take_sublist _ _)) (fun p hp => ((owned_mem hg.srt p).1 (List.mem_of_mem_take hp)).2)
  refine ⟨this.2.1, ?_⟩
  rw [this.2.2.1]
  have := List.length_take_le k (owned T se)
  have := List.length_take_le' k (owned T se)
  simp only [List.length_nil]
  omega
theorem own_cap {w : World} {base e sz n c : Nat} {A : Option Addr} {xs : List Value} (h : w.ownsRow base e sz (.slice A n c) n xs) (hA : A = none) : c = 0 := by
  rcases h.2 with ⟨e1, _⟩ | ⟨g, cap, cur, e1, _⟩
  · injection e1
  · subst hA
    injection e1 with e1 _ _
    cases e1
def ReRes (a : Tr × List Evt) (w : World) (e : Ending) (w' : World) : Prop := ∃ v1 v2, e = .returned (.tuple #[v1, v2]) ∧ TRow w w' v1 a.1 ∧ w'.ownsRow w.heap.size 95 3 v2 a.2.length (ecells a.2) ∧ Below w.heap.size w w'
set_option maxHeartbeats 4000000 in
theorem rend_any {w : World} {A : Option Addr} {c : Nat} {T : Tr} (h : Rd ncell 9 w A T.length T) (hg : Zt.Good T) (zx se : Int) :
    Calls Tryz.prog 29 #[.slice A T.length c, .int .i64 zx, .int .i64 se] w (ReRes (endL T zx se) w) := by
  obtain ⟨i1, hi1, hy0, hy1, hy2⟩ := info_parts infoE
  have HOW := Lib.hid (rowned_any (c := c) h (by have := hg.len; omega) se)
  have HT := Lib.hid h
  have HG := Lib.hid hg
  have HOL : Hid ((owned T se).length ≤ 200 ∧ ∀ p ∈ owned T se, p.length ≤ 488) := Lib.hid (by
    refine ⟨?_, fun p hp => ?_⟩
    · unfold owned; rw [List.length_map]; exact Nat.le_trans (List.length_filter_le _ _) hg.len
    · obtain ⟨z, hz, rfl⟩ := List.mem_map.1 hp
      exact len_le (hg.each z (List.mem_filter.1 hz).1).path)
  clear h hg
  go_enter Tryz.func29, Tryz.ntmps29
  go_wp2_with fail
  refine HOW.out.mono ?_
  rintro e w1 ⟨v, rfl, hrow, hb1⟩
  obtain ⟨A1, c1, rfl, -, -, -⟩ := own_form hrow
  have HROW := Lib.hid hrow
  have HB1 := Lib.hid hb1
  have HI1 := Lib.hid (rin_any zx w1)
  obtain ⟨b1, hb1'⟩ : ∃ b, inr zx = b := ⟨_, rfl⟩
  rw [hb1'] at HI1
  have HBX := Lib.hid hb1'
  clear hrow hb1 hb1'
  go_wp2_with fail
  refine HI1.out.mono ?_
  rintro e w1' ⟨rfl, rfl⟩
  cases b1 with
  | false =>
    have HE : Hid (ReRes (endL T zx se) w (.returned (.tuple #[.slice A T.length c, .slice none 0 0])) w1) := Lib.hid (by
      unfold endL; rw [if_pos (.inl HBX.out)]
      exact ⟨_, _, rfl, .inl ⟨A, c, rfl, HT.out⟩, ⟨rfl, .inl ⟨rfl, rfl⟩⟩, HB1.out⟩)
    go_wp2_with fail
    go_ret2
    exact HE.out
  | true =>
    have HI2 := Lib.hid (rin_any se w1)
    obtain ⟨b2, hb2'⟩ : ∃ b, inr se = b := ⟨_, rfl⟩
    rw [hb2'] at HI2
    have HBS := Lib.hid hb2'
    clear hb2'
    go_wp2_with fail
    refine HI2.out.mono ?_
    rintro e w1' ⟨rfl, rfl⟩
    cases b2 with
    | false =>
      have HE : Hid (ReRes (endL T zx se) w (.returned (.tuple #[.slice A T.length c, .slice none 0 0])) w1) := Lib.hid (by
        unfold endL; rw [if_pos (.inr HBS.out)]
        exact ⟨_, _, rfl, .inl ⟨A, c, rfl, HT.out⟩, ⟨rfl, .inl ⟨rfl, rfl⟩⟩, HB1.out⟩)
      go_wp2_with fail
      go_ret2
      exact HE.out
    | true =>
      have HEL : Hid (endL T zx se = endGo zx T [] (owned T se)) := Lib.hid (by unfold endL; rw [if_neg (by rw [HBX.out, HBS.out]; simp)])
      obtain ⟨ow, how⟩ : ∃ ow, owned T se = ow := ⟨_, rfl⟩
      have HPRE : Hid (∀ k, ow ≠ [] → Zt.Good (endGo zx T [] (ow.take k)).1 ∧ (endGo zx T [] (ow.take k)).2.length ≤ 2 * ow.length) := Lib.hid (fun k hne => by
        rw [← how]
        exact end_pre HG.out HBX.out (fun e0 => hne (by rw [← how, e0, owned_zero])) k)
      rw [how] at HROW HOL HEL ⊢
      clear how
      go_wp2_with fail
      go_loopw [0, 8, 10] (fun vt ve i wr => ∃ k : Nat, k ≤ ow.length ∧ i = .int .i64 k ∧ Hid (TRow w wr vt (endGo zx T [] (ow.take k)).1) ∧ Hid (wr.ownsRow w.heap.size 95 3 ve (endGo zx T [] (ow.take k)).2.length (ecells (endGo zx T [] (ow.take k)).2)) ∧ Hid (wr.ownsRow w.heap.size 9 1 (.slice A1 ow.length c1) ow.length (scells ow)) ∧ Hid (Below w.heap.size w wr)) (fun _ _ i _ => ow.length - (intOf i).toNat)
      case atStart => exact ⟨0, Nat.zero_le _, rfl, Lib.hid (.inl ⟨A, c, rfl, HT.out⟩), Lib.hid ⟨rfl, .inl ⟨rfl, rfl⟩⟩, HROW, HB1⟩
      case round =>
        obtain ⟨k, hk, rfl, HTR, HO, HRW, HX⟩ := hrel
        by_cases hlt : k < ow.length
        · have hne : ow ≠ [] := fun e => by rw [e] at hlt; simp at hlt
          obtain ⟨hgS, hlS⟩ := HPRE.out k hne
          obtain ⟨p, hp⟩ : ∃ y, ow[k] = y := ⟨_, rfl⟩
          have HTK : Hid (ow.take (k + 1) = ow.take k ++ [p]) := Lib.hid (by rw [List.take_succ_eq_append_getElem hlt, hp])
          have hpl := HOL.out.2 p (by rw [← hp]; exact List.getElem_mem hlt)
          have hro := HRW.out
          obtain ⟨A', c', e1, -, -, hA⟩ := own_form hro
          obtain ⟨g, hgA⟩ := hA (by omega)
          injection e1 with e1 _ e3
          subst e1 e3
          subst hgA
          have c0 := own_cell hro k _ (show (scells ow)[k]? = some (.string (B p)) by rw [scells_map, List.getElem?_map, List.getElem?_eq_getElem hlt, hp]; rfl)
          have HSN := Lib.hid (endGo_snoc zx p (ow.take k) T [])
          rw [← HTK.out] at HSN
          have htr := HTR.out
          have ho := HO.out
          obtain ⟨S1, hS1⟩ : ∃ a, (endGo zx T [] (ow.take k)).1 = a := ⟨_, rfl⟩
          obtain ⟨S2, hS2⟩ : ∃ a, (endGo zx T [] (ow.take k)).2 = a := ⟨_, rfl⟩
          rw [hS1] at htr hgS HSN
          rw [hS2] at ho hlS HSN
          obtain ⟨A2, c2, e2, hr2⟩ := htr.rd HX.out
          subst e2
          have hol := HOL.out.1
          have HRE := Lib.hid (rremove_any (c := c2) hr2 (by have := hgS.len; omega) p (by omega) zx (wout_kin hgS p _).1 (wout_kin hgS p _).2)
          obtain ⟨nS, enS⟩ : ∃ n, S1.length = n := ⟨_, rfl⟩
          have HO2 := Lib.hid ho
          have hlS2 : S2.length ≤ 400 := by omega
          rw [enS] at HRE ⊢
          clear hp hro hA hS1 hS2 htr ho hr2 hgS hlS hne hpl enS
          go_wp2_with fail
          refine HRE.out.mono ?_
          rintro e w3 ⟨v1, v2, rfl, h1, h2, hb3⟩
          obtain ⟨R, hR⟩ : ∃ R, remove S1 zx p = R := ⟨_, rfl⟩
          have hn3 : R.evs.length = 2 := by rw [← hR]; rfl
          rw [hR] at h1 h2 HSN ⊢
          obtain ⟨A3, c3, e3, -, -, -⟩ := own_form h1
          obtain ⟨A4, c4, e4, -, -, -⟩ := own_form h2
          rw [hn3] at e4 h2
          subst e3 e4
          obtain ⟨n1, en1⟩ : ∃ n, R.T.length = n := ⟨_, rfl⟩
          obtain ⟨rp, hrp⟩ : ∃ x, R.path = x := ⟨_, rfl⟩
          obtain ⟨re, hre⟩ : ∃ x, R.e = x := ⟨_, rfl⟩
          have hcap := own_cap h2
          obtain ⟨w4, hw4⟩ : ∃ w4, w4 = w3.alloc (.cells #[.slice A3 n1 c3, .string (B rp), .slice A4 2 c4, .int .i64 re] 92) := ⟨_, rfl⟩
          obtain ⟨sb, esb⟩ : ∃ x, x = w3.heap.size := ⟨_, rfl⟩
          have hb4 : Below w3.heap.size w3 w4 := by rw [hw4]; exact box_below w3 _
          have hs4 : w4.heap[sb]? = some (.cells #[.slice A3 n1 c3, .string (B rp), .slice A4 2 c4, .int .i64 re] 92 (0, 0)) := by rw [hw4, esb]; exact new_block w3 _
          have hrv := Rd.of_own (cell := ecell) (l := R.evs) (own_below h2 hb4) (fun _ _ => rfl) (by omega)
          have hb34 := hb3.trans (hb4.mono hb3.size)
          have ho4 := own_below HO2.out hb34
          have hB4 := HX.out.trans (hb34.mono HX.out.size)
          have hsz4 := hB4.size
          have HT4 := Lib.hid (own_below (own_base h1 HX.out.size) hb4)
          have HR4 := Lib.hid (own_below HRW.out hb34)
          have HB4 := Lib.hid hB4
          have HO4 := Lib.hid ho4
          have HW4 := Lib.hid hw4
          have ESB := Lib.hid esb
          have s0 := cell_of hs4 (j := 0) rfl
          have s2 := cell_of hs4 (j := 2) rfl
          have EN1 := Lib.hid en1
          have HN3 := Lib.hid hn3
          have HRR := Lib.hid hR
          rw [en1, hrp, hre]
          clear h1 h2 hb3 hR hn3 en1 hrp hre hw4 esb hb4 hs4 hb34 hB4
          go_upto_region 9 with fail
          rw [← HW4.out, ← ESB.out]
          go_wp2_with (at_builtin; refine wpList_append_rd rfl _ _ 55 rfl w.heap.size 95 i1 _ 3 32 Tryz.underlying55 hi1 hy0 hy1 hy2 rfl (by decide) _ S2.length _ rfl ho4 A4 2 c4 R.evs rfl hrv (fun _ _ => rfl) ecell_one hcap (by unfold maxLen; omega) (by omega) hsz4 ?_; intro v5 w5 hown5 hg5)
          have HT5 : Hid (TRow w w5 (.slice A3 n1 c3) R.T) := Lib.hid (by rw [← EN1.out]; exact TRow.gb (.inr HT4.out) HO4.out hg5 (by decide))
          have HR5 := Lib.hid (own_gb' HR4.out hg5 (own_apart HR4.out HO4.out (by decide)))
          have HB5 := Lib.hid (HB4.out.trans (gb_own HO4.out hg5 (Nat.le_refl _) hsz4))
          have HO5 := Lib.hid hown5
          clear hown5 hg5 ho4 hrv hcap s0 s2 hsz4
          go_roundw
          case rel => exact ⟨k + 1, hlt, by go_num, Lib.hid (by rw [HSN.out]; exact HT5.out), Lib.hid (by rw [HSN.out]; show w5.ownsRow _ _ _ _ (S2 ++ R.evs).length (ecells (S2 ++ R.evs)); rw [ecells_append, List.length_append, HN3.out]; exact HO5.out), HR5, HB5⟩
          case measure => simp [intOf]; omega
        · have hkn : k = ow.length := by omega
          have HE : Hid (ReRes (endL T zx se) w (.returned (.tuple #[u0, u8])) wr) := Lib.hid (by
            rw [HEL.out]
            have h1 := HTR.out
            have h2 := HO.out
            rw [hkn, List.take_of_length_le (Nat.le_refl _)] at h1 h2
            exact ⟨_, _, rfl, h1, h2, HX.out⟩)
          clear hkn
          go_wp2_with fail
          go_ret2
          exact HE.out
end Go.Proofs.YtfkhnnmibecbeaaGreatDoor
