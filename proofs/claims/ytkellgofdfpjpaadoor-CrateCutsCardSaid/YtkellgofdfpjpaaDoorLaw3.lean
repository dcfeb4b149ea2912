/-
  What the law CrateJoins returns of two slices of bytes that read: true, and older memory is as it was. Condition: the table's cells hold what its initialiser lays.
-/
import Derived.Test.YtkellgofdfpjpaaDoorRows22
namespace Go.Proofs.YtkellgofdfpjpaaDoor
open Go.ChangeShapes Go.WideShapes Go.ChangeAt Go.RowKit Go.Proofs.Crc

theorem Held.zero {w : World} {base b1 : Nat} {v : Value} {xs : List El} (h : Held w base b1 v xs) : Held w 0 b1 v xs := ⟨h.1, fun x hx => own_base (h.2 x hx) (Nat.zero_le _)⟩
theorem split_own {w : World} {base n : Nat} {v : Value} {zs : List Int} (h : w.ownsRow base 5 1 v n (zs.map (Value.int .u8))) (hB : Bys zs) (hT : Table w) (hn : n ≤ 1048576) :
    Calls Tryd.prog 13 #[v] w (SplitPost w zs) := by
  obtain ⟨A, c, rfl, h1, h2, h3⟩ := own_reads h hB
  unfold maxLen at h3
  exact split_any A n c zs w h1 hT h2 (by omega) hn
theorem joins_long (ad0 ad1 : Option Addr) (len0 cap0 len1 cap1 : Nat) (w : World) (hT : Table w) (h : 20000 < len0 ∨ 20000 < len1) :
    Calls Tryd.prog 7 #[.slice ad0 len0 cap0, .slice ad1 len1 cap1] w fun e w' => e = .returned (.bool true) ∧ Below w.heap.size w w' := by
  have HT := Lib.hid hT
  clear hT
  by_cases h0 : 20000 < len0
  · have h1 : (20000 : Int) < (len0 : Int) := by omega
    clear h h0
    go_enter Tryd.func7, Tryd.ntmps7
    go_wp2_with fail
    refine (alive_any w HT.out).mono ?_
    rintro e w2 ⟨rfl, hb2⟩
    go_wp2
    go_ret
    exact ⟨rfl, hb2⟩
  · have h1 : ¬ (20000 : Int) < (len0 : Int) := by omega
    have h2 : (20000 : Int) < (len1 : Int) := by omega
    clear h h0
    go_enter Tryd.func7, Tryd.ntmps7
    go_wp2_with fail
    refine (alive_any w HT.out).mono ?_
    rintro e w2 ⟨rfl, hb2⟩
    go_wp2
    go_ret
    exact ⟨rfl, hb2⟩
theorem first_rows {w w1 : World} {v1 : Value} {m : Nat} {ys : List Value} (h1 : w1.ownsRow w.heap.size 22 1 v1 (0 + m) ([] ++ ys)) (h2 : (w.alloc (.cells #[] 22)).grownBy w1 (Value.slice (some ⟨w.heap.size, 0, none⟩) 0 0).ownBlock) :
    w1.ownsRow w.heap.size 22 1 v1 m ys ∧ Below w.heap.size w w1 := by
  rw [Nat.zero_add, List.nil_append] at h1
  exact ⟨h1, (box_below w _).grown h2 (by simp) (fun k hk => by simp [Value.ownBlock] at hk; omega)⟩
theorem rows_on {w w1 w2 : World} {v1 v2 : Value} {n m : Nat} {xs ys : List Value} (hb : Below w.heap.size w w1) (ho : w1.ownsRow w.heap.size 22 1 v1 n xs) (h2 : w2.ownsRow w.heap.size 22 1 v2 m ys) (hg : w1.grownBy w2 v1.ownBlock) :
    Below w.heap.size w w2 ∧ ∃ A c, v2 = .slice A m c ∧ w2.ownsRow w.heap.size 22 1 (.slice A m c) m ys := by
  obtain ⟨A, c, rfl, -⟩ := row_slice h2
  exact ⟨hb.grown hg hb.size (own_ge ho), A, c, rfl, h2⟩
/-- Two held lists of the same bodies at one place: two slices that read as the same. -/
theorem two_at {w : World} {b1 b2 k : Nat} {v1 v2 : Value} {xs ys : List El} (h1 : Held w 0 b1 v1 xs) (h2 : Held w 0 b2 v2 ys) (he : xs.map (·.2.2) = ys.map (·.2.2)) (hB : ∀ b ∈ xs.map (·.2.2), Bys b) (hk : k < xs.length) :
    ∃ A n c A' n' c' zs, (xs.map (·.1))[k]? = some (.slice A n c) ∧ (ys.map (·.1))[k]? = some (.slice A' n' c') ∧ Reads w A n zs ∧ Reads w A' n' zs := by
  have hl : ys.length = xs.length := by have := congrArg List.length he; rw [List.length_map, List.length_map] at this; exact this.symm
  obtain ⟨A, n, c, -, r1, c1⟩ := held_at h1 hB k hk
  obtain ⟨A', n', c', -, r2, c2⟩ := held_at h2 (by rw [← he]; exact hB) k (by omega)
  have hb : ys[k].2.2 = xs[k].2.2 := by
    have h := congrArg (fun l => l[k]?) he
    simp only [List.getElem?_map, List.getElem?_eq_getElem hk, List.getElem?_eq_getElem (show k < ys.length by omega), Option.map_some, Option.some.injEq] at h
    exact h.symm
  rw [hb] at r2
  exact ⟨A, n, c, A', n', c', _, c1, c2, r1, r2⟩
set_option maxHeartbeats 2000000 in
theorem law_joins (ad0 ad1 : Option Addr) (len0 cap0 len1 cap1 : Nat) (zs0 zs1 : List Int) (w : World) (hR0 : Reads w ad0 len0 zs0) (hR1 : Reads w ad1 len1 zs1) (hT : Table w) (hc0 : len0 ≤ cap0) (hc1 : len1 ≤ cap1) (hm0 : cap0 ≤ 9223372036854775807) (hm1 : cap1 ≤ 9223372036854775807) :
    Calls Tryd.prog 7 #[.slice ad0 len0 cap0, .slice ad1 len1 cap1] w fun e w' => e = .returned (.bool true) ∧ Below w.heap.size w w' := by
  by_cases h0 : 20000 < len0
  · exact joins_long ad0 ad1 len0 cap0 len1 cap1 w hT (.inl h0)
  by_cases h1 : 20000 < len1
  · exact joins_long ad0 ad1 len0 cap0 len1 cap1 w hT (.inr h1)
  have HT := Lib.hid hT
  have HR0 := Lib.hid hR0
  have HR1 := Lib.hid hR1
  have HS0 := Lib.hid (split_any ad0 len0 cap0 zs0 w hR0 hT hc0 hm0 (by omega))
  have g0 : ¬ (20000 : Int) < (len0 : Int) := by omega
  have g1 : ¬ (20000 : Int) < (len1 : Int) := by omega
  have l0 : len0 ≤ 20000 := by omega
  have l1 : len1 ≤ 20000 := by omega
  obtain ⟨i0, hi, hz0, hz1, hz2⟩ := info_parts info5
  obtain ⟨j0, hj, jz0, jz1, jz2⟩ := info_parts info22
  clear hT hR0 hR1 h0 h1
  go_enter Tryd.func7, Tryd.ntmps7
  go_wp2_with fail
  refine HS0.out.mono ?_
  rintro e w1 ⟨v1, xs1, r1, er1, rfl, hcr1, hg1, hh1, hb1⟩
  have HB1 := Lib.hid hb1
  have HCR1 := Lib.hid hcr1
  have HH1 := Lib.hid hh1
  have HT1 := Lib.hid (HT.out.kept hb1)
  have hne1 := gt_ne hg1
  clear hb1 hcr1 hh1 hg1
  by_cases he1 : er1 = 30
  case neg =>
    rw [if_neg he1]
    have hE' : (er1 != 0) = true := by simp; omega
    clear he1 hne1
    go_wp2_with fail
    refine (alive_any w1 HT1.out).mono ?_
    rintro e w2 ⟨rfl, hb2⟩
    have HB2 := Lib.hid (HB1.out.trans (hb2.mono HB1.out.size))
    clear hb2
    go_wp2
    go_ret
    exact ⟨rfl, HB2.out⟩
  rw [if_pos he1]
  clear he1 hne1
  cases r1 with
  | cons z r1 =>
    have hn : (0 : Int) < (((z :: r1).length : Nat) : Int) := by rw [List.length_cons]; omega
    obtain ⟨n, hnn⟩ : ∃ n, n = (z :: r1).length := ⟨_, rfl⟩
    rw [← hnn] at hn ⊢
    clear hnn
    go_wp2_with fail
    refine (alive_any w1 HT1.out).mono ?_
    rintro e w2 ⟨rfl, hb2⟩
    have HB2 := Lib.hid (HB1.out.trans (hb2.mono HB1.out.size))
    clear hb2
    go_wp2
    go_ret
    exact ⟨rfl, HB2.out⟩
  | nil =>
    rw [List.length_nil, Int.natCast_zero]
    go_wp2_with fail
    refine (split_any ad1 len1 cap1 zs1 w1 (HR1.out.kept HB1.out) HT1.out hc1 hm1 (by omega)).mono ?_
    rintro e w2 ⟨v2, xs2, r2, er2, rfl, hcr2, hg2, hh2, hb2⟩
    obtain ⟨E, hE⟩ : ∃ E : Int, E = if er2 = 30 then 0 else er2 := ⟨_, rfl⟩
    obtain ⟨left, hleft⟩ : ∃ left : Nat, left = r2.length := ⟨_, rfl⟩
    rw [← hE, ← hleft]
    have HE := Lib.hid hE
    have HLE := Lib.hid hleft
    clear hE hleft
    have HB2 := Lib.hid (HB1.out.trans (hb2.mono HB1.out.size))
    have HCR2 := Lib.hid hcr2
    have HG2 := Lib.hid hg2
    have HH2 := Lib.hid hh2.zero
    have HH12 := Lib.hid (HH1.out.zero.below hb2)
    have HT2 := Lib.hid (HT1.out.kept hb2)
    have HO : Hid ((w2.alloc (.cells #[] 5)).ownsRow w2.heap.size 5 1 (.slice (some ⟨w2.heap.size, 0, none⟩) 0 0) 0 []) := Lib.hid (World.ownsRow_lit (base := w2.heap.size) (e := 5) (size := 1) w2 #[] 0 (Nat.le_refl _) (by unfold maxLen; omega) rfl)
    have HR02 := Lib.hid ((HR0.out.kept HB2.out).kept (box_below w2 (.cells #[] 5)))
    have hsz2 : w2.heap.size ≤ (w2.alloc (.cells #[] 5)).heap.size := by simp
    have hn0 : (0 : Nat) ≤ 1048576 := by omega
    have hn1 : len0 ≤ 1048576 := by omega
    have ha0 : len0 ≤ 140737488355328 := by omega
    have ha1 : len1 ≤ 140737488355328 := by omega
    clear hb2 hcr2 hg2 hh2
    go_wp2_with (first
      | (at_builtin; refine wpList_append_wide rfl (.tmp 45) (.tmp 46) rfl w2.heap.size i0 hi hz0 hz1 hz2 (.slice (some ⟨w2.heap.size, 0, none⟩) 0 0) 0 [] rfl HO.out ad0 len0 cap0 zs0 rfl HR02.out hn0 ha0 hsz2 ?_; intro v3 w3 h5 h6; have HX := Lib.hid (first_row h5 h6); clear h5 h6; have HR13 := Lib.hid ((HR1.out.kept HB2.out).kept HX.out.2); have hsz3 := HX.out.2.size)
      | (at_builtin; refine wpList_append_wide rfl (.tmp 47) (.tmp 48) rfl w2.heap.size i0 hi hz0 hz1 hz2 v3 len0 (zs0.map (Value.int .u8)) rfl HX.out.1 ad1 len1 cap1 zs1 rfl HR13.out hn1 ha1 hsz3 ?_; intro v4 w4 h7 h8; have HY := Lib.hid (row_bytes HX.out.2 HX.out.1 h7 h8); clear h7 h8))
    have HT4 := Lib.hid (HT2.out.kept HY.out.2)
    refine (split_own HY.out.1 (bys_append HR0.out.bys HR1.out.bys) HT4.out (by omega)).mono ?_
    rintro e w5 ⟨v5, xs5, r5, er5, rfl, hcr5, hg5, hh5, hb5⟩
    obtain ⟨hxs, rfl⟩ := (Cr.append HR0.out.bys HCR1.out HCR2.out).one HG2.out hcr5 hg5
    obtain rfl : er5 = er2 := by rw [HG2.out] at hg5; injection hg5 with h; exact h.symm
    have HXS := Lib.hid hxs
    have HB25 := HY.out.2.trans (hb5.mono HY.out.2.size)
    have HB5 := Lib.hid (HB2.out.trans (HB25.mono HB2.out.size))
    have HT5 := Lib.hid (HT2.out.kept HB25)
    have HH15 := Lib.hid (HH12.out.below HB25)
    have HH25 := Lib.hid (HH2.out.below HB25)
    have HH5 := Lib.hid hh5.zero
    have hlen : xs5.length = xs1.length + xs2.length := by
      have := congrArg List.length hxs
      rw [List.length_append, List.length_map, List.length_map, List.length_map] at this
      exact this.symm
    have hk1 : 12 * xs1.length ≤ 20000 := by
      have := HCR1.out.length HR0.out.bys
      rw [List.length_map, HR0.out.1] at this; omega
    have hk2 : 12 * xs2.length ≤ 20000 := by
      have := HCR2.out.length HR1.out.bys
      rw [List.length_map, HR1.out.1] at this; omega
    clear hcr5 hg5 hh5 hb5 hxs HB25
    rw [← HE.out, ← HLE.out]
    obtain ⟨B1, c1, rfl, -⟩ := row_slice HH15.out.1
    obtain ⟨B2, c2, rfl, -⟩ := row_slice HH25.out.1
    obtain ⟨B5, c5, rfl, -⟩ := row_slice HH5.out.1
    have hsum : ((xs5.length : Int) != (xs1.length : Int) + (xs2.length : Int)) = false := by rw [hlen]; simp
    have HO5 : Hid ((w5.alloc (.cells #[] 22)).ownsRow w5.heap.size 22 1 (.slice (some ⟨w5.heap.size, 0, none⟩) 0 0) 0 []) := Lib.hid (World.ownsRow_lit (base := w5.heap.size) (e := 22) (size := 1) w5 #[] 0 (Nat.le_refl _) (by unfold maxLen; omega) rfl)
    have HP1 := Lib.hid (HH15.out.below (box_below w5 (.cells #[] 22)))
    have hsz5 : w5.heap.size ≤ (w5.alloc (.cells #[] 22)).heap.size := by simp
    have q1 : (0 + xs1.length) * 24 ≤ 140737488355328 := by omega
    have q2 : (xs1.length + xs2.length) * 24 ≤ 140737488355328 := by omega
    go_wp2_with (first
      | (at_builtin; refine wpList_append_row rfl (.tmp 72) (.tmp 73) rfl w5.heap.size _ j0 hj jz0 jz1 jz2 (.slice (some ⟨w5.heap.size, 0, none⟩) 0 0) 0 [] rfl HO5.out (.slice B1 xs1.length c1) xs1.length (xs1.map (·.1)) rfl HP1.out.1 (held_one HP1.out) q1 hsz5 ?_; intro v6 w6 h5 h6; have HX6 := Lib.hid (first_rows h5 h6); clear h5 h6; have HP2 := Lib.hid (HH25.out.below HX6.out.2); have hsz6 := HX6.out.2.size)
      | (at_builtin; refine wpList_append_row rfl (.tmp 74) (.tmp 75) rfl w5.heap.size _ j0 hj jz0 jz1 jz2 v6 xs1.length (xs1.map (·.1)) rfl HX6.out.1 (.slice B2 xs2.length c2) xs2.length (xs2.map (·.1)) rfl HP2.out.1 (held_one HP2.out) q2 hsz6 ?_; intro v7 w7 h7 h8; obtain ⟨hb7, A7, c7, rfl, ho7⟩ := rows_on HX6.out.2 HX6.out.1 h7 h8; have HB57 := Lib.hid hb7; have HO7 := Lib.hid ho7; clear h7 h8 hb7 ho7))
    have HJ := Lib.hid (Held.append (HH15.out.below HB57.out) (HH25.out.below HB57.out) HO7.out)
    have HH57 := Lib.hid (HH5.out.below HB57.out)
    have HEQ : Hid ((xs1 ++ xs2).map (·.2.2) = xs5.map (·.2.2)) := Lib.hid (by rw [List.map_append]; exact HXS.out)
    have HBY : Hid (∀ b ∈ (xs1 ++ xs2).map (·.2.2), Bys b) := Lib.hid (by
      intro b hb
      rw [List.map_append] at hb
      rcases List.mem_append.1 hb with hb | hb
      · exact (HCR1.out.bys HR0.out.bys).1 b hb
      · exact (HCR2.out.bys HR1.out.bys).1 b hb)
    have HB7 := Lib.hid (HB5.out.trans (HB57.out.mono HB5.out.size))
    have HT7 := Lib.hid (HT5.out.kept HB57.out)
    have HLL : Hid ((xs1 ++ xs2).length = xs1.length + xs2.length) := Lib.hid List.length_append
    have HCL : Hid ((xs1 ++ xs2).map (·.1) = xs1.map (·.1) ++ xs2.map (·.1)) := Lib.hid List.map_append
    clear hsum
    go_loopw [78] (fun i wr => ∃ k n : Nat, k ≤ xs1.length + xs2.length ∧ i = .int .i64 k ∧ wr = w7.drewN n) (fun i _ => xs1.length + xs2.length - (intOf i).toNat)
    case atStart => exact ⟨0, 0, by omega, rfl, rfl⟩
    case round =>
      obtain ⟨k, n, hk, rfl, rfl⟩ := hrel
      by_cases hlt : k < xs1.length + xs2.length
      · obtain ⟨A, m, c, A', m', c', zs, e1, e2, r1, r2⟩ := two_at HJ.out HH57.out HEQ.out HBY.out (k := k) (by rw [HLL.out]; exact hlt)
        obtain ⟨_, _, e7, g7⟩ := row_slice HO7.out
        injection e7 with e7 e7' e7''
        subst e7 e7''
        obtain ⟨b7, rfl, f7⟩ := g7 (by omega)
        obtain ⟨_, _, e5, g5⟩ := row_slice HH57.out.1
        injection e5 with e5 e5' e5''
        subst e5 e5''
        obtain ⟨b5, rfl, f5⟩ := g5 (by omega)
        have x7 := f7 k _ (by rw [← HCL.out]; exact e1)
        have x5 := f5 k _ e2
        have d1 := fun W (h : Reads W A m zs) => conv_reads (c := c) h
        have d2 := fun W (h : Reads W A' m' zs) => conv_reads (c := c') h
        obtain ⟨S, hS⟩ : ∃ S, S = strOfNums zs := ⟨_, rfl⟩
        have d1' : ∀ j : Nat, (convert 22 9 (.slice A m c)).run Tryd.prog (w7.drewN j) = .ok (.string S) (w7.drewN j) := fun j => by rw [hS]; exact d1 _ (r1.drewN j)
        have d2' : ∀ j : Nat, (convert 22 9 (.slice A' m' c')).run Tryd.prog (w7.drewN j) = .ok (.string S) (w7.drewN j) := fun j => by rw [hS]; exact d2 _ (r2.drewN j)
        have d1'' : ∀ i j : Nat, (convert 22 9 (.slice A m c)).run Tryd.prog ((w7.drewN i).drewN j) = .ok (.string S) ((w7.drewN i).drewN j) := fun i j => by rw [World.drewN_drewN]; exact d1' _
        have d2'' : ∀ i j : Nat, (convert 22 9 (.slice A' m' c')).run Tryd.prog ((w7.drewN i).drewN j) = .ok (.string S) ((w7.drewN i).drewN j) := fun i j => by rw [World.drewN_drewN]; exact d2' _
        have hk0 : (0 : Int) ≤ (k : Int) := by omega
        have hk1 : (k : Int) < (xs1.length : Int) + (xs2.length : Int) := by omega
        clear e1 e2 r1 r2 f7 f5 d1 d2 hS e7' e5' g7 g5
        go_wp2
        go_quiet (fail)
        go_wp2
        go_roundw
        case rel => exact ⟨k + 1, _, by omega, by go_num, rfl⟩
        case measure => simp [intOf]; omega
      · obtain rfl : k = xs1.length + xs2.length := by omega
        go_wp2_with fail
        refine (alive_any _ (HT7.out.drewN n)).mono ?_
        rintro e w9 ⟨rfl, hb9⟩
        have HB9 := Lib.hid ((below_drewN HB7.out n).trans (hb9.mono (below_drewN HB7.out n).size))
        clear hb9
        go_wp2
        go_ret
        exact ⟨rfl, HB9.out⟩
end Go.Proofs.YtkellgofdfpjpaaDoor
