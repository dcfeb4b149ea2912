/-
  What the law's plays returns and leaves: the document's list and the program's tree go on as one. Conditions: the tree is good, the script is not long, no path is very long.
-/
import Derived.Test.YtfkhnnmibecbeaaGreatDoorRef11
import Derived.Test.YtfkhnnmibecbeaaGreatDoorEndP
import Derived.Test.YtfkhnnmibecbeaaGreatDoorFew
import Derived.Test.YtfkhnnmibecbeaaGreatDoorTree1
namespace Go.Proofs.YtfkhnnmibecbeaaGreatDoor
set_option maxRecDepth 100000
open Go.ChangeShapes Go.WideShapes Go.ChangeAt Go.RowKit Go.Proofs.Zn Go.Proofs.Zt

/-- A row of two cells or more is not the tree's own cell. -/
theorem rd_gb {α : Type} {cell : α → List Value} {sz : Nat} (h1 : ∀ x, ∃ v, (cell x)[1]? = some v) {w w' : World} {A : Option Addr} {n : Nat} {l : List α} {tp mb : Nat} {T : Tr} (h : Rd cell sz w A n l) (ht : TreeW w tp mb T) (hg : w.grownBy w' (some tp)) : Rd cell sz w' A n l := by
  refine ⟨h.len, fun hn => ?_⟩
  obtain ⟨b, off, e, hc⟩ := h.cells hn
  have hne : b ≠ tp := fun eb => by
    have h0 : 0 < l.length := by rw [h.len]; exact hn
    obtain ⟨v, hv⟩ := h1 l[0]
    have := hc 0 h0 1 v hv
    rw [eb, cell_of_row w tp _ _ _ _ ht.here] at this
    simp at this
  refine ⟨b, off, e, fun i hi j v hv => ?_⟩
  have hx := hc i hi j v hv
  rw [World.cell?_of_block (w := w) (hg.block b (cell_lt hx) (by simpa using hne))]
  exact hx
theorem n1 (z : Nd) : ∃ v, (ncell z)[1]? = some v := ⟨_, rfl⟩
theorem o1 (z : Opv) : ∃ v, (ocell z)[1]? = some v := ⟨_, rfl⟩
theorem ch1 (z : Chg) : ∃ v, (ccell z)[1]? = some v := ⟨_, rfl⟩
theorem Scr.gb {w w' : World} {A : Option Addr} {n : Nat} {l : List Opv} {tp mb : Nat} {T : Tr} (h : Scr w A n l) (ht : TreeW w tp mb T) (hg : w.grownBy w' (some tp)) : Scr w' A n l :=
  ⟨rd_gb o1 h.rd ht hg, fun o ho => ⟨rd_gb ch1 (h.ok o ho).rd ht hg, (h.ok o ho).ok⟩⟩
def Short (l : List Opv) : Prop := ∀ o ∈ l, o.m ≤ 300 ∧ ∀ c ∈ o.l, c.path.length ≤ 2097152
def stepT (T : Tr) (o : Opv) : Tr := if o.k = 1 then (endL T o.zx o.se).1 else (doL T o.zx o.se o.l).T
def playT (T : Tr) (l : List Opv) : Tr := l.foldl stepT T
theorem step_good {T : Tr} (hg : Zt.Good T) (o : Opv) : Zt.Good (stepT T o) := by
  unfold stepT
  split
  · exact endL_good hg _ _
  · exact doL_good hg _ _ _
theorem play_good {T : Tr} (hg : Zt.Good T) (l : List Opv) : Zt.Good (playT T l) := by
  induction l generalizing T with
  | nil => exact hg
  | cons o l ih => exact ih (step_good hg o)
theorem play_step {T : Tr} {l : List Opv} {k : Nat} {o : Opv} (h : l[k]? = some o) : playT T (l.take (k + 1)) = stepT (playT T (l.take k)) o := by
  obtain ⟨hk, rfl⟩ := List.getElem?_eq_some_iff.1 h
  unfold playT
  rw [List.take_succ_eq_append_getElem hk, List.foldl_append]; rfl
theorem do_lens {T : Tr} {zx se : Int} {l : List Chg} : (doL T zx se l).ps.length ≤ l.length ∧ (doL T zx se l).es.length ≤ 2 * l.length := by
  have key : ∀ (l : List Chg) (T0 T : Tr) (ps : List Txt) (es : List Evt), (doGo T0 zx se T ps es l).ps.length ≤ ps.length + l.length ∧ (doGo T0 zx se T ps es l).es.length ≤ es.length + 2 * l.length := by
    intro l
    induction l with
    | nil => intro T0 T ps es; simp [doGo]
    | cons c l ih =>
      intro T0 T ps es
      unfold doGo
      split
      · simp
      · obtain ⟨a, b⟩ := ih T0 (Zt.one T zx se c).T (ps ++ [(Zt.one T zx se c).path]) (es ++ (Zt.one T zx se c).evs)
        have := one_evs T zx se c
        simp only [List.length_append, List.length_cons, List.length_nil] at a b ⊢
        omega
  unfold doL
  split
  · simp
  · have := key l T T [] []
    simpa using this
theorem end_lens {T : Tr} (hg : Zt.Good T) (zx se : Int) : (endL T zx se).2.length ≤ 400 := by
  have h1 := (end_do hg zx se).2
  have h2 := (do_lens (T := T) (zx := zx) (se := se) (l := (owned T se).map delC)).2
  have h3 : (owned T se).length ≤ T.length := by unfold owned; rw [List.length_map]; exact List.length_filter_le _ _
  have := hg.len
  rw [h1, List.length_map] at h2
  omega
/-- What stands between two steps. -/
structure Ply (w : World) (tp : Nat) (As : Option Addr) (ns : Nat) (l : List Opv) (v : Value) (T : Tr) (wr : World) : Prop where
  row : ∃ A c, v = .slice A T.length c ∧ Rd ncell 9 wr A T.length T
  tree : ∃ mb, TreeW wr tp mb T
  scr : Scr wr As ns l
  gb : w.grownBy wr (some tp)
theorem Ply.below {w wr w' : World} {tp ns : Nat} {As : Option Addr} {l : List Opv} {v : Value} {T : Tr} (h : Ply w tp As ns l v T wr) (hb : Below wr.heap.size wr w') : Ply w tp As ns l v T w' := by
  obtain ⟨⟨A, c, e, hr⟩, ⟨mb, ht⟩, hs, hg⟩ := h
  exact ⟨⟨A, c, e, hr.below hb⟩, ⟨mb, ht.below hb⟩, hs.below hb, gb_trans hg (gb_below hb _)⟩
/-- The document's step, then the program's. -/
theorem Ply.step {w wr w2 w3 : World} {tp ns mb3 : Nat} {As : Option Addr} {l : List Opv} {v v2 : Value} {T T2 : Tr} (h : Ply w tp As ns l v T wr) (hb : Below wr.heap.size wr w2) (hr : ∃ A c, v2 = .slice A T2.length c ∧ Rd ncell 9 w2 A T2.length T2) (ht : TreeW w3 tp mb3 T2) (hg : w2.grownBy w3 (some tp)) : Ply w tp As ns l v2 T2 w3 := by
  obtain ⟨-, ⟨mb, ht0⟩, hs, hg0⟩ := h
  obtain ⟨A, c, e, hr⟩ := hr
  exact ⟨⟨A, c, e, rd_gb n1 hr (ht0.below hb) hg⟩, ⟨mb3, ht⟩, (hs.below hb).gb (ht0.below hb) hg, gb_trans (gb_trans hg0 (gb_below hb _)) hg⟩
def PlyPost (tp : Nat) (As : Option Addr) (ns : Nat) (l : List Opv) (T : Tr) (w : World) (e : Ending) (w' : World) : Prop := ∃ v, e = .returned (.tuple #[v, .bool true]) ∧ Ply w tp As ns l v (playT T l) w'
/-- Rows of the call's own, behind a write into the tree's cell. -/
theorem own_tree {w w' : World} {base e sz n tp mb : Nat} {v : Value} {xs : List Value} {T : Tr} (h : w.ownsRow base e sz v n xs) (ht : TreeW w tp mb T) (he : 66 ≠ e) (hg : w.grownBy w' (some tp)) : w'.ownsRow base e sz v n xs := own_gb h hg (own_ne h ht.here he)
set_option maxHeartbeats 4000000 in
theorem plays_any {w : World} {tp mb : Nat} {T : Tr} (ht : TreeW w tp mb T) (hg : Zt.Good T) {A : Option Addr} {c : Nat} (hr : Rd ncell 9 w A T.length T) {As : Option Addr} {ns cs : Nat} {l : List Opv} (hs : Scr w As ns l) (hsh : Short l) (hn : ns ≤ 1000000) :
    Calls Tryz.prog 12 #[.pointer (some ⟨tp, 0, none⟩), .slice A T.length c, .slice As ns cs] w (PlyPost tp As ns l T w) := by
  have HG := Lib.hid hg
  have HSH := Lib.hid hsh
  have HPL : Hid (Ply w tp As ns l (.slice A T.length c) (playT T (l.take 0)) w) := Lib.hid ⟨⟨A, c, rfl, hr⟩, ⟨mb, ht⟩, hs, World.grownBy.refl w _⟩
  have HNL := Lib.hid hs.rd.len
  clear ht hg hr hs hsh
  go_enter Tryz.func12, Tryz.ntmps12
  go_wp2_with fail
  go_loopw [1, 21] (fun v i wr => ∃ k : Nat, k ≤ ns ∧ i = .int .i64 k ∧ Hid (Ply w tp As ns l v (playT T (l.take k)) wr)) (fun _ i _ => ns - (intOf i).toNat)
  case atStart => exact ⟨0, Nat.zero_le _, rfl, HPL⟩
  case round =>
    obtain ⟨k, hk, rfl, HPL⟩ := hrel
    obtain ⟨S, hS⟩ : ∃ S, playT T (l.take k) = S := ⟨_, rfl⟩
    have HGS : Hid (Zt.Good S) := Lib.hid (by rw [← hS]; exact play_good HG.out _)
    rw [hS] at HPL
    obtain ⟨⟨A1, c1, rfl, hr1⟩, ⟨mb1, ht1⟩, hs1, hg1⟩ := HPL.out
    by_cases hlt : k < ns
    · obtain ⟨b, off, o, rfl, ho, hc⟩ := hs1.rd.at hlt
      have hom := List.mem_of_getElem? ho
      have HOK := Lib.hid (hs1.ok o hom)
      have HSO := Lib.hid (HSH.out o hom)
      have HPS := Lib.hid (play_step (T := T) ho)
      rw [hS] at HPS
      have a0 : wr.cell? ⟨b, off + k * 4, none⟩ = some (.int .i64 o.k) := hc 0 _ rfl
      have a1 : wr.cell? ⟨b, off + k * 4 + 1, none⟩ = some (.int .i64 o.zx) := hc 1 _ rfl
      have a2 : wr.cell? ⟨b, off + k * 4 + 2, none⟩ = some (.int .i64 o.se) := hc 2 _ rfl
      have a3 : wr.cell? ⟨b, off + k * 4 + 3, none⟩ = some (.slice o.A o.m o.c) := hc 3 _ rfl
      obtain ⟨w3, hw3⟩ : ∃ w3, w3 = wr.alloc (.cells #[.int .i64 o.k, .int .i64 o.zx, .int .i64 o.se, .slice o.A o.m o.c] 68) := ⟨_, rfl⟩
      obtain ⟨q, eq⟩ : ∃ q, q = wr.heap.size := ⟨_, rfl⟩
      have hb3 : Below wr.heap.size wr w3 := by rw [hw3]; exact box_below wr _
      have hq3 : w3.heap[q]? = some (.cells #[.int .i64 o.k, .int .i64 o.zx, .int .i64 o.se, .slice o.A o.m o.c] 68 (0, 0)) := by rw [hw3, eq]; exact new_block wr _
      have HPL3 := Lib.hid (HPL.out.below hb3)
      have HT3 := Lib.hid (ht1.below hb3)
      have HR3 := Lib.hid (hr1.below hb3)
      have HOK3 := Lib.hid (HOK.out.below hb3)
      have HQ3 := Lib.hid hq3
      have HW3 := Lib.hid hw3
      have EQ := Lib.hid eq
      have q0 := cell_of hq3 (j := 0) rfl
      have q1 := cell_of hq3 (j := 1) rfl
      have q2 := cell_of hq3 (j := 2) rfl
      have q3 := cell_of hq3 (j := 3) rfl
      clear ho hom hc hw3 eq hb3 hq3 hr1 ht1 hs1 hg1 hS
      go_upto_region 4 with fail
      rw [← HW3.out, ← EQ.out]
      clear a0 a1 a2 a3
      by_cases hk1 : o.k = 1
      · have t1 : (o.k == 1) = true := by simpa using hk1
        have HST : Hid (playT T (l.take (k + 1)) = (endL S o.zx o.se).1) := Lib.hid (by rw [HPS.out]; unfold stepT; rw [if_pos hk1])
        have HRE := Lib.hid (rend_any (c := c1) HR3.out HGS.out o.zx o.se)
        have HEL := Lib.hid (end_lens HGS.out o.zx o.se)
        have HEN0 : Hid (∀ W mb, TreeW W tp mb S → Calls Tryz.prog 28 #[.pointer (some ⟨tp, 0, none⟩), .int .i64 o.zx, .int .i64 o.se] W (EnPost tp (endL S o.zx o.se) W)) := Lib.hid (fun W mb hW => end_any hW HGS.out o.zx o.se)
        obtain ⟨R, hR⟩ : ∃ R, endL S o.zx o.se = R := ⟨_, rfl⟩
        rw [hR] at HRE HEL HEN0 HST
        clear hk1 hR
        go_wp2_with fail
        refine HRE.out.mono ?_
        rintro e w4 ⟨v1, v2, rfl, h1, h2, hb4⟩
        obtain ⟨A4, c4, e4, hr4⟩ := h1.rd hb4
        subst e4
        obtain ⟨A5, c5, rfl, -, -, -⟩ := own_form h2
        have HT4 := Lib.hid (HT3.out.below hb4)
        have HR4 := Lib.hid hr4
        have H2 := Lib.hid h2
        have HB4 := Lib.hid hb4
        have HEN := Lib.hid (HEN0.out w4 _ HT4.out)
        have hq4 := blk_below HQ3.out hb4
        clear h1 h2 hb4 hr4 q0 q1 q2 q3
        have q0 := cell_of hq4 (j := 0) rfl
        have q1 := cell_of hq4 (j := 1) rfl
        have q2 := cell_of hq4 (j := 2) rfl
        have q3 := cell_of hq4 (j := 3) rfl
        clear hq4
        go_wp2_with fail
        refine HEN.out.mono ?_
        rintro e w5 ⟨v, mb5, rfl, ht5, hg5, h5⟩
        obtain ⟨A6, c6, rfl, -, -, -⟩ := own_form h5
        have h2 := own_tree H2.out HT4.out (by decide) hg5
        have HSE := Lib.hid (rsameevents_any (c := c6) (c2 := c5) (Rd.of_own (cell := ecell) (l := R.2) h5 (fun _ _ => rfl) (by omega)) (Rd.of_own (cell := ecell) (l := R.2) h2 (fun _ _ => rfl) (by omega)) (by have := HEL.out; omega))
        have HPL5 := Lib.hid (HPL3.out.step (v2 := .slice A4 R.1.length c4) HB4.out ⟨A4, c4, rfl, HR4.out⟩ ht5 hg5)
        clear ht5 hg5 h5 h2 q0 q1 q2 q3
        go_wp2_with fail
        refine HSE.out.mono ?_
        rintro e w6 ⟨rfl, hb6⟩
        have HPL6 := Lib.hid (HPL5.out.below hb6)
        clear hb6
        go_wp2_with fail
        go_roundw
        case rel => exact ⟨k + 1, hlt, by go_num, Lib.hid (by rw [HST.out]; exact HPL6.out)⟩
        case measure => simp [intOf]; omega
      · have t1 : (o.k == 1) = false := by simpa using hk1
        have HST : Hid (playT T (l.take (k + 1)) = (doL S o.zx o.se o.l).T) := Lib.hid (by rw [HPS.out]; unfold stepT; rw [if_neg hk1])
        have HRE := Lib.hid (rdo_any (cT := c1) (cp := o.c) HR3.out HGS.out o.zx o.se HOK3.out.rd (by have := HSO.out.1; omega) HSO.out.2)
        have HEL := Lib.hid (do_lens (T := S) (zx := o.zx) (se := o.se) (l := o.l))
        rw [HOK3.out.rd.len] at HEL
        have HEN0 : Hid (∀ W mb, TreeW W tp mb S → Rd ccell 6 W o.A o.m o.l → Calls Tryz.prog 26 #[.pointer (some ⟨tp, 0, none⟩), .int .i64 o.zx, .int .i64 o.se, .slice o.A o.m o.c] W (DoPost tp (doL S o.zx o.se o.l) W)) := Lib.hid (fun W mb hW hW2 => do_any (cp := o.c) hW HGS.out o.zx o.se hW2 (by have := HSO.out.1; omega) HOK3.out.ok)
        obtain ⟨R, hR⟩ : ∃ R, doL S o.zx o.se o.l = R := ⟨_, rfl⟩
        rw [hR] at HRE HEL HEN0 HST
        obtain ⟨ee, hee⟩ : ∃ x, R.e = x := ⟨_, rfl⟩
        have HEE := Lib.hid hee
        clear hk1 hR hee
        go_wp2_with fail
        refine HRE.out.mono ?_
        rintro e w4 ⟨v1, v2, v3, rfl, h1, h2, h3, hb4⟩
        obtain ⟨A4, c4, e4, hr4⟩ := h1.rd hb4
        subst e4
        obtain ⟨A5, c5, rfl, -, -, -⟩ := own_form h2
        obtain ⟨A7, c7, rfl, -, -, -⟩ := own_form h3
        rw [HEE.out]
        have HT4 := Lib.hid (HT3.out.below hb4)
        have HR4 := Lib.hid hr4
        have H2 := Lib.hid h2
        have H3 := Lib.hid h3
        have HB4 := Lib.hid hb4
        have HEN := Lib.hid (HEN0.out w4 _ HT4.out (HOK3.out.below hb4).rd)
        have hq4 := blk_below HQ3.out hb4
        clear h1 h2 h3 hb4 hr4 q0 q1 q2 q3
        have q0 := cell_of hq4 (j := 0) rfl
        have q1 := cell_of hq4 (j := 1) rfl
        have q2 := cell_of hq4 (j := 2) rfl
        have q3 := cell_of hq4 (j := 3) rfl
        clear hq4
        go_wp2_with fail
        refine HEN.out.mono ?_
        rintro e w5 ⟨v1, v2, mb5, rfl, ht5, hg5, h5, h6⟩
        obtain ⟨A8, c8, rfl, -, -, -⟩ := own_form h5
        obtain ⟨A9, c9, rfl, -, -, -⟩ := own_form h6
        rw [HEE.out]
        have h2 := own_tree H2.out HT4.out (by decide) hg5
        have h3 := own_tree H3.out HT4.out (by decide) hg5
        rw [scells] at h2 h5
        have HSE := Lib.hid (rsametexts_any (c := c8) (c2 := c5) (Rd.of_own (cell := scell) (l := R.ps) h5 (fun _ _ => rfl) (by omega)) (Rd.of_own (cell := scell) (l := R.ps) h2 (fun _ _ => rfl) (by omega)) (by have := HEL.out; have := HSO.out.1; omega))
        have HV1 := Lib.hid (Rd.of_own (cell := ecell) (l := R.es) h6 (fun _ _ => rfl) (by omega))
        have HV2 := Lib.hid (Rd.of_own (cell := ecell) (l := R.es) h3 (fun _ _ => rfl) (by omega))
        have HPL5 := Lib.hid (HPL3.out.step (v2 := .slice A4 R.T.length c4) HB4.out ⟨A4, c4, rfl, HR4.out⟩ ht5 hg5)
        clear ht5 hg5 h5 h6 h2 h3 q0 q1 q2 q3
        go_wp2_with fail
        refine HSE.out.mono ?_
        rintro e w6 ⟨rfl, hb6⟩
        have HSV := Lib.hid (rsameevents_any (c := c9) (c2 := c7) (HV1.out.below hb6) (HV2.out.below hb6) (by have := HEL.out; have := HSO.out.1; omega))
        have HPL6 := Lib.hid (HPL5.out.below hb6)
        clear hb6
        go_wp2_with fail
        refine HSV.out.mono ?_
        rintro e w7 ⟨rfl, hb7⟩
        have HPL7 := Lib.hid (HPL6.out.below hb7)
        clear hb7
        go_wp2_with fail
        go_roundw
        case rel => exact ⟨k + 1, hlt, by go_num, Lib.hid (by rw [HST.out]; exact HPL7.out)⟩
        case measure => simp [intOf]; omega
    · have hkn : k = ns := by omega
      have HE : Hid (PlyPost tp As ns l T w (.returned (.tuple #[.slice A1 S.length c1, .bool true])) wr) := Lib.hid (by
        have h := HPL.out
        rw [hkn, List.take_of_length_le (by rw [HNL.out]; exact Nat.le_refl _)] at hS
        rw [← hS] at h ⊢
        exact ⟨_, rfl, h⟩)
      clear hkn hr1 ht1 hs1 hg1 hS
      go_wp2_with fail
      go_ret2
      exact HE.out
end Go.Proofs.YtfkhnnmibecbeaaGreatDoor
