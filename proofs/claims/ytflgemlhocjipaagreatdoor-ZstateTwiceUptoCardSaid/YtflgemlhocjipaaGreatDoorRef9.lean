/-
  The document's kid and remove. Conditions: memory holds the step; its lists are not long.
  The document's create. Conditions: memory holds the list, a good tree; the path is one.
  The document's End. Conditions: memory holds the list, a good tree.
-/
import Derived.Test.YtflgemlhocjipaaGreatDoorRef6
import Derived.Test.YtflgemlhocjipaaGreatDoorRNumber
namespace Go.Proofs.YtflgemlhocjipaaGreatDoor
set_option maxRecDepth 100000
open Go.ChangeShapes Go.WideShapes Go.ChangeAt Go.RowKit Go.Proofs.Zn Go.Proofs.Zt

/-- A value that names a list of znodes. -/
def TrV (w : World) (v : Value) (T : Tr) : Prop := ∃ A c, v = .slice A T.length c ∧ Rd ncell 9 w A T.length T
def StPost (s : Stp) (w : World) (e : Ending) (w' : World) : Prop := ∃ v1 v2, e = .returned (.agg #[v1, .string (B s.path), v2, .int .i64 s.e]) ∧ w'.ownsRow w.heap.size 132 9 v1 s.T.length (ncells s.T) ∧ w'.ownsRow w.heap.size 165 3 v2 s.evs.length (ecells s.evs) ∧ Below w.heap.size w w'
theorem TrV.of_own {w : World} {base : Nat} {v : Value} {T : Tr} (h : w.ownsRow base 132 9 v T.length (ncells T)) : TrV w v T := by
  obtain ⟨A, c, rfl, -, -, -⟩ := own_form h
  exact ⟨A, c, rfl, Rd.of_own h (fun _ _ => rfl) (by omega)⟩
theorem gb_keep {w w' : World} {base e sz n : Nat} {v : Value} {xs : List Value} {k : Nat} {cs : Array Value} {t : TypeId} {fr : Nat × Nat} (h : w.ownsRow base e sz v n xs) (hg : w.grownBy w' v.ownBlock) (hk : w.heap[k]? = some (.cells cs t fr)) (ht : t ≠ e) : w'.heap[k]? = some (.cells cs t fr) :=
  (hg.block k (blk_lt hk) (fun e' => own_ne h hk ht e'.symm)).trans hk
theorem kid_end {w w' : World} {base : Nat} {T X : Tr} {p : Txt} {E : List Evt} {nE : Nat} {zx : Int} {m : Bool} {P : Txt} {y : Nd} {v1 v2 : Value} (hks : parent p = P ∧ touched ((get T P).getD nd0) zx m = y) (hX : put T y = X) (hn : E.length = nE) (hbs : w.heap.size ≤ base)
    (h1 : w'.ownsRow base 132 9 v1 X.length (ncells X)) (h2 : w'.ownsRow w.heap.size 165 3 v2 (nE + 1) (ecells E ++ ecell ⟨0, 4, P⟩)) (hb : Below w.heap.size w w') : StPost (kidS T p E zx m) w (.returned (.agg #[v1, .string (B p), v2, .int .i64 0])) w' := by
  obtain ⟨rfl, rfl⟩ := hks
  subst hX hn
  refine ⟨v1, v2, rfl, own_base h1 hbs, ?_, hb⟩
  show w'.ownsRow w.heap.size 165 3 v2 (E ++ [(⟨0, 4, parent p⟩ : Evt)]).length (ecells (E ++ [⟨0, 4, parent p⟩]))
  rw [ecells_append, List.length_append]
  exact h2
set_option maxHeartbeats 4000000 in
theorem rkid_any {w : World} {AT AE : Option Addr} {cT nE cE : Nat} {T : Tr} {E : List Evt} (p : Txt) (hT : Rd ncell 9 w AT T.length T) (hn : T.length ≤ 1000000) (hE : Rd ecell 3 w AE nE E) (hAE : AE = none → cE = 0) (hnE : nE ≤ 1000000) (hp : p.length ≤ 2097152)
    (zx : Int) (hks : inr ((get T (parent p)).getD nd0).ks = true) (hnx : inr ((get T (parent p)).getD nd0).nx = true) (m : Bool) :
    Calls Tryz.prog 169 #[.agg #[.slice AT T.length cT, .string (B p), .slice AE nE cE, .int .i64 0], .int .i64 zx, .bool m] w (StPost (kidS T p E zx m) w) := by
  obtain ⟨i1, hi1, hy0, hy1, hy2⟩ := info_parts infoE
  obtain ⟨w2, hw2, hB2, hs, hr, hs2⟩ := two_box w (.cells #[.slice AT T.length cT, .string (B p), .slice AE nE cE, .int .i64 0] 229) (.cells #[.slice none 0 0, .string ⟨#[]⟩, .slice none 0 0, .int .i64 0] 229)
  obtain ⟨sb, esb⟩ : ∃ q, q = w.heap.size := ⟨_, rfl⟩
  obtain ⟨r, er⟩ : ∃ r, r = w.heap.size + 1 := ⟨_, rfl⟩
  rw [← esb] at hs
  rw [← er] at hr
  have HNE : Hid (sb ≠ r) := Lib.hid (by omega)
  have HPA := Lib.hid (rparent_any (B p) w2 (by rw [B_size]; exact hp))
  simp only [LB] at HPA
  obtain ⟨P, hP⟩ : ∃ x, parent p = x := ⟨_, rfl⟩
  rw [hP] at HPA hks hnx
  obtain ⟨z, hz⟩ : ∃ x, (get T P).getD nd0 = x := ⟨_, rfl⟩
  rw [hz] at hks hnx
  have HT := Lib.hid hT
  have HN := Lib.hid hn
  have HE := Lib.hid hE
  have HEN := Lib.hid hE.len
  have HAE := Lib.hid hAE
  have HZ := Lib.hid hz
  have HPP := Lib.hid hP
  have HKK := Lib.hid hks
  have HNX := Lib.hid hnx
  have HB2 := Lib.hid hB2
  have HW2 := Lib.hid hw2
  have HS2 := Lib.hid hs
  have HR2 := Lib.hid hr
  have ESB := Lib.hid esb
  have ER := Lib.hid er
  have s0 := cell_of hs (j := 0) rfl
  have s1 := cell_of hs (j := 1) rfl
  clear hT hE hAE hz hP hks hnx hp hn hw2 hB2 hs hr hs2 esb er s0
  go_enter Tryz.func169, Tryz.ntmps169
  go_upto_region 1 with fail
  rw [← HW2.out, ← ER.out, ← ESB.out]
  go_wp2_with fail
  refine HPA.out.mono ?_
  rintro e w3 ⟨rfl, hb3⟩
  have hB3 := HB2.out.trans (hb3.mono HB2.out.size)
  have HGE := Lib.hid (rget_any (c := cT) (HT.out.below hB3) HN.out P)
  unfold RgPost ndv at HGE
  rw [HZ.out] at HGE
  obtain ⟨is, his⟩ : ∃ b, (get T P).isSome = b := ⟨_, rfl⟩
  rw [his] at HGE
  have HB3 := Lib.hid hB3
  have hs3 := blk_below HS2.out hb3
  have HS3 := Lib.hid hs3
  have HR3 := Lib.hid (blk_below HR2.out hb3)
  have s0 := cell_of hs3 (j := 0) rfl
  clear his hB3 hs3 hb3 s1
  go_wp2_with fail
  refine HGE.out.mono ?_
  rintro e w4 ⟨rfl, hb4⟩
  obtain ⟨w5, hw5⟩ : ∃ w5, w5 = w4.alloc (.cells #[.string (B z.path), .string (B z.data), .int .i64 z.cr, .int .i64 z.ch, .int .i64 z.kd, .int .i64 z.ver, .int .i64 z.ks, .int .i64 z.own, .int .i64 z.nx] 132) := ⟨_, rfl⟩
  obtain ⟨qb, eqb⟩ : ∃ q, q = w4.heap.size := ⟨_, rfl⟩
  have hb5 : Below w4.heap.size w4 w5 := by rw [hw5]; exact box_below w4 _
  have hq5 : w5.heap[qb]? = some (.cells #[.string (B z.path), .string (B z.data), .int .i64 z.cr, .int .i64 z.ch, .int .i64 z.kd, .int .i64 z.ver, .int .i64 z.ks, .int .i64 z.own, .int .i64 z.nx] 132 (0, 0)) := by rw [hw5, eqb]; exact new_block w4 _
  have hB4 := HB3.out.trans (hb4.mono HB3.out.size)
  have hB5 := hB4.trans (hb5.mono hB4.size)
  have hs5 := blk_below (blk_below HS3.out hb4) hb5
  have hr5 := blk_below (blk_below HR3.out hb4) hb5
  have hsq : sb ≠ qb := by have := blk_lt (blk_below HS3.out hb4); omega
  have hrq : r ≠ qb := by have := blk_lt (blk_below HR3.out hb4); omega
  have hwq : w.heap.size ≤ qb := by have := hB4.size; omega
  obtain ⟨w6, hw6⟩ : ∃ w6, w6 = w5.setCell ⟨qb, 4, none⟩ (.int .i64 zx) := ⟨_, rfl⟩
  have hwr6 : Wr qb w5 w6 := by rw [hw6]; exact (Wr.refl qb w5).set 4 _
  have hq6 : w6.heap[qb]? = some (.cells #[.string (B z.path), .string (B z.data), .int .i64 z.cr, .int .i64 z.ch, .int .i64 zx, .int .i64 z.ver, .int .i64 z.ks, .int .i64 z.own, .int .i64 z.nx] 132 (0, 0)) := by rw [hw6]; exact heap_setCell_same w5 qb 4 _ 132 _ hq5
  obtain ⟨U, hU⟩ : ∃ U, up z.ks = U := ⟨_, rfl⟩
  obtain ⟨w7, hw7⟩ : ∃ w7, w7 = w6.setCell ⟨qb, 6, none⟩ (.int .i64 U) := ⟨_, rfl⟩
  have hwr7 : Wr qb w5 w7 := by rw [hw7]; exact hwr6.set 6 _
  have hq7 : w7.heap[qb]? = some (.cells #[.string (B z.path), .string (B z.data), .int .i64 z.cr, .int .i64 z.ch, .int .i64 zx, .int .i64 z.ver, .int .i64 U, .int .i64 z.own, .int .i64 z.nx] 132 (0, 0)) := by rw [hw7]; exact heap_setCell_same w6 qb 6 _ 132 _ hq6
  have HUP := Lib.hid (rup_any z.ks (inr_iff.1 HKK.out).2 (inr_iff.1 HKK.out).1 w6)
  rw [hU] at HUP
  have g4 := frozen_of_row w5 _ 4 _ _ hq5
  have c4 := cell_of hq5 (j := 4) rfl
  have g6 := frozen_of_row w6 _ 6 _ _ hq6
  have u6 := cell_of hq6 (j := 6) rfl
  have HW5 := Lib.hid hw5
  have HW6 := Lib.hid hw6
  have HW7 := Lib.hid hw7
  have EQB := Lib.hid eqb
  have HQ7 := Lib.hid hq7
  have HWR7 := Lib.hid hwr7
  have HS5 := Lib.hid hs5
  have HR5 := Lib.hid hr5
  have HB5 := Lib.hid hB5
  have HU := Lib.hid hU
  have HSQ := Lib.hid hsq
  have HRQ := Lib.hid hrq
  have HWQ := Lib.hid hwq
  clear hb4 hw5 eqb hb5 hq5 hB4 hB5 hs5 hr5 hsq hrq hwq hw6 hwr6 hq6 hU hw7 hwr7 hq7 s0
  go_upto_region 3 with fail
  rw [← HW5.out, ← EQB.out]
  go_upto_region 4 with fail
  rw [← HW6.out]
  go_wp2_with fail
  refine HUP.out.mono ?_
  rintro e w6' ⟨rfl, rfl⟩
  go_upto_region 5 with fail
  rw [← HW7.out]
  clear g4 g6 u6 c4
  cases m with
  | false =>
    obtain ⟨y, hy⟩ : ∃ y, touched z zx false = y := ⟨_, rfl⟩
    have HKS : Hid (parent p = P ∧ touched ((get T P).getD nd0) zx false = y) := Lib.hid ⟨HPP.out, by rw [HZ.out]; exact hy⟩
    have HQA : Hid (w7.heap[qb]? = some (.cells #[.string (B y.path), .string (B y.data), .int .i64 y.cr, .int .i64 y.ch, .int .i64 y.kd, .int .i64 y.ver, .int .i64 y.ks, .int .i64 y.own, .int .i64 y.nx] 132 (0, 0))) := Lib.hid (by rw [← hy]; unfold touched; rw [HU.out]; exact HQ7.out)
    have HSA := Lib.hid ((HWR7.out.rest sb HSQ.out).trans HS5.out)
    have HRA := Lib.hid ((HWR7.out.rest r HRQ.out).trans HR5.out)
    have HA : Hid (Below w.heap.size w w7) := Lib.hid (HB5.out.trans (HWR7.out.below.mono HWQ.out))
    clear hy
    obtain ⟨X, hX⟩ : ∃ X, put T y = X := ⟨_, rfl⟩
    have HPU := Lib.hid (rput_any (c := cT) (HT.out.below HA.out) HN.out y)
    rw [hX] at HPU
    have HXX := Lib.hid hX
    have hsb := HSA.out
    have hqb := HQA.out
    have s0 := cell_of hsb (j := 0) rfl
    have s1 := cell_of hsb (j := 1) rfl
    have z0 := cell_of hqb (j := 0) rfl
    have z1 := cell_of hqb (j := 1) rfl
    have z2 := cell_of hqb (j := 2) rfl
    have z3 := cell_of hqb (j := 3) rfl
    have z4 := cell_of hqb (j := 4) rfl
    have z5 := cell_of hqb (j := 5) rfl
    have z6 := cell_of hqb (j := 6) rfl
    have z7 := cell_of hqb (j := 7) rfl
    have z8 := cell_of hqb (j := 8) rfl
    clear hX hsb hqb
    go_wp2_with fail
    refine HPU.out.mono ?_
    rintro e w10 ⟨vv1, rfl, hv10, hb10⟩
    obtain ⟨A1, c1, rfl, -, -, -⟩ := own_form hv10
    have hs10 := blk_below HSA.out hb10
    have hr10 := blk_below HRA.out hb10
    have g0 := frozen_of_row w10 _ 0 _ _ hs10
    have c0 := cell_of hs10 (j := 0) rfl
    obtain ⟨w11, hw11⟩ : ∃ w11, w11 = w10.setCell ⟨sb, 0, none⟩ (.slice A1 X.length c1) := ⟨_, rfl⟩
    have hwr11 : Wr sb w10 w11 := by rw [hw11]; exact (Wr.refl sb w10).set 0 _
    have hs11 : w11.heap[sb]? = some (.cells #[(.slice A1 X.length c1), .string (B p), .slice AE nE cE, .int .i64 0] 229 (0, 0)) := by rw [hw11]; exact heap_setCell_same w10 sb 0 _ 229 (.slice A1 X.length c1) hs10
    have hr11 : w11.heap[r]? = some (.cells #[.slice none 0 0, .string ⟨#[]⟩, .slice none 0 0, .int .i64 0] 229 (0, 0)) := (hwr11.rest r HNE.out.symm).trans hr10
    have hv11 := own_gb hv10 hwr11.gb (own_ne hv10 hs10 (by decide))
    have hB11 : Below w.heap.size w w11 := (HA.out.trans (hb10.mono HA.out.size)).trans (hwr11.below.mono (by rw [ESB.out]; exact Nat.le_refl _))
    have HB11 := Lib.hid hB11
    have HV11 := Lib.hid hv11
    have HR11 := Lib.hid hr11
    have HS11 := Lib.hid hs11
    have HW11 := Lib.hid hw11
    have hE12 := (HE.out.below hB11).below (box_below w11 (.cells #[] 165))
    have ho12 : (w11.alloc (.cells #[] 165)).ownsRow w.heap.size 165 3 (.slice (some ⟨w11.heap.size, 0, none⟩) 0 0) 0 [] := own_new (new_block w11 (.cells #[] 165)) hB11.size (by unfold maxLen; omega) rfl
    have hs12 := blk_alloc hs11 (.cells #[] 165)
    have s2 := cell_of hs12 (j := 2) rfl
    have hsz12 : w.heap.size ≤ (w11.alloc (.cells #[] 165)).heap.size := Nat.le_trans hB11.size (box_below w11 _).size
    have hAE := HAE.out
    clear hv10 hb10 hs10 hr10 hwr11 hr11 hs11 hv11 hw11 hB11 s0 s1 z0 z1 z2 z3 z4 z5 z6 z7 z8
    go_upto_region 8 with fail
    rw [← HW11.out]
    clear g0 c0
    go_upto_region 9 with (at_builtin; refine wpList_append_rd rfl _ _ 43 rfl w.heap.size 165 i1 _ 3 32 Tryz.underlying43 hi1 hy0 hy1 hy2 rfl (by decide) _ 0 [] rfl ho12 AE nE cE E rfl hE12 (fun _ _ => rfl) ecell_one hAE (by unfold maxLen; omega) (by omega) hsz12 ?_; intro v13 w13 hown13 hg13)
    rw [Nat.zero_add, List.nil_append] at hown13
    have hs13 := gb_keep ho12 hg13 hs12 (by decide)
    have hr13 := gb_keep ho12 hg13 (blk_alloc HR11.out _) (by decide)
    have hv13 := own_gb' (own_below HV11.out (box_below w11 _)) hg13 (own_apart (own_below HV11.out (box_below w11 _)) ho12 (by decide))
    have hB13 : Below w.heap.size w w13 := (HB11.out.trans ((box_below w11 _).mono HB11.out.size)).trans (gb_own ho12 hg13 (Nat.le_refl _) hsz12)
    have HS13 := Lib.hid hs13
    have HR13 := Lib.hid hr13
    have HV13 := Lib.hid hv13
    have HB13 := Lib.hid hB13
    have hsz13 := hB13.size
    clear ho12 hg13 hs12 hs13 hr13 hv13 hB13 s2 hE12 hsz12
    go_upto_region 10 with (at_builtin; refine wpList_append_own _ rfl _ _ 43 rfl w.heap.size 165 i1 _ 3 32 Tryz.underlying43 hi1 hy0 hy1 hy2 rfl (by decide) _ _ _ rfl (hown13.alloc _) ⟨w13.heap.size, 0, none⟩ 1 1 (ecell ⟨0, 4, P⟩) rfl rfl (World.news_of_block (new_block w13 _)) (ecell_one _) (by unfold maxLen at *; omega) (by omega) (by simp; omega) ?_; intro vv14 w14 hown14 hg14 hnil14; obtain ⟨A14, c14, rfl, -, -, -⟩ := own_form hown14; have hs14 := gb_keep (hown13.alloc _) hg14 (blk_alloc HS13.out _) (by decide); have f2 := frozen_of_row w14 _ 2 _ _ hs14; have c2 := cell_of hs14 (j := 2) rfl)
    have hr14 := gb_keep (hown13.alloc _) hg14 (blk_alloc HR13.out _) (by decide)
    have hv14 := own_gb' (own_below HV13.out (box_below w13 (.cells #[.int .i64 0, .int .i64 4, .string (B P)] 165))) hg14 (own_apart (own_below HV13.out (box_below w13 (.cells #[.int .i64 0, .int .i64 4, .string (B P)] 165))) (hown13.alloc (.cells #[.int .i64 0, .int .i64 4, .string (B P)] 165)) (by decide))
    have hB14 : Below w.heap.size w w14 := (HB13.out.trans ((box_below w13 (.cells #[.int .i64 0, .int .i64 4, .string (B P)] 165)).mono HB13.out.size)).trans (gb_own (hown13.alloc (.cells #[.int .i64 0, .int .i64 4, .string (B P)] 165)) hg14 (Nat.le_refl _) (Nat.le_trans HB13.out.size (box_below w13 (.cells #[.int .i64 0, .int .i64 4, .string (B P)] 165)).size))
    obtain ⟨w15, hw15⟩ : ∃ w15, w15 = w14.setCell ⟨sb, 2, none⟩ (.slice A14 (nE + 1) c14) := ⟨_, rfl⟩
    rw [← hw15]
    have hwr15 : Wr sb w14 w15 := by rw [hw15]; exact (Wr.refl sb w14).set 2 _
    have hs15 : w15.heap[sb]? = some (.cells #[(.slice A1 X.length c1), .string (B p), (.slice A14 (nE + 1) c14), .int .i64 0] 229 (0, 0)) := by rw [hw15]; exact heap_setCell_same w14 sb 2 _ 229 (.slice A14 (nE + 1) c14) hs14
    have hr15 : w15.heap[r]? = some (.cells #[.slice none 0 0, .string ⟨#[]⟩, .slice none 0 0, .int .i64 0] 229 (0, 0)) := (hwr15.rest r HNE.out.symm).trans hr14
    have hv15 := own_gb hv14 hwr15.gb (own_ne hv14 hs14 (by decide))
    have ho15 := own_gb hown14 hwr15.gb (own_ne hown14 hs14 (by decide))
    have hB15 : Below w.heap.size w w15 := hB14.trans (hwr15.below.mono (by rw [ESB.out]; exact Nat.le_refl _))
    obtain ⟨w16, hw16⟩ : ∃ w16, w16 = ((((w15.setCell ⟨r, 0, none⟩ (.slice A1 X.length c1)).setCell ⟨r, 1, none⟩ (.string (B p))).setCell ⟨r, 2, none⟩ (.slice A14 (nE + 1) c14)).setCell ⟨r, 3, none⟩ (.int .i64 0)) := ⟨_, rfl⟩
    obtain ⟨hwr16, h16⟩ := set_st hr15 (.slice A1 X.length c1) (.string (B p)) (.slice A14 (nE + 1) c14) (.int .i64 0)
    rw [← hw16] at hwr16 h16
    have hv16 := own_gb hv15 hwr16.gb (own_ne hv15 hr15 (by decide))
    have ho16 := own_gb ho15 hwr16.gb (own_ne ho15 hr15 (by decide))
    have hB16 : Below w.heap.size w w16 := hB15.trans (hwr16.below.mono (by rw [ER.out]; omega))
    have HFIN : Hid (StPost (kidS T p E zx false) w (.returned (.agg #[(.slice A1 X.length c1), .string (B p), (.slice A14 (nE + 1) c14), .int .i64 0])) w16) := Lib.hid (kid_end HKS.out HXX.out HEN.out HA.out.size hv16 ho16 hB16)
    have HW16 := Lib.hid hw16
    have s0 := cell_of hs15 (j := 0) rfl
    have s1 := cell_of hs15 (j := 1) rfl
    have s2 := cell_of hs15 (j := 2) rfl
    have s3 := cell_of hs15 (j := 3) rfl
    have rf0 := frozen_of_row w15 _ 0 _ _ hr15
    have rf1 := frozen_of_row w15 _ 1 _ _ hr15
    have rf2 := frozen_of_row w15 _ 2 _ _ hr15
    have rf3 := frozen_of_row w15 _ 3 _ _ hr15
    have rr0 := cell_of hr15 (j := 0) rfl
    have rr1 := cell_of hr15 (j := 1) rfl
    have rr2 := cell_of hr15 (j := 2) rfl
    have rr3 := cell_of hr15 (j := 3) rfl
    have t0 := cell_of h16 (j := 0) rfl
    have t1 := cell_of h16 (j := 1) rfl
    have t2 := cell_of h16 (j := 2) rfl
    have t3 := cell_of h16 (j := 3) rfl
    clear hr14 hv14 hB14 hw15 hwr15 hs15 hr15 hv15 ho15 hB15 hw16 hwr16 h16 hv16 ho16 hB16 hown13 hown14 hg14 hnil14 hs14 f2 c2
    go_wp2_with fail
    rw [← HW16.out]
    exact bodyPost_ret (v := .agg #[(.slice A1 X.length c1), .string (B p), (.slice A14 (nE + 1) c14), .int .i64 0]) (by simp [results, Tryz.results169, go_sem, t0, t1, t2, t3]) rfl HFIN.out
  | true =>
    obtain ⟨V, hV⟩ : ∃ V, up z.nx = V := ⟨_, rfl⟩
    obtain ⟨y, hy⟩ : ∃ y, touched z zx true = y := ⟨_, rfl⟩
    have HKS : Hid (parent p = P ∧ touched ((get T P).getD nd0) zx true = y) := Lib.hid ⟨HPP.out, by rw [HZ.out]; exact hy⟩
    obtain ⟨w8, hw8⟩ : ∃ w8, w8 = w7.setCell ⟨qb, 8, none⟩ (.int .i64 V) := ⟨_, rfl⟩
    have hwr8 : Wr qb w5 w8 := by rw [hw8]; exact HWR7.out.set 8 _
    have hq8 : w8.heap[qb]? = some (.cells #[.string (B y.path), .string (B y.data), .int .i64 y.cr, .int .i64 y.ch, .int .i64 y.kd, .int .i64 y.ver, .int .i64 y.ks, .int .i64 y.own, .int .i64 y.nx] 132 (0, 0)) := by rw [hw8, ← hy]; unfold touched; rw [HU.out, if_pos rfl, hV]; exact heap_setCell_same w7 qb 8 _ 132 _ HQ7.out
    have HQA := Lib.hid hq8
    have HSA := Lib.hid ((hwr8.rest sb HSQ.out).trans HS5.out)
    have HRA := Lib.hid ((hwr8.rest r HRQ.out).trans HR5.out)
    have HA : Hid (Below w.heap.size w w8) := Lib.hid (HB5.out.trans (hwr8.below.mono HWQ.out))
    have HUP2 := Lib.hid (rup_any z.nx (inr_iff.1 HNX.out).2 (inr_iff.1 HNX.out).1 w7)
    rw [hV] at HUP2
    have HW8 := Lib.hid hw8
    have hq7 := HQ7.out
    have g8 := frozen_of_row w7 _ 8 _ _ hq7
    have u8 := cell_of hq7 (j := 8) rfl
    clear hy hV hw8 hwr8 hq8 hq7
    go_wp2_with fail
    refine HUP2.out.mono ?_
    rintro e w7' ⟨rfl, rfl⟩
    go_upto_region 7 with fail
    rw [← HW8.out]
    clear g8 u8
    obtain ⟨X, hX⟩ : ∃ X, put T y = X := ⟨_, rfl⟩
    have HPU := Lib.hid (rput_any (c := cT) (HT.out.below HA.out) HN.out y)
    rw [hX] at HPU
    have HXX := Lib.hid hX
    have hsb := HSA.out
    have hqb := HQA.out
    have s0 := cell_of hsb (j := 0) rfl
    have s1 := cell_of hsb (j := 1) rfl
    have z0 := cell_of hqb (j := 0) rfl
    have z1 := cell_of hqb (j := 1) rfl
    have z2 := cell_of hqb (j := 2) rfl
    have z3 := cell_of hqb (j := 3) rfl
    have z4 := cell_of hqb (j := 4) rfl
    have z5 := cell_of hqb (j := 5) rfl
    have z6 := cell_of hqb (j := 6) rfl
    have z7 := cell_of hqb (j := 7) rfl
    have z8 := cell_of hqb (j := 8) rfl
    clear hX hsb hqb
    go_wp2_with fail
    refine HPU.out.mono ?_
    rintro e w10 ⟨vv1, rfl, hv10, hb10⟩
    obtain ⟨A1, c1, rfl, -, -, -⟩ := own_form hv10
    have hs10 := blk_below HSA.out hb10
    have hr10 := blk_below HRA.out hb10
    have g0 := frozen_of_row w10 _ 0 _ _ hs10
    have c0 := cell_of hs10 (j := 0) rfl
    obtain ⟨w11, hw11⟩ : ∃ w11, w11 = w10.setCell ⟨sb, 0, none⟩ (.slice A1 X.length c1) := ⟨_, rfl⟩
    have hwr11 : Wr sb w10 w11 := by rw [hw11]; exact (Wr.refl sb w10).set 0 _
    have hs11 : w11.heap[sb]? = some (.cells #[(.slice A1 X.length c1), .string (B p), .slice AE nE cE, .int .i64 0] 229 (0, 0)) := by rw [hw11]; exact heap_setCell_same w10 sb 0 _ 229 (.slice A1 X.length c1) hs10
    have hr11 : w11.heap[r]? = some (.cells #[.slice none 0 0, .string ⟨#[]⟩, .slice none 0 0, .int .i64 0] 229 (0, 0)) := (hwr11.rest r HNE.out.symm).trans hr10
    have hv11 := own_gb hv10 hwr11.gb (own_ne hv10 hs10 (by decide))
    have hB11 : Below w.heap.size w w11 := (HA.out.trans (hb10.mono HA.out.size)).trans (hwr11.below.mono (by rw [ESB.out]; exact Nat.le_refl _))
    have HB11 := Lib.hid hB11
    have HV11 := Lib.hid hv11
    have HR11 := Lib.hid hr11
    have HS11 := Lib.hid hs11
    have HW11 := Lib.hid hw11
    have hE12 := (HE.out.below hB11).below (box_below w11 (.cells #[] 165))
    have ho12 : (w11.alloc (.cells #[] 165)).ownsRow w.heap.size 165 3 (.slice (some ⟨w11.heap.size, 0, none⟩) 0 0) 0 [] := own_new (new_block w11 (.cells #[] 165)) hB11.size (by unfold maxLen; omega) rfl
    have hs12 := blk_alloc hs11 (.cells #[] 165)
    have s2 := cell_of hs12 (j := 2) rfl
    have hsz12 : w.heap.size ≤ (w11.alloc (.cells #[] 165)).heap.size := Nat.le_trans hB11.size (box_below w11 _).size
    have hAE := HAE.out
    clear hv10 hb10 hs10 hr10 hwr11 hr11 hs11 hv11 hw11 hB11 s0 s1 z0 z1 z2 z3 z4 z5 z6 z7 z8
    go_upto_region 8 with fail
    rw [← HW11.out]
    clear g0 c0
    go_upto_region 9 with (at_builtin; refine wpList_append_rd rfl _ _ 43 rfl w.heap.size 165 i1 _ 3 32 Tryz.underlying43 hi1 hy0 hy1 hy2 rfl (by decide) _ 0 [] rfl ho12 AE nE cE E rfl hE12 (fun _ _ => rfl) ecell_one hAE (by unfold maxLen; omega) (by omega) hsz12 ?_; intro v13 w13 hown13 hg13)
    rw [Nat.zero_add, List.nil_append] at hown13
    have hs13 := gb_keep ho12 hg13 hs12 (by decide)
    have hr13 := gb_keep ho12 hg13 (blk_alloc HR11.out _) (by decide)
    have hv13 := own_gb' (own_below HV11.out (box_below w11 _)) hg13 (own_apart (own_below HV11.out (box_below w11 _)) ho12 (by decide))
    have hB13 : Below w.heap.size w w13 := (HB11.out.trans ((box_below w11 _).mono HB11.out.size)).trans (gb_own ho12 hg13 (Nat.le_refl _) hsz12)
    have HS13 := Lib.hid hs13
    have HR13 := Lib.hid hr13
    have HV13 := Lib.hid hv13
    have HB13 := Lib.hid hB13
    have hsz13 := hB13.size
    clear ho12 hg13 hs12 hs13 hr13 hv13 hB13 s2 hE12 hsz12
    go_upto_region 10 with (at_builtin; refine wpList_append_own _ rfl _ _ 43 rfl w.heap.size 165 i1 _ 3 32 Tryz.underlying43 hi1 hy0 hy1 hy2 rfl (by decide) _ _ _ rfl (hown13.alloc _) ⟨w13.heap.size, 0, none⟩ 1 1 (ecell ⟨0, 4, P⟩) rfl rfl (World.news_of_block (new_block w13 _)) (ecell_one _) (by unfold maxLen at *; omega) (by omega) (by simp; omega) ?_; intro vv14 w14 hown14 hg14 hnil14; obtain ⟨A14, c14, rfl, -, -, -⟩ := own_form hown14; have hs14 := gb_keep (hown13.alloc _) hg14 (blk_alloc HS13.out _) (by decide); have f2 := frozen_of_row w14 _ 2 _ _ hs14; have c2 := cell_of hs14 (j := 2) rfl)
    have hr14 := gb_keep (hown13.alloc _) hg14 (blk_alloc HR13.out _) (by decide)
    have hv14 := own_gb' (own_below HV13.out (box_below w13 (.cells #[.int .i64 0, .int .i64 4, .string (B P)] 165))) hg14 (own_apart (own_below HV13.out (box_below w13 (.cells #[.int .i64 0, .int .i64 4, .string (B P)] 165))) (hown13.alloc (.cells #[.int .i64 0, .int .i64 4, .string (B P)] 165)) (by decide))
    have hB14 : Below w.heap.size w w14 := (HB13.out.trans ((box_below w13 (.cells #[.int .i64 0, .int .i64 4, .string (B P)] 165)).mono HB13.out.size)).trans (gb_own (hown13.alloc (.cells #[.int .i64 0, .int .i64 4, .string (B P)] 165)) hg14 (Nat.le_refl _) (Nat.le_trans HB13.out.size (box_below w13 (.cells #[.int .i64 0, .int .i64 4, .string (B P)] 165)).size))
    obtain ⟨w15, hw15⟩ : ∃ w15, w15 = w14.setCell ⟨sb, 2, none⟩ (.slice A14 (nE + 1) c14) := ⟨_, rfl⟩
    rw [← hw15]
    have hwr15 : Wr sb w14 w15 := by rw [hw15]; exact (Wr.refl sb w14).set 2 _
    have hs15 : w15.heap[sb]? = some (.cells #[(.slice A1 X.length c1), .string (B p), (.slice A14 (nE + 1) c14), .int .i64 0] 229 (0, 0)) := by rw [hw15]; exact heap_setCell_same w14 sb 2 _ 229 (.slice A14 (nE + 1) c14) hs14
    have hr15 : w15.heap[r]? = some (.cells #[.slice none 0 0, .string ⟨#[]⟩, .slice none 0 0, .int .i64 0] 229 (0, 0)) := (hwr15.rest r HNE.out.symm).trans hr14
    have hv15 := own_gb hv14 hwr15.gb (own_ne hv14 hs14 (by decide))
    have ho15 := own_gb hown14 hwr15.gb (own_ne hown14 hs14 (by decide))
    have hB15 : Below w.heap.size w w15 := hB14.trans (hwr15.below.mono (by rw [ESB.out]; exact Nat.le_refl _))
    obtain ⟨w16, hw16⟩ : ∃ w16, w16 = ((((w15.setCell ⟨r, 0, none⟩ (.slice A1 X.length c1)).setCell ⟨r, 1, none⟩ (.string (B p))).setCell ⟨r, 2, none⟩ (.slice A14 (nE + 1) c14)).setCell ⟨r, 3, none⟩ (.int .i64 0)) := ⟨_, rfl⟩
    obtain ⟨hwr16, h16⟩ := set_st hr15 (.slice A1 X.length c1) (.string (B p)) (.slice A14 (nE + 1) c14) (.int .i64 0)
    rw [← hw16] at hwr16 h16
    have hv16 := own_gb hv15 hwr16.gb (own_ne hv15 hr15 (by decide))
    have ho16 := own_gb ho15 hwr16.gb (own_ne ho15 hr15 (by decide))
    have hB16 : Below w.heap.size w w16 := hB15.trans (hwr16.below.mono (by rw [ER.out]; omega))
    have HFIN : Hid (StPost (kidS T p E zx true) w (.returned (.agg #[(.slice A1 X.length c1), .string (B p), (.slice A14 (nE + 1) c14), .int .i64 0])) w16) := Lib.hid (kid_end HKS.out HXX.out HEN.out HA.out.size hv16 ho16 hB16)
    have HW16 := Lib.hid hw16
    have s0 := cell_of hs15 (j := 0) rfl
    have s1 := cell_of hs15 (j := 1) rfl
    have s2 := cell_of hs15 (j := 2) rfl
    have s3 := cell_of hs15 (j := 3) rfl
    have rf0 := frozen_of_row w15 _ 0 _ _ hr15
    have rf1 := frozen_of_row w15 _ 1 _ _ hr15
    have rf2 := frozen_of_row w15 _ 2 _ _ hr15
    have rf3 := frozen_of_row w15 _ 3 _ _ hr15
    have rr0 := cell_of hr15 (j := 0) rfl
    have rr1 := cell_of hr15 (j := 1) rfl
    have rr2 := cell_of hr15 (j := 2) rfl
    have rr3 := cell_of hr15 (j := 3) rfl
    have t0 := cell_of h16 (j := 0) rfl
    have t1 := cell_of h16 (j := 1) rfl
    have t2 := cell_of h16 (j := 2) rfl
    have t3 := cell_of h16 (j := 3) rfl
    clear hr14 hv14 hB14 hw15 hwr15 hs15 hr15 hv15 ho15 hB15 hw16 hwr16 h16 hv16 ho16 hB16 hown13 hown14 hg14 hnil14 hs14 f2 c2
    go_wp2_with fail
    rw [← HW16.out]
    exact bodyPost_ret (v := .agg #[(.slice A1 X.length c1), .string (B p), (.slice A14 (nE + 1) c14), .int .i64 0]) (by simp [results, Tryz.results169, go_sem, t0, t1, t2, t3]) rfl HFIN.out
/-- What stands in a result's variable. -/
theorem st_store {w w5 w6 : World} {r : Nat} {s : Stp} {a b c d v1 v2 : Value} (hr : w5.heap[r]? = some (.cells #[a, b, c, d] 229 (0, 0))) (hw : w.heap.size ≤ r) {base : Nat} (hbs : w.heap.size ≤ base) (h1 : w5.ownsRow base 132 9 v1 s.T.length (ncells s.T)) (h2 : w5.ownsRow base 165 3 v2 s.evs.length (ecells s.evs))
    (hb : Below w.heap.size w w5) (hw6 : w6 = ((((w5.setCell ⟨r, 0, none⟩ (v1)).setCell ⟨r, 1, none⟩ (.string (B s.path))).setCell ⟨r, 2, none⟩ (v2)).setCell ⟨r, 3, none⟩ (.int .i64 s.e))) : StPost s w (.returned (.agg #[v1, .string (B s.path), v2, .int .i64 s.e])) w6 ∧ w6.heap[r]? = some (.cells #[v1, .string (B s.path), v2, .int .i64 s.e] 229 (0, 0)) := by
  obtain ⟨hwr, h6⟩ := set_st hr v1 (.string (B s.path)) v2 (.int .i64 s.e)
  rw [← hw6] at hwr h6
  exact ⟨⟨v1, v2, rfl, own_base (own_gb h1 hwr.gb (own_ne h1 hr (by decide))) hbs, own_base (own_gb h2 hwr.gb (own_ne h2 hr (by decide))) hbs, hb.trans (hwr.below.mono hw)⟩, h6⟩
set_option maxHeartbeats 4000000 in
theorem rremove_any {w : World} {A : Option Addr} {c : Nat} {T : Tr} (h : Rd ncell 9 w A T.length T) (hn : T.length ≤ 1000000) (p : Txt) (hp : p.length ≤ 2097152) (zx : Int) (hks : inr ((get (wout T p) (parent p)).getD nd0).ks = true) (hnx : inr ((get (wout T p) (parent p)).getD nd0).nx = true) :
    Calls Tryz.prog 143 #[.slice A T.length c, .int .i64 zx, .string (B p)] w (StPost (remove T zx p) w) := by
  obtain ⟨w1, hw1⟩ : ∃ w1, w1 = w.alloc (.cells #[.slice none 0 0, .string ⟨#[]⟩, .slice none 0 0, .int .i64 0] 229) := ⟨_, rfl⟩
  obtain ⟨r, er⟩ : ∃ r, r = w.heap.size := ⟨_, rfl⟩
  have hb1 : Below w.heap.size w w1 := by rw [hw1]; exact box_below w _
  have hr : w1.heap[r]? = some (.cells #[.slice none 0 0, .string ⟨#[]⟩, .slice none 0 0, .int .i64 0] 229 (0, 0)) := by rw [hw1, er]; exact new_block w _
  have HWO := Lib.hid (rwithout_any (c := c) (h.below hb1) hn p)
  have HN := Lib.hid hn
  have HP := Lib.hid hp
  have HKK := Lib.hid hks
  have HNX := Lib.hid hnx
  have HB1 := Lib.hid hb1
  have HW1 := Lib.hid hw1
  have HR1 := Lib.hid hr
  have ER := Lib.hid er
  obtain ⟨S, hS⟩ : ∃ S, wout T p = S := ⟨_, rfl⟩
  have HS := Lib.hid hS
  have HSL : Hid (S.length ≤ T.length) := Lib.hid (by rw [← hS]; exact wout_len_le T p)
  rw [hS] at HWO HKK HNX
  clear h hn hp hks hnx hb1 hw1 hr er hS
  go_enter Tryz.func143, Tryz.ntmps143
  go_upto_region 1 with fail
  rw [← HW1.out, ← ER.out]
  go_wp2_with fail
  refine HWO.out.mono ?_
  rintro e w2 ⟨v, rfl, hv, hb2⟩
  obtain ⟨A2, c2, rfl, -, -, -⟩ := own_form hv
  obtain ⟨w3, hw3⟩ : ∃ w3, w3 = w2.alloc (.cells #[.int .i64 0, .int .i64 2, .string (B p)] 165) := ⟨_, rfl⟩
  have hb3 : Below w2.heap.size w2 w3 := by rw [hw3]; exact box_below w2 _
  have hg3 : w3.heap[w2.heap.size]? = some (.cells #[.int .i64 0, .int .i64 2, .string (B p)] 165 (0, 0)) := by rw [hw3]; exact new_block w2 _
  have hB3 := HB1.out.trans ((hb2.trans (hb3.mono hb2.size)).mono HB1.out.size)
  have hr3 := blk_below (blk_below HR1.out hb2) hb3
  have HKI := Lib.hid (rkid_any (cT := c2) (cE := 1) p (Rd.of_own (own_below hv hb3) (fun _ _ => rfl) (by omega)) (Nat.le_trans HSL.out HN.out) (E := [⟨0, 2, p⟩]) (Rd.of_own (base := 0) (own_new (n := 1) (sz := 3) hg3 (Nat.zero_le _) (by unfold maxLen; omega) rfl) (fun _ _ => rfl) (by omega)) (fun e => by cases e) (by omega) HP.out zx HKK.out HNX.out false)
  have HB3 := Lib.hid hB3
  have HR3 := Lib.hid hr3
  have HW3 := Lib.hid hw3
  clear hv hb2 hw3 hb3 hg3 hB3 hr3
  go_wp2_with fail
  rw [← HW3.out]
  refine HKI.out.mono ?_
  rintro e w4 ⟨v1, v2, rfl, h1, h2, hb4⟩
  have hr4 := blk_below HR3.out hb4
  have hB4 := HB3.out.trans (hb4.mono HB3.out.size)
  obtain ⟨A1, c1, e1, -, -, -⟩ := own_form h1
  obtain ⟨A3, c3, e3, -, -, -⟩ := own_form h2
  obtain ⟨R, hR⟩ : ∃ R, kidS S p [⟨0, 2, p⟩] zx false = R := ⟨_, rfl⟩
  have hR2 : remove T zx p = R := by rw [← hR, ← HS.out]; rfl
  rw [hR] at h1 h2 e1 e3
  obtain ⟨n1, en1⟩ : ∃ n1, R.T.length = n1 := ⟨_, rfl⟩
  obtain ⟨n3, en3⟩ : ∃ n3, R.evs.length = n3 := ⟨_, rfl⟩
  obtain ⟨w6, hw6⟩ : ∃ w6, w6 = ((((w4.setCell ⟨r, 0, none⟩ (v1)).setCell ⟨r, 1, none⟩ (.string (B R.path))).setCell ⟨r, 2, none⟩ (v2)).setCell ⟨r, 3, none⟩ (.int .i64 R.e)) := ⟨_, rfl⟩
  obtain ⟨hst, h6⟩ := st_store hr4 (by rw [ER.out]; exact Nat.le_refl _) HB3.out.size h1 h2 hB4 hw6
  rw [en1] at e1
  rw [en3] at e3
  subst e1 e3
  have HFIN := Lib.hid hst
  have HR2 := Lib.hid hR2
  have HW6 := Lib.hid hw6
  have q0 := cell_of hr4 (j := 0) rfl
  have q1 := cell_of hr4 (j := 1) rfl
  have q2 := cell_of hr4 (j := 2) rfl
  have q3 := cell_of hr4 (j := 3) rfl
  have rf0 := frozen_of_row w4 _ 0 _ _ hr4
  have rf1 := frozen_of_row w4 _ 1 _ _ hr4
  have rf2 := frozen_of_row w4 _ 2 _ _ hr4
  have rf3 := frozen_of_row w4 _ 3 _ _ hr4
  have t0 := cell_of h6 (j := 0) rfl
  have t1 := cell_of h6 (j := 1) rfl
  have t2 := cell_of h6 (j := 2) rfl
  have t3 := cell_of h6 (j := 3) rfl
  obtain ⟨rp, hrp⟩ : ∃ x, R.path = x := ⟨_, rfl⟩
  obtain ⟨re, hre⟩ : ∃ x, R.e = x := ⟨_, rfl⟩
  rw [hrp, hre] at HFIN
  rw [hrp, hre] at HW6
  rw [hrp] at t1
  rw [hre] at t3
  rw [hR, hrp, hre]
  clear h1 h2 hb4 hr4 hB4 hR2 en1 en3 hw6 hst h6 hR hrp hre
  go_wp2_with fail
  rw [← HW6.out]
  exact bodyPost_ret (v := .agg #[.slice A1 n1 c1, .string (B rp), .slice A3 n3 c3, .int .i64 re]) (by simp [results, Tryz.results143, go_sem, t0, t1, t2, t3]) rfl (by rw [HR2.out]; exact HFIN.out)
end Go.Proofs.YtflgemlhocjipaaGreatDoor
namespace Go.Proofs.YtflgemlhocjipaaGreatDoor
set_option maxRecDepth 100000
open Go.ChangeShapes Go.WideShapes Go.ChangeAt Go.RowKit Go.Proofs.Zn Go.Proofs.Zt

structure Cr (w0 : World) (q r : Nat) (c : Chg) (w : World) : Prop where
  below : Below w0.heap.size w0 w
  bq : w.heap[q]? = some (.cells #[.int .i64 c.kind, .string (B c.path), .string (B c.data), .int .i64 c.ver, .bool c.eph, .bool c.sq] 79 (0, 0))
  br : w.heap[r]? = some (.cells #[.slice none 0 0, .string ⟨#[]⟩, .slice none 0 0, .int .i64 0] 229 (0, 0))
theorem Cr.go {w0 w w' : World} {q r : Nat} {c : Chg} (h : Cr w0 q r c w) (hb : Below w.heap.size w w') : Cr w0 q r c w' :=
  ⟨h.below.trans (hb.mono h.below.size), blk_below h.bq hb, blk_below h.br hb⟩
theorem cr_fail {w0 w w6 : World} {q r : Nat} {c : Chg} {T : Tr} {zx se k : Int} (h : Cr w0 q r c w) (hr : w0.heap.size ≤ r) (hp : (place T c).1 = k) (hk : k ≠ 0) (hw6 : w6 = ((((w.setCell ⟨r, 0, none⟩ (.slice none 0 0)).setCell ⟨r, 1, none⟩ (.string ⟨#[]⟩)).setCell ⟨r, 2, none⟩ (.slice none 0 0)).setCell ⟨r, 3, none⟩ (.int .i64 k))) :
    StPost (create T zx se c) w0 (.returned (.agg #[.slice none 0 0, .string ⟨#[]⟩, .slice none 0 0, .int .i64 k])) w6 ∧ w6.heap[r]? = some (.cells #[.slice none 0 0, .string ⟨#[]⟩, .slice none 0 0, .int .i64 k] 229 (0, 0)) := by
  have e : create T zx se c = Zt.fails k := by unfold create; rw [if_pos (by rw [hp]; exact hk), hp]
  rw [e]
  exact st_store (s := Zt.fails k) h.br hr (Nat.le_refl _) ⟨rfl, .inl ⟨rfl, rfl⟩⟩ ⟨rfl, .inl ⟨rfl, rfl⟩⟩ h.below hw6
theorem create_at {T : Tr} {zx se : Int} {c : Chg} {pa : Txt} (h : place T c = (0, pa)) : create T zx se c = kidS (put T (made pa c.data zx se c.eph)) pa [⟨0, 1, pa⟩] zx true := by
  unfold create
  rw [h, if_neg (by simp)]
theorem made_kin {T : Tr} (hg : Zt.Good T) {p z : Nd} {pa P : Txt} (hpa : parent pa = P) (hp : get T P = some p) (hzk : z.ks = 0) (hzn : z.nx = 0) :
    inr ((get (put T z) (parent pa)).getD nd0).ks = true ∧ inr ((get (put T z) (parent pa)).getD nd0).nx = true := by
  rw [hpa, get_put]
  by_cases e : P = z.path
  · rw [if_pos e]; simp only [Option.getD_some]; rw [hzk, hzn]; exact ⟨inr_zero, inr_zero⟩
  · rw [if_neg e, hp]; exact ⟨(hg.each p (get_some hp).1).ks, (hg.each p (get_some hp).1).nx⟩
theorem place_at {T : Tr} {c : Chg} {p : Nd} (hd : ¬ 1024 < c.data.length) (h47 : c.path ≠ [47]) (hp : get T (parent c.path) = some p) (ho : p.own = 0) :
    place T c = if c.sq && !numOk c.path p.nx then (70, []) else if (get T (if c.sq then number c.path p.nx else c.path)).isSome then (81, []) else if 200 ≤ T.length then (86, []) else (0, if c.sq then number c.path p.nx else c.path) := by
  unfold place
  rw [if_neg hd, if_neg h47, hp]
  simp only
  rw [if_neg (by simp [ho])]
set_option maxHeartbeats 8000000 in
theorem rcreate_any {w : World} {AT : Option Addr} {cT : Nat} {T : Tr} (hT : Rd ncell 9 w AT T.length T) (hg : Zt.Good T) (zx se : Int) (c : Chg) (hv : valid c.path = true) :
    Calls Tryz.prog 165 #[.slice AT T.length cT, .int .i64 zx, .int .i64 se, .agg #[.int .i64 c.kind, .string (B c.path), .string (B c.data), .int .i64 c.ver, .bool c.eph, .bool c.sq]] w (StPost (create T zx se c) w) := by
  obtain ⟨w2, hw2, hB2, hq, hr, hs2⟩ := two_box w (.cells #[.int .i64 c.kind, .string (B c.path), .string (B c.data), .int .i64 c.ver, .bool c.eph, .bool c.sq] 79) (.cells #[.slice none 0 0, .string ⟨#[]⟩, .slice none 0 0, .int .i64 0] 229)
  obtain ⟨cb, ecb⟩ : ∃ q, q = w.heap.size := ⟨_, rfl⟩
  obtain ⟨r, er⟩ : ∃ r, r = w.heap.size + 1 := ⟨_, rfl⟩
  rw [← ecb] at hq
  rw [← er] at hr
  have HCR : Hid (Cr w cb r c w2) := Lib.hid ⟨hB2, hq, hr⟩
  have HRR : Hid (w.heap.size ≤ r) := Lib.hid (by omega)
  have HW2 := Lib.hid hw2
  have ECB := Lib.hid ecb
  have ER := Lib.hid er
  have HT := Lib.hid hT
  have HGG := Lib.hid hg
  have HV := Lib.hid hv
  have HLN := Lib.hid (len_le hv)
  have HN : Hid (T.length ≤ 1000000) := Lib.hid (by have := hg.len; omega)
  clear hT hw2 hB2 hq hr hs2 ecb er hg hv
  by_cases hd : 1024 < c.data.length
  · have hd' : (1024 : Int) < (c.data.length : Int) := by omega
    have HD := Lib.hid hd
    have hcq := HCR.out.bq
    have y2 := cell_of hcq (j := 2) rfl
    clear hd hcq
    go_enter Tryz.func165, Tryz.ntmps165
    go_upto_region 1 with fail
    rw [← HW2.out, ← ER.out, ← ECB.out]
    have HFA := Lib.hid (rfails_any 87 w2)
    have HPC : Hid ((place T c).1 = 87) := Lib.hid (by unfold place; rw [if_pos HD.out])
    go_wp2_with fail
    refine HFA.out.mono ?_
    rintro e wf ⟨rfl, hbf⟩
    have hcf := HCR.out.go hbf
    obtain ⟨w6, hw6⟩ : ∃ w6, w6 = ((((wf.setCell ⟨r, 0, none⟩ (.slice none 0 0)).setCell ⟨r, 1, none⟩ (.string ⟨#[]⟩)).setCell ⟨r, 2, none⟩ (.slice none 0 0)).setCell ⟨r, 3, none⟩ (.int .i64 87)) := ⟨_, rfl⟩
    obtain ⟨hst, h6⟩ := cr_fail (zx := zx) (se := se) hcf HRR.out HPC.out (by decide) hw6
    have HFIN := Lib.hid hst
    have hrb := hcf.br
    have q0 := cell_of hrb (j := 0) rfl
    have q1 := cell_of hrb (j := 1) rfl
    have q2 := cell_of hrb (j := 2) rfl
    have q3 := cell_of hrb (j := 3) rfl
    have rf0 := frozen_of_row wf _ 0 _ _ hrb
    have rf1 := frozen_of_row wf _ 1 _ _ hrb
    have rf2 := frozen_of_row wf _ 2 _ _ hrb
    have rf3 := frozen_of_row wf _ 3 _ _ hrb
    have t0 := cell_of h6 (j := 0) rfl
    have t1 := cell_of h6 (j := 1) rfl
    have t2 := cell_of h6 (j := 2) rfl
    have t3 := cell_of h6 (j := 3) rfl
    have HW6 := Lib.hid hw6
    clear hbf hcf hw6 hst h6 hrb
    go_wp2_with fail
    rw [← HW6.out]
    exact bodyPost_ret (v := .agg #[.slice none 0 0, .string ⟨#[]⟩, .slice none 0 0, .int .i64 87]) (by simp [results, Tryz.results165, go_sem, t0, t1, t2, t3]) rfl HFIN.out
  have hd' : ¬ (1024 : Int) < (c.data.length : Int) := by omega
  have HD := Lib.hid hd
  clear hd
  by_cases h47 : c.path = [47]
  · have t47 : (c.path == [47]) = true := by rw [h47]; rfl
    have H47 := Lib.hid h47
    have hcq := HCR.out.bq
    have y1 := cell_of hcq (j := 1) rfl
    have y2 := cell_of hcq (j := 2) rfl
    clear h47 hcq
    go_enter Tryz.func165, Tryz.ntmps165
    go_upto_region 1 with fail
    rw [← HW2.out, ← ER.out, ← ECB.out]
    have HFA := Lib.hid (rfails_any 81 w2)
    have HPC : Hid ((place T c).1 = 81) := Lib.hid (by unfold place; rw [if_neg HD.out, if_pos H47.out])
    go_wp2_with fail
    refine HFA.out.mono ?_
    rintro e wf ⟨rfl, hbf⟩
    have hcf := HCR.out.go hbf
    obtain ⟨w6, hw6⟩ : ∃ w6, w6 = ((((wf.setCell ⟨r, 0, none⟩ (.slice none 0 0)).setCell ⟨r, 1, none⟩ (.string ⟨#[]⟩)).setCell ⟨r, 2, none⟩ (.slice none 0 0)).setCell ⟨r, 3, none⟩ (.int .i64 81)) := ⟨_, rfl⟩
    obtain ⟨hst, h6⟩ := cr_fail (zx := zx) (se := se) hcf HRR.out HPC.out (by decide) hw6
    have HFIN := Lib.hid hst
    have hrb := hcf.br
    have q0 := cell_of hrb (j := 0) rfl
    have q1 := cell_of hrb (j := 1) rfl
    have q2 := cell_of hrb (j := 2) rfl
    have q3 := cell_of hrb (j := 3) rfl
    have rf0 := frozen_of_row wf _ 0 _ _ hrb
    have rf1 := frozen_of_row wf _ 1 _ _ hrb
    have rf2 := frozen_of_row wf _ 2 _ _ hrb
    have rf3 := frozen_of_row wf _ 3 _ _ hrb
    have t0 := cell_of h6 (j := 0) rfl
    have t1 := cell_of h6 (j := 1) rfl
    have t2 := cell_of h6 (j := 2) rfl
    have t3 := cell_of h6 (j := 3) rfl
    have HW6 := Lib.hid hw6
    clear hbf hcf hw6 hst h6 hrb
    go_wp2_with fail
    rw [← HW6.out]
    exact bodyPost_ret (v := .agg #[.slice none 0 0, .string ⟨#[]⟩, .slice none 0 0, .int .i64 81]) (by simp [results, Tryz.results165, go_sem, t0, t1, t2, t3]) rfl HFIN.out
  have t47 : (c.path == [47]) = false := by simpa using h47
  have H47 := Lib.hid h47
  have HP := Lib.hid (rparent_any (B c.path) w2 (by rw [B_size]; have := HLN.out; omega))
  simp only [LB] at HP
  obtain ⟨P, hP⟩ : ∃ x, parent c.path = x := ⟨_, rfl⟩
  rw [hP] at HP
  have HPP := Lib.hid hP
  have hcq := HCR.out.bq
  have y1 := cell_of hcq (j := 1) rfl
  have y2 := cell_of hcq (j := 2) rfl
  clear h47 hP hcq
  go_enter Tryz.func165, Tryz.ntmps165
  go_upto_region 1 with fail
  rw [← HW2.out, ← ER.out, ← ECB.out]
  go_wp2_with fail
  refine HP.out.mono ?_
  rintro e w3 ⟨rfl, hb3⟩
  have HCR3 := Lib.hid (HCR.out.go hb3)
  have HGE := Lib.hid (rget_any (c := cT) (HT.out.below HCR3.out.below) HN.out P)
  unfold RgPost ndv at HGE
  obtain ⟨p, hp⟩ : ∃ x, (get T P).getD nd0 = x := ⟨_, rfl⟩
  obtain ⟨is, his⟩ : ∃ b, (get T P).isSome = b := ⟨_, rfl⟩
  rw [hp, his] at HGE
  have HPE := Lib.hid hp
  have HIS := Lib.hid his
  clear hb3 hp his y1 y2 t47 hd'
  go_wp2_with fail
  refine HGE.out.mono ?_
  rintro e w4 ⟨rfl, hb4⟩
  obtain ⟨w5, hw5⟩ : ∃ w5, w5 = w4.alloc (.cells #[.string (B p.path), .string (B p.data), .int .i64 p.cr, .int .i64 p.ch, .int .i64 p.kd, .int .i64 p.ver, .int .i64 p.ks, .int .i64 p.own, .int .i64 p.nx] 132) := ⟨_, rfl⟩
  obtain ⟨pb, epb⟩ : ∃ x, x = w4.heap.size := ⟨_, rfl⟩
  have hb5 : Below w4.heap.size w4 w5 := by rw [hw5]; exact box_below w4 _
  have hp5 : w5.heap[pb]? = some (.cells #[.string (B p.path), .string (B p.data), .int .i64 p.cr, .int .i64 p.ch, .int .i64 p.kd, .int .i64 p.ver, .int .i64 p.ks, .int .i64 p.own, .int .i64 p.nx] 132 (0, 0)) := by rw [hw5, epb]; exact new_block w4 _
  have HCR5 := Lib.hid ((HCR3.out.go hb4).go hb5)
  have HP5 := Lib.hid hp5
  have HW5 := Lib.hid hw5
  have EPB := Lib.hid epb
  clear hb4 hw5 epb hb5 hp5
  go_upto_region 7 with fail
  rw [← HW5.out, ← EPB.out]
  cases is with
  | false =>
    have HNO : Hid (get T (parent c.path) = none) := Lib.hid (by rw [HPP.out]; have := HIS.out; cases hx : get T P with
      | none => rfl
      | some y => rw [hx] at this; cases this)
    have HFA := Lib.hid (rfails_any 83 w5)
    have HPC : Hid ((place T c).1 = 83) := Lib.hid (by unfold place; rw [if_neg HD.out, if_neg H47.out, HNO.out])
    go_wp2_with fail
    refine HFA.out.mono ?_
    rintro e wf ⟨rfl, hbf⟩
    have hcf := HCR5.out.go hbf
    obtain ⟨w6, hw6⟩ : ∃ w6, w6 = ((((wf.setCell ⟨r, 0, none⟩ (.slice none 0 0)).setCell ⟨r, 1, none⟩ (.string ⟨#[]⟩)).setCell ⟨r, 2, none⟩ (.slice none 0 0)).setCell ⟨r, 3, none⟩ (.int .i64 83)) := ⟨_, rfl⟩
    obtain ⟨hst, h6⟩ := cr_fail (zx := zx) (se := se) hcf HRR.out HPC.out (by decide) hw6
    have HFIN := Lib.hid hst
    have hrb := hcf.br
    have q0 := cell_of hrb (j := 0) rfl
    have q1 := cell_of hrb (j := 1) rfl
    have q2 := cell_of hrb (j := 2) rfl
    have q3 := cell_of hrb (j := 3) rfl
    have rf0 := frozen_of_row wf _ 0 _ _ hrb
    have rf1 := frozen_of_row wf _ 1 _ _ hrb
    have rf2 := frozen_of_row wf _ 2 _ _ hrb
    have rf3 := frozen_of_row wf _ 3 _ _ hrb
    have t0 := cell_of h6 (j := 0) rfl
    have t1 := cell_of h6 (j := 1) rfl
    have t2 := cell_of h6 (j := 2) rfl
    have t3 := cell_of h6 (j := 3) rfl
    have HW6 := Lib.hid hw6
    clear hbf hcf hw6 hst h6 hrb
    go_wp2_with fail
    rw [← HW6.out]
    exact bodyPost_ret (v := .agg #[.slice none 0 0, .string ⟨#[]⟩, .slice none 0 0, .int .i64 83]) (by simp [results, Tryz.results165, go_sem, t0, t1, t2, t3]) rfl HFIN.out
  | true =>
    have HGP : Hid (get T P = some p) := Lib.hid (by have h1 := HIS.out; have h2 := HPE.out; cases hx : get T P with
      | none => rw [hx] at h1; cases h1
      | some y => rw [hx] at h2; rw [← h2]; rfl)
    have hpb := HP5.out
    have p7 := cell_of hpb (j := 7) rfl
    clear hpb
    by_cases ho : p.own = 0
    · have tow : (p.own != 0) = false := by simpa using ho
      have HPA := Lib.hid (place_at HD.out H47.out (by rw [HPP.out]; exact HGP.out) ho)
      obtain ⟨sq, hsq⟩ : ∃ b, c.sq = b := ⟨_, rfl⟩
      rw [hsq] at HPA
      have hcq := HCR5.out.bq
      have y1 := cell_of hcq (j := 1) rfl
      have y5 := cell_of hcq (j := 5) rfl
      replace y5 : w5.cell? ⟨cb, 5, none⟩ = some (.bool sq) := by rw [← hsq]; exact y5
      clear hsq hcq ho
      cases sq with
      | false =>
        obtain ⟨pa, hpa⟩ : ∃ x, c.path = x := ⟨_, rfl⟩
        have HPL : Hid (place T c = if (get T pa).isSome then (81, []) else if 200 ≤ T.length then (86, []) else (0, pa)) := Lib.hid (by rw [HPA.out, ← hpa]; rfl)
        have HPAR : Hid (parent pa = P) := Lib.hid (by rw [← hpa]; exact HPP.out)
        have HPAL : Hid (pa.length ≤ 2097152) := Lib.hid (by rw [← hpa]; have := HLN.out; omega)
        have HPAE := Lib.hid hpa
        replace y1 : w5.cell? ⟨cb, 1, none⟩ = some (.string (B pa)) := by rw [← hpa]; exact y1
        clear hpa
        have HG2 := Lib.hid (rget_any (c := cT) (HT.out.below HCR5.out.below) HN.out pa)
        unfold RgPost ndv at HG2
        obtain ⟨pz2, hpz2⟩ : ∃ x, (get T pa).getD nd0 = x := ⟨_, rfl⟩
        obtain ⟨th, hth⟩ : ∃ b, (get T pa).isSome = b := ⟨_, rfl⟩
        rw [hpz2, hth] at HG2
        rw [hth] at HPL
        clear hpz2 hth
        go_wp2_with fail
        refine HG2.out.mono ?_
        rintro e w7 ⟨rfl, hb7⟩
        obtain ⟨w8, hw8⟩ : ∃ w8, w8 = w7.alloc (.cells #[.string (B pz2.path), .string (B pz2.data), .int .i64 pz2.cr, .int .i64 pz2.ch, .int .i64 pz2.kd, .int .i64 pz2.ver, .int .i64 pz2.ks, .int .i64 pz2.own, .int .i64 pz2.nx] 132) := ⟨_, rfl⟩
        have hb8 : Below w7.heap.size w7 w8 := by rw [hw8]; exact box_below w7 _
        have HCR8 := Lib.hid ((HCR5.out.go hb7).go hb8)
        have HW8 := Lib.hid hw8
        clear hb7 hb8 hw8
        go_upto_region 18 with fail
        rw [← HW8.out]
        cases th with
        | true =>
          have HFA := Lib.hid (rfails_any 81 w8)
          have HPC : Hid ((place T c).1 = 81) := Lib.hid (by rw [HPL.out]; rfl)
          go_wp2_with fail
          refine HFA.out.mono ?_
          rintro e wf ⟨rfl, hbf⟩
          have hcf := HCR8.out.go hbf
          obtain ⟨w6, hw6⟩ : ∃ w6, w6 = ((((wf.setCell ⟨r, 0, none⟩ (.slice none 0 0)).setCell ⟨r, 1, none⟩ (.string ⟨#[]⟩)).setCell ⟨r, 2, none⟩ (.slice none 0 0)).setCell ⟨r, 3, none⟩ (.int .i64 81)) := ⟨_, rfl⟩
          obtain ⟨hst, h6⟩ := cr_fail (zx := zx) (se := se) hcf HRR.out HPC.out (by decide) hw6
          have HFIN := Lib.hid hst
          have hrb := hcf.br
          have q0 := cell_of hrb (j := 0) rfl
          have q1 := cell_of hrb (j := 1) rfl
          have q2 := cell_of hrb (j := 2) rfl
          have q3 := cell_of hrb (j := 3) rfl
          have rf0 := frozen_of_row wf _ 0 _ _ hrb
          have rf1 := frozen_of_row wf _ 1 _ _ hrb
          have rf2 := frozen_of_row wf _ 2 _ _ hrb
          have rf3 := frozen_of_row wf _ 3 _ _ hrb
          have t0 := cell_of h6 (j := 0) rfl
          have t1 := cell_of h6 (j := 1) rfl
          have t2 := cell_of h6 (j := 2) rfl
          have t3 := cell_of h6 (j := 3) rfl
          have HW6 := Lib.hid hw6
          clear hbf hcf hw6 hst h6 hrb
          go_wp2_with fail
          rw [← HW6.out]
          exact bodyPost_ret (v := .agg #[.slice none 0 0, .string ⟨#[]⟩, .slice none 0 0, .int .i64 81]) (by simp [results, Tryz.results165, go_sem, t0, t1, t2, t3]) rfl HFIN.out
        | false =>
          by_cases hl : 200 ≤ T.length
          · have hl' : (200 : Int) ≤ (T.length : Int) := by omega
            have HLL := Lib.hid hl
            clear hl
            have HFA := Lib.hid (rfails_any 86 w8)
            have HPC : Hid ((place T c).1 = 86) := Lib.hid (by rw [HPL.out, if_neg (by decide), if_pos HLL.out])
            go_wp2_with fail
            refine HFA.out.mono ?_
            rintro e wf ⟨rfl, hbf⟩
            have hcf := HCR8.out.go hbf
            obtain ⟨w6, hw6⟩ : ∃ w6, w6 = ((((wf.setCell ⟨r, 0, none⟩ (.slice none 0 0)).setCell ⟨r, 1, none⟩ (.string ⟨#[]⟩)).setCell ⟨r, 2, none⟩ (.slice none 0 0)).setCell ⟨r, 3, none⟩ (.int .i64 86)) := ⟨_, rfl⟩
            obtain ⟨hst, h6⟩ := cr_fail (zx := zx) (se := se) hcf HRR.out HPC.out (by decide) hw6
            have HFIN := Lib.hid hst
            have hrb := hcf.br
            have q0 := cell_of hrb (j := 0) rfl
            have q1 := cell_of hrb (j := 1) rfl
            have q2 := cell_of hrb (j := 2) rfl
            have q3 := cell_of hrb (j := 3) rfl
            have rf0 := frozen_of_row wf _ 0 _ _ hrb
            have rf1 := frozen_of_row wf _ 1 _ _ hrb
            have rf2 := frozen_of_row wf _ 2 _ _ hrb
            have rf3 := frozen_of_row wf _ 3 _ _ hrb
            have t0 := cell_of h6 (j := 0) rfl
            have t1 := cell_of h6 (j := 1) rfl
            have t2 := cell_of h6 (j := 2) rfl
            have t3 := cell_of h6 (j := 3) rfl
            have HW6 := Lib.hid hw6
            clear hbf hcf hw6 hst h6 hrb
            go_wp2_with fail
            rw [← HW6.out]
            exact bodyPost_ret (v := .agg #[.slice none 0 0, .string ⟨#[]⟩, .slice none 0 0, .int .i64 86]) (by simp [results, Tryz.results165, go_sem, t0, t1, t2, t3]) rfl HFIN.out
          · have hl' : ¬ (200 : Int) ≤ (T.length : Int) := by omega
            have HPL0 : Hid (place T c = (0, pa)) := Lib.hid (by rw [HPL.out, if_neg (by decide), if_neg hl])
            have hcq := HCR8.out.bq
            have y2 := cell_of hcq (j := 2) rfl
            obtain ⟨w9, hw9⟩ : ∃ w9, w9 = w8.alloc (.cells #[.string (B pa), .string (B c.data), .int .i64 zx, .int .i64 zx, .int .i64 zx, .int .i64 0, .int .i64 0, .int .i64 0, .int .i64 0] 132) := ⟨_, rfl⟩
            obtain ⟨zb, ezb⟩ : ∃ x, x = w8.heap.size := ⟨_, rfl⟩
            have hb9 : Below w8.heap.size w8 w9 := by rw [hw9]; exact box_below w8 _
            have hz9 : w9.heap[zb]? = some (.cells #[.string (B pa), .string (B c.data), .int .i64 zx, .int .i64 zx, .int .i64 zx, .int .i64 0, .int .i64 0, .int .i64 0, .int .i64 0] 132 (0, 0)) := by rw [hw9, ezb]; exact new_block w8 _
            have HCR9 := Lib.hid (HCR8.out.go hb9)
            have HNQ : Hid (r ≠ zb ∧ cb ≠ zb ∧ w.heap.size ≤ zb) := Lib.hid (by have h1 := blk_lt HCR8.out.br; have h2 := blk_lt HCR8.out.bq; have h3 := HCR8.out.below.size; omega)
            have HZ9 := Lib.hid hz9
            have HW9 := Lib.hid hw9
            have EZB := Lib.hid ezb
            clear hl hcq hw9 ezb hb9 hz9
            go_upto_region 23 with fail
            rw [← HW9.out, ← EZB.out]
            clear y2 hl'
            obtain ⟨ep, hep⟩ : ∃ b, c.eph = b := ⟨_, rfl⟩
            have hcq := HCR9.out.bq
            have y4 := cell_of hcq (j := 4) rfl
            have HEP := Lib.hid hep
            replace y4 : w9.cell? ⟨cb, 4, none⟩ = some (.bool ep) := by rw [← hep]; exact y4
            clear hep hcq
            cases ep with
            | false =>
              obtain ⟨z, hz⟩ : ∃ z, made pa c.data zx se c.eph = z := ⟨_, rfl⟩
              have HMZ := Lib.hid hz
              have HZB : Hid (w9.heap[zb]? = some (.cells #[.string (B z.path), .string (B z.data), .int .i64 z.cr, .int .i64 z.ch, .int .i64 z.kd, .int .i64 z.ver, .int .i64 z.ks, .int .i64 z.own, .int .i64 z.nx] 132 (0, 0))) := Lib.hid (by rw [← hz, HEP.out]; exact HZ9.out)
              clear hz
              have HPU := Lib.hid (rput_any (c := cT) (HT.out.below HCR9.out.below) HN.out z)
              obtain ⟨X, hX⟩ : ∃ X, put T z = X := ⟨_, rfl⟩
              have HXX := Lib.hid hX
              have HKN := Lib.hid (made_kin HGG.out HPAR.out HGP.out (z := z) (by rw [← HMZ.out]; rfl) (by rw [← HMZ.out]; rfl))
              have HXL : Hid (X.length ≤ 1000000) := Lib.hid (by rw [← hX]; have := put_len_le T z; have := HGG.out.len; omega)
              rw [hX] at HPU HKN
              have hzb := HZB.out
              have z0 := cell_of hzb (j := 0) rfl
              have z1 := cell_of hzb (j := 1) rfl
              have z2 := cell_of hzb (j := 2) rfl
              have z3 := cell_of hzb (j := 3) rfl
              have z4 := cell_of hzb (j := 4) rfl
              have z5 := cell_of hzb (j := 5) rfl
              have z6 := cell_of hzb (j := 6) rfl
              have z7 := cell_of hzb (j := 7) rfl
              have z8 := cell_of hzb (j := 8) rfl
              clear hX hzb
              go_wp2_with fail
              refine HPU.out.mono ?_
              rintro e w10 ⟨v, rfl, hv, hb10⟩
              obtain ⟨A2, c2, rfl, -, -, -⟩ := own_form hv
              obtain ⟨w11, hw11⟩ : ∃ w11, w11 = w10.alloc (.cells #[.int .i64 0, .int .i64 1, .string (B pa)] 165) := ⟨_, rfl⟩
              have hb11 : Below w10.heap.size w10 w11 := by rw [hw11]; exact box_below w10 _
              have hg11 : w11.heap[w10.heap.size]? = some (.cells #[.int .i64 0, .int .i64 1, .string (B pa)] 165 (0, 0)) := by rw [hw11]; exact new_block w10 _
              have HKI := Lib.hid (rkid_any (cT := c2) (cE := 1) pa (Rd.of_own (own_below hv hb11) (fun _ _ => rfl) (by omega)) HXL.out (E := [⟨0, 1, pa⟩]) (Rd.of_own (base := 0) (own_new (n := 1) (sz := 3) hg11 (Nat.zero_le _) (by unfold maxLen; omega) rfl) (fun _ _ => rfl) (by omega)) (fun e => by cases e) (by omega) HPAL.out zx HKN.out.1 HKN.out.2 true)
              have HCR11 := Lib.hid ((HCR9.out.go hb10).go hb11)
              have HW11 := Lib.hid hw11
              clear hv hb10 hw11 hb11 hg11 z0 z1 z2 z3 z4 z5 z6 z7 z8
              go_wp2_with fail
              rw [← HW11.out]
              refine HKI.out.mono ?_
              rintro e w12 ⟨v1, v2, rfl, h1, h2, hb12⟩
              have hcr := HCR11.out.go hb12
              have hr12 := hcr.br
              obtain ⟨A1, c1, e1, -, -, -⟩ := own_form h1
              obtain ⟨A3, c3, e3, -, -, -⟩ := own_form h2
              obtain ⟨R, hR⟩ : ∃ R, kidS X pa [⟨0, 1, pa⟩] zx true = R := ⟨_, rfl⟩
              have hR2 : create T zx se c = R := by rw [← hR, ← HXX.out, ← HMZ.out]; exact create_at HPL0.out
              rw [hR] at h1 h2 e1 e3
              obtain ⟨n1, en1⟩ : ∃ n1, R.T.length = n1 := ⟨_, rfl⟩
              obtain ⟨n3, en3⟩ : ∃ n3, R.evs.length = n3 := ⟨_, rfl⟩
              obtain ⟨w6, hw6⟩ : ∃ w6, w6 = ((((w12.setCell ⟨r, 0, none⟩ (v1)).setCell ⟨r, 1, none⟩ (.string (B R.path))).setCell ⟨r, 2, none⟩ (v2)).setCell ⟨r, 3, none⟩ (.int .i64 R.e)) := ⟨_, rfl⟩
              obtain ⟨hst, h6⟩ := st_store hr12 HRR.out HCR11.out.below.size h1 h2 hcr.below hw6
              rw [en1] at e1
              rw [en3] at e3
              subst e1 e3
              have HFIN := Lib.hid hst
              have HR2 := Lib.hid hR2
              have HW6 := Lib.hid hw6
              have q0 := cell_of hr12 (j := 0) rfl
              have q1 := cell_of hr12 (j := 1) rfl
              have q2 := cell_of hr12 (j := 2) rfl
              have q3 := cell_of hr12 (j := 3) rfl
              have rf0 := frozen_of_row w12 _ 0 _ _ hr12
              have rf1 := frozen_of_row w12 _ 1 _ _ hr12
              have rf2 := frozen_of_row w12 _ 2 _ _ hr12
              have rf3 := frozen_of_row w12 _ 3 _ _ hr12
              have t0 := cell_of h6 (j := 0) rfl
              have t1 := cell_of h6 (j := 1) rfl
              have t2 := cell_of h6 (j := 2) rfl
              have t3 := cell_of h6 (j := 3) rfl
              obtain ⟨rp, hrp⟩ : ∃ x, R.path = x := ⟨_, rfl⟩
              obtain ⟨re, hre⟩ : ∃ x, R.e = x := ⟨_, rfl⟩
              rw [hrp, hre] at HFIN
              rw [hrp, hre] at HW6
              rw [hrp] at t1
              rw [hre] at t3
              rw [hR, hrp, hre]
              clear h1 h2 hb12 hr12 hcr hR2 en1 en3 hw6 hst h6 hR hrp hre
              go_wp2_with fail
              rw [← HW6.out]
              exact bodyPost_ret (v := .agg #[.slice A1 n1 c1, .string (B rp), .slice A3 n3 c3, .int .i64 re]) (by simp [results, Tryz.results165, go_sem, t0, t1, t2, t3]) rfl (by rw [HR2.out]; exact HFIN.out)
            | true =>
              obtain ⟨z, hz⟩ : ∃ z, made pa c.data zx se c.eph = z := ⟨_, rfl⟩
              have HMZ := Lib.hid hz
              have hz9 := HZ9.out
              have g7 := frozen_of_row w9 _ 7 _ _ hz9
              have c7 := cell_of hz9 (j := 7) rfl
              obtain ⟨w9s, hw9s⟩ : ∃ w', w' = w9.setCell ⟨zb, 7, none⟩ (.int .i64 se) := ⟨_, rfl⟩
              have hwr : Wr zb w9 w9s := by rw [hw9s]; exact (Wr.refl zb w9).set 7 _
              have HZB : Hid (w9s.heap[zb]? = some (.cells #[.string (B z.path), .string (B z.data), .int .i64 z.cr, .int .i64 z.ch, .int .i64 z.kd, .int .i64 z.ver, .int .i64 z.ks, .int .i64 z.own, .int .i64 z.nx] 132 (0, 0))) := Lib.hid (by rw [← hz, HEP.out, hw9s]; exact heap_setCell_same w9 zb 7 _ 132 _ hz9)
              have HCR9s : Hid (Cr w cb r c w9s) := Lib.hid ⟨HCR9.out.below.trans (hwr.below.mono HNQ.out.2.2), (hwr.rest cb HNQ.out.2.1).trans HCR9.out.bq, (hwr.rest r HNQ.out.1).trans HCR9.out.br⟩
              have HW9S := Lib.hid hw9s
              clear hz hz9 hw9s hwr
              go_upto_region 25 with fail
              rw [← HW9S.out]
              clear g7 c7 y4
              have HPU := Lib.hid (rput_any (c := cT) (HT.out.below HCR9s.out.below) HN.out z)
              obtain ⟨X, hX⟩ : ∃ X, put T z = X := ⟨_, rfl⟩
              have HXX := Lib.hid hX
              have HKN := Lib.hid (made_kin HGG.out HPAR.out HGP.out (z := z) (by rw [← HMZ.out]; rfl) (by rw [← HMZ.out]; rfl))
              have HXL : Hid (X.length ≤ 1000000) := Lib.hid (by rw [← hX]; have := put_len_le T z; have := HGG.out.len; omega)
              rw [hX] at HPU HKN
              have hzb := HZB.out
              have z0 := cell_of hzb (j := 0) rfl
              have z1 := cell_of hzb (j := 1) rfl
              have z2 := cell_of hzb (j := 2) rfl
              have z3 := cell_of hzb (j := 3) rfl
              have z4 := cell_of hzb (j := 4) rfl
              have z5 := cell_of hzb (j := 5) rfl
              have z6 := cell_of hzb (j := 6) rfl
              have z7 := cell_of hzb (j := 7) rfl
              have z8 := cell_of hzb (j := 8) rfl
              clear hX hzb
              go_wp2_with fail
              refine HPU.out.mono ?_
              rintro e w10 ⟨v, rfl, hv, hb10⟩
              obtain ⟨A2, c2, rfl, -, -, -⟩ := own_form hv
              obtain ⟨w11, hw11⟩ : ∃ w11, w11 = w10.alloc (.cells #[.int .i64 0, .int .i64 1, .string (B pa)] 165) := ⟨_, rfl⟩
              have hb11 : Below w10.heap.size w10 w11 := by rw [hw11]; exact box_below w10 _
              have hg11 : w11.heap[w10.heap.size]? = some (.cells #[.int .i64 0, .int .i64 1, .string (B pa)] 165 (0, 0)) := by rw [hw11]; exact new_block w10 _
              have HKI := Lib.hid (rkid_any (cT := c2) (cE := 1) pa (Rd.of_own (own_below hv hb11) (fun _ _ => rfl) (by omega)) HXL.out (E := [⟨0, 1, pa⟩]) (Rd.of_own (base := 0) (own_new (n := 1) (sz := 3) hg11 (Nat.zero_le _) (by unfold maxLen; omega) rfl) (fun _ _ => rfl) (by omega)) (fun e => by cases e) (by omega) HPAL.out zx HKN.out.1 HKN.out.2 true)
              have HCR11 := Lib.hid ((HCR9s.out.go hb10).go hb11)
              have HW11 := Lib.hid hw11
              clear hv hb10 hw11 hb11 hg11 z0 z1 z2 z3 z4 z5 z6 z7 z8
              go_wp2_with fail
              rw [← HW11.out]
              refine HKI.out.mono ?_
              rintro e w12 ⟨v1, v2, rfl, h1, h2, hb12⟩
              have hcr := HCR11.out.go hb12
              have hr12 := hcr.br
              obtain ⟨A1, c1, e1, -, -, -⟩ := own_form h1
              obtain ⟨A3, c3, e3, -, -, -⟩ := own_form h2
              obtain ⟨R, hR⟩ : ∃ R, kidS X pa [⟨0, 1, pa⟩] zx true = R := ⟨_, rfl⟩
              have hR2 : create T zx se c = R := by rw [← hR, ← HXX.out, ← HMZ.out]; exact create_at HPL0.out
              rw [hR] at h1 h2 e1 e3
              obtain ⟨n1, en1⟩ : ∃ n1, R.T.length = n1 := ⟨_, rfl⟩
              obtain ⟨n3, en3⟩ : ∃ n3, R.evs.length = n3 := ⟨_, rfl⟩
              obtain ⟨w6, hw6⟩ : ∃ w6, w6 = ((((w12.setCell ⟨r, 0, none⟩ (v1)).setCell ⟨r, 1, none⟩ (.string (B R.path))).setCell ⟨r, 2, none⟩ (v2)).setCell ⟨r, 3, none⟩ (.int .i64 R.e)) := ⟨_, rfl⟩
              obtain ⟨hst, h6⟩ := st_store hr12 HRR.out HCR11.out.below.size h1 h2 hcr.below hw6
              rw [en1] at e1
              rw [en3] at e3
              subst e1 e3
              have HFIN := Lib.hid hst
              have HR2 := Lib.hid hR2
              have HW6 := Lib.hid hw6
              have q0 := cell_of hr12 (j := 0) rfl
              have q1 := cell_of hr12 (j := 1) rfl
              have q2 := cell_of hr12 (j := 2) rfl
              have q3 := cell_of hr12 (j := 3) rfl
              have rf0 := frozen_of_row w12 _ 0 _ _ hr12
              have rf1 := frozen_of_row w12 _ 1 _ _ hr12
              have rf2 := frozen_of_row w12 _ 2 _ _ hr12
              have rf3 := frozen_of_row w12 _ 3 _ _ hr12
              have t0 := cell_of h6 (j := 0) rfl
              have t1 := cell_of h6 (j := 1) rfl
              have t2 := cell_of h6 (j := 2) rfl
              have t3 := cell_of h6 (j := 3) rfl
              obtain ⟨rp, hrp⟩ : ∃ x, R.path = x := ⟨_, rfl⟩
              obtain ⟨re, hre⟩ : ∃ x, R.e = x := ⟨_, rfl⟩
              rw [hrp, hre] at HFIN
              rw [hrp, hre] at HW6
              rw [hrp] at t1
              rw [hre] at t3
              rw [hR, hrp, hre]
              clear h1 h2 hb12 hr12 hcr hR2 en1 en3 hw6 hst h6 hR hrp hre
              go_wp2_with fail
              rw [← HW6.out]
              exact bodyPost_ret (v := .agg #[.slice A1 n1 c1, .string (B rp), .slice A3 n3 c3, .int .i64 re]) (by simp [results, Tryz.results165, go_sem, t0, t1, t2, t3]) rfl (by rw [HR2.out]; exact HFIN.out)
      | true =>
        have HNU := Lib.hid (rnumber_any (B c.path) p.nx w5 (by rw [B_size]; have := HLN.out; omega))
        simp only [LB] at HNU
        obtain ⟨nk, hnk⟩ : ∃ b, numOk c.path p.nx = b := ⟨_, rfl⟩
        obtain ⟨pa, hpa⟩ : ∃ x, number c.path p.nx = x := ⟨_, rfl⟩
        rw [hnk, hpa] at HNU
        rw [hnk, hpa] at HPA
        have HNK := Lib.hid hnk
        have HPAE := Lib.hid hpa
        have hpb := HP5.out
        have p8 := cell_of hpb (j := 8) rfl
        clear hnk hpa hpb
        go_wp2_with fail
        refine HNU.out.mono ?_
        rintro e w5n ⟨rfl, hb5n⟩
        have HCR5n := Lib.hid (HCR5.out.go hb5n)
        clear hb5n p7 p8 y1 y5 tow
        cases nk with
        | false =>
          have HFA := Lib.hid (rfails_any 70 w5n)
          have HPC : Hid ((place T c).1 = 70) := Lib.hid (by rw [HPA.out]; rfl)
          go_wp2_with fail
          refine HFA.out.mono ?_
          rintro e wf ⟨rfl, hbf⟩
          have hcf := HCR5n.out.go hbf
          obtain ⟨w6, hw6⟩ : ∃ w6, w6 = ((((wf.setCell ⟨r, 0, none⟩ (.slice none 0 0)).setCell ⟨r, 1, none⟩ (.string ⟨#[]⟩)).setCell ⟨r, 2, none⟩ (.slice none 0 0)).setCell ⟨r, 3, none⟩ (.int .i64 70)) := ⟨_, rfl⟩
          obtain ⟨hst, h6⟩ := cr_fail (zx := zx) (se := se) hcf HRR.out HPC.out (by decide) hw6
          have HFIN := Lib.hid hst
          have hrb := hcf.br
          have q0 := cell_of hrb (j := 0) rfl
          have q1 := cell_of hrb (j := 1) rfl
          have q2 := cell_of hrb (j := 2) rfl
          have q3 := cell_of hrb (j := 3) rfl
          have rf0 := frozen_of_row wf _ 0 _ _ hrb
          have rf1 := frozen_of_row wf _ 1 _ _ hrb
          have rf2 := frozen_of_row wf _ 2 _ _ hrb
          have rf3 := frozen_of_row wf _ 3 _ _ hrb
          have t0 := cell_of h6 (j := 0) rfl
          have t1 := cell_of h6 (j := 1) rfl
          have t2 := cell_of h6 (j := 2) rfl
          have t3 := cell_of h6 (j := 3) rfl
          have HW6 := Lib.hid hw6
          clear hbf hcf hw6 hst h6 hrb
          go_wp2_with fail
          rw [← HW6.out]
          exact bodyPost_ret (v := .agg #[.slice none 0 0, .string ⟨#[]⟩, .slice none 0 0, .int .i64 70]) (by simp [results, Tryz.results165, go_sem, t0, t1, t2, t3]) rfl HFIN.out
        | true =>
          have HPL : Hid (place T c = if (get T pa).isSome then (81, []) else if 200 ≤ T.length then (86, []) else (0, pa)) := Lib.hid (by rw [HPA.out]; rfl)
          have HPAR : Hid (parent pa = P) := Lib.hid (by rw [← HPAE.out, (number_parent HNK.out).2]; exact HPP.out)
          have HPAL : Hid (pa.length ≤ 2097152) := Lib.hid (by have h := len_le (numOk_valid HNK.out); rw [HPAE.out] at h; omega)
          have HG2 := Lib.hid (rget_any (c := cT) (HT.out.below HCR5n.out.below) HN.out pa)
          unfold RgPost ndv at HG2
          obtain ⟨pz2, hpz2⟩ : ∃ x, (get T pa).getD nd0 = x := ⟨_, rfl⟩
          obtain ⟨th, hth⟩ : ∃ b, (get T pa).isSome = b := ⟨_, rfl⟩
          rw [hpz2, hth] at HG2
          rw [hth] at HPL
          clear hpz2 hth
          go_wp2_with fail
          refine HG2.out.mono ?_
          rintro e w7 ⟨rfl, hb7⟩
          obtain ⟨w8, hw8⟩ : ∃ w8, w8 = w7.alloc (.cells #[.string (B pz2.path), .string (B pz2.data), .int .i64 pz2.cr, .int .i64 pz2.ch, .int .i64 pz2.kd, .int .i64 pz2.ver, .int .i64 pz2.ks, .int .i64 pz2.own, .int .i64 pz2.nx] 132) := ⟨_, rfl⟩
          have hb8 : Below w7.heap.size w7 w8 := by rw [hw8]; exact box_below w7 _
          have HCR8 := Lib.hid ((HCR5n.out.go hb7).go hb8)
          have HW8 := Lib.hid hw8
          clear hb7 hb8 hw8
          go_upto_region 18 with fail
          rw [← HW8.out]
          cases th with
          | true =>
            have HFA := Lib.hid (rfails_any 81 w8)
            have HPC : Hid ((place T c).1 = 81) := Lib.hid (by rw [HPL.out]; rfl)
            go_wp2_with fail
            refine HFA.out.mono ?_
            rintro e wf ⟨rfl, hbf⟩
            have hcf := HCR8.out.go hbf
            obtain ⟨w6, hw6⟩ : ∃ w6, w6 = ((((wf.setCell ⟨r, 0, none⟩ (.slice none 0 0)).setCell ⟨r, 1, none⟩ (.string ⟨#[]⟩)).setCell ⟨r, 2, none⟩ (.slice none 0 0)).setCell ⟨r, 3, none⟩ (.int .i64 81)) := ⟨_, rfl⟩
            obtain ⟨hst, h6⟩ := cr_fail (zx := zx) (se := se) hcf HRR.out HPC.out (by decide) hw6
            have HFIN := Lib.hid hst
            have hrb := hcf.br
            have q0 := cell_of hrb (j := 0) rfl
            have q1 := cell_of hrb (j := 1) rfl
            have q2 := cell_of hrb (j := 2) rfl
            have q3 := cell_of hrb (j := 3) rfl
            have rf0 := frozen_of_row wf _ 0 _ _ hrb
            have rf1 := frozen_of_row wf _ 1 _ _ hrb
            have rf2 := frozen_of_row wf _ 2 _ _ hrb
            have rf3 := frozen_of_row wf _ 3 _ _ hrb
            have t0 := cell_of h6 (j := 0) rfl
            have t1 := cell_of h6 (j := 1) rfl
            have t2 := cell_of h6 (j := 2) rfl
            have t3 := cell_of h6 (j := 3) rfl
            have HW6 := Lib.hid hw6
            clear hbf hcf hw6 hst h6 hrb
            go_wp2_with fail
            rw [← HW6.out]
            exact bodyPost_ret (v := .agg #[.slice none 0 0, .string ⟨#[]⟩, .slice none 0 0, .int .i64 81]) (by simp [results, Tryz.results165, go_sem, t0, t1, t2, t3]) rfl HFIN.out
          | false =>
            by_cases hl : 200 ≤ T.length
            · have hl' : (200 : Int) ≤ (T.length : Int) := by omega
              have HLL := Lib.hid hl
              clear hl
              have HFA := Lib.hid (rfails_any 86 w8)
              have HPC : Hid ((place T c).1 = 86) := Lib.hid (by rw [HPL.out, if_neg (by decide), if_pos HLL.out])
              go_wp2_with fail
              refine HFA.out.mono ?_
              rintro e wf ⟨rfl, hbf⟩
              have hcf := HCR8.out.go hbf
              obtain ⟨w6, hw6⟩ : ∃ w6, w6 = ((((wf.setCell ⟨r, 0, none⟩ (.slice none 0 0)).setCell ⟨r, 1, none⟩ (.string ⟨#[]⟩)).setCell ⟨r, 2, none⟩ (.slice none 0 0)).setCell ⟨r, 3, none⟩ (.int .i64 86)) := ⟨_, rfl⟩
              obtain ⟨hst, h6⟩ := cr_fail (zx := zx) (se := se) hcf HRR.out HPC.out (by decide) hw6
              have HFIN := Lib.hid hst
              have hrb := hcf.br
              have q0 := cell_of hrb (j := 0) rfl
              have q1 := cell_of hrb (j := 1) rfl
              have q2 := cell_of hrb (j := 2) rfl
              have q3 := cell_of hrb (j := 3) rfl
              have rf0 := frozen_of_row wf _ 0 _ _ hrb
              have rf1 := frozen_of_row wf _ 1 _ _ hrb
              have rf2 := frozen_of_row wf _ 2 _ _ hrb
              have rf3 := frozen_of_row wf _ 3 _ _ hrb
              have t0 := cell_of h6 (j := 0) rfl
              have t1 := cell_of h6 (j := 1) rfl
              have t2 := cell_of h6 (j := 2) rfl
              have t3 := cell_of h6 (j := 3) rfl
              have HW6 := Lib.hid hw6
              clear hbf hcf hw6 hst h6 hrb
              go_wp2_with fail
              rw [← HW6.out]
              exact bodyPost_ret (v := .agg #[.slice none 0 0, .string ⟨#[]⟩, .slice none 0 0, .int .i64 86]) (by simp [results, Tryz.results165, go_sem, t0, t1, t2, t3]) rfl HFIN.out
            · have hl' : ¬ (200 : Int) ≤ (T.length : Int) := by omega
              have HPL0 : Hid (place T c = (0, pa)) := Lib.hid (by rw [HPL.out, if_neg (by decide), if_neg hl])
              have hcq := HCR8.out.bq
              have y2 := cell_of hcq (j := 2) rfl
              obtain ⟨w9, hw9⟩ : ∃ w9, w9 = w8.alloc (.cells #[.string (B pa), .string (B c.data), .int .i64 zx, .int .i64 zx, .int .i64 zx, .int .i64 0, .int .i64 0, .int .i64 0, .int .i64 0] 132) := ⟨_, rfl⟩
              obtain ⟨zb, ezb⟩ : ∃ x, x = w8.heap.size := ⟨_, rfl⟩
              have hb9 : Below w8.heap.size w8 w9 := by rw [hw9]; exact box_below w8 _
              have hz9 : w9.heap[zb]? = some (.cells #[.string (B pa), .string (B c.data), .int .i64 zx, .int .i64 zx, .int .i64 zx, .int .i64 0, .int .i64 0, .int .i64 0, .int .i64 0] 132 (0, 0)) := by rw [hw9, ezb]; exact new_block w8 _
              have HCR9 := Lib.hid (HCR8.out.go hb9)
              have HNQ : Hid (r ≠ zb ∧ cb ≠ zb ∧ w.heap.size ≤ zb) := Lib.hid (by have h1 := blk_lt HCR8.out.br; have h2 := blk_lt HCR8.out.bq; have h3 := HCR8.out.below.size; omega)
              have HZ9 := Lib.hid hz9
              have HW9 := Lib.hid hw9
              have EZB := Lib.hid ezb
              clear hl hcq hw9 ezb hb9 hz9
              go_upto_region 23 with fail
              rw [← HW9.out, ← EZB.out]
              clear y2 hl'
              obtain ⟨ep, hep⟩ : ∃ b, c.eph = b := ⟨_, rfl⟩
              have hcq := HCR9.out.bq
              have y4 := cell_of hcq (j := 4) rfl
              have HEP := Lib.hid hep
              replace y4 : w9.cell? ⟨cb, 4, none⟩ = some (.bool ep) := by rw [← hep]; exact y4
              clear hep hcq
              cases ep with
              | false =>
                obtain ⟨z, hz⟩ : ∃ z, made pa c.data zx se c.eph = z := ⟨_, rfl⟩
                have HMZ := Lib.hid hz
                have HZB : Hid (w9.heap[zb]? = some (.cells #[.string (B z.path), .string (B z.data), .int .i64 z.cr, .int .i64 z.ch, .int .i64 z.kd, .int .i64 z.ver, .int .i64 z.ks, .int .i64 z.own, .int .i64 z.nx] 132 (0, 0))) := Lib.hid (by rw [← hz, HEP.out]; exact HZ9.out)
                clear hz
                have HPU := Lib.hid (rput_any (c := cT) (HT.out.below HCR9.out.below) HN.out z)
                obtain ⟨X, hX⟩ : ∃ X, put T z = X := ⟨_, rfl⟩
                have HXX := Lib.hid hX
                have HKN := Lib.hid (made_kin HGG.out HPAR.out HGP.out (z := z) (by rw [← HMZ.out]; rfl) (by rw [← HMZ.out]; rfl))
                have HXL : Hid (X.length ≤ 1000000) := Lib.hid (by rw [← hX]; have := put_len_le T z; have := HGG.out.len; omega)
                rw [hX] at HPU HKN
                have hzb := HZB.out
                have z0 := cell_of hzb (j := 0) rfl
                have z1 := cell_of hzb (j := 1) rfl
                have z2 := cell_of hzb (j := 2) rfl
                have z3 := cell_of hzb (j := 3) rfl
                have z4 := cell_of hzb (j := 4) rfl
                have z5 := cell_of hzb (j := 5) rfl
                have z6 := cell_of hzb (j := 6) rfl
                have z7 := cell_of hzb (j := 7) rfl
                have z8 := cell_of hzb (j := 8) rfl
                clear hX hzb
                go_wp2_with fail
                refine HPU.out.mono ?_
                rintro e w10 ⟨v, rfl, hv, hb10⟩
                obtain ⟨A2, c2, rfl, -, -, -⟩ := own_form hv
                obtain ⟨w11, hw11⟩ : ∃ w11, w11 = w10.alloc (.cells #[.int .i64 0, .int .i64 1, .string (B pa)] 165) := ⟨_, rfl⟩
                have hb11 : Below w10.heap.size w10 w11 := by rw [hw11]; exact box_below w10 _
                have hg11 : w11.heap[w10.heap.size]? = some (.cells #[.int .i64 0, .int .i64 1, .string (B pa)] 165 (0, 0)) := by rw [hw11]; exact new_block w10 _
                have HKI := Lib.hid (rkid_any (cT := c2) (cE := 1) pa (Rd.of_own (own_below hv hb11) (fun _ _ => rfl) (by omega)) HXL.out (E := [⟨0, 1, pa⟩]) (Rd.of_own (base := 0) (own_new (n := 1) (sz := 3) hg11 (Nat.zero_le _) (by unfold maxLen; omega) rfl) (fun _ _ => rfl) (by omega)) (fun e => by cases e) (by omega) HPAL.out zx HKN.out.1 HKN.out.2 true)
                have HCR11 := Lib.hid ((HCR9.out.go hb10).go hb11)
                have HW11 := Lib.hid hw11
                clear hv hb10 hw11 hb11 hg11 z0 z1 z2 z3 z4 z5 z6 z7 z8
                go_wp2_with fail
                rw [← HW11.out]
                refine HKI.out.mono ?_
                rintro e w12 ⟨v1, v2, rfl, h1, h2, hb12⟩
                have hcr := HCR11.out.go hb12
                have hr12 := hcr.br
                obtain ⟨A1, c1, e1, -, -, -⟩ := own_form h1
                obtain ⟨A3, c3, e3, -, -, -⟩ := own_form h2
                obtain ⟨R, hR⟩ : ∃ R, kidS X pa [⟨0, 1, pa⟩] zx true = R := ⟨_, rfl⟩
                have hR2 : create T zx se c = R := by rw [← hR, ← HXX.out, ← HMZ.out]; exact create_at HPL0.out
                rw [hR] at h1 h2 e1 e3
                obtain ⟨n1, en1⟩ : ∃ n1, R.T.length = n1 := ⟨_, rfl⟩
                obtain ⟨n3, en3⟩ : ∃ n3, R.evs.length = n3 := ⟨_, rfl⟩
                obtain ⟨w6, hw6⟩ : ∃ w6, w6 = ((((w12.setCell ⟨r, 0, none⟩ (v1)).setCell ⟨r, 1, none⟩ (.string (B R.path))).setCell ⟨r, 2, none⟩ (v2)).setCell ⟨r, 3, none⟩ (.int .i64 R.e)) := ⟨_, rfl⟩
                obtain ⟨hst, h6⟩ := st_store hr12 HRR.out HCR11.out.below.size h1 h2 hcr.below hw6
                rw [en1] at e1
                rw [en3] at e3
                subst e1 e3
                have HFIN := Lib.hid hst
                have HR2 := Lib.hid hR2
                have HW6 := Lib.hid hw6
                have q0 := cell_of hr12 (j := 0) rfl
                have q1 := cell_of hr12 (j := 1) rfl
                have q2 := cell_of hr12 (j := 2) rfl
                have q3 := cell_of hr12 (j := 3) rfl
                have rf0 := frozen_of_row w12 _ 0 _ _ hr12
                have rf1 := frozen_of_row w12 _ 1 _ _ hr12
                have rf2 := frozen_of_row w12 _ 2 _ _ hr12
                have rf3 := frozen_of_row w12 _ 3 _ _ hr12
                have t0 := cell_of h6 (j := 0) rfl
                have t1 := cell_of h6 (j := 1) rfl
                have t2 := cell_of h6 (j := 2) rfl
                have t3 := cell_of h6 (j := 3) rfl
                obtain ⟨rp, hrp⟩ : ∃ x, R.path = x := ⟨_, rfl⟩
                obtain ⟨re, hre⟩ : ∃ x, R.e = x := ⟨_, rfl⟩
                rw [hrp, hre] at HFIN
                rw [hrp, hre] at HW6
                rw [hrp] at t1
                rw [hre] at t3
                rw [hR, hrp, hre]
                clear h1 h2 hb12 hr12 hcr hR2 en1 en3 hw6 hst h6 hR hrp hre
                go_wp2_with fail
                rw [← HW6.out]
                exact bodyPost_ret (v := .agg #[.slice A1 n1 c1, .string (B rp), .slice A3 n3 c3, .int .i64 re]) (by simp [results, Tryz.results165, go_sem, t0, t1, t2, t3]) rfl (by rw [HR2.out]; exact HFIN.out)
              | true =>
                obtain ⟨z, hz⟩ : ∃ z, made pa c.data zx se c.eph = z := ⟨_, rfl⟩
                have HMZ := Lib.hid hz
                have hz9 := HZ9.out
                have g7 := frozen_of_row w9 _ 7 _ _ hz9
                have c7 := cell_of hz9 (j := 7) rfl
                obtain ⟨w9s, hw9s⟩ : ∃ w', w' = w9.setCell ⟨zb, 7, none⟩ (.int .i64 se) := ⟨_, rfl⟩
                have hwr : Wr zb w9 w9s := by rw [hw9s]; exact (Wr.refl zb w9).set 7 _
                have HZB : Hid (w9s.heap[zb]? = some (.cells #[.string (B z.path), .string (B z.data), .int .i64 z.cr, .int .i64 z.ch, .int .i64 z.kd, .int .i64 z.ver, .int .i64 z.ks, .int .i64 z.own, .int .i64 z.nx] 132 (0, 0))) := Lib.hid (by rw [← hz, HEP.out, hw9s]; exact heap_setCell_same w9 zb 7 _ 132 _ hz9)
                have HCR9s : Hid (Cr w cb r c w9s) := Lib.hid ⟨HCR9.out.below.trans (hwr.below.mono HNQ.out.2.2), (hwr.rest cb HNQ.out.2.1).trans HCR9.out.bq, (hwr.rest r HNQ.out.1).trans HCR9.out.br⟩
                have HW9S := Lib.hid hw9s
                clear hz hz9 hw9s hwr
                go_upto_region 25 with fail
                rw [← HW9S.out]
                clear g7 c7 y4
                have HPU := Lib.hid (rput_any (c := cT) (HT.out.below HCR9s.out.below) HN.out z)
                obtain ⟨X, hX⟩ : ∃ X, put T z = X := ⟨_, rfl⟩
                have HXX := Lib.hid hX
                have HKN := Lib.hid (made_kin HGG.out HPAR.out HGP.out (z := z) (by rw [← HMZ.out]; rfl) (by rw [← HMZ.out]; rfl))
                have HXL : Hid (X.length ≤ 1000000) := Lib.hid (by rw [← hX]; have := put_len_le T z; have := HGG.out.len; omega)
                rw [hX] at HPU HKN
                have hzb := HZB.out
                have z0 := cell_of hzb (j := 0) rfl
                have z1 := cell_of hzb (j := 1) rfl
                have z2 := cell_of hzb (j := 2) rfl
                have z3 := cell_of hzb (j := 3) rfl
                have z4 := cell_of hzb (j := 4) rfl
                have z5 := cell_of hzb (j := 5) rfl
                have z6 := cell_of hzb (j := 6) rfl
                have z7 := cell_of hzb (j := 7) rfl
                have z8 := cell_of hzb (j := 8) rfl
                clear hX hzb
                go_wp2_with fail
                refine HPU.out.mono ?_
                rintro e w10 ⟨v, rfl, hv, hb10⟩
                obtain ⟨A2, c2, rfl, -, -, -⟩ := own_form hv
                obtain ⟨w11, hw11⟩ : ∃ w11, w11 = w10.alloc (.cells #[.int .i64 0, .int .i64 1, .string (B pa)] 165) := ⟨_, rfl⟩
                have hb11 : Below w10.heap.size w10 w11 := by rw [hw11]; exact box_below w10 _
                have hg11 : w11.heap[w10.heap.size]? = some (.cells #[.int .i64 0, .int .i64 1, .string (B pa)] 165 (0, 0)) := by rw [hw11]; exact new_block w10 _
                have HKI := Lib.hid (rkid_any (cT := c2) (cE := 1) pa (Rd.of_own (own_below hv hb11) (fun _ _ => rfl) (by omega)) HXL.out (E := [⟨0, 1, pa⟩]) (Rd.of_own (base := 0) (own_new (n := 1) (sz := 3) hg11 (Nat.zero_le _) (by unfold maxLen; omega) rfl) (fun _ _ => rfl) (by omega)) (fun e => by cases e) (by omega) HPAL.out zx HKN.out.1 HKN.out.2 true)
                have HCR11 := Lib.hid ((HCR9s.out.go hb10).go hb11)
                have HW11 := Lib.hid hw11
                clear hv hb10 hw11 hb11 hg11 z0 z1 z2 z3 z4 z5 z6 z7 z8
                go_wp2_with fail
                rw [← HW11.out]
                refine HKI.out.mono ?_
                rintro e w12 ⟨v1, v2, rfl, h1, h2, hb12⟩
                have hcr := HCR11.out.go hb12
                have hr12 := hcr.br
                obtain ⟨A1, c1, e1, -, -, -⟩ := own_form h1
                obtain ⟨A3, c3, e3, -, -, -⟩ := own_form h2
                obtain ⟨R, hR⟩ : ∃ R, kidS X pa [⟨0, 1, pa⟩] zx true = R := ⟨_, rfl⟩
                have hR2 : create T zx se c = R := by rw [← hR, ← HXX.out, ← HMZ.out]; exact create_at HPL0.out
                rw [hR] at h1 h2 e1 e3
                obtain ⟨n1, en1⟩ : ∃ n1, R.T.length = n1 := ⟨_, rfl⟩
                obtain ⟨n3, en3⟩ : ∃ n3, R.evs.length = n3 := ⟨_, rfl⟩
                obtain ⟨w6, hw6⟩ : ∃ w6, w6 = ((((w12.setCell ⟨r, 0, none⟩ (v1)).setCell ⟨r, 1, none⟩ (.string (B R.path))).setCell ⟨r, 2, none⟩ (v2)).setCell ⟨r, 3, none⟩ (.int .i64 R.e)) := ⟨_, rfl⟩
                obtain ⟨hst, h6⟩ := st_store hr12 HRR.out HCR11.out.below.size h1 h2 hcr.below hw6
                rw [en1] at e1
                rw [en3] at e3
                subst e1 e3
                have HFIN := Lib.hid hst
                have HR2 := Lib.hid hR2
                have HW6 := Lib.hid hw6
                have q0 := cell_of hr12 (j := 0) rfl
                have q1 := cell_of hr12 (j := 1) rfl
                have q2 := cell_of hr12 (j := 2) rfl
                have q3 := cell_of hr12 (j := 3) rfl
                have rf0 := frozen_of_row w12 _ 0 _ _ hr12
                have rf1 := frozen_of_row w12 _ 1 _ _ hr12
                have rf2 := frozen_of_row w12 _ 2 _ _ hr12
                have rf3 := frozen_of_row w12 _ 3 _ _ hr12
                have t0 := cell_of h6 (j := 0) rfl
                have t1 := cell_of h6 (j := 1) rfl
                have t2 := cell_of h6 (j := 2) rfl
                have t3 := cell_of h6 (j := 3) rfl
                obtain ⟨rp, hrp⟩ : ∃ x, R.path = x := ⟨_, rfl⟩
                obtain ⟨re, hre⟩ : ∃ x, R.e = x := ⟨_, rfl⟩
                rw [hrp, hre] at HFIN
                rw [hrp, hre] at HW6
                rw [hrp] at t1
                rw [hre] at t3
                rw [hR, hrp, hre]
                clear h1 h2 hb12 hr12 hcr hR2 en1 en3 hw6 hst h6 hR hrp hre
                go_wp2_with fail
                rw [← HW6.out]
                exact bodyPost_ret (v := .agg #[.slice A1 n1 c1, .string (B rp), .slice A3 n3 c3, .int .i64 re]) (by simp [results, Tryz.results165, go_sem, t0, t1, t2, t3]) rfl (by rw [HR2.out]; exact HFIN.out)
    · have tow : (p.own != 0) = true := by simpa using ho
      have HOO := Lib.hid ho
      clear ho
      have HFA := Lib.hid (rfails_any 85 w5)
      have HPC : Hid ((place T c).1 = 85) := Lib.hid (by unfold place; rw [if_neg HD.out, if_neg H47.out, HPP.out, HGP.out]; simp only; rw [if_pos HOO.out])
      go_wp2_with fail
      refine HFA.out.mono ?_
      rintro e wf ⟨rfl, hbf⟩
      have hcf := HCR5.out.go hbf
      obtain ⟨w6, hw6⟩ : ∃ w6, w6 = ((((wf.setCell ⟨r, 0, none⟩ (.slice none 0 0)).setCell ⟨r, 1, none⟩ (.string ⟨#[]⟩)).setCell ⟨r, 2, none⟩ (.slice none 0 0)).setCell ⟨r, 3, none⟩ (.int .i64 85)) := ⟨_, rfl⟩
      obtain ⟨hst, h6⟩ := cr_fail (zx := zx) (se := se) hcf HRR.out HPC.out (by decide) hw6
      have HFIN := Lib.hid hst
      have hrb := hcf.br
      have q0 := cell_of hrb (j := 0) rfl
      have q1 := cell_of hrb (j := 1) rfl
      have q2 := cell_of hrb (j := 2) rfl
      have q3 := cell_of hrb (j := 3) rfl
      have rf0 := frozen_of_row wf _ 0 _ _ hrb
      have rf1 := frozen_of_row wf _ 1 _ _ hrb
      have rf2 := frozen_of_row wf _ 2 _ _ hrb
      have rf3 := frozen_of_row wf _ 3 _ _ hrb
      have t0 := cell_of h6 (j := 0) rfl
      have t1 := cell_of h6 (j := 1) rfl
      have t2 := cell_of h6 (j := 2) rfl
      have t3 := cell_of h6 (j := 3) rfl
      have HW6 := Lib.hid hw6
      clear hbf hcf hw6 hst h6 hrb
      go_wp2_with fail
      rw [← HW6.out]
      exact bodyPost_ret (v := .agg #[.slice none 0 0, .string ⟨#[]⟩, .slice none 0 0, .int .i64 85]) (by simp [results, Tryz.results165, go_sem, t0, t1, t2, t3]) rfl HFIN.out
end Go.Proofs.YtflgemlhocjipaaGreatDoor
namespace Go.Proofs.YtflgemlhocjipaaGreatDoor
set_option maxRecDepth 100000
open Go.ChangeShapes Go.WideShapes Go.ChangeAt Go.RowKit Go.Proofs.Zn Go.Proofs.Zt

/-- A list of znodes: the one that came in, or one of the call's own. -/
def TRow (Q : Option Addr → Prop) (w wr : World) (v : Value) (T : Tr) : Prop := (∃ A c, v = .slice A T.length c ∧ Rd ncell 9 w A T.length T ∧ Q A) ∨ wr.ownsRow w.heap.size 132 9 v T.length (ncells T)
theorem TRow.rd {Q : Option Addr → Prop} {w wr : World} {v : Value} {T : Tr} (h : TRow Q w wr v T) (hb : Below w.heap.size w wr) : ∃ A c, v = .slice A T.length c ∧ Rd ncell 9 wr A T.length T := by
  rcases h with ⟨A, c, rfl, hr, -⟩ | h
  · exact ⟨A, c, rfl, hr.below hb⟩
  · exact TrV.of_own h
theorem TRow.below {Q : Option Addr → Prop} {w wr w' : World} {v : Value} {T : Tr} (h : TRow Q w wr v T) (hb : Below wr.heap.size wr w') : TRow Q w w' v T := by
  rcases h with h | h
  · exact .inl h
  · exact .inr (own_below h hb)
theorem TRow.gb {Q : Option Addr → Prop} {w wr w' : World} {v u : Value} {T : Tr} {base e sz n : Nat} {xs : List Value} (h : TRow Q w wr v T) (ho : wr.ownsRow base e sz u n xs) (hg : wr.grownBy w' u.ownBlock) (hne : 132 ≠ e) : TRow Q w w' v T := by
  rcases h with h | h
  · exact .inl h
  · exact .inr (own_gb' h hg (own_apart h ho hne))
theorem endGo_snoc (zx : Int) (p : Txt) : ∀ (l : List Txt) (T : Tr) (es : List Evt), endGo zx T es (l ++ [p]) = ((remove (endGo zx T es l).1 zx p).T, (endGo zx T es l).2 ++ (remove (endGo zx T es l).1 zx p).evs)
  | [], T, es => rfl
  | q :: l, T, es => by rw [List.cons_append, endGo, endGo, endGo_snoc zx p l]
theorem wout_kin {T : Tr} (hg : Zt.Good T) (p q : Txt) : inr ((get (wout T p) q).getD nd0).ks = true ∧ inr ((get (wout T p) q).getD nd0).nx = true := by
  cases h : get (wout T p) q with
  | none => exact ⟨inr_zero, inr_zero⟩
  | some z => exact ⟨(hg.each z ((mem_wout T p z).1 (get_some h).1).1).ks, (hg.each z ((mem_wout T p z).1 (get_some h).1).1).nx⟩
/-- What stands when k of the session's znodes are gone. -/
theorem end_pre {T : Tr} (hg : Zt.Good T) {zx se : Int} (hx : inr zx = true) (h0 : se ≠ 0) (k : Nat) : Zt.Good (endGo zx T [] ((owned T se).take k)).1 ∧ (endGo zx T [] ((owned T se).take k)).2.length ≤ 2 * (owned T se).length := by
  have := end_go (T0 := T) (se := se) hx h0 ((owned T se).take k) [] [] hg ((owned_nodup hg.srt se).sublist (List.take_sublist _ _)) (fun p hp => ((owned_mem hg.srt p).1 (List.mem_of_mem_take hp)).2)
  refine ⟨this.2.1, ?_⟩
  rw [this.2.2.1]
  have := List.length_take_le k (owned T se)
  have := List.length_take_le' k (owned T se)
  simp only [List.length_nil]
  omega
theorem own_cap {w : World} {base e sz n c : Nat} {A : Option Addr} {xs : List Value} (h : w.ownsRow base e sz (.slice A n c) n xs) (hA : A = none) : c = 0 := by
  rcases h.2 with ⟨e1, _⟩ | ⟨g, cap, cur, e1, _⟩
  · injection e1
  · subst hA
    injection e1 with e1 _ _
    cases e1
def ReRes (Q : Option Addr → Prop) (a : Tr × List Evt) (w : World) (e : Ending) (w' : World) : Prop := ∃ v1 v2, e = .returned (.tuple #[v1, v2]) ∧ TRow Q w w' v1 a.1 ∧ w'.ownsRow w.heap.size 165 3 v2 a.2.length (ecells a.2) ∧ Below w.heap.size w w'
set_option maxHeartbeats 4000000 in
theorem rend_any {Q : Option Addr → Prop} {w : World} {A : Option Addr} {c : Nat} {T : Tr} (hq : Q A) (h : Rd ncell 9 w A T.length T) (hg : Zt.Good T) (zx se : Int) :
    Calls Tryz.prog 115 #[.slice A T.length c, .int .i64 zx, .int .i64 se] w (ReRes Q (endL T zx se) w) := by
  obtain ⟨i1, hi1, hy0, hy1, hy2⟩ := info_parts infoE
  have HOW := Lib.hid (rowned_any (c := c) h (by have := hg.len; omega) se)
  have HT := Lib.hid h
  have HG := Lib.hid hg
  have HOL : Hid ((owned T se).length ≤ 200 ∧ ∀ p ∈ owned T se, p.length ≤ 488) := Lib.hid (by
    refine ⟨?_, fun p hp => ?_⟩
    · unfold owned; rw [List.length_map]; exact Nat.le_trans (List.length_filter_le _ _) hg.len
    · obtain ⟨z, hz, rfl⟩ := List.mem_map.1 hp
      exact len_le (hg.each z (List.mem_filter.1 hz).1).path)
  clear h hg
  go_enter Tryz.func115, Tryz.ntmps115
  go_wp2_with fail
  refine HOW.out.mono ?_
  rintro e w1 ⟨v, rfl, hrow, hb1⟩
  obtain ⟨A1, c1, rfl, -, -, -⟩ := own_form hrow
  have HROW := Lib.hid hrow
  have HB1 := Lib.hid hb1
  have HI1 := Lib.hid (rin_any zx w1)
  obtain ⟨b1, hb1'⟩ : ∃ b, inr zx = b := ⟨_, rfl⟩
  rw [hb1'] at HI1
  have HBX := Lib.hid hb1'
  clear hrow hb1 hb1'
  go_wp2_with fail
  refine HI1.out.mono ?_
  rintro e w1' ⟨rfl, rfl⟩
  cases b1 with
  | false =>
    have HE : Hid (ReRes Q (endL T zx se) w (.returned (.tuple #[.slice A T.length c, .slice none 0 0])) w1) := Lib.hid (by
      unfold endL; rw [if_pos (.inl HBX.out)]
      exact ⟨_, _, rfl, .inl ⟨A, c, rfl, HT.out, hq⟩, ⟨rfl, .inl ⟨rfl, rfl⟩⟩, HB1.out⟩)
    go_wp2_with fail
    go_ret2
    exact HE.out
  | true =>
    have HI2 := Lib.hid (rin_any se w1)
    obtain ⟨b2, hb2'⟩ : ∃ b, inr se = b := ⟨_, rfl⟩
    rw [hb2'] at HI2
    have HBS := Lib.hid hb2'
    clear hb2'
    go_wp2_with fail
    refine HI2.out.mono ?_
    rintro e w1' ⟨rfl, rfl⟩
    cases b2 with
    | false =>
      have HE : Hid (ReRes Q (endL T zx se) w (.returned (.tuple #[.slice A T.length c, .slice none 0 0])) w1) := Lib.hid (by
        unfold endL; rw [if_pos (.inr HBS.out)]
        exact ⟨_, _, rfl, .inl ⟨A, c, rfl, HT.out, hq⟩, ⟨rfl, .inl ⟨rfl, rfl⟩⟩, HB1.out⟩)
      go_wp2_with fail
      go_ret2
      exact HE.out
    | true =>
      have HEL : Hid (endL T zx se = endGo zx T [] (owned T se)) := Lib.hid (by unfold endL; rw [if_neg (by rw [HBX.out, HBS.out]; simp)])
      obtain ⟨ow, how⟩ : ∃ ow, owned T se = ow := ⟨_, rfl⟩
      have HPRE : Hid (∀ k, ow ≠ [] → Zt.Good (endGo zx T [] (ow.take k)).1 ∧ (endGo zx T [] (ow.take k)).2.length ≤ 2 * ow.length) := Lib.hid (fun k hne => by
        rw [← how]
        exact end_pre HG.out HBX.out (fun e0 => hne (by rw [← how, e0, owned_zero])) k)
      rw [how] at HROW HOL HEL ⊢
      clear how
      go_wp2_with fail
      go_loopw [0, 8, 10] (fun vt ve i wr => ∃ k : Nat, k ≤ ow.length ∧ i = .int .i64 k ∧ Hid (TRow Q w wr vt (endGo zx T [] (ow.take k)).1) ∧ Hid (wr.ownsRow w.heap.size 165 3 ve (endGo zx T [] (ow.take k)).2.length (ecells (endGo zx T [] (ow.take k)).2)) ∧ Hid (wr.ownsRow w.heap.size 9 1 (.slice A1 ow.length c1) ow.length (scells ow)) ∧ Hid (Below w.heap.size w wr)) (fun _ _ i _ => ow.length - (intOf i).toNat)
      case atStart => exact ⟨0, Nat.zero_le _, rfl, Lib.hid (.inl ⟨A, c, rfl, HT.out, hq⟩), Lib.hid ⟨rfl, .inl ⟨rfl, rfl⟩⟩, HROW, HB1⟩
      case round =>
        obtain ⟨k, hk, rfl, HTR, HO, HRW, HX⟩ := hrel
        by_cases hlt : k < ow.length
        · have hne : ow ≠ [] := fun e => by rw [e] at hlt; simp at hlt
          obtain ⟨hgS, hlS⟩ := HPRE.out k hne
          obtain ⟨p, hp⟩ : ∃ y, ow[k] = y := ⟨_, rfl⟩
          have HTK : Hid (ow.take (k + 1) = ow.take k ++ [p]) := Lib.hid (by rw [List.take_succ_eq_append_getElem hlt, hp])
          have hpl := HOL.out.2 p (by rw [← hp]; exact List.getElem_mem hlt)
          have hro := HRW.out
          obtain ⟨A', c', e1, -, -, hA⟩ := own_form hro
          obtain ⟨g, hgA⟩ := hA (by omega)
          injection e1 with e1 _ e3
          subst e1 e3
          subst hgA
          have c0 := own_cell hro k _ (show (scells ow)[k]? = some (.string (B p)) by rw [scells_map, List.getElem?_map, List.getElem?_eq_getElem hlt, hp]; rfl)
          have HSN := Lib.hid (endGo_snoc zx p (ow.take k) T [])
          rw [← HTK.out] at HSN
          have htr := HTR.out
          have ho := HO.out
          obtain ⟨S1, hS1⟩ : ∃ a, (endGo zx T [] (ow.take k)).1 = a := ⟨_, rfl⟩
          obtain ⟨S2, hS2⟩ : ∃ a, (endGo zx T [] (ow.take k)).2 = a := ⟨_, rfl⟩
          rw [hS1] at htr hgS HSN
          rw [hS2] at ho hlS HSN
          obtain ⟨A2, c2, e2, hr2⟩ := htr.rd HX.out
          subst e2
          have hol := HOL.out.1
          have HRE := Lib.hid (rremove_any (c := c2) hr2 (by have := hgS.len; omega) p (by omega) zx (wout_kin hgS p _).1 (wout_kin hgS p _).2)
          obtain ⟨nS, enS⟩ : ∃ n, S1.length = n := ⟨_, rfl⟩
          have HO2 := Lib.hid ho
          have hlS2 : S2.length ≤ 400 := by omega
          rw [enS] at HRE ⊢
          clear hp hro hA hS1 hS2 htr ho hr2 hgS hlS hne hpl enS
          go_wp2_with fail
          refine HRE.out.mono ?_
          rintro e w3 ⟨v1, v2, rfl, h1, h2, hb3⟩
          obtain ⟨R, hR⟩ : ∃ R, remove S1 zx p = R := ⟨_, rfl⟩
          have hn3 : R.evs.length = 2 := by rw [← hR]; rfl
          rw [hR] at h1 h2 HSN ⊢
          obtain ⟨A3, c3, e3, -, -, -⟩ := own_form h1
          obtain ⟨A4, c4, e4, -, -, -⟩ := own_form h2
          rw [hn3] at e4 h2
          subst e3 e4
          obtain ⟨n1, en1⟩ : ∃ n, R.T.length = n := ⟨_, rfl⟩
          obtain ⟨rp, hrp⟩ : ∃ x, R.path = x := ⟨_, rfl⟩
          obtain ⟨re, hre⟩ : ∃ x, R.e = x := ⟨_, rfl⟩
          have hcap := own_cap h2
          obtain ⟨w4, hw4⟩ : ∃ w4, w4 = w3.alloc (.cells #[.slice A3 n1 c3, .string (B rp), .slice A4 2 c4, .int .i64 re] 229) := ⟨_, rfl⟩
          obtain ⟨sb, esb⟩ : ∃ x, x = w3.heap.size := ⟨_, rfl⟩
          have hb4 : Below w3.heap.size w3 w4 := by rw [hw4]; exact box_below w3 _
          have hs4 : w4.heap[sb]? = some (.cells #[.slice A3 n1 c3, .string (B rp), .slice A4 2 c4, .int .i64 re] 229 (0, 0)) := by rw [hw4, esb]; exact new_block w3 _
          have hrv := Rd.of_own (cell := ecell) (l := R.evs) (own_below h2 hb4) (fun _ _ => rfl) (by omega)
          have hb34 := hb3.trans (hb4.mono hb3.size)
          have ho4 := own_below HO2.out hb34
          have hB4 := HX.out.trans (hb34.mono HX.out.size)
          have hsz4 := hB4.size
          have HT4 := Lib.hid (own_below (own_base h1 HX.out.size) hb4)
          have HR4 := Lib.hid (own_below HRW.out hb34)
          have HB4 := Lib.hid hB4
          have HO4 := Lib.hid ho4
          have HW4 := Lib.hid hw4
          have ESB := Lib.hid esb
          have s0 := cell_of hs4 (j := 0) rfl
          have s2 := cell_of hs4 (j := 2) rfl
          have EN1 := Lib.hid en1
          have HN3 := Lib.hid hn3
          have HRR := Lib.hid hR
          rw [en1, hrp, hre]
          clear h1 h2 hb3 hR hn3 en1 hrp hre hw4 esb hb4 hs4 hb34 hB4
          go_upto_region 9 with fail
          rw [← HW4.out, ← ESB.out]
          go_wp2_with (at_builtin; refine wpList_append_rd rfl _ _ 43 rfl w.heap.size 165 i1 _ 3 32 Tryz.underlying43 hi1 hy0 hy1 hy2 rfl (by decide) _ S2.length _ rfl ho4 A4 2 c4 R.evs rfl hrv (fun _ _ => rfl) ecell_one hcap (by unfold maxLen; omega) (by omega) hsz4 ?_; intro v5 w5 hown5 hg5)
          have HT5 : Hid (TRow Q w w5 (.slice A3 n1 c3) R.T) := Lib.hid (by rw [← EN1.out]; exact TRow.gb (.inr HT4.out) HO4.out hg5 (by decide))
          have HR5 := Lib.hid (own_gb' HR4.out hg5 (own_apart HR4.out HO4.out (by decide)))
          have HB5 := Lib.hid (HB4.out.trans (gb_own HO4.out hg5 (Nat.le_refl _) hsz4))
          have HO5 := Lib.hid hown5
          clear hown5 hg5 ho4 hrv hcap s0 s2 hsz4
          go_roundw
          case rel => exact ⟨k + 1, hlt, by go_num, Lib.hid (by rw [HSN.out]; exact HT5.out), Lib.hid (by rw [HSN.out]; show w5.ownsRow _ _ _ _ (S2 ++ R.evs).length (ecells (S2 ++ R.evs)); rw [ecells_append, List.length_append, HN3.out]; exact HO5.out), HR5, HB5⟩
          case measure => simp [intOf]; omega
        · have hkn : k = ow.length := by omega
          have HE : Hid (ReRes Q (endL T zx se) w (.returned (.tuple #[u0, u8])) wr) := Lib.hid (by
            rw [HEL.out]
            have h1 := HTR.out
            have h2 := HO.out
            rw [hkn, List.take_of_length_le (Nat.le_refl _)] at h1 h2
            exact ⟨_, _, rfl, h1, h2, HX.out⟩)
          clear hkn
          go_wp2_with fail
          go_ret2
          exact HE.out
end Go.Proofs.YtflgemlhocjipaaGreatDoor
