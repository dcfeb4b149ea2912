/-
  The document's kid and remove. Conditions: memory holds the step; its lists are not long.
-/
import Derived.Test.YtfkhnnmibecbeaaGreatDoorRef6
namespace Go.Proofs.YtfkhnnmibecbeaaGreatDoor
set_option maxRecDepth 100000
open Go.ChangeShapes Go.WideShapes Go.ChangeAt Go.RowKit Go.Proofs.Zn Go.Proofs.Zt

/-- A value that names a list of znodes. -/
def TrV (w : World) (v : Value) (T : Tr) : Prop := ∃ A c, v = .slice A T.length c ∧ Rd ncell 9 w A T.length T
def StPost (s : Stp) (w : World) (e : Ending) (w' : World) : Prop := ∃ v1 v2, e = .returned (.agg #[v1, .string (B s.path), v2, .int .i64 s.e]) ∧ w'.ownsRow w.heap.size 41 9 v1 s.T.length (ncells s.T) ∧ w'.ownsRow w.heap.size 95 3 v2 s.evs.length (ecells s.evs) ∧ Below w.heap.size w w'
theorem TrV.of_own {w : World} {base : Nat} {v : Value} {T : Tr} (h : w.ownsRow base 41 9 v T.length (ncells T)) : TrV w v T := by
  obtain ⟨A, c, rfl, -, -, -⟩ := own_form h
  exact ⟨A, c, rfl, Rd.of_own h (fun _ _ => rfl) (by omega)⟩
theorem gb_keep {w w' : World} {base e sz n : Nat} {v : Value} {xs : List Value} {k : Nat} {cs : Array Value} {t : TypeId} {fr : Nat × Nat} (h : w.ownsRow base e sz v n xs) (hg : w.grownBy w' v.ownBlock) (hk : w.heap[k]? = some (.cells cs t fr)) (ht : t ≠ e) : w'.heap[k]? = some (.cells cs t fr) :=
  (hg.block k (blk_lt hk) (fun e' => own_ne h hk ht e'.symm)).trans hk
theorem kid_end {w w' : World} {base : Nat} {T X : Tr} {p : Txt} {E : List Evt} {nE : Nat} {zx : Int} {m : Bool} {P : Txt} {y : Nd} {v1 v2 : Value} (hks : parent p = P ∧ touched ((get T P).getD nd0) zx m = y) (hX : put T y = X) (hn : E.length = nE) (hbs : w.heap.size ≤ base)
    (h1 : w'.ownsRow base 41 9 v1 X.length (ncells X)) (h2 : w'.ownsRow w.heap.size 95 3 v2 (nE + 1) (ecells E ++ ecell ⟨0, 4, P⟩)) (hb : Below w.heap.size w w') : StPost (kidS T p E zx m) w (.returned (.agg #[v1, .string (B p), v2, .int .i64 0])) w' := by
  obtain ⟨rfl, rfl⟩ := hks
  subst hX hn
  refine ⟨v1, v2, rfl, own_base h1 hbs, ?_, hb⟩
  show w'.ownsRow w.heap.size 95 3 v2 (E ++ [(⟨0, 4, parent p⟩ : Evt)]).length (ecells (E ++ [⟨0, 4, parent p⟩]))
  rw [ecells_append, List.length_append]
  exact h2
set_option maxHeartbeats 4000000 in
theorem rkid_any {w : World} {AT AE : Option Addr} {cT nE cE : Nat} {T : Tr} {E : List Evt} (p : Txt) (hT : Rd ncell 9 w AT T.length T) (hn : T.length ≤ 1000000) (hE : Rd ecell 3 w AE nE E) (hAE : AE = none → cE = 0) (hnE : nE ≤ 1000000) (hp : p.length ≤ 2097152)
    (zx : Int) (hks : inr ((get T (parent p)).getD nd0).ks = true) (hnx : inr ((get T (parent p)).getD nd0).nx = true) (m : Bool) :
    Calls Tryz.prog 66 #[.agg #[.slice AT T.length cT, .string (B p), .slice AE nE cE, .int .i64 0], .int .i64 zx, .bool m] w (StPost (kidS T p E zx m) w) := by
  obtain ⟨i1, hi1, hy0, hy1, hy2⟩ := info_parts infoE
  obtain ⟨w2, hw2, hB2, hs, hr, hs2⟩ := two_box w (.cells #[.slice AT T.length cT, .string (B p), .slice AE nE cE, .int .i64 0] 92) (.cells #[.slice none 0 0, .string ⟨#[]⟩, .slice none 0 0, .int .i64 0] 92)
  obtain ⟨sb, esb⟩ : ∃ q, q = w.heap.size := ⟨_, rfl⟩
  obtain ⟨r, er⟩ : ∃ r, r = w.heap.size + 1 := ⟨_, rfl⟩
  rw [← esb] at hs
  rw [← er] at hr
  have HNE : Hid (sb ≠ r) := Lib.hid (by omega)
  have HPA := Lib.hid (rparent_any (B p) w2 (by rw [B_size]; exact hp))
  simp only [LB] at HPA
  obtain ⟨P, hP⟩ : ∃ x, parent p = x := ⟨_, rfl⟩
  rw [hP] at HPA hks hnx
  obtain ⟨z, hz⟩ : ∃ x, (get T P).getD nd0 = x := ⟨_, rfl⟩
  rw [hz] at hks hnx
  have HT := Lib.hid hT
  have HN := Lib.hid hn
  have HE := Lib.hid hE
  have HEN := Lib.hid hE.len
  have HAE := Lib.hid hAE
  have HZ := Lib.hid hz
  have HPP := Lib.hid hP
  have HKK := Lib.hid hks
  have HNX := Lib.hid hnx
  have HB2 := Lib.hid hB2
  have HW2 := Lib.hid hw2
  have HS2 := Lib.hid hs
  have HR2 := Lib.hid hr
  have ESB := Lib.hid esb
  have ER := Lib.hid er
  have s0 := cell_of hs (j := 0) rfl
  have s1 := cell_of hs (j := 1) rfl
  clear hT hE hAE hz hP hks hnx hp hn hw2 hB2 hs hr hs2 esb er s0
  go_enter Tryz.func66, Tryz.ntmps66
  go_upto_region 1 with fail
  rw [← HW2.out, ← ER.out, ← ESB.out]
  go_wp2_with fail
  refine HPA.out.mono ?_
  rintro e w3 ⟨rfl, hb3⟩
  have hB3 := HB2.out.trans (hb3.mono HB2.out.size)
  have HGE := Lib.hid (rget_any (c := cT) (HT.out.below hB3) HN.out P)
  unfold RgPost ndv at HGE
  rw [HZ.out] at HGE
  obtain ⟨is, his⟩ : ∃ b, (get T P).isSome = b := ⟨_, rfl⟩
  rw [his] at HGE
  have HB3 := Lib.hid hB3
  have hs3 := blk_below HS2.out hb3
  have HS3 := Lib.hid hs3
  have HR3 := Lib.hid (blk_below HR2.out hb3)
  have s0 := cell_of hs3 (j := 0) rfl
  clear his hB3 hs3 hb3 s1
  go_wp2_with fail
  refine HGE.out.mono ?_
  rintro e w4 ⟨rfl, hb4⟩
  obtain ⟨w5, hw5⟩ : ∃ w5, w5 = w4.alloc (.cells #[.string (B z.path), .string (B z.data), .int .i64 z.cr, .int .i64 z.ch, .int .i64 z.kd, .int .i64 z.ver, .int .i64 z.ks, .int .i64 z.own, .int .i64 z.nx] 41) := ⟨_, rfl⟩
  obtain ⟨qb, eqb⟩ : ∃ q, q = w4.heap.size := ⟨_, rfl⟩
  have hb5 : Below w4.heap.size w4 w5 := by rw [hw5]; exact box_below w4 _
  have hq5 : w5.heap[qb]? = some (.cells #[.string (B z.path), .string (B z.data), .int .i64 z.cr, .int .i64 z.ch, .int .i64 z.kd, .int .i64 z.ver, .int .i64 z.ks, .int .i64 z.own, .int .i64 z.nx] 41 (0, 0)) := by rw [hw5, eqb]; exact new_block w4 _
  have hB4 := HB3.out.trans (hb4.mono HB3.out.size)
  have hB5 := hB4.trans (hb5.mono hB4.size)
  have hs5 := blk_below (blk_below HS3.out hb4) hb5
  have hr5 := blk_below (blk_below HR3.out hb4) hb5
  have hsq : sb ≠ qb := by have := blk_lt (blk_below HS3.out hb4); omega
  have hrq : r ≠ qb := by have := blk_lt (blk_below HR3.out hb4); omega
  have hwq : w.heap.size ≤ qb := by have := hB4.size; omega
  obtain ⟨w6, hw6⟩ : ∃ w6, w6 = w5.setCell ⟨qb, 4, none⟩ (.int .i64 zx) := ⟨_, rfl⟩
  have hwr6 : Wr qb w5 w6 := by rw [hw6]; exact (Wr.refl qb w5).set 4 _
  have hq6 : w6.heap[qb]? = some (.cells #[.string (B z.path), .string (B z.data), .int .i64 z.cr, .int .i64 z.ch, .int .i64 zx, .int .i64 z.ver, .int .i64 z.ks, .int .i64 z.own, .int .i64 z.nx] 41 (0, 0)) := by rw [hw6]; exact heap_setCell_same w5 qb 4 _ 41 _ hq5
  obtain ⟨U, hU⟩ : ∃ U, up z.ks = U := ⟨_, rfl⟩
  obtain ⟨w7, hw7⟩ : ∃ w7, w7 = w6.setCell ⟨qb, 6, none⟩ (.int .i64 U) := ⟨_, rfl⟩
  have hwr7 : Wr qb w5 w7 := by rw [hw7]; exact hwr6.set 6 _
  have hq7 : w7.heap[qb]? = some (.cells #[.string (B z.path), .string (B z.data), .int .i64 z.cr, .int .i64 z.ch, .int .i64 zx, .int .i64 z.ver, .int .i64 U, .int .i64 z.own, .int .i64 z.nx] 41 (0, 0)) := by rw [hw7]; exact heap_setCell_same w6 qb 6 _ 41 _ hq6
  have HUP := Lib.hid (rup_any z.ks (inr_iff.1 HKK.out).2 (inr_iff.1 HKK.out).1 w6)
  rw [hU] at HUP
  have g4 := frozen_of_row w5 _ 4 _ _ hq5
  have c4 := cell_of hq5 (j := 4) rfl
  have g6 := frozen_of_row w6 _ 6 _ _ hq6
  have u6 := cell_of hq6 (j := 6) rfl
  have HW5 := Lib.hid hw5
  have HW6 := Lib.hid hw6
  have HW7 := Lib.hid hw7
  have EQB := Lib.hid eqb
  have HQ7 := Lib.hid hq7
  have HWR7 := Lib.hid hwr7
  have HS5 := Lib.hid hs5
  have HR5 := Lib.hid hr5
  have HB5 := Lib.hid hB5
  have HU := Lib.hid hU
  have HSQ := Lib.hid hsq
  have HRQ := Lib.hid hrq
  have HWQ := Lib.hid hwq
  clear hb4 hw5 eqb hb5 hq5 hB4 hB5 hs5 hr5 hsq hrq hwq hw6 hwr6 hq6 hU hw7 hwr7 hq7 s0
  go_upto_region 3 with fail
  rw [← HW5.out, ← EQB.out]
  go_upto_region 4 with fail
  rw [← HW6.out]
  go_wp2_with fail
  refine HUP.out.mono ?_
  rintro e w6' ⟨rfl, rfl⟩
  go_upto_region 5 with fail
  rw [← HW7.out]
  clear g4 g6 u6 c4
  cases m with
  | false =>
    obtain ⟨y, hy⟩ : ∃ y, touched z zx false = y := ⟨_, rfl⟩
    have HKS : Hid (parent p = P ∧ touched ((get T P).getD nd0) zx false = y) := Lib.hid ⟨HPP.out, by rw [HZ.out]; exact hy⟩
    have HQA : Hid (w7.heap[qb]? = some (.cells #[.string (B y.path), .string (B y.data), .int .i64 y.cr, .int .i64 y.ch, .int .i64 y.kd, .int .i64 y.ver, .int .i64 y.ks, .int .i64 y.own, .int .i64 y.nx] 41 (0, 0))) := Lib.hid (by rw [← hy]; unfold touched; rw [HU.out]; exact HQ7.out)
    have HSA := Lib.hid ((HWR7.out.rest sb HSQ.out).trans HS5.out)
    have HRA := Lib.hid ((HWR7.out.rest r HRQ.out).trans HR5.out)
    have HA : Hid (Below w.heap.size w w7) := Lib.hid (HB5.out.trans (HWR7.out.below.mono HWQ.out))
    clear hy
    obtain ⟨X, hX⟩ : ∃ X, put T y = X := ⟨_, rfl⟩
    have HPU := Lib.hid (rput_any (c := cT) (HT.out.below HA.out) HN.out y)
    rw [hX] at HPU
    have HXX := Lib.hid hX
    have hsb := HSA.out
    have hqb := HQA.out
    have s0 := cell_of hsb (j := 0) rfl
    have s1 := cell_of hsb (j := 1) rfl
    have z0 := cell_of hqb (j := 0) rfl
    have z1 := cell_of hqb (j := 1) rfl
    have z2 := cell_of hqb (j := 2) rfl
    have z3 := cell_of hqb (j := 3) rfl
    have z4 := cell_of hqb (j := 4) rfl
    have z5 := cell_of hqb (j := 5) rfl
    have z6 := cell_of hqb (j := 6) rfl
    have z7 := cell_of hqb (j := 7) rfl
    have z8 := cell_of hqb (j := 8) rfl
    clear hX hsb hqb
    go_wp2_with fail
    refine HPU.out.mono ?_
    rintro e w10 ⟨vv1, rfl, hv10, hb10⟩
    obtain ⟨A1, c1, rfl, -, -, -⟩ := own_form hv10
    have hs10 := blk_below HSA.out hb10
    have hr10 := blk_below HRA.out hb10
    have g0 := frozen_of_row w10 _ 0 _ _ hs10
    have c0 := cell_of hs10 (j := 0) rfl
    obtain ⟨w11, hw11⟩ : ∃ w11, w11 = w10.setCell ⟨sb, 0, none⟩ (.slice A1 X.length c1) := ⟨_, rfl⟩
    have hwr11 : Wr sb w10 w11 := by rw [hw11]; exact (Wr.refl sb w10).set 0 _
    have hs11 : w11.heap[sb]? = some (.cells #[(.slice A1 X.length c1), .string (B p), .slice AE nE cE, .int .i64 0] 92 (0, 0)) := by rw [hw11]; exact heap_setCell_same w10 sb 0 _ 92 (.slice A1 X.length c1) hs10
    have hr11 : w11.heap[r]? = some (.cells #[.slice none 0 0, .string ⟨#[]⟩, .slice none 0 0, .int .i64 0] 92 (0, 0)) := (hwr11.rest r HNE.out.symm).trans hr10
    have hv11 := own_gb hv10 hwr11.gb (own_ne hv10 hs10 (by decide))
    have hB11 : Below w.heap.size w w11 := (HA.out.trans (hb10.mono HA.out.size)).trans (hwr11.below.mono (by rw [ESB.out]; exact Nat.le_refl _))
    have HB11 := Lib.hid hB11
    have HV11 := Lib.hid hv11
    have HR11 := Lib.hid hr11
    have HS11 := Lib.hid hs11
    have HW11 := Lib.hid hw11
    have hE12 := (HE.out.below hB11).below (box_below w11 (.cells #[] 95))
    have ho12 : (w11.alloc (.cells #[] 95)).ownsRow w.heap.size 95 3 (.slice (some ⟨w11.heap.size, 0, none⟩) 0 0) 0 [] := own_new (new_block w11 (.cells #[] 95)) hB11.size (by unfold maxLen; omega) rfl
    have hs12 := blk_alloc hs11 (.cells #[] 95)
    have s2 := cell_of hs12 (j := 2) rfl
    have hsz12 : w.heap.size ≤ (w11.alloc (.cells #[] 95)).heap.size := Nat.le_trans hB11.size (box_below w11 _).size
    have hAE := HAE.out
    clear hv10 hb10 hs10 hr10 hwr11 hr11 hs11 hv11 hw11 hB11 s0 s1 z0 z1 z2 z3 z4 z5 z6 z7 z8
    go_upto_region 8 with fail
    rw [← HW11.out]
    clear g0 c0
    go_upto_region 9 with (at_builtin; refine wpList_append_rd rfl _ _ 55 rfl w.heap.size 95 i1 _ 3 32 Tryz.underlying55 hi1 hy0 hy1 hy2 rfl (by decide) _ 0 [] rfl ho12 AE nE cE E rfl hE12 (fun _ _ => rfl) ecell_one hAE (by unfold maxLen; omega) (by omega) hsz12 ?_; intro v13 w13 hown13 hg13)
    rw [Nat.zero_add, List.nil_append] at hown13
    have hs13 := gb_keep ho12 hg13 hs12 (by decide)
    have hr13 := gb_keep ho12 hg13 (blk_alloc HR11.out _) (by decide)
    have hv13 := own_gb' (own_below HV11.out (box_below w11 _)) hg13 (own_apart (own_below HV11.out (box_below w11 _)) ho12 (by decide))
    have hB13 : Below w.heap.size w w13 := (HB11.out.trans ((box_below w11 _).mono HB11.out.size)).trans (gb_own ho12 hg13 (Nat.le_refl _) hsz12)
    have HS13 := Lib.hid hs13
    have HR13 := Lib.hid hr13
    have HV13 := Lib.hid hv13
    have HB13 := Lib.hid hB13
    have hsz13 := hB13.size
    clear ho12 hg13 hs12 hs13 hr13 hv13 hB13 s2 hE12 hsz12
    go_upto_region 10 with (at_builtin; refine wpList_append_own _ rfl _ _ 55 rfl w.heap.size 95 i1 _ 3 32 Tryz.underlying55 hi1 hy0 hy1 hy2 rfl (by decide) _ _ _ rfl (hown13.alloc _) ⟨w13.heap.size, 0, none⟩ 1 1 (ecell ⟨0, 4, P⟩) rfl rfl (World.news_of_block (new_block w13 _)) (ecell_one _) (by unfold maxLen at *; omega) (by omega) (by simp; omega) ?_; intro vv14 w14 hown14 hg14 hnil14; obtain ⟨A14, c14, rfl, -, -, -⟩ := own_form hown14; have hs14 := gb_keep (hown13.alloc _) hg14 (blk_alloc HS13.out _) (by decide); have f2 := frozen_of_row w14 _ 2 _ _ hs14; have c2 := cell_of hs14 (j := 2) rfl)
    have hr14 := gb_keep (hown13.alloc _) hg14 (blk_alloc HR13.out _) (by decide)
    have hv14 := own_gb' (own_below HV13.out (box_below w13 (.cells #[.int .i64 0, .int .i64 4, .string (B P)] 95))) hg14 (own_apart (own_below HV13.out (box_below w13 (.cells #[.int .i64 0, .int .i64 4, .string (B P)] 95))) (hown13.alloc (.cells #[.int .i64 0, .int .i64 4, .string (B P)] 95)) (by decide))
    have hB14 : Below w.heap.size w w14 := (HB13.out.trans ((box_below w13 (.cells #[.int .i64 0, .int .i64 4, .string (B P)] 95)).mono HB13.out.size)).trans (gb_own (hown13.alloc (.cells #[.int .i64 0, .int .i64 4, .string (B P)] 95)) hg14 (Nat.le_refl _) (Nat.le_trans HB13.out.size (box_below w13 (.cells #[.int .i64 0, .int .i64 4, .string (B P)] 95)).size))
    obtain ⟨w15, hw15⟩ : ∃ w15, w15 = w14.setCell ⟨sb, 2, none⟩ (.slice A14 (nE + 1) c14) := ⟨_, rfl⟩
    rw [← hw15]
    have hwr15 : Wr sb w14 w15 := by rw [hw15]; exact (Wr.refl sb w14).set 2 _
    have hs15 : w15.heap[sb]? = some (.cells #[(.slice A1 X.length c1), .string (B p), (.slice A14 (nE + 1) c14), .int .i64 0] 92 (0, 0)) := by rw [hw15]; exact heap_setCell_same w14 sb 2 _ 92 (.slice A14 (nE + 1) c14) hs14
    have hr15 : w15.heap[r]? = some (.cells #[.slice none 0 0, .string ⟨#[]⟩, .slice none 0 0, .int .i64 0] 92 (0, 0)) := (hwr15.rest r HNE.out.symm).trans hr14
    have hv15 := own_gb hv14 hwr15.gb (own_ne hv14 hs14 (by decide))
    have ho15 := own_gb hown14 hwr15.gb (own_ne hown14 hs14 (by decide))
    have hB15 : Below w.heap.size w w15 := hB14.trans (hwr15.below.mono (by rw [ESB.out]; exact Nat.le_refl _))
    obtain ⟨w16, hw16⟩ : ∃ w16, w16 = ((((w15.setCell ⟨r, 0, none⟩ (.slice A1 X.length c1)).setCell ⟨r, 1, none⟩ (.string (B p))).setCell ⟨r, 2, none⟩ (.slice A14 (nE + 1) c14)).setCell ⟨r, 3, none⟩ (.int .i64 0)) := ⟨_, rfl⟩
    obtain ⟨hwr16, h16⟩ := set_st hr15 (.slice A1 X.length c1) (.string (B p)) (.slice A14 (nE + 1) c14) (.int .i64 0)
    rw [← hw16] at hwr16 h16
    have hv16 := own_gb hv15 hwr16.gb (own_ne hv15 hr15 (by decide))
    have ho16 := own_gb ho15 hwr16.gb (own_ne ho15 hr15 (by decide))
    have hB16 : Below w.heap.size w w16 := hB15.trans (hwr16.below.mono (by rw [ER.out]; omega))
    have HFIN : Hid (StPost (kidS T p E zx false) w (.returned (.agg #[(.slice A1 X.length c1), .string (B p), (.slice A14 (nE + 1) c14), .int .i64 0])) w16) := Lib.hid (kid_end HKS.out HXX.out HEN.out HA.out.size hv16 ho16 hB16)
    have HW16 := Lib.hid hw16
    have s0 := cell_of hs15 (j := 0) rfl
    have s1 := cell_of hs15 (j := 1) rfl
    have s2 := cell_of hs15 (j := 2) rfl
    have s3 := cell_of hs15 (j := 3) rfl
    have rf0 := frozen_of_row w15 _ 0 _ _ hr15
    have rf1 := frozen_of_row w15 _ 1 _ _ hr15
    have rf2 := frozen_of_row w15 _ 2 _ _ hr15
    have rf3 := frozen_of_row w15 _ 3 _ _ hr15
    have rr0 := cell_of hr15 (j := 0) rfl
    have rr1 := cell_of hr15 (j := 1) rfl
    have rr2 := cell_of hr15 (j := 2) rfl
    have rr3 := cell_of hr15 (j := 3) rfl
    have t0 := cell_of h16 (j := 0) rfl
    have t1 := cell_of h16 (j := 1) rfl
    have t2 := cell_of h16 (j := 2) rfl
    have t3 := cell_of h16 (j := 3) rfl
    clear hr14 hv14 hB14 hw15 hwr15 hs15 hr15 hv15 ho15 hB15 hw16 hwr16 h16 hv16 ho16 hB16 hown13 hown14 hg14 hnil14 hs14 f2 c2
    go_wp2_with fail
    rw [← HW16.out]
    exact bodyPost_ret (v := .agg #[(.slice A1 X.length c1), .string (B p), (.slice A14 (nE + 1) c14), .int .i64 0]) (by simp [results, Tryz.results66, go_sem, t0, t1, t2, t3]) rfl HFIN.out
  | true =>
    obtain ⟨V, hV⟩ : ∃ V, up z.nx = V := ⟨_, rfl⟩
    obtain ⟨y, hy⟩ : ∃ y, touched z zx true = y := ⟨_, rfl⟩
    have HKS : Hid (parent p = P ∧ touched ((get T P).getD nd0) zx true = y) := Lib.hid ⟨HPP.out, by rw [HZ.out]; exact hy⟩
    obtain ⟨w8, hw8⟩ : ∃ w8, w8 = w7.setCell ⟨qb, 8, none⟩ (.int .i64 V) := ⟨_, rfl⟩
    have hwr8 : Wr qb w5 w8 := by rw [hw8]; exact HWR7.out.set 8 _
    have hq8 : w8.heap[qb]? = some (.cells #[.string (B y.path), .string (B y.data), .int .i64 y.cr, .int .i64 y.ch, .int .i64 y.kd, .int .i64 y.ver, .int .i64 y.ks, .int .i64 y.own, .int .i64 y.nx] 41 (0, 0)) := by rw [hw8, ← hy]; unfold touched; rw [HU.out, if_pos rfl, hV]; exact heap_setCell_same w7 qb 8 _ 41 _ HQ7.out
    have HQA := Lib.hid hq8
    have HSA := Lib.hid ((hwr8.rest sb HSQ.out).trans HS5.out)
    have HRA := Lib.hid ((hwr8.rest r HRQ.out).trans HR5.out)
    have HA : Hid (Below w.heap.size w w8) := Lib.hid (HB5.out.trans (hwr8.below.mono HWQ.out))
    have HUP2 := Lib.hid (rup_any z.nx (inr_iff.1 HNX.out).2 (inr_iff.1 HNX.out).1 w7)
    rw [hV] at HUP2
    have HW8 := Lib.hid hw8
    have hq7 := HQ7.out
    have g8 := frozen_of_row w7 _ 8 _ _ hq7
    have u8 := cell_of hq7 (j := 8) rfl
    clear hy hV hw8 hwr8 hq8 hq7
    go_wp2_with fail
    refine HUP2.out.mono ?_
    rintro e w7' ⟨rfl, rfl⟩
    go_upto_region 7 with fail
    rw [← HW8.out]
    clear g8 u8
    obtain ⟨X, hX⟩ : ∃ X, put T y = X := ⟨_, rfl⟩
    have HPU := Lib.hid (rput_any (c := cT) (HT.out.below HA.out) HN.out y)
    rw [hX] at HPU
    have HXX := Lib.hid hX
    have hsb := HSA.out
    have hqb := HQA.out
    have s0 := cell_of hsb (j := 0) rfl
    have s1 := cell_of hsb (j := 1) rfl
    have z0 := cell_of hqb (j := 0) rfl
    have z1 := cell_of hqb (j := 1) rfl
    have z2 := cell_of hqb (j := 2) rfl
    have z3 := cell_of hqb (j := 3) rfl
    have z4 := cell_of hqb (j := 4) rfl
    have z5 := cell_of hqb (j := 5) rfl
    have z6 := cell_of hqb (j := 6) rfl
    have z7 := cell_of hqb (j := 7) rfl
    have z8 := cell_of hqb (j := 8) rfl
    clear hX hsb hqb
    go_wp2_with fail
    refine HPU.out.mono ?_
    rintro e w10 ⟨vv1, rfl, hv10, hb10⟩
    obtain ⟨A1, c1, rfl, -, -, -⟩ := own_form hv10
    have hs10 := blk_below HSA.out hb10
    have hr10 := blk_below HRA.out hb10
    have g0 := frozen_of_row w10 _ 0 _ _ hs10
    have c0 := cell_of hs10 (j := 0) rfl
    obtain ⟨w11, hw11⟩ : ∃ w11, w11 = w10.setCell ⟨sb, 0, none⟩ (.slice A1 X.length c1) := ⟨_, rfl⟩
    have hwr11 : Wr sb w10 w11 := by rw [hw11]; exact (Wr.refl sb w10).set 0 _
    have hs11 : w11.heap[sb]? = some (.cells #[(.slice A1 X.length c1), .string (B p), .slice AE nE cE, .int .i64 0] 92 (0, 0)) := by rw [hw11]; exact heap_setCell_same w10 sb 0 _ 92 (.slice A1 X.length c1) hs10
    have hr11 : w11.heap[r]? = some (.cells #[.slice none 0 0, .string ⟨#[]⟩, .slice none 0 0, .int .i64 0] 92 (0, 0)) := (hwr11.rest r HNE.out.symm).trans hr10
    have hv11 := own_gb hv10 hwr11.gb (own_ne hv10 hs10 (by decide))
    have hB11 : Below w.heap.size w w11 := (HA.out.trans (hb10.mono HA.out.size)).trans (hwr11.below.mono (by rw [ESB.out]; exact Nat.le_refl _))
    have HB11 := Lib.hid hB11
    have HV11 := Lib.hid hv11
    have HR11 := Lib.hid hr11
    have HS11 := Lib.hid hs11
    have HW11 := Lib.hid hw11
    have hE12 := (HE.out.below hB11).below (box_below w11 (.cells #[] 95))
    have ho12 : (w11.alloc (.cells #[] 95)).ownsRow w.heap.size 95 3 (.slice (some ⟨w11.heap.size, 0, none⟩) 0 0) 0 [] := own_new (new_block w11 (.cells #[] 95)) hB11.size (by unfold maxLen; omega) rfl
    have hs12 := blk_alloc hs11 (.cells #[] 95)
    have s2 := cell_of hs12 (j := 2) rfl
    have hsz12 : w.heap.size ≤ (w11.alloc (.cells #[] 95)).heap.size := Nat.le_trans hB11.size (box_below w11 _).size
    have hAE := HAE.out
    clear hv10 hb10 hs10 hr10 hwr11 hr11 hs11 hv11 hw11 hB11 s0 s1 z0 z1 z2 z3 z4 z5 z6 z7 z8
    go_upto_region 8 with fail
    rw [← HW11.out]
    clear g0 c0
    go_upto_region 9 with (at_builtin; refine wpList_append_rd rfl _ _ 55 rfl w.heap.size 95 i1 _ 3 32 Tryz.underlying55 hi1 hy0 hy1 hy2 rfl (by decide) _ 0 [] rfl ho12 AE nE cE E rfl hE12 (fun _ _ => rfl) ecell_one hAE (by unfold maxLen; omega) (by omega) hsz12 ?_; intro v13 w13 hown13 hg13)
    rw [Nat.zero_add, List.nil_append] at hown13
    have hs13 := gb_keep ho12 hg13 hs12 (by decide)
    have hr13 := gb_keep ho12 hg13 (blk_alloc HR11.out _) (by decide)
    have hv13 := own_gb' (own_below HV11.out (box_below w11 _)) hg13 (own_apart (own_below HV11.out (box_below w11 _)) ho12 (by decide))
    have hB13 : Below w.heap.size w w13 := (HB11.out.trans ((box_below w11 _).mono HB11.out.size)).trans (gb_own ho12 hg13 (Nat.le_refl _) hsz12)
    have HS13 := Lib.hid hs13
    have HR13 := Lib.hid hr13
    have HV13 := Lib.hid hv13
    have HB13 := Lib.hid hB13
    have hsz13 := hB13.size
    clear ho12 hg13 hs12 hs13 hr13 hv13 hB13 s2 hE12 hsz12
    go_upto_region 10 with (at_builtin; refine wpList_append_own _ rfl _ _ 55 rfl w.heap.size 95 i1 _ 3 32 Tryz.underlying55 hi1 hy0 hy1 hy2 rfl (by decide) _ _ _ rfl (hown13.alloc _) ⟨w13.heap.size, 0, none⟩ 1 1 (ecell ⟨0, 4, P⟩) rfl rfl (World.news_of_block (new_block w13 _)) (ecell_one _) (by unfold maxLen at *; omega) (by omega) (by simp; omega) ?_; intro vv14 w14 hown14 hg14 hnil14; obtain ⟨A14, c14, rfl, -, -, -⟩ := own_form hown14; have hs14 := gb_keep (hown13.alloc _) hg14 (blk_alloc HS13.out _) (by decide); have f2 := frozen_of_row w14 _ 2 _ _ hs14; have c2 := cell_of hs14 (j := 2) rfl)
    have hr14 := gb_keep (hown13.alloc _) hg14 (blk_alloc HR13.out _) (by decide)
    have hv14 := own_gb' (own_below HV13.out (box_below w13 (.cells #[.int .i64 0, .int .i64 4, .string (B P)] 95))) hg14 (own_apart (own_below HV13.out (box_below w13 (.cells #[.int .i64 0, .int .i64 4, .string (B P)] 95))) (hown13.alloc (.cells #[.int .i64 0, .int .i64 4, .string (B P)] 95)) (by decide))
    have hB14 : Below w.heap.size w w14 := (HB13.out.trans ((box_below w13 (.cells #[.int .i64 0, .int .i64 4, .string (B P)] 95)).mono HB13.out.size)).trans (gb_own (hown13.alloc (.cells #[.int .i64 0, .int .i64 4, .string (B P)] 95)) hg14 (Nat.le_refl _) (Nat.le_trans HB13.out.size (box_below w13 (.cells #[.int .i64 0, .int .i64 4, .string (B P)] 95)).size))
    obtain ⟨w15, hw15⟩ : ∃ w15, w15 = w14.setCell ⟨sb, 2, none⟩ (.slice A14 (nE + 1) c14) := ⟨_, rfl⟩
    rw [← hw15]
    have hwr15 : Wr sb w14 w15 := by rw [hw15]; exact (Wr.refl sb w14).set 2 _
    have hs15 : w15.heap[sb]? = some (.cells #[(.slice A1 X.length c1), .string (B p), (.slice A14 (nE + 1) c14), .int .i64 0] 92 (0, 0)) := by rw [hw15]; exact heap_setCell_same w14 sb 2 _ 92 (.slice A14 (nE + 1) c14) hs14
    have hr15 : w15.heap[r]? = some (.cells #[.slice none 0 0, .string ⟨#[]⟩, .slice none 0 0, .int .i64 0] 92 (0, 0)) := (hwr15.rest r HNE.out.symm).trans hr14
    have hv15 := own_gb hv14 hwr15.gb (own_ne hv14 hs14 (by decide))
    have ho15 := own_gb hown14 hwr15.gb (own_ne hown14 hs14 (by decide))
    have hB15 : Below w.heap.size w w15 := hB14.trans (hwr15.below.mono (by rw [ESB.out]; exact Nat.le_refl _))
    obtain ⟨w16, hw16⟩ : ∃ w16, w16 = ((((w15.setCell ⟨r, 0, none⟩ (.slice A1 X.length c1)).setCell ⟨r, 1, none⟩ (.string (B p))).setCell ⟨r, 2, none⟩ (.slice A14 (nE + 1) c14)).setCell ⟨r, 3, none⟩ (.int .i64 0)) := ⟨_, rfl⟩
    obtain ⟨hwr16, h16⟩ := set_st hr15 (.slice A1 X.length c1) (.string (B p)) (.slice A14 (nE + 1) c14) (.int .i64 0)
    rw [← hw16] at hwr16 h16
    have hv16 := own_gb hv15 hwr16.gb (own_ne hv15 hr15 (by decide))
    have ho16 := own_gb ho15 hwr16.gb (own_ne ho15 hr15 (by decide))
    have hB16 : Below w.heap.size w w16 := hB15.trans (hwr16.below.mono (by rw [ER.out]; omega))
    have HFIN : Hid (StPost (kidS T p E zx true) w (.returned (.agg #[(.slice A1 X.length c1), .string (B p), (.slice A14 (nE + 1) c14), .int .i64 0])) w16) := Lib.hid (kid_end HKS.out HXX.out HEN.out HA.out.size hv16 ho16 hB16)
    have HW16 := Lib.hid hw16
    have s0 := cell_of hs15 (j := 0) rfl
    have s1 := cell_of hs15 (j := 1) rfl
    have s2 := cell_of hs15 (j := 2) rfl
    have s3 := cell_of hs15 (j := 3) rfl
    have rf0 := frozen_of_row w15 _ 0 _ _ hr15
    have rf1 := frozen_of_row w15 _ 1 _ _ hr15
    have rf2 := frozen_of_row w15 _ 2 _ _ hr15
    have rf3 := frozen_of_row w15 _ 3 _ _ hr15
    have rr0 := cell_of hr15 (j := 0) rfl
    have rr1 := cell_of hr15 (j := 1) rfl
    have rr2 := cell_of hr15 (j := 2) rfl
    have rr3 := cell_of hr15 (j := 3) rfl
    have t0 := cell_of h16 (j := 0) rfl
    have t1 := cell_of h16 (j := 1) rfl
    have t2 := cell_of h16 (j := 2) rfl
    have t3 := cell_of h16 (j := 3) rfl
    clear hr14 hv14 hB14 hw15 hwr15 hs15 hr15 hv15 ho15 hB15 hw16 hwr16 h16 hv16 ho16 hB16 hown13 hown14 hg14 hnil14 hs14 f2 c2
    go_wp2_with fail
    rw [← HW16.out]
    exact bodyPost_ret (v := .agg #[(.slice A1 X.length c1), .string (B p), (.slice A14 (nE + 1) c14), .int .i64 0]) (by simp [results, Tryz.results66, go_sem, t0, t1, t2, t3]) rfl HFIN.out
/-- What stands in a result's variable. -/
theorem st_store {w w5 w6 : World} {r : Nat} {s : Stp} {a b c d v1 v2 : Value} (hr : w5.heap[r]? = some (.cells #[a, b, c, d] 92 (0, 0))) (hw : w.heap.size ≤ r) {base : Nat} (hbs : w.heap.size ≤ base) (h1 : w5.ownsRow base 41 9 v1 s.T.length (ncells s.T)) (h2 : w5.ownsRow base 95 3 v2 s.evs.length (ecells s.evs))
    (hb : Below w.heap.size w w5) (hw6 : w6 = ((((w5.setCell ⟨r, 0, none⟩ (v1)).setCell ⟨r, 1, none⟩ (.string (B s.path))).setCell ⟨r, 2, none⟩ (v2)).setCell ⟨r, 3, none⟩ (.int .i64 s.e))) : StPost s w (.returned (.agg #[v1, .string (B s.path), v2, .int .i64 s.e])) w6 ∧ w6.heap[r]? = some (.cells #[v1, .string (B s.path), v2, .int .i64 s.e] 92 (0, 0)) := by
  obtain ⟨hwr, h6⟩ := set_st hr v1 (.string (B s.path)) v2 (.int .i64 s.e)
  rw [← hw6] at hwr h6
  exact ⟨⟨v1, v2, rfl, own_base (own_gb h1 hwr.gb (own_ne h1 hr (by decide))) hbs, own_base (own_gb h2 hwr.gb (own_ne h2 hr (by decide))) hbs, hb.trans (hwr.below.mono hw)⟩, h6⟩
set_option maxHeartbeats 4000000 in
theorem rremove_any {w : World} {A : Option Addr} {c : Nat} {T : Tr} (h : Rd ncell 9 w A T.length T) (hn : T.length ≤ 1000000) (p : Txt) (hp : p.length ≤ 2097152) (zx : Int) (hks : inr ((get (wout T p) (parent p)).getD nd0).ks = true) (hnx : inr ((get (wout T p) (parent p)).getD nd0).nx = true) :
    Calls Tryz.prog 47 #[.slice A T.length c, .int .i64 zx, .string (B p)] w (StPost (remove T zx p) w) := by
  obtain ⟨w1, hw1⟩ : ∃ w1, w1 = w.alloc (.cells #[.slice none 0 0, .string ⟨#[]⟩, .slice none 0 0, .int .i64 0] 92) := ⟨_, rfl⟩
  obtain ⟨r, er⟩ : ∃ r, r = w.heap.size := ⟨_, rfl⟩
  have hb1 : Below w.heap.size w w1 := by rw [hw1]; exact box_below w _
  have hr : w1.heap[r]? = some (.cells #[.slice none 0 0, .string ⟨#[]⟩, .slice none 0 0, .int .i64 0] 92 (0, 0)) := by rw [hw1, er]; exact new_block w _
  have HWO := Lib.hid (rwithout_any (c := c) (h.below hb1) hn p)
  have HN := Lib.hid hn
  have HP := Lib.hid hp
  have HKK := Lib.hid hks
  have HNX := Lib.hid hnx
  have HB1 := Lib.hid hb1
  have HW1 := Lib.hid hw1
  have HR1 := Lib.hid hr
  have ER := Lib.hid er
  obtain ⟨S, hS⟩ : ∃ S, wout T p = S := ⟨_, rfl⟩
  have HS := Lib.hid hS
  have HSL : Hid (S.length ≤ T.length) := Lib.hid (by rw [← hS]; exact wout_len_le T p)
  rw [hS] at HWO HKK HNX
  clear h hn hp hks hnx hb1 hw1 hr er hS
  go_enter Tryz.func47, Tryz.ntmps47
  go_upto_region 1 with fail
  rw [← HW1.out, ← ER.out]
  go_wp2_with fail
  refine HWO.out.mono ?_
  rintro e w2 ⟨v, rfl, hv, hb2⟩
  obtain ⟨A2, c2, rfl, -, -, -⟩ := own_form hv
  obtain ⟨w3, hw3⟩ : ∃ w3, w3 = w2.alloc (.cells #[.int .i64 0, .int .i64 2, .string (B p)] 95) := ⟨_, rfl⟩
  have hb3 : Below w2.heap.size w2 w3 := by rw [hw3]; exact box_below w2 _
  have hg3 : w3.heap[w2.heap.size]? = some (.cells #[.int .i64 0, .int .i64 2, .string (B p)] 95 (0, 0)) := by rw [hw3]; exact new_block w2 _
  have hB3 := HB1.out.trans ((hb2.trans (hb3.mono hb2.size)).mono HB1.out.size)
  have hr3 := blk_below (blk_below HR1.out hb2) hb3
  have HKI := Lib.hid (rkid_any (cT := c2) (cE := 1) p (Rd.of_own (own_below hv hb3) (fun _ _ => rfl) (by omega)) (Nat.le_trans HSL.out HN.out) (E := [⟨0, 2, p⟩]) (Rd.of_own (base := 0) (own_new (n := 1) (sz := 3) hg3 (Nat.zero_le _) (by unfold maxLen; omega) rfl) (fun _ _ => rfl) (by omega)) (fun e => by cases e) (by omega) HP.out zx HKK.out HNX.out false)
  have HB3 := Lib.hid hB3
  have HR3 := Lib.hid hr3
  have HW3 := Lib.hid hw3
  clear hv hb2 hw3 hb3 hg3 hB3 hr3
  go_wp2_with fail
  rw [← HW3.out]
  refine HKI.out.mono ?_
  rintro e w4 ⟨v1, v2, rfl, h1, h2, hb4⟩
  have hr4 := blk_below HR3.out hb4
  have hB4 := HB3.out.trans (hb4.mono HB3.out.size)
  obtain ⟨A1, c1, e1, -, -, -⟩ := own_form h1
  obtain ⟨A3, c3, e3, -, -, -⟩ := own_form h2
  obtain ⟨R, hR⟩ : ∃ R, kidS S p [⟨0, 2, p⟩] zx false = R := ⟨_, rfl⟩
  have hR2 : remove T zx p = R := by rw [← hR, ← HS.out]; rfl
  rw [hR] at h1 h2 e1 e3
  obtain ⟨n1, en1⟩ : ∃ n1, R.T.length = n1 := ⟨_, rfl⟩
  obtain ⟨n3, en3⟩ : ∃ n3, R.evs.length = n3 := ⟨_, rfl⟩
  obtain ⟨w6, hw6⟩ : ∃ w6, w6 = ((((w4.setCell ⟨r, 0, none⟩ (v1)).setCell ⟨r, 1, none⟩ (.string (B R.path))).setCell ⟨r, 2, none⟩ (v2)).setCell ⟨r, 3, none⟩ (.int .i64 R.e)) := ⟨_, rfl⟩
  obtain ⟨hst, h6⟩ := st_store hr4 (by rw [ER.out]; exact Nat.le_refl _) HB3.out.size h1 h2 hB4 hw6
  rw [en1] at e1
  rw [en3] at e3
  subst e1 e3
  have HFIN := Lib.hid hst
  have HR2 := Lib.hid hR2
  have HW6 := Lib.hid hw6
  have q0 := cell_of hr4 (j := 0) rfl
  have q1 := cell_of hr4 (j := 1) rfl
  have q2 := cell_of hr4 (j := 2) rfl
  have q3 := cell_of hr4 (j := 3) rfl
  have rf0 := frozen_of_row w4 _ 0 _ _ hr4
  have rf1 := frozen_of_row w4 _ 1 _ _ hr4
  have rf2 := frozen_of_row w4 _ 2 _ _ hr4
  have rf3 := frozen_of_row w4 _ 3 _ _ hr4
  have t0 := cell_of h6 (j := 0) rfl
  have t1 := cell_of h6 (j := 1) rfl
  have t2 := cell_of h6 (j := 2) rfl
  have t3 := cell_of h6 (j := 3) rfl
  obtain ⟨rp, hrp⟩ : ∃ x, R.path = x := ⟨_, rfl⟩
  obtain ⟨re, hre⟩ : ∃ x, R.e = x := ⟨_, rfl⟩
  rw [hrp, hre] at HFIN
  rw [hrp, hre] at HW6
  rw [hrp] at t1
  rw [hre] at t3
  rw [hR, hrp, hre]
  clear h1 h2 hb4 hr4 hB4 hR2 en1 en3 hw6 hst h6 hR hrp hre
  go_wp2_with fail
  rw [← HW6.out]
  exact bodyPost_ret (v := .agg #[.slice A1 n1 c1, .string (B rp), .slice A3 n3 c3, .int .i64 re]) (by simp [results, Tryz.results47, go_sem, t0, t1, t2, t3]) rfl (by rw [HR2.out]; exact HFIN.out)
end Go.Proofs.YtfkhnnmibecbeaaGreatDoor
