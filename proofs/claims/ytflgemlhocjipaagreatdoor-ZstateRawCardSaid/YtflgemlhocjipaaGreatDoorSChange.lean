/-
  What the methods open, change, close and applyFor of a state, and Apply, return and leave. Condition: the state is good.
  What the method change of a state returns and leaves. Condition: the state is good, and the session is there.
-/
import Derived.Test.YtflgemlhocjipaaGreatDoorSGet
import Derived.Test.YtflgemlhocjipaaGreatDoorLOpen
import Derived.Test.YtflgemlhocjipaaGreatDoorEndP
namespace Go.Proofs.YtflgemlhocjipaaGreatDoor
set_option maxRecDepth 100000
open Go.ChangeShapes Go.WideShapes Go.ChangeAt Go.RowKit Go.Proofs.Zn Go.Proofs.Zt
open Go.Proofs.Zs (St Lst Rep Tx)

/-- What a transaction tells and leaves. -/
def ApPost (B sp : Nat) (a : St × Rep × List Evt) (w : World) (e : Ending) (w' : World) : Prop := ∃ vp ve, e = .returned (.tuple #[.agg #[.int .i64 a.2.1.c, .int .i64 a.2.1.s, vp], ve]) ∧ StW w' B sp a.1 ∧ SK B w w' ∧
  w'.ownsRow w.heap.size 9 1 vp a.2.1.ps.length (scells a.2.1.ps) ∧ w'.ownsRow w.heap.size 165 3 ve a.2.2.length (ecells a.2.2)
theorem no_row (w : World) (base e sz : Nat) : w.ownsRow base e sz (.slice none 0 0) 0 [] := ⟨by simp, .inl ⟨rfl, rfl⟩⟩
theorem okL_range {T : Le.Tb} (hg : Le.Good T) {s : Int} {x : Le.Ls} (h : Le.has T s = some x) : 1 ≤ s ∧ s ≤ 4611686018427387904 := by
  obtain ⟨h1, rfl⟩ := Le.has_mem h
  have := hg.each x h1
  unfold Le.okL at this
  simp only [Bool.and_eq_true, decide_eq_true_eq] at this
  omega
def OpPost (B sp : Nat) (a : St × Rep × List Evt) (w : World) (e : Ending) (w' : World) : Prop := e = .returned (.agg #[.int .i64 a.2.1.c, .int .i64 a.2.1.s, .slice none 0 0]) ∧ StW w' B sp a.1 ∧ SK B w w'
theorem SVw.st {w : World} {B sp tp tmb lp mb : Nat} {lv : Value} {S : St} (h : SVw w B sp tp tmb lp lv mb S.L S) : StW w B sp S := ⟨tp, tmb, lp, lv, mb, h⟩
/-- A box of the call's own is written into. -/
theorem SVw.wr {w w' : World} {B sp tp tmb lp mb r : Nat} {lv : Value} {LM : Le.Tb} {S : St} (h : SVw w B sp tp tmb lp lv mb LM S) (hw : Wr r w w') {cs : Array Value} {t : TypeId} {fr : Nat × Nat} (hr : w.heap[r]? = some (.cells cs t fr)) (ht : okTy t = true) (ht2 : t ≠ 9) : SVw w' B sp tp tmb lp lv mb LM S := by
  have hg := hw.gb
  have n1 : ∀ {q : Nat} {cs' : Array Value} {t' : TypeId} {fr' : Nat × Nat}, w.heap[q]? = some (.cells cs' t' fr') → okTy t' = false → q ≠ r := fun hq hq' e => by
    rw [e, hr] at hq; injection hq with hq; injection hq with _ e _; rw [e] at ht; rw [ht] at hq'; cases hq'
  have nm : ∀ {q : Nat}, (∃ (es : Array MapEntry) (ck : Nat), w.heap[q]? = some (Obj.map es ck)) → q ≠ r := fun hq e => by
    obtain ⟨es, ck, hq⟩ := hq
    rw [e, hr] at hq; cases hq
  have hts : 100 ≠ t := fun e => by rw [← e] at ht; exact absurd ht (by decide)
  refine ⟨gb_cells hg (n1 h.here (by decide)) h.here, h.tree.gb hg (n1 h.tree.here (by decide)) (nm (by obtain ⟨es, ck, hm, -⟩ := h.tree.map; exact ⟨es, ck, hm⟩)), ⟨gb_cells hg (n1 h.tab.here (by decide)) h.tab.here, own_gb h.tab.row hg (own_ne h.tab.row hr (Ne.symm hts)), h.tab.ge⟩, h.map.keep (hw.rest _ (nm h.map.is_map)) (fun v n xs hv => own_gb hv hg (own_ne hv hr ht2)), h.g1, h.g2, h.g3⟩
theorem Wr.fresh {w0 w w' : World} {B r : Nat} (hs : SK B w0 w) (hr : w0.heap.size ≤ r) (hw : Wr r w w') : SK B w0 w' := by
  refine ⟨hw.below.os.trans hs.os, hw.below.tape.trans hs.tape, hw.below.output.trans hs.output, Nat.le_trans hs.size hw.below.size, fun k o ho hk => ?_⟩
  have hlt := (Array.getElem?_eq_some_iff.1 ho).1
  exact (hw.rest k (by omega)).trans (hs.block k o ho hk)
theorem Wr.own {w w' : World} {r base e sz n : Nat} {v : Value} {xs : List Value} (h : Wr r w w') {cs : Array Value} {t : TypeId} {fr : Nat × Nat} (hr : w.heap[r]? = some (.cells cs t fr)) (hv : w.ownsRow base e sz v n xs) (hne : t ≠ e) : w'.ownsRow base e sz v n xs := own_gb hv h.gb (own_ne hv hr hne)
set_option maxHeartbeats 4000000 in
theorem sopen_any {w : World} {B sp : Nat} {S : St} (h : StW w B sp S) (hg : Zs.Gd S) (t : Tx) (At : Option Addr) (nt ct : Nat) :
    Calls Tryz.prog 42 #[.pointer (some ⟨sp, 0, none⟩), .agg #[.int .i64 t.k, .int .i64 t.s, .int .i64 t.n, .int .i64 t.sp, .int .i64 t.now, .slice At nt ct]] w (OpPost B sp (Zs.opnS S t.sp t.now) w) := by
  obtain ⟨tp, tmb, lp, lv, mb, h⟩ := h
  obtain ⟨w2, hw2, hbw2, hkq, hkr, hsw2⟩ := two_box w (.cells #[.int .i64 t.k, .int .i64 t.s, .int .i64 t.n, .int .i64 t.sp, .int .i64 t.now, .slice At nt ct] 46) (.cells #[.int .i64 0, .int .i64 0, .slice none 0 0] 42)
  obtain ⟨q, eq⟩ : ∃ x, x = w.heap.size := ⟨_, rfl⟩
  obtain ⟨r, er⟩ : ∃ x, x = w.heap.size + 1 := ⟨_, rfl⟩
  rw [← eq] at hkq
  rw [← er] at hkr
  have h2 := h.below hbw2
  have hB : B ≤ w2.heap.size := by have := blk_lt h2.here; have := h2.g1; omega
  have HC := Lib.hid (Lq.open_any (w := w2.drew) (h2.below (Below.refl _ _).drew).tab hB hg.L ⟨S.z, t.sp, t.now⟩)
  have c0 := cell_of h2.here (j := 0) rfl
  have c2 := cell_of h2.here (j := 2) rfl
  have q0 := cell_of hkq (j := 0) rfl
  have q1 := cell_of hkq (j := 1) rfl
  have q2 := cell_of hkq (j := 2) rfl
  have q3 := cell_of hkq (j := 3) rfl
  have q4 := cell_of hkq (j := 4) rfl
  have q5 := cell_of hkq (j := 5) rfl
  have hcas := Zs.opn_cases hg.L ⟨S.z, t.sp, t.now⟩
  have hT : 0 < S.T.length := by
    obtain ⟨x, hx, -⟩ := hg.T.root
    exact List.length_pos_of_mem (get_some hx).1
  have hlen : S.L.length ≤ 100 := hg.L.len
  have hfd0 : Le.has S.L S.z = none → Zs.fd S.D S.z = ⟨S.z, 0, Zs.r0⟩ := fun hn => Zs.fd_zero (Zs.lk_none.2 fun x hx e => by
    have := hg.mem x hx
    rw [e, hn] at this; cases this)
  obtain ⟨a, ha⟩ : ∃ a, Le.opn S.L ⟨S.z, t.sp, t.now⟩ = a := ⟨_, rfl⟩
  unfold Zs.opnS OpPost
  rw [ha] at HC hcas ⊢
  obtain ⟨rp, hrp⟩ : ∃ x, (if a.2 ≠ 0 then Zs.er a.2 else (⟨0, S.z, []⟩ : Rep)) = x := ⟨_, rfl⟩
  rw [hrp]
  have HRP := Lib.hid hrp
  have hr0 : w.heap.size ≤ r ∧ q ≠ r := by omega
  have hz : 0 ≤ S.z ∧ S.z ≤ 4611686018427387904 := ⟨hg.z0, hg.z1⟩
  have HH := Lib.hid h2
  have HB2 := Lib.hid hbw2
  have HR := Lib.hid hkr
  have HNE := Lib.hid hr0
  have HCAS := Lib.hid hcas
  have HT := Lib.hid hT
  have HLN := Lib.hid hlen
  have HFD := Lib.hid hfd0
  have HZ := Lib.hid hz
  have HW2 := Lib.hid hw2
  have EQ := Lib.hid eq
  have ER := Lib.hid er
  clear h h2 hB hg hcas hT hlen hfd0 hr0 hz hw2 eq er hbw2 hkq hkr hsw2 ha hrp
  go_enter Tryz.func42, Tryz.ntmps42
  go_upto_region 1 with fail
  rw [← HW2.out, ← ER.out, ← EQ.out]
  go_still_tail 12, (by kernel_rfl)
  change wpList _ _ _ _ _ w2.drew
  go_wp2_with fail
  refine HC.out.mono ?_
  rintro e w3 ⟨rfl, hk3⟩
  obtain ⟨⟨lv', h3⟩, hs3⟩ := (HH.out.below ((Below.refl w2.heap.size w2).drew)).setL hk3
  have hs03 : SK B w w3 := ((SK.of_below HB2.out).trans (SK.of_below (Below.refl _ _).drew)).trans hs3
  have hr3 := hs3.blk (w := w2.drew) HR.out (by decide)
  rcases HCAS.out with ⟨e1, e2⟩ | ⟨e1, e2, e3, e4, e5, e6⟩
  · have t0 : (a.2 != 0) = true := by rw [e1]; rfl
    rw [e2] at h3
    obtain ⟨er', her⟩ : ∃ x, a.2 = x := ⟨_, rfl⟩
    have HIF : Hid (rp = Zs.er er') := Lib.hid (by rw [← HRP.out, if_pos (by omega), her])
    rw [her] at t0 ⊢
    obtain ⟨w4, hw4⟩ : ∃ x, x = (((w3.setCell ⟨r, 0, none⟩ (.int .i64 er')).setCell ⟨r, 1, none⟩ (.int .i64 0)).setCell ⟨r, 2, none⟩ (.slice none 0 0)) := ⟨_, rfl⟩
    obtain ⟨hwrw4, hkw4⟩ := set3 hr3 (.int .i64 er') (.int .i64 0) (.slice none 0 0)
    rw [← hw4] at hwrw4 hkw4
    have h4 := (h3.wr hwrw4 hr3 (by decide) (by decide)).st
    have HE : Hid (Ending.returned (.agg #[.int .i64 er', .int .i64 0, .slice none 0 0]) = .returned (.agg #[.int .i64 rp.c, .int .i64 rp.s, .slice none 0 0]) ∧ StW w4 B sp ⟨S.z, S.T, a.1, S.D⟩ ∧ SK B w w4) := Lib.hid
      ⟨by rw [HIF.out]; rfl, by rw [e2]; exact h4, hwrw4.fresh hs03 HNE.out.1⟩
    have y0 := cell_of hr3 (j := 0) rfl
    have y1 := cell_of hr3 (j := 1) rfl
    have y2 := cell_of hr3 (j := 2) rfl
    have g0 := frozen_of_row w3 _ 0 _ _ hr3
    have g1 := frozen_of_row w3 _ 1 _ _ hr3
    have g2 := frozen_of_row w3 _ 2 _ _ hr3
    have z0 := cell_of hkw4 (j := 0) rfl
    have z1 := cell_of hkw4 (j := 1) rfl
    have z2 := cell_of hkw4 (j := 2) rfl
    have HW4 := Lib.hid hw4
    clear h4 hw4 hwrw4 hkw4 hk3 h3 hs3 hs03 hr3 e1 e2 her
    go_wp2_with fail
    rw [← HW4.out]
    exact bodyPost_ret (v := .agg #[.int .i64 er', .int .i64 0, .slice none 0 0]) (by simp [results, Tryz.results42, go_sem, z0, z1, z2]) rfl HE.out
  · have t0 : (a.2 != 0) = false := by rw [e1]; rfl
    have HIF : Hid (rp = (⟨0, S.z, []⟩ : Rep)) := Lib.hid (by rw [← HRP.out, if_neg (by omega)])
    have h3d := h3.below ((Below.refl w3.heap.size w3).drew)
    obtain ⟨w5, hrun, hd5, hg5⟩ := DW.store h3d.map (by have := HLN.out; omega) HZ.out.1 HZ.out.2 dn0 Zs.r0 rfl rfl (no_row _ _ _ _) (L' := a.1) (D' := S.D) e6 (by rw [e3, if_neg (by simp)]; exact e5) (fun x => by
      split
      · rename_i hx; subst hx; rw [HFD.out e3]; exact ⟨rfl, rfl⟩
      · rfl)
    obtain ⟨h5, hs5⟩ := h3d.setM HT.out hd5 hg5
    have hr5 := hs5.blk (w := w3.drew) hr3 (by decide)
    have hs05 : SK B w w5 := (hs03.trans (SK.of_below (Below.refl _ _).drew)).trans hs5
    have c0 := cell_of h3.here (j := 0) rfl
    have c3 := cell_of h3.here (j := 3) rfl
    have k0 := cell_of h5.here (j := 0) rfl
    dsimp only at c0 k0
    have HFI : Hid (∀ W, Wr r w5 W → Ending.returned (.agg #[.int .i64 0, .int .i64 S.z, .slice none 0 0]) = .returned (.agg #[.int .i64 rp.c, .int .i64 rp.s, .slice none 0 0]) ∧ StW W B sp ⟨S.z, S.T, a.1, S.D⟩ ∧ SK B w W) := Lib.hid (fun W hW =>
      ⟨by rw [HIF.out], (h5.wr hW hr5 (by decide) (by decide)).st, hW.fresh hs05 HNE.out.1⟩)
    obtain ⟨w6, hw6⟩ : ∃ x, x = (((w5.setCell ⟨r, 0, none⟩ (.int .i64 0)).setCell ⟨r, 1, none⟩ (.int .i64 S.z)).setCell ⟨r, 2, none⟩ (.slice none 0 0)) := ⟨_, rfl⟩
    obtain ⟨hwrw6, hkw6⟩ := set3 hr5 (.int .i64 0) (.int .i64 S.z) (.slice none 0 0)
    rw [← hw6] at hwrw6 hkw6
    have HE := Lib.hid (HFI.out w6 hwrw6)
    have y0 := cell_of hr5 (j := 0) rfl
    have y1 := cell_of hr5 (j := 1) rfl
    have y2 := cell_of hr5 (j := 2) rfl
    have g0 := frozen_of_row w5 _ 0 _ _ hr5
    have g1 := frozen_of_row w5 _ 1 _ _ hr5
    have g2 := frozen_of_row w5 _ 2 _ _ hr5
    have z0 := cell_of hkw6 (j := 0) rfl
    have z1 := cell_of hkw6 (j := 1) rfl
    have z2 := cell_of hkw6 (j := 2) rfl
    have HW6 := Lib.hid hw6
    unfold dn0 at hrun
    dsimp only at hrun
    clear h3 h3d hd5 hg5 h5 hs5 hr5 hs05 hw6 hwrw6 hkw6 hk3 hs3 hs03 hr3 e1 e2 e3 e4 e5 e6
    go_upto_region 4 with fail
    go_still_tail 9, (by kernel_rfl)
    change wpList _ _ _ _ _ w3.drew
    go_wp2_with fail
    rw [← HW6.out]
    exact bodyPost_ret (v := .agg #[.int .i64 0, .int .i64 S.z, .slice none 0 0]) (by simp [results, Tryz.results42, go_sem, z0, z1, z2]) rfl HE.out
end Go.Proofs.YtflgemlhocjipaaGreatDoor
namespace Go.Proofs.YtflgemlhocjipaaGreatDoor
set_option maxRecDepth 100000
open Go.ChangeShapes Go.WideShapes Go.ChangeAt Go.RowKit Go.Proofs.Zn Go.Proofs.Zt
open Go.Proofs.Zs (St Lst Rep Tx)

set_option maxHeartbeats 4000000 in
theorem schange_any {w : World} {B sp : Nat} {S : St} (h : StW w B sp S) (hg : Zs.Gd S) (t : Tx) {x : Le.Ls} (hx : Le.has S.L t.s = some x) {At : Option Addr} {nt ct : Nat} (hrd : Rd ccell 6 w At nt t.l) (hp : ∀ c ∈ t.l, ChOk c) :
    Calls Tryz.prog 86 #[.pointer (some ⟨sp, 0, none⟩), .agg #[.int .i64 t.k, .int .i64 t.s, .int .i64 t.n, .int .i64 t.sp, .int .i64 t.now, .slice At nt ct]] w (ApPost B sp (Zs.chg S t) w) := by
  obtain ⟨tp, tmb, lp, lv, mb, h⟩ := h
  obtain ⟨w2, hw2, hbw2, hkq, hkr, hsw2⟩ := two_box w (.cells #[.int .i64 t.k, .int .i64 t.s, .int .i64 t.n, .int .i64 t.sp, .int .i64 t.now, .slice At nt ct] 46) (.cells #[.int .i64 0, .int .i64 0, .slice none 0 0] 42)
  obtain ⟨q, eq⟩ : ∃ x, x = w.heap.size := ⟨_, rfl⟩
  obtain ⟨r, er⟩ : ∃ x, x = w.heap.size + 1 := ⟨_, rfl⟩
  rw [← eq] at hkq
  rw [← er] at hkr
  have h2 := h.below hbw2
  have hrng := okL_range hg.L hx
  obtain ⟨d, hlk, d1, d2, d3, hrow⟩ := dlook_all h2.map (a := t.s) (by omega) (by omega)
  have HSS : Hid (∀ (W : World), Below w2.heap.size w2 W → (W.cell? ⟨sp, 3, none⟩ = some (.map (some mb)) ∧ W.cell? ⟨q, 1, none⟩ = some (.int .i64 t.s) ∧ (Instr.lookup 90 (.map (some mb)) (.int .i64 t.s) false).run Tryz.prog W = .ok (.agg #[.int .i64 d.n, .int .i64 d.c, .int .i64 d.s, .slice d.A d.m d.k]) W)) := Lib.hid (fun W hW => ⟨cell_of (blk_below h2.here hW) (j := 3) rfl, cell_of (blk_below hkq hW) (j := 1) rfl, (hlk W (hW.block _ h2.map.lt)).2⟩)
  obtain ⟨ps, hpe⟩ : ∃ ps, (Zs.fd S.D t.s).r.ps = ps := ⟨_, rfl⟩
  have hps6 : ps.length ≤ 6 := by
    rw [← hpe]
    cases hk : Zs.lk S.D t.s with
    | none => rw [Zs.fd_zero hk]; exact Nat.zero_le _
    | some y => rw [Zs.fd_some hk]; exact (hg.ps y (Zs.lk_some hk).1).1
  rw [hpe] at hrow
  obtain ⟨w3, hw3⟩ : ∃ x, x = (w2.alloc (.cells #[.int .i64 d.n, .int .i64 d.c, .int .i64 d.s, .slice d.A d.m d.k] 149)).drew := ⟨_, rfl⟩
  obtain ⟨s, es⟩ : ∃ x, x = w2.heap.size := ⟨_, rfl⟩
  have hb23 : Below w2.heap.size w2 w3 := by rw [hw3]; exact (box_below w2 _).drew
  have hks : w3.heap[s]? = some (.cells #[.int .i64 d.n, .int .i64 d.c, .int .i64 d.s, .slice d.A d.m d.k] 149 (0, 0)) := by rw [hw3, es]; exact new_block w2 _
  have hm : d.m = ps.length := by
    obtain ⟨A, c, e, -, -, -⟩ := own_form hrow
    injection e
  have hrow3 := own_below hrow hb23
  rw [← hm] at hrow3
  have hr3 := blk_below hkr hb23
  have hq3 := blk_below hkq hb23
  have h3 := h2.below hb23
  have hs3 : SK B w w3 := .of_below (hbw2.trans (hb23.mono hbw2.size))
  have hsz3 := (hbw2.trans (hb23.mono hbw2.size)).size
  have hrd3 := hrd.below (hbw2.trans (hb23.mono hbw2.size))
  have hne : w.heap.size ≤ r := by omega
  have hT : 0 < S.T.length := by
    obtain ⟨y, hy, -⟩ := hg.T.root
    exact List.length_pos_of_mem (get_some hy).1
  have hNt := hrd.len
  have HTO := Lib.hid (told_any hrow3 hm.symm (by omega) d.n d.c d.s)
  have HDO : Hid (t.l.length ≤ 6 → Calls Tryz.prog 34 #[.pointer (some ⟨tp, 0, none⟩), .int .i64 S.z, .int .i64 t.s, .slice At nt ct] w3.drew (DoPost tp (doL S.T S.z t.s t.l) w3.drew)) := Lib.hid (fun h6 => do_any (h3.below (Below.refl _ _).drew).tree hg.T S.z t.s (hrd3.below (Below.refl _ _).drew) (by omega) hp)
  have c3 := cell_of h2.here (j := 3) rfl
  have k0 := cell_of h3.here (j := 0) rfl
  have k1 := cell_of h3.here (j := 1) rfl
  have q0 := cell_of hkq (j := 0) rfl
  have q1 := cell_of hkq (j := 1) rfl
  have q2 := cell_of hkq (j := 2) rfl
  have q3 := cell_of hkq (j := 3) rfl
  have q4 := cell_of hkq (j := 4) rfl
  have q5 := cell_of hkq (j := 5) rfl
  have p0 := cell_of hq3 (j := 0) rfl
  have p1 := cell_of hq3 (j := 1) rfl
  have p2 := cell_of hq3 (j := 2) rfl
  have p3 := cell_of hq3 (j := 3) rfl
  have p4 := cell_of hq3 (j := 4) rfl
  have p5 := cell_of hq3 (j := 5) rfl
  have s0 := cell_of hks (j := 0) rfl
  have s1 := cell_of hks (j := 1) rfl
  have s2 := cell_of hks (j := 2) rfl
  have s3 := cell_of hks (j := 3) rfl
  obtain ⟨a, ha⟩ : ∃ a, Zs.chg S t = a := ⟨_, rfl⟩
  rw [ha]
  obtain ⟨m1, hm1⟩ : ∃ m, max d.n 1 = m := ⟨_, rfl⟩
  obtain ⟨b1, hb1⟩ : ∃ b, decide (t.n < m1) = b := ⟨_, rfl⟩
  obtain ⟨b2, hb2⟩ : ∃ b, decide (4611686018427387904 < t.n) = b := ⟨_, rfl⟩
  obtain ⟨b3, hb3⟩ : ∃ b, decide ((6 : Int) < (nt : Int)) = b := ⟨_, rfl⟩
  have HA := Lib.hid ha
  have HH3 := Lib.hid h3
  have HS3 := Lib.hid hs3
  have HR3 := Lib.hid hr3
  have HQ3 := Lib.hid hq3
  have HSZ := Lib.hid hsz3
  have HNE := Lib.hid hne
  have HT := Lib.hid hT
  have HG := Lib.hid hg
  have HX := Lib.hid hx
  have HRNG := Lib.hid hrng
  have HP6 := Lib.hid hps6
  have HN := Lib.hid hNt
  have HRW := Lib.hid hrow3
  have HMP := Lib.hid hm
  have HD1 := Lib.hid d1
  have HD2 := Lib.hid d2
  have HD3 := Lib.hid d3
  have HPE := Lib.hid hpe
  have HB1 : Hid (b1 = decide (t.n < 1 ∨ t.n < (Zs.fd S.D t.s).n)) := Lib.hid (by rw [← hb1, ← hm1, ← d1]; exact decide_eq_decide.2 (by omega))
  have HB2 := Lib.hid hb2
  have HB3 : Hid (b3 = decide (6 < t.l.length)) := Lib.hid (by rw [← hb3, hNt]; exact decide_eq_decide.2 (by omega))
  have HM1 := Lib.hid hm1
  have HW2 := Lib.hid hw2
  have HW3 := Lib.hid hw3
  have EQ := Lib.hid eq
  have ER := Lib.hid er
  have ES := Lib.hid es
  have HKS := Lib.hid hks
  clear h h2 h3 hs3 hr3 hq3 hsz3 hne hT hg hx hrng hps6 hNt hrow hrow3 hm d1 d2 d3 hpe hrd hrd3 hp ha hw2 hw3 eq er es hbw2 hb23 hkq hkr hsw2
  go_enter Tryz.func86, Tryz.ntmps86
  go_upto_region 1 with fail
  rw [← HW2.out, ← ER.out, ← EQ.out]
  go_cut [6] from 11 (fun p wx => p = .pointer (some ⟨s, 0, none⟩) ∧ wx = w3)
  case first =>
    go_region_held3 (fun W => W.cell? ⟨sp, 3, none⟩ = some (.map (some mb)) ∧ W.cell? ⟨q, 1, none⟩ = some (.int .i64 t.s) ∧ (Instr.lookup 90 (.map (some mb)) (.int .i64 t.s) false).run Tryz.prog W = .ok (.agg #[.int .i64 d.n, .int .i64 d.c, .int .i64 d.s, .slice d.A d.m d.k]) W)
      (first
        | assumption
        | (with_reducible exact HSS.out _ (Below.refl _ _).drew)
        | (with_reducible exact HSS.out _ (box_below _ _).drew)
        | (with_reducible exact HSS.out _ ((((((box_below _ _).drew).setCell (Nat.le_refl _) _).setCell (Nat.le_refl _) _).setCell (Nat.le_refl _) _).setCell (Nat.le_refl _) _))
        | (with_reducible exact HSS.out _ (Below.drew (((((box_below _ _).setCell (Nat.le_refl _) _).setCell (Nat.le_refl _) _).setCell (Nat.le_refl _) _).setCell (Nat.le_refl _) _))))
      (fail)
    all_goals
      rw [← HW3.out, ← ES.out]
      go_wp2_with fail
      go_meet
      exact ⟨rfl, rfl⟩
  case rest =>
    obtain ⟨rfl, hwc⟩ := hcut
    obtain rfl : w3 = wc := hwc.symm
    clear hwc hlk
    cases b1 with
    | true =>
      have HD : Hid (a = (S, Zs.er 1, [])) := Lib.hid (by rw [← HA.out]; unfold Zs.chg; rw [if_pos (by have := of_decide_eq_true HB1.out.symm; omega)])
      have hr3 := HR3.out
      obtain ⟨w6, hw6⟩ : ∃ x, x = (((w3.setCell ⟨r, 0, none⟩ (.int .i64 1)).setCell ⟨r, 1, none⟩ (.int .i64 0)).setCell ⟨r, 2, none⟩ (.slice none 0 0)) := ⟨_, rfl⟩
      obtain ⟨hwrw6, hkw6⟩ := set3 hr3 (.int .i64 1) (.int .i64 0) (.slice none 0 0)
      rw [← hw6] at hwrw6 hkw6
      have HE : Hid (ApPost B sp a w (.returned (.tuple #[.agg #[.int .i64 1, .int .i64 0, .slice none 0 0], .slice none 0 0])) w6) := Lib.hid
        (by rw [HD.out]; exact ⟨_, _, rfl, (HH3.out.wr hwrw6 hr3 (by decide) (by decide)).st, hwrw6.fresh HS3.out HNE.out, no_row _ _ _ _, no_row _ _ _ _⟩)
      have y0 := cell_of hr3 (j := 0) rfl
      have y1 := cell_of hr3 (j := 1) rfl
      have y2 := cell_of hr3 (j := 2) rfl
      have g0 := frozen_of_row w3 _ 0 _ _ hr3
      have g1 := frozen_of_row w3 _ 1 _ _ hr3
      have g2 := frozen_of_row w3 _ 2 _ _ hr3
      have z0 := cell_of hkw6 (j := 0) rfl
      have z1 := cell_of hkw6 (j := 1) rfl
      have z2 := cell_of hkw6 (j := 2) rfl
      have HW6 := Lib.hid hw6
      clear hw6 hwrw6 hkw6 hr3
      go_wp2_with fail
      rw [← HW6.out]
      exact bodyPost_ret (v := .tuple #[.agg #[.int .i64 1, .int .i64 0, .slice none 0 0], .slice none 0 0]) (by simp [results, Tryz.results86, go_sem, z0, z1, z2]) rfl HE.out
    | false =>
      cases b2 with
      | true =>
        have HD : Hid (a = (S, Zs.er 1, [])) := Lib.hid (by rw [← HA.out]; unfold Zs.chg; rw [if_pos (by have := of_decide_eq_true HB2.out; unfold mx; omega)])
        have hr3 := HR3.out
        obtain ⟨w6, hw6⟩ : ∃ x, x = (((w3.setCell ⟨r, 0, none⟩ (.int .i64 1)).setCell ⟨r, 1, none⟩ (.int .i64 0)).setCell ⟨r, 2, none⟩ (.slice none 0 0)) := ⟨_, rfl⟩
        obtain ⟨hwrw6, hkw6⟩ := set3 hr3 (.int .i64 1) (.int .i64 0) (.slice none 0 0)
        rw [← hw6] at hwrw6 hkw6
        have HE : Hid (ApPost B sp a w (.returned (.tuple #[.agg #[.int .i64 1, .int .i64 0, .slice none 0 0], .slice none 0 0])) w6) := Lib.hid
          (by rw [HD.out]; exact ⟨_, _, rfl, (HH3.out.wr hwrw6 hr3 (by decide) (by decide)).st, hwrw6.fresh HS3.out HNE.out, no_row _ _ _ _, no_row _ _ _ _⟩)
        have y0 := cell_of hr3 (j := 0) rfl
        have y1 := cell_of hr3 (j := 1) rfl
        have y2 := cell_of hr3 (j := 2) rfl
        have g0 := frozen_of_row w3 _ 0 _ _ hr3
        have g1 := frozen_of_row w3 _ 1 _ _ hr3
        have g2 := frozen_of_row w3 _ 2 _ _ hr3
        have z0 := cell_of hkw6 (j := 0) rfl
        have z1 := cell_of hkw6 (j := 1) rfl
        have z2 := cell_of hkw6 (j := 2) rfl
        have HW6 := Lib.hid hw6
        clear hw6 hwrw6 hkw6 hr3
        go_wp2_with fail
        rw [← HW6.out]
        exact bodyPost_ret (v := .tuple #[.agg #[.int .i64 1, .int .i64 0, .slice none 0 0], .slice none 0 0]) (by simp [results, Tryz.results86, go_sem, z0, z1, z2]) rfl HE.out
      | false =>
        cases b3 with
        | true =>
          have HD : Hid (a = (S, Zs.er 1, [])) := Lib.hid (by rw [← HA.out]; unfold Zs.chg; rw [if_pos (by have := of_decide_eq_true HB3.out.symm; omega)])
          have hr3 := HR3.out
          obtain ⟨w6, hw6⟩ : ∃ x, x = (((w3.setCell ⟨r, 0, none⟩ (.int .i64 1)).setCell ⟨r, 1, none⟩ (.int .i64 0)).setCell ⟨r, 2, none⟩ (.slice none 0 0)) := ⟨_, rfl⟩
          obtain ⟨hwrw6, hkw6⟩ := set3 hr3 (.int .i64 1) (.int .i64 0) (.slice none 0 0)
          rw [← hw6] at hwrw6 hkw6
          have HE : Hid (ApPost B sp a w (.returned (.tuple #[.agg #[.int .i64 1, .int .i64 0, .slice none 0 0], .slice none 0 0])) w6) := Lib.hid
            (by rw [HD.out]; exact ⟨_, _, rfl, (HH3.out.wr hwrw6 hr3 (by decide) (by decide)).st, hwrw6.fresh HS3.out HNE.out, no_row _ _ _ _, no_row _ _ _ _⟩)
          have y0 := cell_of hr3 (j := 0) rfl
          have y1 := cell_of hr3 (j := 1) rfl
          have y2 := cell_of hr3 (j := 2) rfl
          have g0 := frozen_of_row w3 _ 0 _ _ hr3
          have g1 := frozen_of_row w3 _ 1 _ _ hr3
          have g2 := frozen_of_row w3 _ 2 _ _ hr3
          have z0 := cell_of hkw6 (j := 0) rfl
          have z1 := cell_of hkw6 (j := 1) rfl
          have z2 := cell_of hkw6 (j := 2) rfl
          have HW6 := Lib.hid hw6
          clear hw6 hwrw6 hkw6 hr3
          go_wp2_with fail
          rw [← HW6.out]
          exact bodyPost_ret (v := .tuple #[.agg #[.int .i64 1, .int .i64 0, .slice none 0 0], .slice none 0 0]) (by simp [results, Tryz.results86, go_sem, z0, z1, z2]) rfl HE.out
        | false =>
          have HOK : Hid (1 ≤ t.n ∧ t.n ≤ 4611686018427387904 ∧ (Zs.fd S.D t.s).n ≤ t.n ∧ t.l.length ≤ 6) := Lib.hid (by
            have h1 := of_decide_eq_false HB1.out.symm
            have h2 := of_decide_eq_false HB2.out
            have h3 := of_decide_eq_false HB3.out.symm
            omega)
          obtain ⟨b4, hb4⟩ : ∃ b, (t.n == d.n) = b := ⟨_, rfl⟩
          have HB4 := Lib.hid hb4
          cases b4 with
          | true =>
            have HD : Hid (a = (S, ⟨d.c, d.s, ps⟩, [])) := Lib.hid (by
              have e4 : t.n = d.n := by simpa using HB4.out
              rw [← HA.out]; unfold Zs.chg
              rw [if_neg (by have := HOK.out; unfold mx; omega), if_pos (by rw [e4, HD1.out])]
              rw [HD2.out, HD3.out, ← HPE.out])
            go_wp2_with fail
            refine HTO.out.mono ?_
            rintro e w4 ⟨v, rfl, hv, hb4'⟩
            obtain ⟨A4, c4, rfl, -, -, -⟩ := own_form hv
            have hr4 := blk_below HR3.out hb4'
            obtain ⟨w6, hw6⟩ : ∃ x, x = (((w4.setCell ⟨r, 0, none⟩ (.int .i64 d.c)).setCell ⟨r, 1, none⟩ (.int .i64 d.s)).setCell ⟨r, 2, none⟩ (.slice A4 ps.length c4)) := ⟨_, rfl⟩
            obtain ⟨hwrw6, hkw6⟩ := set3 hr4 (.int .i64 d.c) (.int .i64 d.s) (.slice A4 ps.length c4)
            rw [← hw6] at hwrw6 hkw6
            have HE : Hid (ApPost B sp a w (.returned (.tuple #[.agg #[.int .i64 d.c, .int .i64 d.s, .slice A4 ps.length c4], .slice none 0 0])) w6) := Lib.hid
              (by rw [HD.out]; exact ⟨_, _, rfl, ((HH3.out.below hb4').wr hwrw6 hr4 (by decide) (by decide)).st, hwrw6.fresh (HS3.out.trans (.of_below hb4')) HNE.out, own_base (hwrw6.own hr4 hv (by decide)) HSZ.out, no_row _ _ _ _⟩)
            have y0 := cell_of hr4 (j := 0) rfl
            have y1 := cell_of hr4 (j := 1) rfl
            have y2 := cell_of hr4 (j := 2) rfl
            have g0 := frozen_of_row w4 _ 0 _ _ hr4
            have g1 := frozen_of_row w4 _ 1 _ _ hr4
            have g2 := frozen_of_row w4 _ 2 _ _ hr4
            have z0 := cell_of hkw6 (j := 0) rfl
            have z1 := cell_of hkw6 (j := 1) rfl
            have z2 := cell_of hkw6 (j := 2) rfl
            have HW6 := Lib.hid hw6
            clear hw6 hwrw6 hkw6 hr4 hv hb4'
            go_wp2_with fail
            rw [← HW6.out]
            exact bodyPost_ret (v := .tuple #[.agg #[.int .i64 d.c, .int .i64 d.s, .slice A4 ps.length c4], .slice none 0 0]) (by simp [results, Tryz.results86, go_sem, z0, z1, z2]) rfl HE.out
          | false =>
            obtain ⟨R, hR⟩ : ∃ R, doL S.T S.z t.s t.l = R := ⟨_, rfl⟩
            have hdo := HDO.out HOK.out.2.2.2
            have hpl : R.ps.length ≤ 6 := by rw [← hR]; exact Nat.le_trans (Zs.do_ps _ _ _ _) HOK.out.2.2.2
            rw [hR] at hdo
            have HDC := Lib.hid hdo
            have HPL := Lib.hid hpl
            have HD : Hid (a = (⟨S.z, R.T, S.L, Zs.fg S.D t.s ++ [⟨t.s, t.n, ⟨R.e, 0, R.ps⟩⟩]⟩, ⟨R.e, 0, R.ps⟩, R.es)) := Lib.hid (by
              have e4 : ¬ t.n = d.n := by simpa using HB4.out
              rw [← HA.out]; unfold Zs.chg
              rw [if_neg (by have := HOK.out; unfold mx; omega), if_neg (by rw [← HD1.out]; exact e4), hR])
            have HGT : Hid (0 < R.T.length) := Lib.hid (by
              have := (doL_good HG.out.T S.z t.s t.l).root
              rw [hR] at this
              obtain ⟨y, hy, -⟩ := this
              exact List.length_pos_of_mem (get_some hy).1)
            clear hdo hpl hR
            clear q0 q1 q2 q3 q4 q5
            have HSD : Hid (∀ (W : World) (T : Tr) (tb : Nat), SVw W B sp tp tb lp lv mb S.L ⟨S.z, T, S.L, S.D⟩ → W.heap[q]? = some (.cells #[.int .i64 t.k, .int .i64 t.s, .int .i64 t.n, .int .i64 t.sp, .int .i64 t.now, .slice At nt ct] 46 (0, 0)) → (W.cell? ⟨sp, 0, none⟩ = some (.int .i64 S.z) ∧ W.cell? ⟨sp, 1, none⟩ = some (.pointer (some ⟨tp, 0, none⟩)) ∧ W.cell? ⟨q, 1, none⟩ = some (.int .i64 t.s) ∧ W.cell? ⟨q, 5, none⟩ = some (.slice At nt ct))) := Lib.hid (fun W T tb h9 hq9 => ⟨cell_of h9.here (j := 0) rfl, cell_of h9.here (j := 1) rfl, cell_of hq9 (j := 1) rfl, cell_of hq9 (j := 5) rfl⟩)
            have HS30 := HSD.out w3.drew S.T tmb (HH3.out.below ((Below.refl w3.heap.size w3).drew)) HQ3.out
            go_upto_region 8 with fail
            go_region_held3 (fun W => W.cell? ⟨sp, 0, none⟩ = some (.int .i64 S.z) ∧ W.cell? ⟨sp, 1, none⟩ = some (.pointer (some ⟨tp, 0, none⟩)) ∧ W.cell? ⟨q, 1, none⟩ = some (.int .i64 t.s) ∧ W.cell? ⟨q, 5, none⟩ = some (.slice At nt ct))
              (first
                | assumption)
              (first
                | (go_at_call 34; (with_reducible refine HDC.out.mono ?_); rintro e w4 ⟨v1, v2, mb', rfl, ht4, hg4, ho1, ho2⟩; obtain ⟨A1, c1, rfl, -, -, -⟩ := own_form ho1; obtain ⟨A2, c2, rfl, -, -, -⟩ := own_form ho2; obtain ⟨h4, hs4⟩ := (HH3.out.below ((Below.refl w3.heap.size w3).drew)).setT ht4 hg4; have hr4 := hs4.blk (w := w3.drew) HR3.out (by decide); have hq4 := hs4.blk (w := w3.drew) HQ3.out (by decide); have hS4 := HSD.out w4 R.T mb' h4 hq4))
            rename_i hHeld
            clear hHeld hS4 HS30
            have hs04 : SK B w w4 := (HS3.out.trans (.of_below ((Below.refl w3.heap.size w3).drew))).trans hs4
            have hsz4 : w.heap.size ≤ w4.heap.size := hs04.size
            have ho1' : w4.ownsRow w.heap.size 9 1 (.slice A1 R.ps.length c1) R.ps.length (scells R.ps) := own_base ho1 HSZ.out
            have ho2' : w4.ownsRow w.heap.size 165 3 (.slice A2 R.es.length c2) R.es.length (ecells R.es) := own_base ho2 HSZ.out
            obtain ⟨w5, hw5⟩ : ∃ x, x = w4.alloc (.cells #[.int .i64 t.n, .int .i64 R.e, .int .i64 0, .slice A1 R.ps.length c1] 149) := ⟨_, rfl⟩
            obtain ⟨u, eu⟩ : ∃ x, x = w4.heap.size := ⟨_, rfl⟩
            have hbw5 : Below w4.heap.size w4 w5 := by rw [hw5]; exact box_below w4 _
            have hku : w5.heap[u]? = some (.cells #[.int .i64 t.n, .int .i64 R.e, .int .i64 0, .slice A1 R.ps.length c1] 149 (0, 0)) := by rw [hw5, eu]; exact new_block w4 _
            have hb5 : Below w4.heap.size w4 w5.drew := hbw5.drew
            have h5 := h4.below hb5
            have hs05 := hs04.trans (.of_below hb5)
            have hr5 := blk_below hr4 hb5
            have hq5 := blk_below hq4 hb5
            have ho15 := own_below ho1' hb5
            have ho25 := own_below ho2' hb5
            have hku5 : w5.drew.heap[u]? = some (.cells #[.int .i64 t.n, .int .i64 R.e, .int .i64 0, .slice A1 R.ps.length c1] 149 (0, 0)) := hku
            obtain ⟨w6, hrun, hd6, hg6⟩ := DW.store (a := t.s) (D := S.D) h5.map (by have := HG.out.L.len; omega) (by have := HRNG.out; omega) (by have := HRNG.out; omega) ⟨t.n, R.e, 0, A1, R.ps.length, c1⟩ ⟨R.e, 0, R.ps⟩ rfl rfl (own_base ho15 (Nat.zero_le _)) (L' := S.L) (D' := Zs.fg S.D t.s ++ [⟨t.s, t.n, ⟨R.e, 0, R.ps⟩⟩]) (fun y => by
                by_cases hy : y = t.s
                · subst hy; rw [HX.out]; simp
                · simp [hy]) (by rw [HX.out]; rfl) (fun y => by
                have h9 := Zs.fd_put S.D ⟨t.s, t.n, ⟨R.e, 0, R.ps⟩⟩ y
                dsimp only at h9
                by_cases hy : y = t.s
                · rw [if_pos hy] at h9 ⊢; rw [h9]; exact ⟨rfl, rfl⟩
                · rw [if_neg hy] at h9 ⊢; exact h9)
            obtain ⟨h6, hs6⟩ := h5.setM HGT.out hd6 hg6
            have hs06 := hs05.trans hs6
            have hr6 := hs6.blk (w := w5.drew) hr5 (by decide)
            have hku6 := hs6.blk (w := w5.drew) hku5 (by decide)
            have ho16 := hs6.own ho15 str_ok
            have ho26 := hs6.own ho25 (by decide)
            have HT6 := Lib.hid (told_any (A := A1) (m := R.ps.length) (k := c1) ho16 rfl (by have := HPL.out; omega) t.n R.e 0)
            have HH6 := Lib.hid h6
            have HS6 := Lib.hid hs06
            have HR6 := Lib.hid hr6
            have HO6 := Lib.hid ho26
            have HW5 := Lib.hid hw5
            have EU := Lib.hid eu
            have HSZ6 : Hid (w.heap.size ≤ w6.heap.size) := Lib.hid hs06.size
            have y3 := cell_of h4.here (j := 3) rfl
            have yy3 := cell_of h5.here (j := 3) rfl
            have e0 := cell_of hq4 (j := 0) rfl
            have e1 := cell_of hq4 (j := 1) rfl
            have e2 := cell_of hq4 (j := 2) rfl
            have e3 := cell_of hq4 (j := 3) rfl
            have e4 := cell_of hq4 (j := 4) rfl
            have e5 := cell_of hq4 (j := 5) rfl
            have f0 := cell_of hq5 (j := 0) rfl
            have f1 := cell_of hq5 (j := 1) rfl
            have f2 := cell_of hq5 (j := 2) rfl
            have f3 := cell_of hq5 (j := 3) rfl
            have f4 := cell_of hq5 (j := 4) rfl
            have f5 := cell_of hq5 (j := 5) rfl
            have u0 := cell_of hku5 (j := 0) rfl
            have u1 := cell_of hku5 (j := 1) rfl
            have u2 := cell_of hku5 (j := 2) rfl
            have u3 := cell_of hku5 (j := 3) rfl
            have v0 := cell_of hku6 (j := 0) rfl
            have v1 := cell_of hku6 (j := 1) rfl
            have v2 := cell_of hku6 (j := 2) rfl
            have v3 := cell_of hku6 (j := 3) rfl
            have hku4 := hku
            have x0 := cell_of hku4 (j := 0) rfl
            have x1 := cell_of hku4 (j := 1) rfl
            have x2 := cell_of hku4 (j := 2) rfl
            have x3 := cell_of hku4 (j := 3) rfl
            dsimp only at hrun
            clear ht4 hg4 ho1 ho2 h4 hs4 hs04 hr4 hq4 hsz4 ho1' ho2' hw5 eu hbw5 hku hku4 hb5 h5 hs05 hr5 hq5 ho15 ho25 hku5 hd6 hg6 h6 hs6 hs06 hr6 hku6 ho16 ho26 p0 p1 p2 p3 p4 p5 s0 s1 s2 s3 c3 k0 k1
            go_upto_region 10 with fail
            rw [← HW5.out, ← EU.out]
            go_still_tail 7, (by kernel_rfl)
            change wpList _ _ _ _ _ w5.drew
            go_wp2_with fail
            refine HT6.out.mono ?_
            rintro e w7 ⟨v, rfl, hv, hb7⟩
            obtain ⟨A7, c7, rfl, -, -, -⟩ := own_form hv
            have hr7 := blk_below HR6.out hb7
            have ho27 := own_below HO6.out hb7
            obtain ⟨w8, hw8⟩ : ∃ x, x = (((w7.setCell ⟨r, 0, none⟩ (.int .i64 R.e)).setCell ⟨r, 1, none⟩ (.int .i64 0)).setCell ⟨r, 2, none⟩ (.slice A7 R.ps.length c7)) := ⟨_, rfl⟩
            obtain ⟨hwrw8, hkw8⟩ := set3 hr7 (.int .i64 R.e) (.int .i64 0) (.slice A7 R.ps.length c7)
            rw [← hw8] at hwrw8 hkw8
            have HE : Hid (ApPost B sp a w (.returned (.tuple #[.agg #[.int .i64 R.e, .int .i64 0, .slice A7 R.ps.length c7], .slice A2 R.es.length c2])) w8) := Lib.hid
              (by rw [HD.out]; exact ⟨_, _, rfl, ((HH6.out.below hb7).wr hwrw8 hr7 (by decide) (by decide)).st, hwrw8.fresh (HS6.out.trans (.of_below hb7)) HNE.out, own_base (hwrw8.own hr7 hv (by decide)) HSZ6.out, hwrw8.own hr7 ho27 (by decide)⟩)
            have y0 := cell_of hr7 (j := 0) rfl
            have y1 := cell_of hr7 (j := 1) rfl
            have y2 := cell_of hr7 (j := 2) rfl
            have g0 := frozen_of_row w7 _ 0 _ _ hr7
            have g1 := frozen_of_row w7 _ 1 _ _ hr7
            have g2 := frozen_of_row w7 _ 2 _ _ hr7
            have z0 := cell_of hkw8 (j := 0) rfl
            have z1 := cell_of hkw8 (j := 1) rfl
            have z2 := cell_of hkw8 (j := 2) rfl
            have HW8 := Lib.hid hw8
            clear hw8 hwrw8 hkw8 hr7 hv hb7 ho27
            go_wp2_with fail
            rw [← HW8.out]
            exact bodyPost_ret (v := .tuple #[.agg #[.int .i64 R.e, .int .i64 0, .slice A7 R.ps.length c7], .slice A2 R.es.length c2]) (by simp [results, Tryz.results86, go_sem, z0, z1, z2]) rfl HE.out
end Go.Proofs.YtflgemlhocjipaaGreatDoor
