/-
  What one call of a script returns and leaves, as the laws make it. Condition: how much was done.
-/
import Derived.Test.YtoaahhgngelnaaaFWr
namespace Go.Proofs.Ytoaahhgngelnaaa
set_option maxRecDepth 100000
open Go.ChangeShapes Go.WideShapes Go.ChangeAt Go.RowKit Go.Proofs.Sg Go.Proofs.Fz

/-- What the laws' own makes of a handle. -/
theorem lown_any (h : Hd) (w : World) : Calls Try.prog 14 #[hV h] w fun e w' => e = .returned (hV h) ∧ Below w.heap.size w w' := by
  obtain ⟨w2, hw2, hb2, hq, hr, hs2⟩ := two_box w (.cells #[.int .i64 h.id, .int .i64 h.gen] 28) (.cells #[.int .i64 0, .int .i64 0] 40)
  obtain ⟨w3, hw3⟩ : ∃ w3, w3 = (w.alloc (.cells #[.int .i64 h.id, .int .i64 h.gen] 28)).alloc (.cells #[.int .i64 h.id, .int .i64 h.gen] 40) := ⟨_, rfl⟩
  obtain ⟨w3', e3, hb3, hq3, hr3, -⟩ := two_box w (.cells #[.int .i64 h.id, .int .i64 h.gen] 28) (.cells #[.int .i64 h.id, .int .i64 h.gen] 40)
  rw [← e3] at hw3
  subst hw3
  have q0 := cell_of hq (j := 0) rfl
  have q1 := cell_of hq (j := 1) rfl
  obtain ⟨r, er⟩ : ∃ r, r = w.heap.size + 1 := ⟨_, rfl⟩
  obtain ⟨q, eq⟩ : ∃ q, q = w.heap.size := ⟨_, rfl⟩
  rw [← er] at hr hr3
  rw [← eq] at q0 q1
  obtain ⟨w9, hw9⟩ : ∃ W9, W9 = ((w2.setCell ⟨r, 0, none⟩ (.int .i64 h.id)).setCell ⟨r, 1, none⟩ (.int .i64 h.gen)) := ⟨_, rfl⟩
  obtain ⟨hwr9, hk9⟩ := set2 hr (.int .i64 h.id) (.int .i64 h.gen)
  rw [← hw9] at hwr9 hk9
  have r0 := cell_of hr (j := 0) rfl
  have r1 := cell_of hr (j := 1) rfl
  have g0 := frozen_of_row w2 r 0 _ _ hr
  have g1 := frozen_of_row w2 r 1 _ _ hr
  have z0 := cell_of hk9 (j := 0) rfl
  have z1 := cell_of hk9 (j := 1) rfl
  have HE : Hid (Below w.heap.size w w9) := Lib.hid (hb2.trans (hwr9.below.mono (by omega)))
  have HW2 := Lib.hid hw2
  have HW9 := Lib.hid hw9
  have ER := Lib.hid er
  have EQ := Lib.hid eq
  clear hw2 hb2 hq hr hs2 e3 hb3 hq3 hr3 er eq hw9 hwr9 hk9
  go_enter Try.func14, Try.ntmps14
  go_upto_region 1 with fail
  rw [← HW2.out, ← ER.out, ← EQ.out]
  go_wp2_with fail
  rw [← HW9.out]
  go_wp2_with fail
  exact bodyPost_ret (v := hV h) (by simp [results, Try.results14, go_sem, z0, z1]) rfl ⟨rfl, HE.out⟩
abbrev opW (o : Opf) (A : Option Addr) (n c : Nat) : Value := .agg #[.int .i64 o.kind, .int .i64 o.h.id, .int .i64 o.h.gen, .int .i64 o.g.id, .int .i64 o.g.gen, .string (B o.nm), .string (B o.ot), .int .i64 o.m.kind, .int .i64 o.m.mode, .int .i64 o.m.time, .string (B o.m.tg), .bool o.fd, .int .i64 o.p, .int .i64 o.n, .int .i64 o.t, .slice A n c]
abbrev opCells (o : Opf) (A : Option Addr) (n c : Nat) : List Value := [.int .i64 o.kind, .int .i64 o.h.id, .int .i64 o.h.gen, .int .i64 o.g.id, .int .i64 o.g.gen, .string (B o.nm), .string (B o.ot), .int .i64 o.m.kind, .int .i64 o.m.mode, .int .i64 o.m.time, .string (B o.m.tg), .bool o.fd, .int .i64 o.p, .int .i64 o.n, .int .i64 o.t, .slice A n c]
abbrev anW (a : Anf) : Value := .agg #[.int .i64 a.h.id, .int .i64 a.h.gen, .string (B a.b), .int .i64 a.e]
structure OpOk (o : Opf) : Prop where
  h : HdOk o.h
  g : HdOk o.g
  nm : o.nm.length ≤ maxLen
  ot : o.ot.length ≤ maxLen
  p : o.p ≤ 9223372036854775807
  b : o.b.length ≤ 4611686018427387904
/-- What a call of a script returns and leaves. -/
def DsPost (w : World) (bs : Nat) (Y : Lay) (f : Fst) (o : Opf) (e : Ending) (w' : World) : Prop := ∃ Z, e = .returned (anW (stepF f o).2) ∧ FM w' bs Z (stepF f o).1 ∧ FK Y f.I w w' ∧ Fresh Y f.I w Z (stepF f o).1.I ∧ Z.fp = Y.fp
def BxP (w2 : World) (bs : Nat) (Y : Lay) (I : List Nod) (Z : Lay) (g : Fst) (b : Nat) (i j : Int) (wb : World) : Prop := ∃ V, Below w2.heap.size w2 V ∧ FM wb bs Z g ∧ FK Y I V wb ∧ Fresh Y I V Z g.I ∧ wb.heap[b]? = some (.cells #[.int .i64 i, .int .i64 j] 40 (0, 0))
abbrev bx00 : Obj := .cells #[.int .i64 0, .int .i64 0] 40
theorem strB (l : Txt) : strOfNums (l.map fun x => (x.toNat : Int)) = B l := by
  unfold strOfNums
  rw [List.map_map]
  congr 2
  have : (fun n : Int => UInt8.ofNat n.toNat) ∘ (fun x : UInt8 => (x.toNat : Int)) = id := by funext c; simp
  rw [this, List.map_id]
theorem conv_B {W : World} {A : Option Addr} {m c : Nat} {l : Txt} (hR : Rd bcell 1 W A m l) : (convert 31 9 (.slice A m c)).run Try.prog W = .ok (.string (B l)) W := by
  obtain ⟨h1, h2, _⟩ := rd_reads hR
  rw [← strB]
  rcases Nat.eq_zero_or_pos m with h0 | h0
  · subst h0
    have hz : l = [] := List.eq_nil_of_length_eq_zero hR.len
    subst hz
    cases A with
    | none => exact run_convert_bytes_nil W 31 5 Try.underlying31 Try.underlying5 0 c 9 Try.underlying9
    | some ad =>
      rw [run_convert_bytes_string W 31 9 5 (some ad) 0 c Try.underlying31 Try.underlying5 Try.underlying9, run_bytesToString W ad 0 c [] (by simp [loadCells, loadCellsFrom, Sem.run_pure])]
      rfl
  · obtain ⟨b, off, rfl, hc⟩ := h2 h0
    exact run_convert_bytes_arg W 31 5 Try.underlying31 Try.underlying5 b off m c _ h1 hc 9 Try.underlying9
theorem set4 {w : World} {r : Nat} {a b c d : Value} {t : TypeId} (h : w.heap[r]? = some (.cells #[a, b, c, d] t (0, 0))) (u v x y : Value) : Wr r w ((((w.setCell ⟨r, 0, none⟩ u).setCell ⟨r, 1, none⟩ v).setCell ⟨r, 2, none⟩ x).setCell ⟨r, 3, none⟩ y) ∧ ((((w.setCell ⟨r, 0, none⟩ u).setCell ⟨r, 1, none⟩ v).setCell ⟨r, 2, none⟩ x).setCell ⟨r, 3, none⟩ y).heap[r]? = some (.cells #[u, v, x, y] t (0, 0)) :=
  setRow_any [u, v, x, y] 0 [] [a, b, c, d] (Wr.refl r w) rfl rfl h
set_option maxHeartbeats 16000000 in
theorem does_any {w : World} {bs : Nat} {Y : Lay} {f : Fst} {T r0 : Nat} (h : FM w bs Y f) (hbs : bs ≤ w.heap.size) (hW : Wl f T r0) (hT : T ≤ 1000000) (hrm : r0 ≤ 9223372036854775807) (o : Opf) (ho : OpOk o) {A : Option Addr} {n c : Nat} (hr : Rd bcell 1 w A n o.b) (hc : n ≤ c) :
    Calls Try.prog 10 #[pA Y.fp, opW o A n c] w (DsPost w bs Y f o) := by
  obtain ⟨kd, hkd⟩ : ∃ k, o.kind = k := ⟨_, rfl⟩
  have HKD := Lib.hid hkd
  show Calls Try.prog 10 #[pA Y.fp, .agg #[.int .i64 o.kind, .int .i64 o.h.id, .int .i64 o.h.gen, .int .i64 o.g.id, .int .i64 o.g.gen, .string (B o.nm), .string (B o.ot), .int .i64 o.m.kind, .int .i64 o.m.mode, .int .i64 o.m.time, .string (B o.m.tg), .bool o.fd, .int .i64 o.p, .int .i64 o.n, .int .i64 o.t, .slice A n c]] w (DsPost w bs Y f o)
  rw [hkd]
  obtain ⟨w2, hw2, hb2, hq, hrr, hp, hs2⟩ := three_box w (.cells #[.int .i64 kd, .int .i64 o.h.id, .int .i64 o.h.gen, .int .i64 o.g.id, .int .i64 o.g.gen, .string (B o.nm), .string (B o.ot), .int .i64 o.m.kind, .int .i64 o.m.mode, .int .i64 o.m.time, .string (B o.m.tg), .bool o.fd, .int .i64 o.p, .int .i64 o.n, .int .i64 o.t, .slice A n c] 33) (.cells #[.int .i64 0, .int .i64 0, .string ⟨#[]⟩, .int .i64 0] 36) (.cells #[.int .i64 0, .int .i64 0, .string ⟨#[]⟩, .int .i64 0] 36)
  obtain ⟨q, eq⟩ : ∃ q, q = w.heap.size := ⟨_, rfl⟩
  obtain ⟨r, er⟩ : ∃ r, r = w.heap.size + 1 := ⟨_, rfl⟩
  obtain ⟨p, ep⟩ : ∃ r, r = w.heap.size + 1 + 1 := ⟨_, rfl⟩
  rw [← eq] at hq
  rw [← er] at hrr
  rw [← ep] at hp
  have HW2 := Lib.hid hw2
  have EQ := Lib.hid eq
  have ER := Lib.hid er
  have EP := Lib.hid ep
  have HB2 := Lib.hid hb2
  have HR := Lib.hid hrr
  have HPB := Lib.hid hp
  have HQB := Lib.hid hq
  have HRW : Hid (w.heap.size ≤ r ∧ w.heap.size ≤ p ∧ w.heap.size ≤ q ∧ r < w2.heap.size ∧ p < w2.heap.size ∧ q < w2.heap.size ∧ p ≠ q ∧ p ≠ r ∧ r ≠ q) := Lib.hid (by omega)
  have h2 := h.below hW.gd.kind hb2
  have HM := Lib.hid h
  have HM2 := Lib.hid h2
  have HG := Lib.hid hW.gd
  have HBD := Lib.hid hW.bd
  have HT := Lib.hid hT
  have HT9 : Hid (T ≤ 1000000000) := Lib.hid (by omega)
  have HRM : Hid (f.room ≤ 9223372036854775807) := Lib.hid (by rw [hW.rm]; exact hrm)
  have HBS := Lib.hid hbs
  have HO := Lib.hid ho
  have HRD := Lib.hid hr
  have HC := Lib.hid hc
  have HLN := Lib.hid hr.len
  have HFL : Hid (∀ k, foot Y f.I k → k < w.heap.size) := Lib.hid (h.foot_lt hW.gd.kind)
  have HNM : Hid ((B o.nm).size ≤ maxLen ∧ (B o.ot).size ≤ maxLen) := Lib.hid ⟨by rw [B_size]; exact ho.nm, by rw [B_size]; exact ho.ot⟩
  have HO1 : Hid (∀ W, Calls Try.prog 14 #[.agg #[.int .i64 o.h.id, .int .i64 o.h.gen]] W fun e w' => e = .returned (hV o.h) ∧ Below W.heap.size W w') := Lib.hid (fun W => lown_any o.h W)
  have HO2 : Hid (∀ W, Calls Try.prog 14 #[.agg #[.int .i64 o.g.id, .int .i64 o.g.gen]] W fun e w' => e = .returned (hV o.g) ∧ Below W.heap.size W w') := Lib.hid (fun W => lown_any o.g W)
  have HSS : Hid (∀ W : World, W.heap[q]? = w2.heap[q]? → (W.cell? ⟨q, 0, none⟩ = some (.int .i64 kd) ∧ W.cell? ⟨q, 1, none⟩ = some (.int .i64 o.h.id) ∧ W.cell? ⟨q, 2, none⟩ = some (.int .i64 o.h.gen) ∧ W.cell? ⟨q, 3, none⟩ = some (.int .i64 o.g.id) ∧ W.cell? ⟨q, 4, none⟩ = some (.int .i64 o.g.gen) ∧ W.cell? ⟨q, 5, none⟩ = some (.string (B o.nm)) ∧ W.cell? ⟨q, 6, none⟩ = some (.string (B o.ot)) ∧ W.cell? ⟨q, 7, none⟩ = some (.int .i64 o.m.kind) ∧ W.cell? ⟨q, 8, none⟩ = some (.int .i64 o.m.mode) ∧ W.cell? ⟨q, 9, none⟩ = some (.int .i64 o.m.time) ∧ W.cell? ⟨q, 10, none⟩ = some (.string (B o.m.tg)) ∧ W.cell? ⟨q, 11, none⟩ = some (.bool o.fd) ∧ W.cell? ⟨q, 12, none⟩ = some (.int .i64 o.p) ∧ W.cell? ⟨q, 13, none⟩ = some (.int .i64 o.n) ∧ W.cell? ⟨q, 14, none⟩ = some (.int .i64 o.t) ∧ W.cell? ⟨q, 15, none⟩ = some (.slice A n c))) := Lib.hid (fun W hW => by
    have h9 := hW.trans hq
    exact ⟨cell_of h9 (j := 0) rfl, cell_of h9 (j := 1) rfl, cell_of h9 (j := 2) rfl, cell_of h9 (j := 3) rfl, cell_of h9 (j := 4) rfl, cell_of h9 (j := 5) rfl, cell_of h9 (j := 6) rfl, cell_of h9 (j := 7) rfl, cell_of h9 (j := 8) rfl, cell_of h9 (j := 9) rfl, cell_of h9 (j := 10) rfl, cell_of h9 (j := 11) rfl, cell_of h9 (j := 12) rfl, cell_of h9 (j := 13) rfl, cell_of h9 (j := 14) rfl, cell_of h9 (j := 15) rfl⟩)
  have c0 := cell_of hq (j := 0) rfl
  clear hw2 eq er ep hb2 hq hrr hp hs2 h hbs hW hT hrm ho hr hc h2 hkd
  have HQ3 : Hid (∀ W, Below w2.heap.size w2 W → W.heap[q]? = w2.heap[q]?) := Lib.hid (fun W hW => hW.block q HRW.out.2.2.2.2.2.1)
  have HNF : Hid (∀ k, w.heap.size ≤ k → ¬ foot Y f.I k) := Lib.hid (fun k hk hf => by have := HFL.out k hf; omega)
  have HQK : Hid (∀ W Wc, Below w2.heap.size w2 W → FK Y f.I W Wc → Wc.heap[q]? = w2.heap[q]?) := Lib.hid (fun W Wc hW hK => (hK.block q (Nat.lt_of_lt_of_le HRW.out.2.2.2.2.2.1 hW.size) (HNF.out q HRW.out.2.2.1)).trans (HQ3.out W hW))
  have HPK : Hid (∀ W Wc, Below w2.heap.size w2 W → FK Y f.I W Wc → Wc.heap[p]? = some (.cells #[.int .i64 0, .int .i64 0, .string ⟨#[]⟩, .int .i64 0] 36 (0, 0))) := Lib.hid (fun W Wc hW hK => (hK.block p (Nat.lt_of_lt_of_le HRW.out.2.2.2.2.1 hW.size) (HNF.out p HRW.out.2.1)).trans (blk_below HPB.out hW))
  have HRK : Hid (∀ W Wc, Below w2.heap.size w2 W → FK Y f.I W Wc → Wc.heap[r]? = some (.cells #[.int .i64 0, .int .i64 0, .string ⟨#[]⟩, .int .i64 0] 36 (0, 0))) := Lib.hid (fun W Wc hW hK => (hK.block r (Nat.lt_of_lt_of_le HRW.out.2.2.2.1 hW.size) (HNF.out r HRW.out.1)).trans (blk_below HR.out hW))
  have HQD : Hid (∀ Wc : World, Wc.heap[q]? = w2.heap[q]? → ∀ j v, (Wc.setCell ⟨p, j, none⟩ v).heap[q]? = w2.heap[q]?) := Lib.hid (fun Wc hc j v => (Go.Deep.blk_setCell_other Wc _ _ q (by have := HRW.out; simp; omega)).trans hc)
  have HEND : Hid (∀ (W Wc Wd : World) (Z : Lay) (g : Fst), Below w2.heap.size w2 W → (∀ x ∈ g.I, x.kind = 1 ∨ x.kind = 2 ∨ x.kind = 3) → FM Wc bs Z g → FK Y f.I W Wc → Fresh Y f.I W Z g.I → Wc.grownBy Wd (some p) → FM Wd bs Z g ∧ FK Y f.I w Wd ∧ (¬ foot Z g.I r) ∧ Fresh Y f.I w Z g.I ∧ Wd.heap[r]? = some (.cells #[.int .i64 0, .int .i64 0, .string ⟨#[]⟩, .int .i64 0] 36 (0, 0))) := Lib.hid (fun W Wc Wd Z g hW hkg hM hK hF hg => by
    have hpz : ∀ k, w.heap.size ≤ k → k < w2.heap.size → ¬ foot Z g.I k := fun k h1 h2 hf => by
      rcases hF k hf with h3 | h3
      · exact HNF.out k h1 h3
      · have := hW.size; omega
    have hBW : Below w.heap.size w W := HB2.out.trans (hW.mono HB2.out.size)
    have hr := HRK.out W Wc hW hK
    refine ⟨hM.keep (fun k hk => ?_), ((FK.of_below hBW).trans Fresh.refl hK).fresh hg HRW.out.2.1, hpz r HRW.out.1 HRW.out.2.2.2.1, Fresh.trans Fresh.refl hBW.size hF, gb_cells hg (Ne.symm HRW.out.2.2.2.2.2.2.2.1) hr⟩
    exact hg.block k (hM.foot_lt hkg k hk) (by simp; intro e; subst e; exact hpz _ HRW.out.2.1 HRW.out.2.2.2.2.1 hk))
  go_enter Try.func10, Try.ntmps10
  by_cases e0 : kd = 0
  · subst e0
    have HST : Hid (stepF f o = (((mkF f o.h o.nm o.m).1), ⟨(mkF f o.h o.nm o.m).2.1, [], (mkF f o.h o.nm o.m).2.2⟩)) := Lib.hid (by unfold stepF; rw [HKD.out]; rfl)
    have hwl : Wl ((mkF f o.h o.nm o.m).1) (T + 1) f.room := by have h9 := (Wl.step ⟨HG.out, HBD.out, rfl⟩ o); rw [HST.out] at h9; exact h9
    have HCC : Hid (∀ W, Below w2.heap.size w2 W → Calls Try.prog 16 #[pA Y.fp, hV o.h, .string (B o.nm), .agg #[.int .i64 o.m.kind, .int .i64 o.m.mode, .int .i64 o.m.time, .string (B o.m.tg)]] W (ChF W bs Y f (mkF f o.h o.nm o.m).1 (.tuple #[hV (mkF f o.h o.nm o.m).2.1, .int .i64 (mkF f o.h o.nm o.m).2.2]))) := Lib.hid (fun W hW => by have h9 := fmake_any (HM2.out.below HG.out.kind hW) (Nat.le_trans HBS.out (Nat.le_trans HB2.out.size hW.size)) HG.out HBD.out HT9.out o.h HO.out.h (B o.nm) HNM.out.1 o.m (B o.m.tg) (LB _); rw [LB] at h9; exact h9)
    have HQN : Hid (∀ W Wc, Below w2.heap.size w2 W → FK Y f.I W Wc → ∀ W', Wc.grownBy W' (some Wc.heap.size) → W'.heap[q]? = w2.heap[q]?) := Lib.hid (fun W Wc hW hK W' hg => by
      have h1 := hW.size
      have h2 := hK.size
      have h3 := HRW.out.2.2.2.2.2.1
      exact (hg.block q (by omega) (by simp; omega)).trans (HQK.out W Wc hW hK))
    obtain ⟨hh, hhh⟩ : ∃ g, (mkF f o.h o.nm o.m).2.1 = g := ⟨_, rfl⟩
    obtain ⟨ec, hec⟩ : ∃ g, (mkF f o.h o.nm o.m).2.2 = g := ⟨_, rfl⟩
    rw [hhh, hec] at HST HCC
    obtain ⟨fc, hfc⟩ : ∃ g, (mkF f o.h o.nm o.m).1 = g := ⟨_, rfl⟩
    rw [hfc] at HST HCC hwl
    clear hfc
    clear hhh hec
    have HWL := Lib.hid hwl
    clear hwl
    have HBA : Hid (∀ wa, Below w2.drew.heap.size w2.drew wa → Below w2.heap.size w2 wa) := Lib.hid (fun wa hba => (Below.refl _ _).drew.trans (hba.mono (Nat.le_refl _)))
    have HBB : Hid (∀ wa, Below w2.heap.size w2 wa → Below w2.heap.size w2 (wa.alloc (.cells #[.int .i64 0, .int .i64 0] 40))) := Lib.hid (fun wa hba => hba.alloc hba.size _)
    have HBZ : Hid (∀ wa, Below (w2.drew.alloc (.cells #[.int .i64 0, .int .i64 0] 40)).heap.size (w2.drew.alloc (.cells #[.int .i64 0, .int .i64 0] 40)) wa → Below w2.heap.size w2 wa ∧ w2.heap.size < wa.heap.size ∧ wa.heap[w2.heap.size]? = some (.cells #[.int .i64 0, .int .i64 0] 40)) := Lib.hid (fun wa hba => by
      have hs : (w2.drew.alloc (.cells #[.int .i64 0, .int .i64 0] 40)).heap.size = w2.heap.size + 1 := by simp
      refine ⟨((Below.refl _ _).drew.alloc (Nat.le_refl _) _).trans (hba.mono (by rw [hs]; exact Nat.le_succ _)), by have h9 := hba.size; rw [hs] at h9; exact h9, ?_⟩
      exact (hba.block w2.heap.size (by rw [hs]; exact Nat.lt_succ_self _)).trans (new_block w2.drew _))
    have HX1 : Hid (∀ wa wc Z, Below w2.heap.size w2 wa → FM wc bs Z fc → FK Y f.I wa wc → Fresh Y f.I wa Z fc.I → BxP w2 bs Y f.I Z fc wc.heap.size hh.id hh.gen (wc.alloc (.cells #[.int .i64 hh.id, .int .i64 hh.gen] 40))) := Lib.hid (fun wa wc Z h0 h1 h2 h3 => ⟨wa, h0, h1.below HWL.out.gd.kind (box_below wc _), h2.trans h3 (FK.of_below (box_below wc _)), h3, new_block wc _⟩)
    have HX2 : Hid (∀ (V W wc : World) (Z : Lay) (b : Nat), Below w2.heap.size w2 V → b = V.heap.size → Below V.heap.size V W → b < W.heap.size → W.heap[b]? = some (.cells #[.int .i64 0, .int .i64 0] 40) → FM wc bs Z fc → FK Y f.I W wc → Fresh Y f.I W Z fc.I →
        wc.cell? ⟨b, 0, none⟩ = some (.int .i64 0) ∧ wc.cell? ⟨b, 1, none⟩ = some (.int .i64 0) ∧ wc.frozen? ⟨b, 0, none⟩ = false ∧ wc.frozen? ⟨b, 1, none⟩ = false ∧ ((wc.setCell ⟨b, 0, none⟩ (.int .i64 hh.id)).setCell ⟨b, 1, none⟩ (.int .i64 hh.gen)).heap[q]? = w2.heap[q]? ∧
        BxP w2 bs Y f.I Z fc b hh.id hh.gen ((wc.setCell ⟨b, 0, none⟩ (.int .i64 hh.id)).setCell ⟨b, 1, none⟩ (.int .i64 hh.gen))) := Lib.hid (fun V W wc Z b h0 h1 h2 h3 h4 h5 h6 h7 => by
      have hbw : w.heap.size ≤ b := by have := h0.size; have := HB2.out.size; omega
      have hnf : ¬ foot Y f.I b := HNF.out b hbw
      have hnz : ¬ foot Z fc.I b := fun hf => by
        rcases h7 b hf with h8 | h8
        · exact hnf h8
        · omega
      have hk := (h6.block b h3 hnf).trans h4
      obtain ⟨hwr, hkk⟩ := set2 hk (.int .i64 hh.id) (.int .i64 hh.gen)
      have hVc : FK Y f.I V wc := (FK.of_below h2).trans Fresh.refl h6
      have hb2 : w2.heap.size ≤ b := by have := h0.size; omega
      refine ⟨cell_of hk (j := 0) rfl, cell_of hk (j := 1) rfl, frozen_of_row wc b 0 _ _ hk, frozen_of_row wc b 1 _ _ hk, ?_, V, h0, h5.keep (fun k hk => hwr.rest k (fun e => hnz (e ▸ hk))), hVc.fresh hwr.gb (by omega), Fresh.trans Fresh.refl h2.size h7, hkk⟩
      exact (hwr.rest q (by have := HRW.out; omega)).trans (HQK.out V wc h0 hVc))
    have hS0 := HSS.out (w2.drew.alloc (.cells #[.int .i64 0, .int .i64 0] 40)) (HQ3.out _ ((Below.refl _ _).drew.alloc (Nat.le_refl _) _))
    go_upto_region 4 with fail
    rw [← HW2.out, ← EP.out, ← ER.out, ← EQ.out]
    obtain ⟨n0, n1, n2, n3, n4, n5, n6, n7, n8, n9, n10, n11, n12, n13, n14, n15⟩ := HSS.out w2.drew rfl
    go_region_held3 (fun W => W.cell? ⟨q, 0, none⟩ = some (.int .i64 0) ∧ W.cell? ⟨q, 1, none⟩ = some (.int .i64 o.h.id) ∧ W.cell? ⟨q, 2, none⟩ = some (.int .i64 o.h.gen) ∧ W.cell? ⟨q, 3, none⟩ = some (.int .i64 o.g.id) ∧ W.cell? ⟨q, 4, none⟩ = some (.int .i64 o.g.gen) ∧ W.cell? ⟨q, 5, none⟩ = some (.string (B o.nm)) ∧ W.cell? ⟨q, 6, none⟩ = some (.string (B o.ot)) ∧ W.cell? ⟨q, 7, none⟩ = some (.int .i64 o.m.kind) ∧ W.cell? ⟨q, 8, none⟩ = some (.int .i64 o.m.mode) ∧ W.cell? ⟨q, 9, none⟩ = some (.int .i64 o.m.time) ∧ W.cell? ⟨q, 10, none⟩ = some (.string (B o.m.tg)) ∧ W.cell? ⟨q, 11, none⟩ = some (.bool o.fd) ∧ W.cell? ⟨q, 12, none⟩ = some (.int .i64 o.p) ∧ W.cell? ⟨q, 13, none⟩ = some (.int .i64 o.n) ∧ W.cell? ⟨q, 14, none⟩ = some (.int .i64 o.t) ∧ W.cell? ⟨q, 15, none⟩ = some (.slice A n c))
      (first
        | assumption
        | (with_reducible exact HSS.out _ rfl))
      (first
        | (go_at_call 14; first
            | ((with_reducible refine (HO1.out w2.drew).mono ?_); rintro e wa ⟨rfl, hba⟩; have hBa := HBA.out wa hba; have hSa := HSS.out wa (HQ3.out wa hBa); have hBb := HBB.out wa hBa; have hSb := HSS.out _ (HQ3.out _ hBb))
            | ((with_reducible refine (HO1.out _).mono ?_); rintro e wa ⟨rfl, hba⟩; have hBz := HBZ.out wa hba; have hSa := HSS.out wa (HQ3.out wa hBz.1)))
        | (go_at_call 16; first
            | ((with_reducible refine (HCC.out wa hBa).mono ?_); rintro e wc ⟨Z, rfl, g1, g2, g3, g4⟩; have hqc := HQK.out wa wc hBa g2; have hSc := HSS.out wc hqc; have hQn := HQN.out wa wc hBa g2; have hSd := HSS.out _ (hQn _ (World.grownBy_alloc wc (.cells #[.int .i64 0, .int .i64 0] 40) (some wc.heap.size))); have hSe := HSS.out _ (hQn _ (World.grownBy_alloc wc (.cells #[.int .i64 hh.id, .int .i64 hh.gen] 40) (some wc.heap.size))); have hBX := HX1.out wa wc Z hBa g1 g2 g3)
            | ((with_reducible refine (HCC.out (wa.alloc (.cells #[.int .i64 0, .int .i64 0] 40)) hBb).mono ?_); rintro e wc ⟨Z, rfl, g1, g2, g3, g4⟩; have hqc := HQK.out _ wc hBb g2; have hSc := HSS.out wc hqc; obtain ⟨x0, x1, x2, x3, x4, hBX⟩ := HX2.out wa (wa.alloc (.cells #[.int .i64 0, .int .i64 0] 40)) wc Z wa.heap.size hBa rfl (box_below wa _) (by simp) (new_block wa _) g1 g2 g3; have hSe := HSS.out _ x4)
            | ((with_reducible refine (HCC.out wa hBz.1).mono ?_); rintro e wc ⟨Z, rfl, g1, g2, g3, g4⟩; have hqc := HQK.out _ wc hBz.1 g2; have hSc := HSS.out wc hqc; obtain ⟨x0, x1, x2, x3, x4, hBX⟩ := HX2.out w2 wa wc Z w2.heap.size (Below.refl _ _) rfl hBz.1 hBz.2.1 hBz.2.2 g1 g2 g3; have hSe := HSS.out _ x4))
      )
    all_goals
      rename_i hHeld
      first
        | (obtain ⟨wb, hwb⟩ : ∃ W, W = wc.alloc (.cells #[.int .i64 hh.id, .int .i64 hh.gen] 40) := ⟨_, rfl⟩
           obtain ⟨b, hb⟩ : ∃ k, k = wc.heap.size := ⟨_, rfl⟩
           rw [← hwb, ← hb] at hBX)
        | (obtain ⟨wb, hwb⟩ : ∃ W, W = (wc.setCell ⟨wa.heap.size, 0, none⟩ (.int .i64 hh.id)).setCell ⟨wa.heap.size, 1, none⟩ (.int .i64 hh.gen) := ⟨_, rfl⟩
           obtain ⟨b, hb⟩ : ∃ k, k = wa.heap.size := ⟨_, rfl⟩
           rw [← hwb, ← hb] at hBX)
        | (obtain ⟨wb, hwb⟩ : ∃ W, W = (wc.setCell ⟨w2.heap.size, 0, none⟩ (.int .i64 hh.id)).setCell ⟨w2.heap.size, 1, none⟩ (.int .i64 hh.gen) := ⟨_, rfl⟩
           obtain ⟨b, hb⟩ : ∃ k, k = w2.heap.size := ⟨_, rfl⟩
           rw [← hwb, ← hb] at hBX)
      obtain ⟨V, v1, v2, v3, v4, hk1⟩ := hBX
      have b0 := cell_of hk1 (j := 0) rfl
      have b1 := cell_of hk1 (j := 1) rfl
      have hpc := HPK.out V wb v1 v3
      have p0 := cell_of hpc (j := 0) rfl
      have p1 := cell_of hpc (j := 1) rfl
      have p3 := cell_of hpc (j := 3) rfl
      have f0 := frozen_of_row wb p 0 _ _ hpc
      have f1 := frozen_of_row wb p 1 _ _ hpc
      have f3 := frozen_of_row wb p 3 _ _ hpc
      obtain ⟨wd, hwd⟩ : ∃ W, W = ((wb.setCell ⟨p, 0, none⟩ (.int .i64 hh.id)).setCell ⟨p, 1, none⟩ (.int .i64 hh.gen)).setCell ⟨p, 3, none⟩ (.int .i64 ec) := ⟨_, rfl⟩
      have hpd := heap_setCell_same _ p 3 _ _ (.int .i64 ec) (heap_setCell_same _ p 1 _ _ (.int .i64 hh.gen) (heap_setCell_same wb p 0 _ _ (.int .i64 hh.id) hpc))
      rw [← hwd] at hpd
      obtain ⟨j1, j2, j3, j4, j5⟩ := HEND.out V wb wd Z fc v1 HWL.out.gd.kind v2 v3 v4 (by rw [hwd]; exact gb_trans (gb_set _) (gb_trans (gb_set _) (gb_set _)))
      have HPD : Hid (wd.heap[p]? = some (.cells #[.int .i64 hh.id, .int .i64 hh.gen, .string ⟨#[]⟩, .int .i64 ec] 36 (0, 0))) := Lib.hid hpd
      have HRD9 := Lib.hid j5
      have HMD := Lib.hid j1
      have HKD9 := Lib.hid j2
      have HNR := Lib.hid j3
      have HFZ := Lib.hid j4
      have HZF := Lib.hid g4
      have HWD := Lib.hid hwd
      have HWB := Lib.hid hwb
      have HB := Lib.hid hb
      clear hHeld hpd j1 j2 j3 j4 j5 g1 g2 g3 g4 v1 v2 v3 v4 hk1 hwb hb hpc hwd n0 n1 n2 n3 n4 n5 n6 n7 n8 n9 n10 n11 n12 n13 n14 n15 hS0 hqc hSc hSa hba hSe
      (try clear hBa hBb hSb); (try clear hBz); (try clear hSd hQn); (try clear x0 x1 x2 x3 x4)
      go_upto_region 5 with fail
      rw [← HWB.out, ← HB.out]
      go_upto_region 22 with fail
      rw [← HWD.out]
      obtain ⟨we, hwe⟩ : ∃ W, W = ((((wd.setCell ⟨r, 0, none⟩ (.int .i64 hh.id)).setCell ⟨r, 1, none⟩ (.int .i64 hh.gen)).setCell ⟨r, 2, none⟩ (.string ⟨#[]⟩)).setCell ⟨r, 3, none⟩ (.int .i64 ec)) := ⟨_, rfl⟩
      obtain ⟨hwr9, hk9⟩ := set4 HRD9.out (.int .i64 hh.id) (.int .i64 hh.gen) (.string ⟨#[]⟩) (.int .i64 ec)
      rw [← hwe] at hwr9 hk9
      have p0 := cell_of HPD.out (j := 0) rfl
      have p1 := cell_of HPD.out (j := 1) rfl
      have p2 := cell_of HPD.out (j := 2) rfl
      have p3 := cell_of HPD.out (j := 3) rfl
      have r0 := cell_of HRD9.out (j := 0) rfl
      have r1 := cell_of HRD9.out (j := 1) rfl
      have r2 := cell_of HRD9.out (j := 2) rfl
      have r3 := cell_of HRD9.out (j := 3) rfl
      have g0 := frozen_of_row wd r 0 _ _ HRD9.out
      have g1 := frozen_of_row wd r 1 _ _ HRD9.out
      have g2 := frozen_of_row wd r 2 _ _ HRD9.out
      have g3 := frozen_of_row wd r 3 _ _ HRD9.out
      have z0 := cell_of hk9 (j := 0) rfl
      have z1 := cell_of hk9 (j := 1) rfl
      have z2 := cell_of hk9 (j := 2) rfl
      have z3 := cell_of hk9 (j := 3) rfl
      have HE : Hid (DsPost w bs Y f o (.returned (.agg #[.int .i64 hh.id, .int .i64 hh.gen, .string ⟨#[]⟩, .int .i64 ec])) we) := Lib.hid (by
        refine ⟨Z, ?_, ?_, HKD9.out.fresh hwr9.gb HRW.out.1, ?_, HZF.out⟩
        · rw [HST.out]
        · rw [HST.out]
          exact HMD.out.keep (fun k hk => hwr9.rest k (fun e => HNR.out (e ▸ hk)))
        · rw [HST.out]; exact HFZ.out)
      have HWE := Lib.hid hwe
      clear hwe hwr9 hk9
      go_wp2_with fail
      rw [← HWE.out]
      go_wp2_with fail
      exact bodyPost_ret (v := .agg #[.int .i64 hh.id, .int .i64 hh.gen, .string ⟨#[]⟩, .int .i64 ec]) (by simp [results, Try.results10, go_sem, z0, z1, z2, z3]) rfl HE.out
  by_cases e1 : kd = 1
  · subst e1
    have HST : Hid (stepF f o = ((lkF f o.h o.g o.nm).1, ⟨hd0, [], (lkF f o.h o.g o.nm).2⟩)) := Lib.hid (by unfold stepF; rw [HKD.out]; rfl)
    have hwl : Wl (lkF f o.h o.g o.nm).1 (T + 1) f.room := by have h9 := (Wl.step ⟨HG.out, HBD.out, rfl⟩ o); rw [HST.out] at h9; exact h9
    have HCC : Hid (∀ W, Below w2.heap.size w2 W → Calls Try.prog 18 #[pA Y.fp, hV o.h, hV o.g, .string (B o.nm)] W (ChF W bs Y f (lkF f o.h o.g o.nm).1 (.int .i64 (lkF f o.h o.g o.nm).2))) := Lib.hid (fun W hW => by have h9 := flink_any (HM2.out.below HG.out.kind hW) HG.out HBD.out HT9.out o.h o.g HO.out.h HO.out.g (B o.nm) HNM.out.1; rw [LB] at h9; exact h9)
    obtain ⟨fc, hfc⟩ : ∃ g, (lkF f o.h o.g o.nm).1 = g := ⟨_, rfl⟩
    obtain ⟨ec, hec⟩ : ∃ g, (lkF f o.h o.g o.nm).2 = g := ⟨_, rfl⟩
    rw [hfc, hec] at HST HCC
    rw [hfc] at hwl
    have HWL := Lib.hid hwl
    clear hfc hec hwl
    go_upto_region 7 with fail
    rw [← HW2.out, ← EP.out, ← ER.out, ← EQ.out]
    obtain ⟨n0, n1, n2, n3, n4, n5, n6, n7, n8, n9, n10, n11, n12, n13, n14, n15⟩ := HSS.out w2.drew rfl
    go_region_held3 (fun W => W.cell? ⟨q, 0, none⟩ = some (.int .i64 1) ∧ W.cell? ⟨q, 1, none⟩ = some (.int .i64 o.h.id) ∧ W.cell? ⟨q, 2, none⟩ = some (.int .i64 o.h.gen) ∧ W.cell? ⟨q, 3, none⟩ = some (.int .i64 o.g.id) ∧ W.cell? ⟨q, 4, none⟩ = some (.int .i64 o.g.gen) ∧ W.cell? ⟨q, 5, none⟩ = some (.string (B o.nm)) ∧ W.cell? ⟨q, 6, none⟩ = some (.string (B o.ot)) ∧ W.cell? ⟨q, 7, none⟩ = some (.int .i64 o.m.kind) ∧ W.cell? ⟨q, 8, none⟩ = some (.int .i64 o.m.mode) ∧ W.cell? ⟨q, 9, none⟩ = some (.int .i64 o.m.time) ∧ W.cell? ⟨q, 10, none⟩ = some (.string (B o.m.tg)) ∧ W.cell? ⟨q, 11, none⟩ = some (.bool o.fd) ∧ W.cell? ⟨q, 12, none⟩ = some (.int .i64 o.p) ∧ W.cell? ⟨q, 13, none⟩ = some (.int .i64 o.n) ∧ W.cell? ⟨q, 14, none⟩ = some (.int .i64 o.t) ∧ W.cell? ⟨q, 15, none⟩ = some (.slice A n c))
      (first
        | assumption
        | (with_reducible exact HSS.out _ rfl))
      (first
        | (go_at_call 14; (with_reducible refine (HO2.out _).mono ?_); rintro e wb ⟨rfl, hbb⟩; have hBb := hBa.trans (hbb.mono hBa.size); have hSb := HSS.out wb (HQ3.out wb hBb))
        | (go_at_call 14; (with_reducible refine (HO1.out _).mono ?_); rintro e wa ⟨rfl, hba⟩; have hBa : Below w2.heap.size w2 wa := (Below.refl _ _).drew.trans (hba.mono (Nat.le_refl _)); have hSa := HSS.out wa (HQ3.out wa hBa))
        | (go_at_call 18; (with_reducible refine (HCC.out wb hBb).mono ?_); rintro e wc ⟨Z, rfl, g1, g2, g3, g4⟩; have hqc := HQK.out wb wc hBb g2; have hSc := HSS.out wc hqc; have hpc := HPK.out wb wc hBb g2; have pc3 := cell_of hpc (j := 3) rfl; have zc3 := frozen_of_row wc p 3 _ _ hpc; have hSd := HSS.out (wc.setCell ⟨p, 3, none⟩ (.int .i64 ec)) (HQD.out wc hqc 3 (.int .i64 ec)))
      )
    all_goals
      rename_i hHeld
      obtain ⟨wd, hwd⟩ : ∃ W, W = wc.setCell ⟨p, 3, none⟩ (.int .i64 ec) := ⟨_, rfl⟩
      have hpd := heap_setCell_same wc p 3 _ _ (.int .i64 ec) hpc
      rw [← hwd] at hpd
      obtain ⟨j1, j2, j3, j4, j5⟩ := HEND.out wb wc wd Z fc hBb HWL.out.gd.kind g1 g2 g3 (by rw [hwd]; exact gb_set _)
      have HPD : Hid (wd.heap[p]? = some (.cells #[.int .i64 0, .int .i64 0, .string ⟨#[]⟩, .int .i64 ec] 36 (0, 0))) := Lib.hid hpd
      have HRD9 := Lib.hid j5
      have HMD := Lib.hid j1
      have HKD9 := Lib.hid j2
      have HNR := Lib.hid j3
      have HFZ := Lib.hid j4
      have HZF := Lib.hid g4
      have HWD := Lib.hid hwd
      clear hHeld hpd j1 j2 j3 j4 j5 g1 g2 g3 g4 hpc pc3 zc3 hwd hSa hba n0 n1 n2 n3 n4 n5 n6 n7 n8 n9 n10 n11 n12 n13 n14 n15 hqc hSc hSd hBa hSb hbb hBb
      go_upto_region 22 with fail
      rw [← HWD.out]
      obtain ⟨we, hwe⟩ : ∃ W, W = ((((wd.setCell ⟨r, 0, none⟩ (.int .i64 0)).setCell ⟨r, 1, none⟩ (.int .i64 0)).setCell ⟨r, 2, none⟩ (.string ⟨#[]⟩)).setCell ⟨r, 3, none⟩ (.int .i64 ec)) := ⟨_, rfl⟩
      obtain ⟨hwr9, hk9⟩ := set4 HRD9.out (.int .i64 0) (.int .i64 0) (.string ⟨#[]⟩) (.int .i64 ec)
      rw [← hwe] at hwr9 hk9
      have p0 := cell_of HPD.out (j := 0) rfl
      have p1 := cell_of HPD.out (j := 1) rfl
      have p2 := cell_of HPD.out (j := 2) rfl
      have p3 := cell_of HPD.out (j := 3) rfl
      have r0 := cell_of HRD9.out (j := 0) rfl
      have r1 := cell_of HRD9.out (j := 1) rfl
      have r2 := cell_of HRD9.out (j := 2) rfl
      have r3 := cell_of HRD9.out (j := 3) rfl
      have g0 := frozen_of_row wd r 0 _ _ HRD9.out
      have g1 := frozen_of_row wd r 1 _ _ HRD9.out
      have g2 := frozen_of_row wd r 2 _ _ HRD9.out
      have g3 := frozen_of_row wd r 3 _ _ HRD9.out
      have z0 := cell_of hk9 (j := 0) rfl
      have z1 := cell_of hk9 (j := 1) rfl
      have z2 := cell_of hk9 (j := 2) rfl
      have z3 := cell_of hk9 (j := 3) rfl
      have HE : Hid (DsPost w bs Y f o (.returned (.agg #[.int .i64 0, .int .i64 0, .string ⟨#[]⟩, .int .i64 ec])) we) := Lib.hid (by
        refine ⟨Z, ?_, ?_, HKD9.out.fresh hwr9.gb HRW.out.1, ?_, HZF.out⟩
        · rw [HST.out]
        · rw [HST.out]
          exact HMD.out.keep (fun k hk => hwr9.rest k (fun e => HNR.out (e ▸ hk)))
        · rw [HST.out]; exact HFZ.out)
      have HWE := Lib.hid hwe
      clear hwe hwr9 hk9
      go_wp2_with fail
      rw [← HWE.out]
      go_wp2_with fail
      exact bodyPost_ret (v := .agg #[.int .i64 0, .int .i64 0, .string ⟨#[]⟩, .int .i64 ec]) (by simp [results, Try.results10, go_sem, z0, z1, z2, z3]) rfl HE.out
  by_cases e2 : kd = 2
  · subst e2
    have HST : Hid (stepF f o = ((rmF f o.h o.nm o.fd).1, ⟨hd0, [], (rmF f o.h o.nm o.fd).2⟩)) := Lib.hid (by unfold stepF; rw [HKD.out]; rfl)
    have hwl : Wl (rmF f o.h o.nm o.fd).1 (T + 1) f.room := by have h9 := (Wl.step ⟨HG.out, HBD.out, rfl⟩ o); rw [HST.out] at h9; exact h9
    have HCC : Hid (∀ W, Below w2.heap.size w2 W → Calls Try.prog 19 #[pA Y.fp, hV o.h, .string (B o.nm), .bool o.fd] W (ChF W bs Y f (rmF f o.h o.nm o.fd).1 (.int .i64 (rmF f o.h o.nm o.fd).2))) := Lib.hid (fun W hW => by have h9 := fremove_any (HM2.out.below HG.out.kind hW) HG.out HBD.out HT9.out o.h HO.out.h (B o.nm) HNM.out.1 o.fd; rw [LB] at h9; exact h9)
    obtain ⟨fc, hfc⟩ : ∃ g, (rmF f o.h o.nm o.fd).1 = g := ⟨_, rfl⟩
    obtain ⟨ec, hec⟩ : ∃ g, (rmF f o.h o.nm o.fd).2 = g := ⟨_, rfl⟩
    rw [hfc, hec] at HST HCC
    rw [hfc] at hwl
    have HWL := Lib.hid hwl
    clear hfc hec hwl
    go_upto_region 9 with fail
    rw [← HW2.out, ← EP.out, ← ER.out, ← EQ.out]
    obtain ⟨n0, n1, n2, n3, n4, n5, n6, n7, n8, n9, n10, n11, n12, n13, n14, n15⟩ := HSS.out w2.drew rfl
    go_region_held3 (fun W => W.cell? ⟨q, 0, none⟩ = some (.int .i64 2) ∧ W.cell? ⟨q, 1, none⟩ = some (.int .i64 o.h.id) ∧ W.cell? ⟨q, 2, none⟩ = some (.int .i64 o.h.gen) ∧ W.cell? ⟨q, 3, none⟩ = some (.int .i64 o.g.id) ∧ W.cell? ⟨q, 4, none⟩ = some (.int .i64 o.g.gen) ∧ W.cell? ⟨q, 5, none⟩ = some (.string (B o.nm)) ∧ W.cell? ⟨q, 6, none⟩ = some (.string (B o.ot)) ∧ W.cell? ⟨q, 7, none⟩ = some (.int .i64 o.m.kind) ∧ W.cell? ⟨q, 8, none⟩ = some (.int .i64 o.m.mode) ∧ W.cell? ⟨q, 9, none⟩ = some (.int .i64 o.m.time) ∧ W.cell? ⟨q, 10, none⟩ = some (.string (B o.m.tg)) ∧ W.cell? ⟨q, 11, none⟩ = some (.bool o.fd) ∧ W.cell? ⟨q, 12, none⟩ = some (.int .i64 o.p) ∧ W.cell? ⟨q, 13, none⟩ = some (.int .i64 o.n) ∧ W.cell? ⟨q, 14, none⟩ = some (.int .i64 o.t) ∧ W.cell? ⟨q, 15, none⟩ = some (.slice A n c))
      (first
        | assumption
        | (with_reducible exact HSS.out _ rfl))
      (first
        | (go_at_call 14; (with_reducible refine (HO1.out _).mono ?_); rintro e wa ⟨rfl, hba⟩; have hBa : Below w2.heap.size w2 wa := (Below.refl _ _).drew.trans (hba.mono (Nat.le_refl _)); have hSa := HSS.out wa (HQ3.out wa hBa))
        | (go_at_call 19; (with_reducible refine (HCC.out wa hBa).mono ?_); rintro e wc ⟨Z, rfl, g1, g2, g3, g4⟩; have hqc := HQK.out wa wc hBa g2; have hSc := HSS.out wc hqc; have hpc := HPK.out wa wc hBa g2; have pc3 := cell_of hpc (j := 3) rfl; have zc3 := frozen_of_row wc p 3 _ _ hpc; have hSd := HSS.out (wc.setCell ⟨p, 3, none⟩ (.int .i64 ec)) (HQD.out wc hqc 3 (.int .i64 ec)))
      )
    all_goals
      rename_i hHeld
      obtain ⟨wd, hwd⟩ : ∃ W, W = wc.setCell ⟨p, 3, none⟩ (.int .i64 ec) := ⟨_, rfl⟩
      have hpd := heap_setCell_same wc p 3 _ _ (.int .i64 ec) hpc
      rw [← hwd] at hpd
      obtain ⟨j1, j2, j3, j4, j5⟩ := HEND.out wa wc wd Z fc hBa HWL.out.gd.kind g1 g2 g3 (by rw [hwd]; exact gb_set _)
      have HPD : Hid (wd.heap[p]? = some (.cells #[.int .i64 0, .int .i64 0, .string ⟨#[]⟩, .int .i64 ec] 36 (0, 0))) := Lib.hid hpd
      have HRD9 := Lib.hid j5
      have HMD := Lib.hid j1
      have HKD9 := Lib.hid j2
      have HNR := Lib.hid j3
      have HFZ := Lib.hid j4
      have HZF := Lib.hid g4
      have HWD := Lib.hid hwd
      clear hHeld hpd j1 j2 j3 j4 j5 g1 g2 g3 g4 hpc pc3 zc3 hwd hSa hba n0 n1 n2 n3 n4 n5 n6 n7 n8 n9 n10 n11 n12 n13 n14 n15 hqc hSc hSd hBa
      go_upto_region 22 with fail
      rw [← HWD.out]
      obtain ⟨we, hwe⟩ : ∃ W, W = ((((wd.setCell ⟨r, 0, none⟩ (.int .i64 0)).setCell ⟨r, 1, none⟩ (.int .i64 0)).setCell ⟨r, 2, none⟩ (.string ⟨#[]⟩)).setCell ⟨r, 3, none⟩ (.int .i64 ec)) := ⟨_, rfl⟩
      obtain ⟨hwr9, hk9⟩ := set4 HRD9.out (.int .i64 0) (.int .i64 0) (.string ⟨#[]⟩) (.int .i64 ec)
      rw [← hwe] at hwr9 hk9
      have p0 := cell_of HPD.out (j := 0) rfl
      have p1 := cell_of HPD.out (j := 1) rfl
      have p2 := cell_of HPD.out (j := 2) rfl
      have p3 := cell_of HPD.out (j := 3) rfl
      have r0 := cell_of HRD9.out (j := 0) rfl
      have r1 := cell_of HRD9.out (j := 1) rfl
      have r2 := cell_of HRD9.out (j := 2) rfl
      have r3 := cell_of HRD9.out (j := 3) rfl
      have g0 := frozen_of_row wd r 0 _ _ HRD9.out
      have g1 := frozen_of_row wd r 1 _ _ HRD9.out
      have g2 := frozen_of_row wd r 2 _ _ HRD9.out
      have g3 := frozen_of_row wd r 3 _ _ HRD9.out
      have z0 := cell_of hk9 (j := 0) rfl
      have z1 := cell_of hk9 (j := 1) rfl
      have z2 := cell_of hk9 (j := 2) rfl
      have z3 := cell_of hk9 (j := 3) rfl
      have HE : Hid (DsPost w bs Y f o (.returned (.agg #[.int .i64 0, .int .i64 0, .string ⟨#[]⟩, .int .i64 ec])) we) := Lib.hid (by
        refine ⟨Z, ?_, ?_, HKD9.out.fresh hwr9.gb HRW.out.1, ?_, HZF.out⟩
        · rw [HST.out]
        · rw [HST.out]
          exact HMD.out.keep (fun k hk => hwr9.rest k (fun e => HNR.out (e ▸ hk)))
        · rw [HST.out]; exact HFZ.out)
      have HWE := Lib.hid hwe
      clear hwe hwr9 hk9
      go_wp2_with fail
      rw [← HWE.out]
      go_wp2_with fail
      exact bodyPost_ret (v := .agg #[.int .i64 0, .int .i64 0, .string ⟨#[]⟩, .int .i64 ec]) (by simp [results, Try.results10, go_sem, z0, z1, z2, z3]) rfl HE.out
  by_cases e3 : kd = 3
  · subst e3
    have HST : Hid (stepF f o = ((rnF f o.h o.nm o.g o.ot).1, ⟨hd0, [], (rnF f o.h o.nm o.g o.ot).2⟩)) := Lib.hid (by unfold stepF; rw [HKD.out]; rfl)
    have hwl : Wl (rnF f o.h o.nm o.g o.ot).1 (T + 1) f.room := by have h9 := (Wl.step ⟨HG.out, HBD.out, rfl⟩ o); rw [HST.out] at h9; exact h9
    have HCC : Hid (∀ W, Below w2.heap.size w2 W → Calls Try.prog 23 #[pA Y.fp, hV o.h, .string (B o.nm), hV o.g, .string (B o.ot)] W (ChF W bs Y f (rnF f o.h o.nm o.g o.ot).1 (.int .i64 (rnF f o.h o.nm o.g o.ot).2))) := Lib.hid (fun W hW => by have h9 := frename_any (HM2.out.below HG.out.kind hW) HG.out HBD.out HT.out o.h o.g HO.out.h HO.out.g (B o.nm) (B o.ot) HNM.out.1 HNM.out.2; rw [LB, LB] at h9; exact h9)
    obtain ⟨fc, hfc⟩ : ∃ g, (rnF f o.h o.nm o.g o.ot).1 = g := ⟨_, rfl⟩
    obtain ⟨ec, hec⟩ : ∃ g, (rnF f o.h o.nm o.g o.ot).2 = g := ⟨_, rfl⟩
    rw [hfc, hec] at HST HCC
    rw [hfc] at hwl
    have HWL := Lib.hid hwl
    clear hfc hec hwl
    go_upto_region 11 with fail
    rw [← HW2.out, ← EP.out, ← ER.out, ← EQ.out]
    obtain ⟨n0, n1, n2, n3, n4, n5, n6, n7, n8, n9, n10, n11, n12, n13, n14, n15⟩ := HSS.out w2.drew rfl
    go_region_held3 (fun W => W.cell? ⟨q, 0, none⟩ = some (.int .i64 3) ∧ W.cell? ⟨q, 1, none⟩ = some (.int .i64 o.h.id) ∧ W.cell? ⟨q, 2, none⟩ = some (.int .i64 o.h.gen) ∧ W.cell? ⟨q, 3, none⟩ = some (.int .i64 o.g.id) ∧ W.cell? ⟨q, 4, none⟩ = some (.int .i64 o.g.gen) ∧ W.cell? ⟨q, 5, none⟩ = some (.string (B o.nm)) ∧ W.cell? ⟨q, 6, none⟩ = some (.string (B o.ot)) ∧ W.cell? ⟨q, 7, none⟩ = some (.int .i64 o.m.kind) ∧ W.cell? ⟨q, 8, none⟩ = some (.int .i64 o.m.mode) ∧ W.cell? ⟨q, 9, none⟩ = some (.int .i64 o.m.time) ∧ W.cell? ⟨q, 10, none⟩ = some (.string (B o.m.tg)) ∧ W.cell? ⟨q, 11, none⟩ = some (.bool o.fd) ∧ W.cell? ⟨q, 12, none⟩ = some (.int .i64 o.p) ∧ W.cell? ⟨q, 13, none⟩ = some (.int .i64 o.n) ∧ W.cell? ⟨q, 14, none⟩ = some (.int .i64 o.t) ∧ W.cell? ⟨q, 15, none⟩ = some (.slice A n c))
      (first
        | assumption
        | (with_reducible exact HSS.out _ rfl))
      (first
        | (go_at_call 14; (with_reducible refine (HO2.out _).mono ?_); rintro e wb ⟨rfl, hbb⟩; have hBb := hBa.trans (hbb.mono hBa.size); have hSb := HSS.out wb (HQ3.out wb hBb))
        | (go_at_call 14; (with_reducible refine (HO1.out _).mono ?_); rintro e wa ⟨rfl, hba⟩; have hBa : Below w2.heap.size w2 wa := (Below.refl _ _).drew.trans (hba.mono (Nat.le_refl _)); have hSa := HSS.out wa (HQ3.out wa hBa))
        | (go_at_call 23; (with_reducible refine (HCC.out wb hBb).mono ?_); rintro e wc ⟨Z, rfl, g1, g2, g3, g4⟩; have hqc := HQK.out wb wc hBb g2; have hSc := HSS.out wc hqc; have hpc := HPK.out wb wc hBb g2; have pc3 := cell_of hpc (j := 3) rfl; have zc3 := frozen_of_row wc p 3 _ _ hpc; have hSd := HSS.out (wc.setCell ⟨p, 3, none⟩ (.int .i64 ec)) (HQD.out wc hqc 3 (.int .i64 ec)))
      )
    all_goals
      rename_i hHeld
      obtain ⟨wd, hwd⟩ : ∃ W, W = wc.setCell ⟨p, 3, none⟩ (.int .i64 ec) := ⟨_, rfl⟩
      have hpd := heap_setCell_same wc p 3 _ _ (.int .i64 ec) hpc
      rw [← hwd] at hpd
      obtain ⟨j1, j2, j3, j4, j5⟩ := HEND.out wb wc wd Z fc hBb HWL.out.gd.kind g1 g2 g3 (by rw [hwd]; exact gb_set _)
      have HPD : Hid (wd.heap[p]? = some (.cells #[.int .i64 0, .int .i64 0, .string ⟨#[]⟩, .int .i64 ec] 36 (0, 0))) := Lib.hid hpd
      have HRD9 := Lib.hid j5
      have HMD := Lib.hid j1
      have HKD9 := Lib.hid j2
      have HNR := Lib.hid j3
      have HFZ := Lib.hid j4
      have HZF := Lib.hid g4
      have HWD := Lib.hid hwd
      clear hHeld hpd j1 j2 j3 j4 j5 g1 g2 g3 g4 hpc pc3 zc3 hwd hSa hba n0 n1 n2 n3 n4 n5 n6 n7 n8 n9 n10 n11 n12 n13 n14 n15 hqc hSc hSd hBa hSb hbb hBb
      go_upto_region 22 with fail
      rw [← HWD.out]
      obtain ⟨we, hwe⟩ : ∃ W, W = ((((wd.setCell ⟨r, 0, none⟩ (.int .i64 0)).setCell ⟨r, 1, none⟩ (.int .i64 0)).setCell ⟨r, 2, none⟩ (.string ⟨#[]⟩)).setCell ⟨r, 3, none⟩ (.int .i64 ec)) := ⟨_, rfl⟩
      obtain ⟨hwr9, hk9⟩ := set4 HRD9.out (.int .i64 0) (.int .i64 0) (.string ⟨#[]⟩) (.int .i64 ec)
      rw [← hwe] at hwr9 hk9
      have p0 := cell_of HPD.out (j := 0) rfl
      have p1 := cell_of HPD.out (j := 1) rfl
      have p2 := cell_of HPD.out (j := 2) rfl
      have p3 := cell_of HPD.out (j := 3) rfl
      have r0 := cell_of HRD9.out (j := 0) rfl
      have r1 := cell_of HRD9.out (j := 1) rfl
      have r2 := cell_of HRD9.out (j := 2) rfl
      have r3 := cell_of HRD9.out (j := 3) rfl
      have g0 := frozen_of_row wd r 0 _ _ HRD9.out
      have g1 := frozen_of_row wd r 1 _ _ HRD9.out
      have g2 := frozen_of_row wd r 2 _ _ HRD9.out
      have g3 := frozen_of_row wd r 3 _ _ HRD9.out
      have z0 := cell_of hk9 (j := 0) rfl
      have z1 := cell_of hk9 (j := 1) rfl
      have z2 := cell_of hk9 (j := 2) rfl
      have z3 := cell_of hk9 (j := 3) rfl
      have HE : Hid (DsPost w bs Y f o (.returned (.agg #[.int .i64 0, .int .i64 0, .string ⟨#[]⟩, .int .i64 ec])) we) := Lib.hid (by
        refine ⟨Z, ?_, ?_, HKD9.out.fresh hwr9.gb HRW.out.1, ?_, HZF.out⟩
        · rw [HST.out]
        · rw [HST.out]
          exact HMD.out.keep (fun k hk => hwr9.rest k (fun e => HNR.out (e ▸ hk)))
        · rw [HST.out]; exact HFZ.out)
      have HWE := Lib.hid hwe
      clear hwe hwr9 hk9
      go_wp2_with fail
      rw [← HWE.out]
      go_wp2_with fail
      exact bodyPost_ret (v := .agg #[.int .i64 0, .int .i64 0, .string ⟨#[]⟩, .int .i64 ec]) (by simp [results, Try.results10, go_sem, z0, z1, z2, z3]) rfl HE.out
  by_cases e4 : kd = 4
  · subst e4
    have HST : Hid (stepF f o = ((wrF f o.h o.p o.b o.t).1, ⟨hd0, [], (wrF f o.h o.p o.b o.t).2⟩)) := Lib.hid (by unfold stepF; rw [HKD.out]; rfl)
    have hwl : Wl (wrF f o.h o.p o.b o.t).1 (T + 1) f.room := by have h9 := (Wl.step ⟨HG.out, HBD.out, rfl⟩ o); rw [HST.out] at h9; exact h9
    have HCC : Hid (∀ W, Below w2.heap.size w2 W → Calls Try.prog 17 #[pA Y.fp, hV o.h, .int .i64 o.p, .slice A n c, .int .i64 o.t] W (ChF W bs Y f (wrF f o.h o.p o.b o.t).1 (.int .i64 (wrF f o.h o.p o.b o.t).2))) := Lib.hid (fun W hW => fwrite_any (HM2.out.below HG.out.kind hW) HG.out o.h HO.out.h o.p HO.out.p (HRD.out.below (HB2.out.trans (hW.mono HB2.out.size))) HC.out (by rw [← HLN.out]; exact HO.out.b) o.t HRM.out)
    obtain ⟨fc, hfc⟩ : ∃ g, (wrF f o.h o.p o.b o.t).1 = g := ⟨_, rfl⟩
    obtain ⟨ec, hec⟩ : ∃ g, (wrF f o.h o.p o.b o.t).2 = g := ⟨_, rfl⟩
    rw [hfc, hec] at HST HCC
    rw [hfc] at hwl
    have HWL := Lib.hid hwl
    clear hfc hec hwl
    go_upto_region 13 with fail
    rw [← HW2.out, ← EP.out, ← ER.out, ← EQ.out]
    obtain ⟨n0, n1, n2, n3, n4, n5, n6, n7, n8, n9, n10, n11, n12, n13, n14, n15⟩ := HSS.out w2.drew rfl
    go_region_held3 (fun W => W.cell? ⟨q, 0, none⟩ = some (.int .i64 4) ∧ W.cell? ⟨q, 1, none⟩ = some (.int .i64 o.h.id) ∧ W.cell? ⟨q, 2, none⟩ = some (.int .i64 o.h.gen) ∧ W.cell? ⟨q, 3, none⟩ = some (.int .i64 o.g.id) ∧ W.cell? ⟨q, 4, none⟩ = some (.int .i64 o.g.gen) ∧ W.cell? ⟨q, 5, none⟩ = some (.string (B o.nm)) ∧ W.cell? ⟨q, 6, none⟩ = some (.string (B o.ot)) ∧ W.cell? ⟨q, 7, none⟩ = some (.int .i64 o.m.kind) ∧ W.cell? ⟨q, 8, none⟩ = some (.int .i64 o.m.mode) ∧ W.cell? ⟨q, 9, none⟩ = some (.int .i64 o.m.time) ∧ W.cell? ⟨q, 10, none⟩ = some (.string (B o.m.tg)) ∧ W.cell? ⟨q, 11, none⟩ = some (.bool o.fd) ∧ W.cell? ⟨q, 12, none⟩ = some (.int .i64 o.p) ∧ W.cell? ⟨q, 13, none⟩ = some (.int .i64 o.n) ∧ W.cell? ⟨q, 14, none⟩ = some (.int .i64 o.t) ∧ W.cell? ⟨q, 15, none⟩ = some (.slice A n c))
      (first
        | assumption
        | (with_reducible exact HSS.out _ rfl))
      (first
        | (go_at_call 14; (with_reducible refine (HO1.out _).mono ?_); rintro e wa ⟨rfl, hba⟩; have hBa : Below w2.heap.size w2 wa := (Below.refl _ _).drew.trans (hba.mono (Nat.le_refl _)); have hSa := HSS.out wa (HQ3.out wa hBa))
        | (go_at_call 17; (with_reducible refine (HCC.out wa hBa).mono ?_); rintro e wc ⟨Z, rfl, g1, g2, g3, g4⟩; have hqc := HQK.out wa wc hBa g2; have hSc := HSS.out wc hqc; have hpc := HPK.out wa wc hBa g2; have pc3 := cell_of hpc (j := 3) rfl; have zc3 := frozen_of_row wc p 3 _ _ hpc; have hSd := HSS.out (wc.setCell ⟨p, 3, none⟩ (.int .i64 ec)) (HQD.out wc hqc 3 (.int .i64 ec)))
      )
    all_goals
      rename_i hHeld
      obtain ⟨wd, hwd⟩ : ∃ W, W = wc.setCell ⟨p, 3, none⟩ (.int .i64 ec) := ⟨_, rfl⟩
      have hpd := heap_setCell_same wc p 3 _ _ (.int .i64 ec) hpc
      rw [← hwd] at hpd
      obtain ⟨j1, j2, j3, j4, j5⟩ := HEND.out wa wc wd Z fc hBa HWL.out.gd.kind g1 g2 g3 (by rw [hwd]; exact gb_set _)
      have HPD : Hid (wd.heap[p]? = some (.cells #[.int .i64 0, .int .i64 0, .string ⟨#[]⟩, .int .i64 ec] 36 (0, 0))) := Lib.hid hpd
      have HRD9 := Lib.hid j5
      have HMD := Lib.hid j1
      have HKD9 := Lib.hid j2
      have HNR := Lib.hid j3
      have HFZ := Lib.hid j4
      have HZF := Lib.hid g4
      have HWD := Lib.hid hwd
      clear hHeld hpd j1 j2 j3 j4 j5 g1 g2 g3 g4 hpc pc3 zc3 hwd hSa hba n0 n1 n2 n3 n4 n5 n6 n7 n8 n9 n10 n11 n12 n13 n14 n15 hqc hSc hSd hBa
      go_upto_region 22 with fail
      rw [← HWD.out]
      obtain ⟨we, hwe⟩ : ∃ W, W = ((((wd.setCell ⟨r, 0, none⟩ (.int .i64 0)).setCell ⟨r, 1, none⟩ (.int .i64 0)).setCell ⟨r, 2, none⟩ (.string ⟨#[]⟩)).setCell ⟨r, 3, none⟩ (.int .i64 ec)) := ⟨_, rfl⟩
      obtain ⟨hwr9, hk9⟩ := set4 HRD9.out (.int .i64 0) (.int .i64 0) (.string ⟨#[]⟩) (.int .i64 ec)
      rw [← hwe] at hwr9 hk9
      have p0 := cell_of HPD.out (j := 0) rfl
      have p1 := cell_of HPD.out (j := 1) rfl
      have p2 := cell_of HPD.out (j := 2) rfl
      have p3 := cell_of HPD.out (j := 3) rfl
      have r0 := cell_of HRD9.out (j := 0) rfl
      have r1 := cell_of HRD9.out (j := 1) rfl
      have r2 := cell_of HRD9.out (j := 2) rfl
      have r3 := cell_of HRD9.out (j := 3) rfl
      have g0 := frozen_of_row wd r 0 _ _ HRD9.out
      have g1 := frozen_of_row wd r 1 _ _ HRD9.out
      have g2 := frozen_of_row wd r 2 _ _ HRD9.out
      have g3 := frozen_of_row wd r 3 _ _ HRD9.out
      have z0 := cell_of hk9 (j := 0) rfl
      have z1 := cell_of hk9 (j := 1) rfl
      have z2 := cell_of hk9 (j := 2) rfl
      have z3 := cell_of hk9 (j := 3) rfl
      have HE : Hid (DsPost w bs Y f o (.returned (.agg #[.int .i64 0, .int .i64 0, .string ⟨#[]⟩, .int .i64 ec])) we) := Lib.hid (by
        refine ⟨Z, ?_, ?_, HKD9.out.fresh hwr9.gb HRW.out.1, ?_, HZF.out⟩
        · rw [HST.out]
        · rw [HST.out]
          exact HMD.out.keep (fun k hk => hwr9.rest k (fun e => HNR.out (e ▸ hk)))
        · rw [HST.out]; exact HFZ.out)
      have HWE := Lib.hid hwe
      clear hwe hwr9 hk9
      go_wp2_with fail
      rw [← HWE.out]
      go_wp2_with fail
      exact bodyPost_ret (v := .agg #[.int .i64 0, .int .i64 0, .string ⟨#[]⟩, .int .i64 ec]) (by simp [results, Try.results10, go_sem, z0, z1, z2, z3]) rfl HE.out
  by_cases e5 : kd = 5
  · subst e5
    have HST : Hid (stepF f o = ((ctF f o.h o.n o.t).1, ⟨hd0, [], (ctF f o.h o.n o.t).2⟩)) := Lib.hid (by unfold stepF; rw [HKD.out]; rfl)
    have hwl : Wl (ctF f o.h o.n o.t).1 (T + 1) f.room := by have h9 := (Wl.step ⟨HG.out, HBD.out, rfl⟩ o); rw [HST.out] at h9; exact h9
    have HCC : Hid (∀ W, Below w2.heap.size w2 W → Calls Try.prog 24 #[pA Y.fp, hV o.h, .int .i64 o.n, .int .i64 o.t] W (ChF W bs Y f (ctF f o.h o.n o.t).1 (.int .i64 (ctF f o.h o.n o.t).2))) := Lib.hid (fun W hW => fcut_any (HM2.out.below HG.out.kind hW) HG.out o.h HO.out.h o.n o.t)
    obtain ⟨fc, hfc⟩ : ∃ g, (ctF f o.h o.n o.t).1 = g := ⟨_, rfl⟩
    obtain ⟨ec, hec⟩ : ∃ g, (ctF f o.h o.n o.t).2 = g := ⟨_, rfl⟩
    rw [hfc, hec] at HST HCC
    rw [hfc] at hwl
    have HWL := Lib.hid hwl
    clear hfc hec hwl
    go_upto_region 15 with fail
    rw [← HW2.out, ← EP.out, ← ER.out, ← EQ.out]
    obtain ⟨n0, n1, n2, n3, n4, n5, n6, n7, n8, n9, n10, n11, n12, n13, n14, n15⟩ := HSS.out w2.drew rfl
    go_region_held3 (fun W => W.cell? ⟨q, 0, none⟩ = some (.int .i64 5) ∧ W.cell? ⟨q, 1, none⟩ = some (.int .i64 o.h.id) ∧ W.cell? ⟨q, 2, none⟩ = some (.int .i64 o.h.gen) ∧ W.cell? ⟨q, 3, none⟩ = some (.int .i64 o.g.id) ∧ W.cell? ⟨q, 4, none⟩ = some (.int .i64 o.g.gen) ∧ W.cell? ⟨q, 5, none⟩ = some (.string (B o.nm)) ∧ W.cell? ⟨q, 6, none⟩ = some (.string (B o.ot)) ∧ W.cell? ⟨q, 7, none⟩ = some (.int .i64 o.m.kind) ∧ W.cell? ⟨q, 8, none⟩ = some (.int .i64 o.m.mode) ∧ W.cell? ⟨q, 9, none⟩ = some (.int .i64 o.m.time) ∧ W.cell? ⟨q, 10, none⟩ = some (.string (B o.m.tg)) ∧ W.cell? ⟨q, 11, none⟩ = some (.bool o.fd) ∧ W.cell? ⟨q, 12, none⟩ = some (.int .i64 o.p) ∧ W.cell? ⟨q, 13, none⟩ = some (.int .i64 o.n) ∧ W.cell? ⟨q, 14, none⟩ = some (.int .i64 o.t) ∧ W.cell? ⟨q, 15, none⟩ = some (.slice A n c))
      (first
        | assumption
        | (with_reducible exact HSS.out _ rfl))
      (first
        | (go_at_call 14; (with_reducible refine (HO1.out _).mono ?_); rintro e wa ⟨rfl, hba⟩; have hBa : Below w2.heap.size w2 wa := (Below.refl _ _).drew.trans (hba.mono (Nat.le_refl _)); have hSa := HSS.out wa (HQ3.out wa hBa))
        | (go_at_call 24; (with_reducible refine (HCC.out wa hBa).mono ?_); rintro e wc ⟨Z, rfl, g1, g2, g3, g4⟩; have hqc := HQK.out wa wc hBa g2; have hSc := HSS.out wc hqc; have hpc := HPK.out wa wc hBa g2; have pc3 := cell_of hpc (j := 3) rfl; have zc3 := frozen_of_row wc p 3 _ _ hpc; have hSd := HSS.out (wc.setCell ⟨p, 3, none⟩ (.int .i64 ec)) (HQD.out wc hqc 3 (.int .i64 ec)))
      )
    all_goals
      rename_i hHeld
      obtain ⟨wd, hwd⟩ : ∃ W, W = wc.setCell ⟨p, 3, none⟩ (.int .i64 ec) := ⟨_, rfl⟩
      have hpd := heap_setCell_same wc p 3 _ _ (.int .i64 ec) hpc
      rw [← hwd] at hpd
      obtain ⟨j1, j2, j3, j4, j5⟩ := HEND.out wa wc wd Z fc hBa HWL.out.gd.kind g1 g2 g3 (by rw [hwd]; exact gb_set _)
      have HPD : Hid (wd.heap[p]? = some (.cells #[.int .i64 0, .int .i64 0, .string ⟨#[]⟩, .int .i64 ec] 36 (0, 0))) := Lib.hid hpd
      have HRD9 := Lib.hid j5
      have HMD := Lib.hid j1
      have HKD9 := Lib.hid j2
      have HNR := Lib.hid j3
      have HFZ := Lib.hid j4
      have HZF := Lib.hid g4
      have HWD := Lib.hid hwd
      clear hHeld hpd j1 j2 j3 j4 j5 g1 g2 g3 g4 hpc pc3 zc3 hwd hSa hba n0 n1 n2 n3 n4 n5 n6 n7 n8 n9 n10 n11 n12 n13 n14 n15 hqc hSc hSd hBa
      go_upto_region 22 with fail
      rw [← HWD.out]
      obtain ⟨we, hwe⟩ : ∃ W, W = ((((wd.setCell ⟨r, 0, none⟩ (.int .i64 0)).setCell ⟨r, 1, none⟩ (.int .i64 0)).setCell ⟨r, 2, none⟩ (.string ⟨#[]⟩)).setCell ⟨r, 3, none⟩ (.int .i64 ec)) := ⟨_, rfl⟩
      obtain ⟨hwr9, hk9⟩ := set4 HRD9.out (.int .i64 0) (.int .i64 0) (.string ⟨#[]⟩) (.int .i64 ec)
      rw [← hwe] at hwr9 hk9
      have p0 := cell_of HPD.out (j := 0) rfl
      have p1 := cell_of HPD.out (j := 1) rfl
      have p2 := cell_of HPD.out (j := 2) rfl
      have p3 := cell_of HPD.out (j := 3) rfl
      have r0 := cell_of HRD9.out (j := 0) rfl
      have r1 := cell_of HRD9.out (j := 1) rfl
      have r2 := cell_of HRD9.out (j := 2) rfl
      have r3 := cell_of HRD9.out (j := 3) rfl
      have g0 := frozen_of_row wd r 0 _ _ HRD9.out
      have g1 := frozen_of_row wd r 1 _ _ HRD9.out
      have g2 := frozen_of_row wd r 2 _ _ HRD9.out
      have g3 := frozen_of_row wd r 3 _ _ HRD9.out
      have z0 := cell_of hk9 (j := 0) rfl
      have z1 := cell_of hk9 (j := 1) rfl
      have z2 := cell_of hk9 (j := 2) rfl
      have z3 := cell_of hk9 (j := 3) rfl
      have HE : Hid (DsPost w bs Y f o (.returned (.agg #[.int .i64 0, .int .i64 0, .string ⟨#[]⟩, .int .i64 ec])) we) := Lib.hid (by
        refine ⟨Z, ?_, ?_, HKD9.out.fresh hwr9.gb HRW.out.1, ?_, HZF.out⟩
        · rw [HST.out]
        · rw [HST.out]
          exact HMD.out.keep (fun k hk => hwr9.rest k (fun e => HNR.out (e ▸ hk)))
        · rw [HST.out]; exact HFZ.out)
      have HWE := Lib.hid hwe
      clear hwe hwr9 hk9
      go_wp2_with fail
      rw [← HWE.out]
      go_wp2_with fail
      exact bodyPost_ret (v := .agg #[.int .i64 0, .int .i64 0, .string ⟨#[]⟩, .int .i64 ec]) (by simp [results, Try.results10, go_sem, z0, z1, z2, z3]) rfl HE.out
  by_cases e6 : kd = 6
  · subst e6
    have HST : Hid (stepF f o = ((f), ⟨(loF f o.h o.nm).1, [], (loF f o.h o.nm).2⟩)) := Lib.hid (by unfold stepF; rw [HKD.out]; rfl)
    have hwl : Wl (f) (T + 1) f.room := by have h9 := (Wl.step ⟨HG.out, HBD.out, rfl⟩ o); rw [HST.out] at h9; exact h9
    have HCC : Hid (∀ W, Below w2.heap.size w2 W → Calls Try.prog 15 #[pA Y.fp, hV o.h, .string (B o.nm)] W (ChF W bs Y f f (.tuple #[hV (loF f o.h o.nm).1, .int .i64 (loF f o.h o.nm).2]))) := Lib.hid (fun W hW => by have h8 := HM2.out.below HG.out.kind hW; have h9 := flook_any h8 HG.out o.h HO.out.h (B o.nm) HNM.out.1; rw [LB] at h9; exact h9.mono (fun e w9 hx => by obtain ⟨hx1, hx2⟩ := hx; subst hx1; exact ChF.same h8 HG.out hx2 _))
    have HQN : Hid (∀ W Wc, Below w2.heap.size w2 W → FK Y f.I W Wc → ∀ W', Wc.grownBy W' (some Wc.heap.size) → W'.heap[q]? = w2.heap[q]?) := Lib.hid (fun W Wc hW hK W' hg => by
      have h1 := hW.size
      have h2 := hK.size
      have h3 := HRW.out.2.2.2.2.2.1
      exact (hg.block q (by omega) (by simp; omega)).trans (HQK.out W Wc hW hK))
    obtain ⟨hh, hhh⟩ : ∃ g, (loF f o.h o.nm).1 = g := ⟨_, rfl⟩
    obtain ⟨ec, hec⟩ : ∃ g, (loF f o.h o.nm).2 = g := ⟨_, rfl⟩
    rw [hhh, hec] at HST HCC
    clear hhh hec
    have HWL := Lib.hid hwl
    clear hwl
    have HBA : Hid (∀ wa, Below w2.drew.heap.size w2.drew wa → Below w2.heap.size w2 wa) := Lib.hid (fun wa hba => (Below.refl _ _).drew.trans (hba.mono (Nat.le_refl _)))
    have HBB : Hid (∀ wa, Below w2.heap.size w2 wa → Below w2.heap.size w2 (wa.alloc (.cells #[.int .i64 0, .int .i64 0] 40))) := Lib.hid (fun wa hba => hba.alloc hba.size _)
    have HBZ : Hid (∀ wa, Below (w2.drew.alloc (.cells #[.int .i64 0, .int .i64 0] 40)).heap.size (w2.drew.alloc (.cells #[.int .i64 0, .int .i64 0] 40)) wa → Below w2.heap.size w2 wa ∧ w2.heap.size < wa.heap.size ∧ wa.heap[w2.heap.size]? = some (.cells #[.int .i64 0, .int .i64 0] 40)) := Lib.hid (fun wa hba => by
      have hs : (w2.drew.alloc (.cells #[.int .i64 0, .int .i64 0] 40)).heap.size = w2.heap.size + 1 := by simp
      refine ⟨((Below.refl _ _).drew.alloc (Nat.le_refl _) _).trans (hba.mono (by rw [hs]; exact Nat.le_succ _)), by have h9 := hba.size; rw [hs] at h9; exact h9, ?_⟩
      exact (hba.block w2.heap.size (by rw [hs]; exact Nat.lt_succ_self _)).trans (new_block w2.drew _))
    have HX1 : Hid (∀ wa wc Z, Below w2.heap.size w2 wa → FM wc bs Z f → FK Y f.I wa wc → Fresh Y f.I wa Z f.I → BxP w2 bs Y f.I Z f wc.heap.size hh.id hh.gen (wc.alloc (.cells #[.int .i64 hh.id, .int .i64 hh.gen] 40))) := Lib.hid (fun wa wc Z h0 h1 h2 h3 => ⟨wa, h0, h1.below HWL.out.gd.kind (box_below wc _), h2.trans h3 (FK.of_below (box_below wc _)), h3, new_block wc _⟩)
    have HX2 : Hid (∀ (V W wc : World) (Z : Lay) (b : Nat), Below w2.heap.size w2 V → b = V.heap.size → Below V.heap.size V W → b < W.heap.size → W.heap[b]? = some (.cells #[.int .i64 0, .int .i64 0] 40) → FM wc bs Z f → FK Y f.I W wc → Fresh Y f.I W Z f.I →
        wc.cell? ⟨b, 0, none⟩ = some (.int .i64 0) ∧ wc.cell? ⟨b, 1, none⟩ = some (.int .i64 0) ∧ wc.frozen? ⟨b, 0, none⟩ = false ∧ wc.frozen? ⟨b, 1, none⟩ = false ∧ ((wc.setCell ⟨b, 0, none⟩ (.int .i64 hh.id)).setCell ⟨b, 1, none⟩ (.int .i64 hh.gen)).heap[q]? = w2.heap[q]? ∧
        BxP w2 bs Y f.I Z f b hh.id hh.gen ((wc.setCell ⟨b, 0, none⟩ (.int .i64 hh.id)).setCell ⟨b, 1, none⟩ (.int .i64 hh.gen))) := Lib.hid (fun V W wc Z b h0 h1 h2 h3 h4 h5 h6 h7 => by
      have hbw : w.heap.size ≤ b := by have := h0.size; have := HB2.out.size; omega
      have hnf : ¬ foot Y f.I b := HNF.out b hbw
      have hnz : ¬ foot Z f.I b := fun hf => by
        rcases h7 b hf with h8 | h8
        · exact hnf h8
        · omega
      have hk := (h6.block b h3 hnf).trans h4
      obtain ⟨hwr, hkk⟩ := set2 hk (.int .i64 hh.id) (.int .i64 hh.gen)
      have hVc : FK Y f.I V wc := (FK.of_below h2).trans Fresh.refl h6
      have hb2 : w2.heap.size ≤ b := by have := h0.size; omega
      refine ⟨cell_of hk (j := 0) rfl, cell_of hk (j := 1) rfl, frozen_of_row wc b 0 _ _ hk, frozen_of_row wc b 1 _ _ hk, ?_, V, h0, h5.keep (fun k hk => hwr.rest k (fun e => hnz (e ▸ hk))), hVc.fresh hwr.gb (by omega), Fresh.trans Fresh.refl h2.size h7, hkk⟩
      exact (hwr.rest q (by have := HRW.out; omega)).trans (HQK.out V wc h0 hVc))
    have hS0 := HSS.out (w2.drew.alloc (.cells #[.int .i64 0, .int .i64 0] 40)) (HQ3.out _ ((Below.refl _ _).drew.alloc (Nat.le_refl _) _))
    go_upto_region 17 with fail
    rw [← HW2.out, ← EP.out, ← ER.out, ← EQ.out]
    obtain ⟨n0, n1, n2, n3, n4, n5, n6, n7, n8, n9, n10, n11, n12, n13, n14, n15⟩ := HSS.out w2.drew rfl
    go_region_held3 (fun W => W.cell? ⟨q, 0, none⟩ = some (.int .i64 6) ∧ W.cell? ⟨q, 1, none⟩ = some (.int .i64 o.h.id) ∧ W.cell? ⟨q, 2, none⟩ = some (.int .i64 o.h.gen) ∧ W.cell? ⟨q, 3, none⟩ = some (.int .i64 o.g.id) ∧ W.cell? ⟨q, 4, none⟩ = some (.int .i64 o.g.gen) ∧ W.cell? ⟨q, 5, none⟩ = some (.string (B o.nm)) ∧ W.cell? ⟨q, 6, none⟩ = some (.string (B o.ot)) ∧ W.cell? ⟨q, 7, none⟩ = some (.int .i64 o.m.kind) ∧ W.cell? ⟨q, 8, none⟩ = some (.int .i64 o.m.mode) ∧ W.cell? ⟨q, 9, none⟩ = some (.int .i64 o.m.time) ∧ W.cell? ⟨q, 10, none⟩ = some (.string (B o.m.tg)) ∧ W.cell? ⟨q, 11, none⟩ = some (.bool o.fd) ∧ W.cell? ⟨q, 12, none⟩ = some (.int .i64 o.p) ∧ W.cell? ⟨q, 13, none⟩ = some (.int .i64 o.n) ∧ W.cell? ⟨q, 14, none⟩ = some (.int .i64 o.t) ∧ W.cell? ⟨q, 15, none⟩ = some (.slice A n c))
      (first
        | assumption
        | (with_reducible exact HSS.out _ rfl))
      (first
        | (go_at_call 14; first
            | ((with_reducible refine (HO1.out w2.drew).mono ?_); rintro e wa ⟨rfl, hba⟩; have hBa := HBA.out wa hba; have hSa := HSS.out wa (HQ3.out wa hBa); have hBb := HBB.out wa hBa; have hSb := HSS.out _ (HQ3.out _ hBb))
            | ((with_reducible refine (HO1.out _).mono ?_); rintro e wa ⟨rfl, hba⟩; have hBz := HBZ.out wa hba; have hSa := HSS.out wa (HQ3.out wa hBz.1)))
        | (go_at_call 15; first
            | ((with_reducible refine (HCC.out wa hBa).mono ?_); rintro e wc ⟨Z, rfl, g1, g2, g3, g4⟩; have hqc := HQK.out wa wc hBa g2; have hSc := HSS.out wc hqc; have hQn := HQN.out wa wc hBa g2; have hSd := HSS.out _ (hQn _ (World.grownBy_alloc wc (.cells #[.int .i64 0, .int .i64 0] 40) (some wc.heap.size))); have hSe := HSS.out _ (hQn _ (World.grownBy_alloc wc (.cells #[.int .i64 hh.id, .int .i64 hh.gen] 40) (some wc.heap.size))); have hBX := HX1.out wa wc Z hBa g1 g2 g3)
            | ((with_reducible refine (HCC.out (wa.alloc (.cells #[.int .i64 0, .int .i64 0] 40)) hBb).mono ?_); rintro e wc ⟨Z, rfl, g1, g2, g3, g4⟩; have hqc := HQK.out _ wc hBb g2; have hSc := HSS.out wc hqc; obtain ⟨x0, x1, x2, x3, x4, hBX⟩ := HX2.out wa (wa.alloc (.cells #[.int .i64 0, .int .i64 0] 40)) wc Z wa.heap.size hBa rfl (box_below wa _) (by simp) (new_block wa _) g1 g2 g3; have hSe := HSS.out _ x4)
            | ((with_reducible refine (HCC.out wa hBz.1).mono ?_); rintro e wc ⟨Z, rfl, g1, g2, g3, g4⟩; have hqc := HQK.out _ wc hBz.1 g2; have hSc := HSS.out wc hqc; obtain ⟨x0, x1, x2, x3, x4, hBX⟩ := HX2.out w2 wa wc Z w2.heap.size (Below.refl _ _) rfl hBz.1 hBz.2.1 hBz.2.2 g1 g2 g3; have hSe := HSS.out _ x4))
      )
    all_goals
      rename_i hHeld
      first
        | (obtain ⟨wb, hwb⟩ : ∃ W, W = wc.alloc (.cells #[.int .i64 hh.id, .int .i64 hh.gen] 40) := ⟨_, rfl⟩
           obtain ⟨b, hb⟩ : ∃ k, k = wc.heap.size := ⟨_, rfl⟩
           rw [← hwb, ← hb] at hBX)
        | (obtain ⟨wb, hwb⟩ : ∃ W, W = (wc.setCell ⟨wa.heap.size, 0, none⟩ (.int .i64 hh.id)).setCell ⟨wa.heap.size, 1, none⟩ (.int .i64 hh.gen) := ⟨_, rfl⟩
           obtain ⟨b, hb⟩ : ∃ k, k = wa.heap.size := ⟨_, rfl⟩
           rw [← hwb, ← hb] at hBX)
        | (obtain ⟨wb, hwb⟩ : ∃ W, W = (wc.setCell ⟨w2.heap.size, 0, none⟩ (.int .i64 hh.id)).setCell ⟨w2.heap.size, 1, none⟩ (.int .i64 hh.gen) := ⟨_, rfl⟩
           obtain ⟨b, hb⟩ : ∃ k, k = w2.heap.size := ⟨_, rfl⟩
           rw [← hwb, ← hb] at hBX)
      obtain ⟨V, v1, v2, v3, v4, hk1⟩ := hBX
      have b0 := cell_of hk1 (j := 0) rfl
      have b1 := cell_of hk1 (j := 1) rfl
      have hpc := HPK.out V wb v1 v3
      have p0 := cell_of hpc (j := 0) rfl
      have p1 := cell_of hpc (j := 1) rfl
      have p3 := cell_of hpc (j := 3) rfl
      have f0 := frozen_of_row wb p 0 _ _ hpc
      have f1 := frozen_of_row wb p 1 _ _ hpc
      have f3 := frozen_of_row wb p 3 _ _ hpc
      obtain ⟨wd, hwd⟩ : ∃ W, W = ((wb.setCell ⟨p, 0, none⟩ (.int .i64 hh.id)).setCell ⟨p, 1, none⟩ (.int .i64 hh.gen)).setCell ⟨p, 3, none⟩ (.int .i64 ec) := ⟨_, rfl⟩
      have hpd := heap_setCell_same _ p 3 _ _ (.int .i64 ec) (heap_setCell_same _ p 1 _ _ (.int .i64 hh.gen) (heap_setCell_same wb p 0 _ _ (.int .i64 hh.id) hpc))
      rw [← hwd] at hpd
      obtain ⟨j1, j2, j3, j4, j5⟩ := HEND.out V wb wd Z f v1 HWL.out.gd.kind v2 v3 v4 (by rw [hwd]; exact gb_trans (gb_set _) (gb_trans (gb_set _) (gb_set _)))
      have HPD : Hid (wd.heap[p]? = some (.cells #[.int .i64 hh.id, .int .i64 hh.gen, .string ⟨#[]⟩, .int .i64 ec] 36 (0, 0))) := Lib.hid hpd
      have HRD9 := Lib.hid j5
      have HMD := Lib.hid j1
      have HKD9 := Lib.hid j2
      have HNR := Lib.hid j3
      have HFZ := Lib.hid j4
      have HZF := Lib.hid g4
      have HWD := Lib.hid hwd
      have HWB := Lib.hid hwb
      have HB := Lib.hid hb
      clear hHeld hpd j1 j2 j3 j4 j5 g1 g2 g3 g4 v1 v2 v3 v4 hk1 hwb hb hpc hwd n0 n1 n2 n3 n4 n5 n6 n7 n8 n9 n10 n11 n12 n13 n14 n15 hS0 hqc hSc hSa hba hSe
      (try clear hBa hBb hSb); (try clear hBz); (try clear hSd hQn); (try clear x0 x1 x2 x3 x4)
      go_upto_region 18 with fail
      rw [← HWB.out, ← HB.out]
      go_upto_region 22 with fail
      rw [← HWD.out]
      obtain ⟨we, hwe⟩ : ∃ W, W = ((((wd.setCell ⟨r, 0, none⟩ (.int .i64 hh.id)).setCell ⟨r, 1, none⟩ (.int .i64 hh.gen)).setCell ⟨r, 2, none⟩ (.string ⟨#[]⟩)).setCell ⟨r, 3, none⟩ (.int .i64 ec)) := ⟨_, rfl⟩
      obtain ⟨hwr9, hk9⟩ := set4 HRD9.out (.int .i64 hh.id) (.int .i64 hh.gen) (.string ⟨#[]⟩) (.int .i64 ec)
      rw [← hwe] at hwr9 hk9
      have p0 := cell_of HPD.out (j := 0) rfl
      have p1 := cell_of HPD.out (j := 1) rfl
      have p2 := cell_of HPD.out (j := 2) rfl
      have p3 := cell_of HPD.out (j := 3) rfl
      have r0 := cell_of HRD9.out (j := 0) rfl
      have r1 := cell_of HRD9.out (j := 1) rfl
      have r2 := cell_of HRD9.out (j := 2) rfl
      have r3 := cell_of HRD9.out (j := 3) rfl
      have g0 := frozen_of_row wd r 0 _ _ HRD9.out
      have g1 := frozen_of_row wd r 1 _ _ HRD9.out
      have g2 := frozen_of_row wd r 2 _ _ HRD9.out
      have g3 := frozen_of_row wd r 3 _ _ HRD9.out
      have z0 := cell_of hk9 (j := 0) rfl
      have z1 := cell_of hk9 (j := 1) rfl
      have z2 := cell_of hk9 (j := 2) rfl
      have z3 := cell_of hk9 (j := 3) rfl
      have HE : Hid (DsPost w bs Y f o (.returned (.agg #[.int .i64 hh.id, .int .i64 hh.gen, .string ⟨#[]⟩, .int .i64 ec])) we) := Lib.hid (by
        refine ⟨Z, ?_, ?_, HKD9.out.fresh hwr9.gb HRW.out.1, ?_, HZF.out⟩
        · rw [HST.out]
        · rw [HST.out]
          exact HMD.out.keep (fun k hk => hwr9.rest k (fun e => HNR.out (e ▸ hk)))
        · rw [HST.out]; exact HFZ.out)
      have HWE := Lib.hid hwe
      clear hwe hwr9 hk9
      go_wp2_with fail
      rw [← HWE.out]
      go_wp2_with fail
      exact bodyPost_ret (v := .agg #[.int .i64 hh.id, .int .i64 hh.gen, .string ⟨#[]⟩, .int .i64 ec]) (by simp [results, Try.results10, go_sem, z0, z1, z2, z3]) rfl HE.out
  by_cases e7 : kd = 7
  · subst e7
    have HST : Hid (stepF f o = (f, ⟨hd0, (rdF f o.h o.p o.n).1, (rdF f o.h o.p o.n).2⟩)) := Lib.hid (by unfold stepF; rw [HKD.out]; rfl)
    have HCC : Hid (∀ W, Below w2.heap.size w2 W → Calls Try.prog 20 #[pA Y.fp, hV o.h, .int .i64 o.p, .int .i64 o.n] W fun e wc => ∃ A c, e = .returned (.tuple #[.slice A (rdF f o.h o.p o.n).1.length c, .int .i64 (rdF f o.h o.p o.n).2]) ∧ (convert 31 9 (.slice A (rdF f o.h o.p o.n).1.length c)).run Try.prog wc = .ok (.string (B (rdF f o.h o.p o.n).1)) wc ∧ Below w2.heap.size w2 wc) := Lib.hid (fun W hW => (fread_any (HM2.out.below HG.out.kind hW) HG.out o.h HO.out.h o.p o.n HO.out.p).mono (by
      rintro e wc ⟨v, rfl, hr, hb⟩
      obtain ⟨A', c', rfl, -⟩ := own_form hr
      exact ⟨A', c', rfl, conv_B (c := c') (Rd.of_own hr (fun _ _ => rfl) (by omega)), hW.trans (hb.mono hW.size)⟩))
    obtain ⟨ln, hln⟩ : ∃ g, (rdF f o.h o.p o.n).1.length = g := ⟨_, rfl⟩
    obtain ⟨str, hstr⟩ : ∃ g, B (rdF f o.h o.p o.n).1 = g := ⟨_, rfl⟩
    obtain ⟨ec, hec⟩ : ∃ g, (rdF f o.h o.p o.n).2 = g := ⟨_, rfl⟩
    rw [hec] at HST
    rw [hec, hln, hstr] at HCC
    have HSTR := Lib.hid hstr
    clear hec hln hstr
    go_upto_region 20 with fail
    rw [← HW2.out, ← EP.out, ← ER.out, ← EQ.out]
    obtain ⟨n0, n1, n2, n3, n4, n5, n6, n7, n8, n9, n10, n11, n12, n13, n14, n15⟩ := HSS.out w2.drew rfl
    go_region_held3 (fun W => W.cell? ⟨q, 0, none⟩ = some (.int .i64 7) ∧ W.cell? ⟨q, 1, none⟩ = some (.int .i64 o.h.id) ∧ W.cell? ⟨q, 2, none⟩ = some (.int .i64 o.h.gen) ∧ W.cell? ⟨q, 3, none⟩ = some (.int .i64 o.g.id) ∧ W.cell? ⟨q, 4, none⟩ = some (.int .i64 o.g.gen) ∧ W.cell? ⟨q, 5, none⟩ = some (.string (B o.nm)) ∧ W.cell? ⟨q, 6, none⟩ = some (.string (B o.ot)) ∧ W.cell? ⟨q, 7, none⟩ = some (.int .i64 o.m.kind) ∧ W.cell? ⟨q, 8, none⟩ = some (.int .i64 o.m.mode) ∧ W.cell? ⟨q, 9, none⟩ = some (.int .i64 o.m.time) ∧ W.cell? ⟨q, 10, none⟩ = some (.string (B o.m.tg)) ∧ W.cell? ⟨q, 11, none⟩ = some (.bool o.fd) ∧ W.cell? ⟨q, 12, none⟩ = some (.int .i64 o.p) ∧ W.cell? ⟨q, 13, none⟩ = some (.int .i64 o.n) ∧ W.cell? ⟨q, 14, none⟩ = some (.int .i64 o.t) ∧ W.cell? ⟨q, 15, none⟩ = some (.slice A n c))
      (first
        | assumption
        | (with_reducible exact HSS.out _ rfl))
      (first
        | (go_at_call 14; (with_reducible refine (HO1.out _).mono ?_); rintro e wa ⟨rfl, hba⟩; have hBa : Below w2.heap.size w2 wa := (Below.refl _ _).drew.trans (hba.mono (Nat.le_refl _)); have hSa := HSS.out wa (HQ3.out wa hBa))
        | (go_at_call 20; (with_reducible refine (HCC.out wa hBa).mono ?_); rintro e wc ⟨A9, c9, rfl, hcv, hBc⟩; have hSc := HSS.out wc (HQ3.out wc hBc)))
    all_goals
      rename_i hHeld
      have hpc := blk_below HPB.out hBc
      have p2 := cell_of hpc (j := 2) rfl
      have p3 := cell_of hpc (j := 3) rfl
      have f2 := frozen_of_row wc p 2 _ _ hpc
      have f3 := frozen_of_row wc p 3 _ _ hpc
      obtain ⟨wd, hwd⟩ : ∃ W, W = (wc.setCell ⟨p, 2, none⟩ (.string str)).setCell ⟨p, 3, none⟩ (.int .i64 ec) := ⟨_, rfl⟩
      have hpd := heap_setCell_same _ p 3 _ _ (.int .i64 ec) (heap_setCell_same wc p 2 _ _ (.string str) hpc)
      rw [← hwd] at hpd
      obtain ⟨j1, j2, j3, j4, j5⟩ := HEND.out wc wc wd Y f hBc HG.out.kind (HM2.out.below HG.out.kind hBc) (FK.of_below (Below.refl _ _)) Fresh.refl (by rw [hwd]; exact gb_trans (gb_set _) (gb_set _))
      have HPD : Hid (wd.heap[p]? = some (.cells #[.int .i64 0, .int .i64 0, .string str, .int .i64 ec] 36 (0, 0))) := Lib.hid hpd
      have HRD9 := Lib.hid j5
      have HMD := Lib.hid j1
      have HKD9 := Lib.hid j2
      have HNR := Lib.hid j3
      have HFZ := Lib.hid j4
      have HZF : Hid (Y.fp = Y.fp) := Lib.hid rfl
      have HWD := Lib.hid hwd
      clear hHeld hpd j1 j2 j3 j4 j5 hpc hwd n0 n1 n2 n3 n4 n5 n6 n7 n8 n9 n10 n11 n12 n13 n14 n15 hSc hSa hba hBa hBc
      go_upto_region 22 with fail
      rw [← HWD.out]
      obtain ⟨we, hwe⟩ : ∃ W, W = ((((wd.setCell ⟨r, 0, none⟩ (.int .i64 0)).setCell ⟨r, 1, none⟩ (.int .i64 0)).setCell ⟨r, 2, none⟩ (.string str)).setCell ⟨r, 3, none⟩ (.int .i64 ec)) := ⟨_, rfl⟩
      obtain ⟨hwr9, hk9⟩ := set4 HRD9.out (.int .i64 0) (.int .i64 0) (.string str) (.int .i64 ec)
      rw [← hwe] at hwr9 hk9
      have p0 := cell_of HPD.out (j := 0) rfl
      have p1 := cell_of HPD.out (j := 1) rfl
      have p2 := cell_of HPD.out (j := 2) rfl
      have p3 := cell_of HPD.out (j := 3) rfl
      have r0 := cell_of HRD9.out (j := 0) rfl
      have r1 := cell_of HRD9.out (j := 1) rfl
      have r2 := cell_of HRD9.out (j := 2) rfl
      have r3 := cell_of HRD9.out (j := 3) rfl
      have g0 := frozen_of_row wd r 0 _ _ HRD9.out
      have g1 := frozen_of_row wd r 1 _ _ HRD9.out
      have g2 := frozen_of_row wd r 2 _ _ HRD9.out
      have g3 := frozen_of_row wd r 3 _ _ HRD9.out
      have z0 := cell_of hk9 (j := 0) rfl
      have z1 := cell_of hk9 (j := 1) rfl
      have z2 := cell_of hk9 (j := 2) rfl
      have z3 := cell_of hk9 (j := 3) rfl
      have HE : Hid (DsPost w bs Y f o (.returned (.agg #[.int .i64 0, .int .i64 0, .string str, .int .i64 ec])) we) := Lib.hid (by
        refine ⟨Y, ?_, ?_, HKD9.out.fresh hwr9.gb HRW.out.1, ?_, HZF.out⟩
        · rw [HST.out]
          rw [← HSTR.out]
        · rw [HST.out]
          exact HMD.out.keep (fun k hk => hwr9.rest k (fun e => HNR.out (e ▸ hk)))
        · rw [HST.out]; exact HFZ.out)
      have HWE := Lib.hid hwe
      clear hwe hwr9 hk9
      go_wp2_with fail
      rw [← HWE.out]
      go_wp2_with fail
      exact bodyPost_ret (v := .agg #[.int .i64 0, .int .i64 0, .string str, .int .i64 ec]) (by simp [results, Try.results10, go_sem, z0, z1, z2, z3]) rfl HE.out
  have HST : Hid (stepF f o = (f, ⟨hd0, [], 0⟩)) := Lib.hid (by unfold stepF; rw [HKD.out, if_neg e0, if_neg e1, if_neg e2, if_neg e3, if_neg e4, if_neg e5, if_neg e6, if_neg e7])
  have HPD := HPB
  have HRD9 := HR
  have HMD := HM2
  have HKD9 : Hid (FK Y f.I w w2) := Lib.hid (FK.of_below HB2.out)
  have HNR : Hid (¬ foot Y f.I r) := Lib.hid (HNF.out r HRW.out.1)
  have HFZ : Hid (Fresh Y f.I w Y f.I) := Lib.hid Fresh.refl
  have HZF : Hid (Y.fp = Y.fp) := Lib.hid rfl
  go_upto_region 22 with fail
  rw [← HW2.out, ← EP.out, ← ER.out, ← EQ.out]
  obtain ⟨we, hwe⟩ : ∃ W, W = ((((w2.setCell ⟨r, 0, none⟩ (.int .i64 0)).setCell ⟨r, 1, none⟩ (.int .i64 0)).setCell ⟨r, 2, none⟩ (.string ⟨#[]⟩)).setCell ⟨r, 3, none⟩ (.int .i64 0)) := ⟨_, rfl⟩
  obtain ⟨hwr9, hk9⟩ := set4 HRD9.out (.int .i64 0) (.int .i64 0) (.string ⟨#[]⟩) (.int .i64 0)
  rw [← hwe] at hwr9 hk9
  have p0 := cell_of HPD.out (j := 0) rfl
  have p1 := cell_of HPD.out (j := 1) rfl
  have p2 := cell_of HPD.out (j := 2) rfl
  have p3 := cell_of HPD.out (j := 3) rfl
  have r0 := cell_of HRD9.out (j := 0) rfl
  have r1 := cell_of HRD9.out (j := 1) rfl
  have r2 := cell_of HRD9.out (j := 2) rfl
  have r3 := cell_of HRD9.out (j := 3) rfl
  have g0 := frozen_of_row w2 r 0 _ _ HRD9.out
  have g1 := frozen_of_row w2 r 1 _ _ HRD9.out
  have g2 := frozen_of_row w2 r 2 _ _ HRD9.out
  have g3 := frozen_of_row w2 r 3 _ _ HRD9.out
  have z0 := cell_of hk9 (j := 0) rfl
  have z1 := cell_of hk9 (j := 1) rfl
  have z2 := cell_of hk9 (j := 2) rfl
  have z3 := cell_of hk9 (j := 3) rfl
  have HE : Hid (DsPost w bs Y f o (.returned (.agg #[.int .i64 0, .int .i64 0, .string ⟨#[]⟩, .int .i64 0])) we) := Lib.hid (by
    refine ⟨Y, ?_, ?_, HKD9.out.fresh hwr9.gb HRW.out.1, ?_, HZF.out⟩
    · rw [HST.out]
    · rw [HST.out]
      exact HMD.out.keep (fun k hk => hwr9.rest k (fun e => HNR.out (e ▸ hk)))
    · rw [HST.out]; exact HFZ.out)
  have HWE := Lib.hid hwe
  clear hwe hwr9 hk9
  go_wp2_with fail
  rw [← HWE.out]
  go_wp2_with fail
  exact bodyPost_ret (v := .agg #[.int .i64 0, .int .i64 0, .string ⟨#[]⟩, .int .i64 0]) (by simp [results, Try.results10, go_sem, z0, z1, z2, z3]) rfl HE.out
end Go.Proofs.Ytoaahhgngelnaaa
