/-
  Scripts in memory; what the document's Do, the law's does, few and alive return. No condition.
-/
import Derived.Test.YtoallenigfbkpaaTDoc6
namespace Go.Proofs.Ytoallenigfbkpaa
set_option maxRecDepth 100000
open Go.ChangeShapes Go.WideShapes Go.ChangeAt Go.RowKit Go.Proofs.Sg

/-! ### Strings of bytes -/
def ub (l : List UInt8) : List Int := l.map fun x => (x.toNat : Int)
def sB (l : List UInt8) : ByteArray := strOfNums (ub l)
theorem ub_inj {a b : List UInt8} (h : ub a = ub b) : a = b := by
  induction a generalizing b with
  | nil => cases b with
    | nil => rfl
    | cons y b => cases h
  | cons x a ih => cases b with
    | nil => cases h
    | cons y b =>
      injection h with h1 h2
      have e : x = y := UInt8.toNat_inj.1 (by have h3 : ((x.toNat : Nat) : Int) = ((y.toNat : Nat) : Int) := h1; omega)
      rw [ih h2, e]
theorem sB_inj {a b : List UInt8} (h : sB a = sB b) : a = b := by
  refine ub_inj ?_
  have e : ∀ l : List UInt8, ((sB l).data.toList.map fun c => (c.toNat : Int)) = ub l := fun l => by
    simp only [sB, strOfNums, ub, List.map_map]
    apply List.map_congr_left
    intro c hc
    simp
  rw [← e a, ← e b, h]
theorem conv_rd {W : World} {A : Option Addr} {m c : Nat} {l : List UInt8} (hR : Rd bcell 1 W A m l) : (convert 27 9 (.slice A m c)).run Try.prog W = .ok (.string (sB l)) W := by
  obtain ⟨h1, h2, _⟩ := rd_reads hR
  rcases Nat.eq_zero_or_pos m with h0 | h0
  · subst h0
    have hz : l = [] := List.eq_nil_of_length_eq_zero hR.len
    subst hz
    cases A with
    | none => exact run_convert_bytes_nil W 27 5 Try.underlying27 Try.underlying5 0 c 9 Try.underlying9
    | some ad =>
      rw [run_convert_bytes_string W 27 9 5 (some ad) 0 c Try.underlying27 Try.underlying5 Try.underlying9, run_bytesToString W ad 0 c [] (by simp [loadCells, loadCellsFrom, Sem.run_pure])]
      rfl
  · obtain ⟨b, off, rfl, hc⟩ := h2 h0
    exact run_convert_bytes_arg W 27 5 Try.underlying27 Try.underlying5 b off m c _ h1 hc 9 Try.underlying9
/-! ### Scripts -/
structure Opr where
  k : Int
  p : Int
  n : Int
  b : List UInt8
def op0 : Opr := ⟨0, 0, 0, []⟩
def Under (B : Nat) (ad : Option Addr) (len : Nat) : Prop := 0 < len → ∀ a, ad = some a → a.block < B
theorem rd_at {w w' : World} {B : Nat} {A : Option Addr} {n : Nat} {l : List UInt8} (h : Rd bcell 1 w A n l) (hu : Under B A n) (hb : Below B w w') : Rd bcell 1 w' A n l := by
  refine ⟨h.len, fun hn => ?_⟩
  obtain ⟨b, off, e, hc⟩ := h.cells hn
  have hlt := hu hn _ e
  exact ⟨b, off, e, fun i hi j v hv => (hb.cell (p := ⟨b, off + i * 1 + j, none⟩) hlt).trans (hc i hi j v hv)⟩
/-- Memory below a block holds a script. -/
def OReads (w : World) (B : Nat) (ad : Option Addr) (len : Nat) (os : List Opr) : Prop :=
  os.length = len ∧ (0 < len → ∃ b off, ad = some ⟨b, off, none⟩ ∧ b < B ∧ ∀ i, i < len →
    w.cell? ⟨b, off + i * 4, none⟩ = some (.int .i64 (os.getD i op0).k) ∧ w.cell? ⟨b, off + i * 4 + 1, none⟩ = some (.int .i64 (os.getD i op0).p) ∧ w.cell? ⟨b, off + i * 4 + 2, none⟩ = some (.int .i64 (os.getD i op0).n) ∧
    (∃ A l c, w.cell? ⟨b, off + i * 4 + 3, none⟩ = some (.slice A l c) ∧ Rd bcell 1 w A l (os.getD i op0).b ∧ Under B A l ∧ l ≤ c) ∧ (os.getD i op0).p ≤ 9223372036854775807 ∧ (os.getD i op0).n ≤ 9223372036854775807)
theorem OReads.kept {w w' : World} {B : Nat} {ad : Option Addr} {len : Nat} {os : List Opr} (h : OReads w B ad len os) (hb : Below B w w') : OReads w' B ad len os := by
  refine ⟨h.1, fun hl => ?_⟩
  obtain ⟨b, off, e, hlt, hc⟩ := h.2 hl
  refine ⟨b, off, e, hlt, fun i hi => ?_⟩
  obtain ⟨h0, h1, h2, ⟨A, l, c, h3, h4, h5, h6⟩, h7⟩ := hc i hi
  have k : ∀ o u, w.cell? ⟨b, o, none⟩ = some u → w'.cell? ⟨b, o, none⟩ = some u := fun o u hx => (hb.cell (p := ⟨b, o, none⟩) hlt).trans hx
  exact ⟨k _ _ h0, k _ _ h1, k _ _ h2, ⟨A, l, c, k _ _ h3, rd_at h4 h5 hb, h5, h6⟩, h7⟩
/-- A call of a script by value. -/
def ov (o : Opr) (A : Option Addr) (l c : Nat) : Value := .agg #[.int .i64 o.k, .int .i64 o.p, .int .i64 o.n, .slice A l c]
def stS (S : Sh) (o : Opr) : Sh := if o.k = 0 then wrI S o.p o.b else if o.k = 1 then cutI S o.n else if o.k = 2 then punchI S o.p o.n else S
def stB (o : Opr) : Bool := if o.k = 0 then ft o.p o.b.length else if o.k = 1 then ft 0 o.n else if o.k = 2 then ft o.p o.n else true
def runS (S : Sh) (os : List Opr) : Sh := os.foldl stS S
theorem good_wrI {S : Sh} (h : GoodS S) (p : Int) (b : List UInt8) : GoodS (wrI S p b) := by
  unfold wrI
  split
  · rename_i hf
    have := ft_iff.1 hf
    exact good_wr h (by omega)
  · exact h
theorem good_cutI {S : Sh} (h : GoodS S) (n : Int) : GoodS (cutI S n) := by
  unfold cutI
  split
  · rename_i hf
    have := ft_iff.1 hf
    exact good_cut h (by omega)
  · exact h
theorem good_punchI {S : Sh} (h : GoodS S) (p n : Int) : GoodS (punchI S p n) := by
  unfold punchI
  split
  · exact good_punch h _ _
  · exact h
theorem good_st {S : Sh} (h : GoodS S) (o : Opr) : GoodS (stS S o) := by
  unfold stS
  split
  · exact good_wrI h _ _
  · split
    · exact good_cutI h _
    · split
      · exact good_punchI h _ _
      · exact h
theorem run_next {S : Sh} {os : List Opr} {i : Nat} (h : i < os.length) : runS S (os.take (i + 1)) = stS (runS S (os.take i)) (os.getD i op0) := by
  rw [List.take_succ_eq_append_getElem h, getD_eq _ h, runS, List.foldl_append]; rfl
/-! ### does -/
set_option maxHeartbeats 4000000 in
theorem does_any {w : World} {B sp mb : Nat} {S : Sh} (h : SW w B sp mb S) (o : Opr) {A : Option Addr} {l c : Nat} (hR : Rd bcell 1 w A l o.b) (hc : l ≤ c) (hl : l ≤ 4611686018427387904) (hp : o.p ≤ 9223372036854775807) :
    Calls Try.prog 17 #[.pointer (some ⟨sp, 0, none⟩), ov o A l c] w (ChPost w B sp mb (stS S o) (.bool (stB o))) := by
  obtain ⟨w1, hw1⟩ : ∃ w1, w1 = w.alloc (.cells #[.int .i64 o.k, .int .i64 o.p, .int .i64 o.n, .slice A l c] 40) := ⟨_, rfl⟩
  obtain ⟨q, eq⟩ : ∃ q, q = w.heap.size := ⟨_, rfl⟩
  have hb1 : Below w.heap.size w w1 := by rw [hw1]; exact box_below w _
  have hq : w1.heap[q]? = some (.cells #[.int .i64 o.k, .int .i64 o.p, .int .i64 o.n, .slice A l c] 40 (0, 0)) := by rw [hw1, eq]; exact new_block w _
  have h1 := h.below hb1
  have HX : Hid (∀ S' v e w2, ChPost w1 B sp mb S' v e w2 → ChPost w B sp mb S' v e w2) := Lib.hid (fun S' v e w2 ⟨g1, g2, g3⟩ => ⟨g1, g2, (SK.of_below hb1).trans g3⟩)
  have HWR := Lib.hid (write_any h1 o.p hp (hR.below hb1) hc hl)
  have HCU := Lib.hid (cut_any h1 o.n)
  have HPU := Lib.hid (punch_any h1 o.p o.n hp)
  have HNO : Hid (ChPost w B sp mb S (.bool true) (.returned (.bool true)) w1) := Lib.hid ⟨rfl, h1, SK.of_below hb1⟩
  have HW1 := Lib.hid hw1
  have EQ := Lib.hid eq
  have q0 := cell_of hq (j := 0) rfl
  have q1 := cell_of hq (j := 1) rfl
  have q2 := cell_of hq (j := 2) rfl
  have q3 := cell_of hq (j := 3) rfl
  obtain ⟨kd, hkd⟩ : ∃ kd, o.k = kd := ⟨_, rfl⟩
  unfold ov
  rw [hkd] at HW1 q0 ⊢
  clear h hw1 eq hb1 hq h1 hR
  by_cases h0 : kd = 0
  · have g0 : (kd == 0) = true := by simp only [beq_iff_eq]; exact h0
    have HSS : Hid (stS S o = wrI S o.p o.b) := Lib.hid (by unfold stS; rw [if_pos (by omega)])
    have HSB : Hid (stB o = ft o.p o.b.length) := Lib.hid (by unfold stB; rw [if_pos (by omega)])
    clear h0 hkd
    go_enter Try.func17, Try.ntmps17
    go_upto_region 1 with fail
    rw [← HW1.out, ← EQ.out]
    go_wp2_with fail
    refine HWR.out.mono ?_
    rintro e w2 hpost
    obtain ⟨rfl, -⟩ := id hpost
    have HE := Lib.hid (HX.out _ _ _ _ hpost)
    clear hpost
    go_wp2_with fail
    go_ret
    rw [HSS.out, HSB.out]
    exact HE.out
  · have g0 : (kd == 0) = false := by simp only [beq_eq_false_iff_ne]; exact h0
    by_cases h1 : kd = 1
    · have g1 : (kd == 1) = true := by simp only [beq_iff_eq]; exact h1
      have HSS : Hid (stS S o = cutI S o.n) := Lib.hid (by unfold stS; rw [if_neg (by omega), if_pos (by omega)])
      have HSB : Hid (stB o = ft 0 o.n) := Lib.hid (by unfold stB; rw [if_neg (by omega), if_pos (by omega)])
      clear h0 h1 hkd
      go_enter Try.func17, Try.ntmps17
      go_upto_region 1 with fail
      rw [← HW1.out, ← EQ.out]
      go_wp2_with fail
      refine HCU.out.mono ?_
      rintro e w2 hpost
      obtain ⟨rfl, -⟩ := id hpost
      have HE := Lib.hid (HX.out _ _ _ _ hpost)
      clear hpost
      go_wp2_with fail
      go_ret
      rw [HSS.out, HSB.out]
      exact HE.out
    · have g1 : (kd == 1) = false := by simp only [beq_eq_false_iff_ne]; exact h1
      by_cases h2 : kd = 2
      · have g2 : (kd == 2) = true := by simp only [beq_iff_eq]; exact h2
        have HSS : Hid (stS S o = punchI S o.p o.n) := Lib.hid (by unfold stS; rw [if_neg (by omega), if_neg (by omega), if_pos (by omega)])
        have HSB : Hid (stB o = ft o.p o.n) := Lib.hid (by unfold stB; rw [if_neg (by omega), if_neg (by omega), if_pos (by omega)])
        clear h0 h1 h2 hkd
        go_enter Try.func17, Try.ntmps17
        go_upto_region 1 with fail
        rw [← HW1.out, ← EQ.out]
        go_wp2_with fail
        refine HPU.out.mono ?_
        rintro e w2 hpost
        obtain ⟨rfl, -⟩ := id hpost
        have HE := Lib.hid (HX.out _ _ _ _ hpost)
        clear hpost
        go_wp2_with fail
        go_ret
        rw [HSS.out, HSB.out]
        exact HE.out
      · have g2 : (kd == 2) = false := by simp only [beq_eq_false_iff_ne]; exact h2
        have HSS : Hid (stS S o = S) := Lib.hid (by unfold stS; rw [if_neg (by omega), if_neg (by omega), if_neg (by omega)])
        have HSB : Hid (stB o = true) := Lib.hid (by unfold stB; rw [if_neg (by omega), if_neg (by omega), if_neg (by omega)])
        clear h0 h1 h2 hkd
        go_enter Try.func17, Try.ntmps17
        go_upto_region 1 with fail
        rw [← HW1.out, ← EQ.out]
        go_wp2_with fail
        go_ret
        rw [HSS.out, HSB.out]
        exact HNO.out
/-! ### Do -/
set_option maxHeartbeats 4000000 in
theorem rdo_any {w : World} {A A2 : Option Addr} {c c2 : Nat} {S : Sh} (hD : DF w A c A2 c2 S) (hg : GoodS S) (o : Opr) {B : Option Addr} {l cb : Nat} (hR : Rd bcell 1 w B l o.b) (hl : l ≤ 4611686018427387904) (hp : o.p ≤ 9223372036854775807) :
    Calls Try.prog 26 #[dv A S.n c A2 S.K.length c2, ov o B l cb] w (DoPost w (stS S o) (stB o)) := by
  obtain ⟨w2, hw2, hb2, hq, hs, hs2⟩ := two_box w (.cells #[.slice A S.n c, .slice A2 S.K.length c2] 30) (.cells #[.int .i64 o.k, .int .i64 o.p, .int .i64 o.n, .slice B l cb] 40)
  obtain ⟨w3, hw3⟩ : ∃ w3, w3 = w2.alloc (.cells #[.slice none 0 0, .slice none 0 0] 30) := ⟨_, rfl⟩
  obtain ⟨q, eq⟩ : ∃ q, q = w.heap.size := ⟨_, rfl⟩
  obtain ⟨s, es⟩ : ∃ s, s = w.heap.size + 1 := ⟨_, rfl⟩
  obtain ⟨r, er⟩ : ∃ r, r = w.heap.size + 1 + 1 := ⟨_, rfl⟩
  have hb3 : Below w2.heap.size w2 w3 := by rw [hw3]; exact box_below w2 _
  have hb03 := hb2.trans (hb3.mono hb2.size)
  rw [← eq] at hq
  rw [← es] at hs
  have hr : w3.heap[r]? = some (.cells #[.slice none 0 0, .slice none 0 0] 30 (0, 0)) := by rw [hw3, er]; have := new_block w2 (.cells #[.slice none 0 0, .slice none 0 0] 30); rw [hs2] at this; exact this
  have hq3 := blk_below hq hb3
  have hs3 := blk_below hs hb3
  have hD3 := hD.below hb03
  have HD := Lib.hid hD3
  have HWR := Lib.hid (rwrite_any (cb := cb) hD3 hg o.p hp (hR.below hb03) hl)
  have HCU := Lib.hid (rcut_any hD3 hg o.n)
  have HPU := Lib.hid (rpunch_any hD3 hg o.p o.n hp)
  have HRB := Lib.hid hr
  have HB3 := Lib.hid hb03
  have HRW : Hid (w.heap.size ≤ r ∧ r < w3.heap.size) := Lib.hid ⟨by omega, blk_lt hr⟩
  have HW3 : Hid (((w.alloc (.cells #[.slice A S.n c, .slice A2 S.K.length c2] 30)).alloc (.cells #[.int .i64 o.k, .int .i64 o.p, .int .i64 o.n, .slice B l cb] 40)).alloc (.cells #[.slice none 0 0, .slice none 0 0] 30) = w3) := Lib.hid (by rw [hw3, hw2])
  have EQ := Lib.hid eq
  have ES := Lib.hid es
  have ER := Lib.hid er
  have q0 := cell_of hq3 (j := 0) rfl
  have q1 := cell_of hq3 (j := 1) rfl
  have s0 := cell_of hs3 (j := 0) rfl
  have s1 := cell_of hs3 (j := 1) rfl
  have s2 := cell_of hs3 (j := 2) rfl
  have s3 := cell_of hs3 (j := 3) rfl
  have HFIN : Hid (∀ (w4 : World) (A5 : Option Addr) (c5 : Nat) (A6 : Option Addr) (c6 : Nat) (S' : Sh) (ok : Bool), DF w4 A5 c5 A6 c6 S' → Below w3.heap.size w3 w4 → ∃ w9, w9 = ((w4.setCell ⟨r, 0, none⟩ (.slice A5 S'.n c5)).setCell ⟨r, 1, none⟩ (.slice A6 S'.K.length c6)) ∧ w4.heap[r]? = some (.cells #[.slice none 0 0, .slice none 0 0] 30 (0, 0)) ∧ w9.heap[r]? = some (.cells #[.slice A5 S'.n c5, .slice A6 S'.K.length c6] 30 (0, 0)) ∧ DoPost w S' ok (.returned (.tuple #[.agg #[.slice A5 S'.n c5, .slice A6 S'.K.length c6], .bool ok])) w9) := Lib.hid (fun w4 A5 c5 A6 c6 S' ok hd hb => by
    have hr4 := blk_below HRB.out hb
    obtain ⟨hwr, hk⟩ := set_two hr4 (.slice A5 S'.n c5) (.slice A6 S'.K.length c6)
    exact ⟨_, rfl, hr4, hk, _, _, _, _, rfl, hd.wr hwr hr4, (HB3.out.trans (hb.mono HB3.out.size)).trans (hwr.below.mono HRW.out.1)⟩)
  obtain ⟨kd, hkd⟩ : ∃ kd, o.k = kd := ⟨_, rfl⟩
  unfold ov
  unfold dv at HWR HCU HPU ⊢
  rw [hkd] at HW3 s0 ⊢
  clear hD hw2 hb2 hq hs hs2 hw3 eq es er hb3 hb03 hr hq3 hs3 hD3 hR
  by_cases h0 : kd = 0
  · have g0 : (kd == 0) = true := by simp only [beq_iff_eq]; exact h0
    have HSS : Hid (stS S o = wrI S o.p o.b) := Lib.hid (by unfold stS; rw [if_pos (by omega)])
    have HSB : Hid (stB o = ft o.p o.b.length) := Lib.hid (by unfold stB; rw [if_pos (by omega)])
    clear h0 hkd
    go_enter Try.func26, Try.ntmps26
    go_upto_region 1 with fail
    rw [HW3.out, ← ER.out, ← ES.out, ← EQ.out]
    go_wp2_with fail
    refine HWR.out.mono ?_
    rintro e w4 ⟨A5, c5, A6, c6, rfl, hd4, hb4⟩
    unfold dv
    obtain ⟨w9, hw9, hr4, hk9, hpost⟩ := HFIN.out w4 A5 c5 A6 c6 (wrI S o.p o.b) (ft o.p o.b.length) hd4 hb4
    have r0 := cell_of hr4 (j := 0) rfl
    have r1 := cell_of hr4 (j := 1) rfl
    have f0 := frozen_of_row _ r 0 _ _ hr4
    have f1 := frozen_of_row _ r 1 _ _ hr4
    have z0 := cell_of hk9 (j := 0) rfl
    have z1 := cell_of hk9 (j := 1) rfl
    have HE := Lib.hid hpost
    have HW9 := Lib.hid hw9
    obtain ⟨ok, hok⟩ : ∃ ok, (ft o.p o.b.length) = ok := ⟨_, rfl⟩
    rw [hok] at HE HSB ⊢
    clear hd4 hb4 hw9 hr4 hk9 hpost hok
    go_wp2_with fail
    rw [← HW9.out]
    go_wp2_with fail
    rw [HSS.out, HSB.out]
    exact bodyPost_ret (v := .tuple #[.agg #[.slice A5 ((wrI S o.p o.b)).n c5, .slice A6 ((wrI S o.p o.b)).K.length c6], .bool ok]) (by simp [results, Try.results26, go_sem, z0, z1]) rfl HE.out
  · have g0 : (kd == 0) = false := by simp only [beq_eq_false_iff_ne]; exact h0
    by_cases h1 : kd = 1
    · have g1 : (kd == 1) = true := by simp only [beq_iff_eq]; exact h1
      have HSS : Hid (stS S o = cutI S o.n) := Lib.hid (by unfold stS; rw [if_neg (by omega), if_pos (by omega)])
      have HSB : Hid (stB o = ft 0 o.n) := Lib.hid (by unfold stB; rw [if_neg (by omega), if_pos (by omega)])
      clear h0 h1 hkd
      go_enter Try.func26, Try.ntmps26
      go_upto_region 1 with fail
      rw [HW3.out, ← ER.out, ← ES.out, ← EQ.out]
      go_wp2_with fail
      refine HCU.out.mono ?_
      rintro e w4 ⟨A5, c5, A6, c6, rfl, hd4, hb4⟩
      unfold dv
      obtain ⟨w9, hw9, hr4, hk9, hpost⟩ := HFIN.out w4 A5 c5 A6 c6 (cutI S o.n) (ft 0 o.n) hd4 hb4
      have r0 := cell_of hr4 (j := 0) rfl
      have r1 := cell_of hr4 (j := 1) rfl
      have f0 := frozen_of_row _ r 0 _ _ hr4
      have f1 := frozen_of_row _ r 1 _ _ hr4
      have z0 := cell_of hk9 (j := 0) rfl
      have z1 := cell_of hk9 (j := 1) rfl
      have HE := Lib.hid hpost
      have HW9 := Lib.hid hw9
      obtain ⟨ok, hok⟩ : ∃ ok, (ft 0 o.n) = ok := ⟨_, rfl⟩
      rw [hok] at HE HSB ⊢
      clear hd4 hb4 hw9 hr4 hk9 hpost hok
      go_wp2_with fail
      rw [← HW9.out]
      go_wp2_with fail
      rw [HSS.out, HSB.out]
      exact bodyPost_ret (v := .tuple #[.agg #[.slice A5 ((cutI S o.n)).n c5, .slice A6 ((cutI S o.n)).K.length c6], .bool ok]) (by simp [results, Try.results26, go_sem, z0, z1]) rfl HE.out
    · have g1 : (kd == 1) = false := by simp only [beq_eq_false_iff_ne]; exact h1
      by_cases h2 : kd = 2
      · have g2 : (kd == 2) = true := by simp only [beq_iff_eq]; exact h2
        have HSS : Hid (stS S o = punchI S o.p o.n) := Lib.hid (by unfold stS; rw [if_neg (by omega), if_neg (by omega), if_pos (by omega)])
        have HSB : Hid (stB o = ft o.p o.n) := Lib.hid (by unfold stB; rw [if_neg (by omega), if_neg (by omega), if_pos (by omega)])
        clear h0 h1 h2 hkd
        go_enter Try.func26, Try.ntmps26
        go_upto_region 1 with fail
        rw [HW3.out, ← ER.out, ← ES.out, ← EQ.out]
        go_wp2_with fail
        refine HPU.out.mono ?_
        rintro e w4 ⟨A5, c5, A6, c6, rfl, hd4, hb4⟩
        unfold dv
        obtain ⟨w9, hw9, hr4, hk9, hpost⟩ := HFIN.out w4 A5 c5 A6 c6 (punchI S o.p o.n) (ft o.p o.n) hd4 hb4
        have r0 := cell_of hr4 (j := 0) rfl
        have r1 := cell_of hr4 (j := 1) rfl
        have f0 := frozen_of_row _ r 0 _ _ hr4
        have f1 := frozen_of_row _ r 1 _ _ hr4
        have z0 := cell_of hk9 (j := 0) rfl
        have z1 := cell_of hk9 (j := 1) rfl
        have HE := Lib.hid hpost
        have HW9 := Lib.hid hw9
        obtain ⟨ok, hok⟩ : ∃ ok, (ft o.p o.n) = ok := ⟨_, rfl⟩
        rw [hok] at HE HSB ⊢
        clear hd4 hb4 hw9 hr4 hk9 hpost hok
        go_wp2_with fail
        rw [← HW9.out]
        go_wp2_with fail
        rw [HSS.out, HSB.out]
        exact bodyPost_ret (v := .tuple #[.agg #[.slice A5 ((punchI S o.p o.n)).n c5, .slice A6 ((punchI S o.p o.n)).K.length c6], .bool ok]) (by simp [results, Try.results26, go_sem, z0, z1]) rfl HE.out
      · have g2 : (kd == 2) = false := by simp only [beq_eq_false_iff_ne]; exact h2
        have HSS : Hid (stS S o = S) := Lib.hid (by unfold stS; rw [if_neg (by omega), if_neg (by omega), if_neg (by omega)])
        have HSB : Hid (stB o = true) := Lib.hid (by unfold stB; rw [if_neg (by omega), if_neg (by omega), if_neg (by omega)])
        clear h0 h1 h2 hkd
        obtain ⟨w9, hw9, hr4, hk9, hpost⟩ := HFIN.out w3 A c A2 c2 S true HD.out (Below.refl _ _)
        have r0 := cell_of hr4 (j := 0) rfl
        have r1 := cell_of hr4 (j := 1) rfl
        have f0 := frozen_of_row _ r 0 _ _ hr4
        have f1 := frozen_of_row _ r 1 _ _ hr4
        have z0 := cell_of hk9 (j := 0) rfl
        have z1 := cell_of hk9 (j := 1) rfl
        have HE := Lib.hid hpost
        have HW9 := Lib.hid hw9
        clear hw9 hr4 hk9 hpost
        go_enter Try.func26, Try.ntmps26
        go_upto_region 1 with fail
        rw [HW3.out, ← ER.out, ← ES.out, ← EQ.out]
        go_wp2_with fail
        rw [← HW9.out]
        (try go_wp2_with fail)
        rw [HSS.out, HSB.out]
        exact bodyPost_ret (v := .tuple #[.agg #[.slice A S.n c, .slice A2 S.K.length c2], .bool true]) (by simp [results, Try.results26, go_sem, z0, z1]) rfl HE.out
end Go.Proofs.Ytoallenigfbkpaa
