/-
  What the document's own Open, Renew and Close return. Condition: the list is a table.
-/
import Derived.Test.YtocobanallohjaaLWith
namespace Go.Proofs.Ytocobanallohjaa
set_option maxRecDepth 100000
open Go.ChangeShapes Go.WideShapes Go.ChangeAt Go.RowKit Go.Proofs.Le

/-- A list of the document's: where memory has it, no table of the program's lies. -/
structure DR (w : World) (B : Nat) (A : Option Addr) (T : Tb) : Prop where
  rd : Rd lcell 3 w A T.length T
  apart : 0 < T.length → ∀ a, A = some a → a.block < B ∨ ∃ cs, w.heap[a.block]? = some (.cells cs 33 (0, 0))
theorem DR.below {w w' : World} {B : Nat} {A : Option Addr} {T : Tb} (h : DR w B A T) (hb : Below w.heap.size w w') : DR w' B A T :=
  ⟨h.rd.below hb, fun h0 a e => by
    rcases h.apart h0 a e with h1 | ⟨cs, h1⟩
    · exact .inl h1
    · exact .inr ⟨cs, blk_below h1 hb⟩⟩
theorem DR.kp {w w' : World} {B Bs tp : Nat} {v : Value} {L M : Tb} {A : Option Addr} {T : Tb} (h : DR w B A T) (ht : TabW w Bs tp v L) (hB : B ≤ Bs) (hk : KpPost Bs tp v M w w') : DR w' B A T := by
  obtain ⟨v', -, k, -⟩ := hk
  have key : ∀ a, A = some a → 0 < T.length → a.block < w.heap.size → w'.heap[a.block]? = w.heap[a.block]? := fun a e h0 hlt => by
    refine k.block a.block hlt (fun e1 => ?_) (fun e1 => ?_)
    · rcases h.apart h0 a e with h1 | ⟨cs, h1⟩
      · have := ht.ge; omega
      · rw [e1, ht.here] at h1
        injection h1 with h1
        injection h1 with _ h1 _
        exact absurd h1 (by decide)
    · rcases h.apart h0 a e with h1 | ⟨cs, h1⟩
      · have := own_ge ht.row _ e1; omega
      · exact own_ne ht.row h1 (by decide) e1
  refine ⟨⟨h.rd.len, fun hn => ?_⟩, fun h0 a e => ?_⟩
  · obtain ⟨b, off, e, hc⟩ := h.rd.cells hn
    refine ⟨b, off, e, fun i hi j u hu => ?_⟩
    have h1 := hc i hi j u hu
    have h2 := key _ e hn (cell_lt h1)
    simp only [World.cell?] at h1 ⊢
    simp only at h2
    rw [h2]; exact h1
  · rcases h.apart h0 a e with h1 | ⟨cs, h1⟩
    · exact .inl h1
    · exact .inr ⟨cs, (key a e h0 (blk_lt h1)).trans h1⟩
theorem DR.of_own {w : World} {base B c : Nat} {A : Option Addr} {T : Tb} (h : w.ownsRow base 33 3 (.slice A T.length c) T.length (lcells T)) : DR w B A T := by
  refine ⟨Rd.of_own h (fun _ _ => rfl) (by omega), fun h0 a e => ?_⟩
  rcases h.2 with ⟨e1, _⟩ | ⟨g, cap, cur, e1, _, hg, _⟩
  · injection e1 with e1; rw [e] at e1; cases e1
  · injection e1 with e1
    rw [e] at e1
    injection e1 with e1
    subst e1
    exact .inr ⟨cur, hg⟩
theorem DR.nil (w : World) (B : Nat) : DR w B none [] := ⟨Rd.nil _ _ _ _, fun h => absurd h (by simp)⟩
/-- A list as a value. -/
def DV (w : World) (B : Nat) (v : Value) (T : Tb) : Prop := ∃ A c, v = .slice A T.length c ∧ DR w B A T
theorem DV.below {w w' : World} {B : Nat} {v : Value} {T : Tb} (h : DV w B v T) (hb : Below w.heap.size w w') : DV w' B v T := by
  obtain ⟨A, c, e, h1⟩ := h
  exact ⟨A, c, e, h1.below hb⟩
theorem DV.kp {w w' : World} {B Bs tp : Nat} {v u : Value} {L M : Tb} {T : Tb} (h : DV w B u T) (ht : TabW w Bs tp v L) (hB : B ≤ Bs) (hk : KpPost Bs tp v M w w') : DV w' B u T := by
  obtain ⟨A, c, e, h1⟩ := h
  exact ⟨A, c, e, h1.kp ht hB hk⟩
def RoPost (B : Nat) (a : Tb × Int) (w : World) (e : Ending) (w' : World) : Prop := ∃ v', e = .returned (.tuple #[v', .int .i64 a.2]) ∧ DV w' B v' a.1 ∧ Below w.heap.size w w'
theorem ro_same {B : Nat} {a : Tb × Int} {T : Tb} {n : Int} {w w' : World} {v : Value} (ha : a = (T, n)) (h : DV w B v T) (hb : Below w.heap.size w w') : RoPost B a w (.returned (.tuple #[v, .int .i64 n])) w' := by
  rw [ha]; exact ⟨v, rfl, h.below hb, hb⟩
theorem ro_new {B base c : Nat} {a : Tb × Int} {T : Tb} {n : Int} {w w' : World} {A : Option Addr} (ha : a = (T, n)) (h : w'.ownsRow base 33 3 (.slice A T.length c) T.length (lcells T)) (hb : Below w.heap.size w w') : RoPost B a w (.returned (.tuple #[.slice A T.length c, .int .i64 n])) w' := by
  rw [ha]; exact ⟨_, rfl, ⟨A, c, rfl, DR.of_own h⟩, hb⟩
set_option maxHeartbeats 8000000 in
theorem ropen_any {w : World} {B : Nat} {A : Option Addr} {c : Nat} {T : Tb} (hR : DR w B A T) (hg : Le.Good T) (x : Ls) : Calls Try.prog 36 #[.slice A T.length c, .int .i64 x.i, .int .i64 x.s, .int .i64 x.l] w (RoPost B (opn T x) w) := by
  obtain ⟨a, ha⟩ : ∃ a, opn T x = a := ⟨_, rfl⟩
  rw [ha]
  obtain ⟨w1, hw1⟩ : ∃ w1, w1 = w.alloc (.cells #[.int .i64 x.i, .int .i64 x.s, .int .i64 x.l] 33) := ⟨_, rfl⟩
  obtain ⟨q, eq⟩ : ∃ q, q = w.heap.size := ⟨_, rfl⟩
  have hb1 : Below w.heap.size w w1 := by rw [hw1]; exact box_below w _
  have hq : w1.heap[q]? = some (.cells #[.int .i64 x.i, .int .i64 x.s, .int .i64 x.l] 33 (0, 0)) := by rw [hw1, eq]; exact new_block w _
  have HA := Lib.hid ha
  have HD : Hid (DV w B (.slice A T.length c) T) := Lib.hid ⟨A, c, rfl, hR⟩
  have HR := Lib.hid hR
  have HG := Lib.hid hg
  have HLL : Hid (T.length ≤ 100) := Lib.hid hg.len
  have HGE := Lib.hid (rget_any (c := c) (hR.below hb1).rd (by have := hg.len; omega) x.i)
  unfold RgPost at HGE
  obtain ⟨f, hf⟩ : ∃ f, fnd T x.i = f := ⟨_, rfl⟩
  obtain ⟨fb, hfb⟩ : ∃ b, (has T x.i).isSome = b := ⟨_, rfl⟩
  rw [hf, hfb] at HGE
  have HFB := Lib.hid hfb
  have HVA := Lib.hid (fun W => right_any x W)
  obtain ⟨vd, hvd⟩ : ∃ b, okL x = b := ⟨_, rfl⟩
  rw [hvd] at HVA
  have HOK := Lib.hid hvd
  have HW1 := Lib.hid hw1
  have EQ := Lib.hid eq
  have HB1 := Lib.hid hb1
  have HQ := Lib.hid hq
  clear hw1 eq hb1 hq ha hR hg hf hfb hvd
  go_enter Try.func36, Try.ntmps36
  go_upto_region 2 with fail
  rw [← HW1.out, ← EQ.out]
  go_wp2_with fail
  refine HGE.out.mono ?_
  rintro e w2 ⟨rfl, hb2⟩
  obtain ⟨w3, hw3⟩ : ∃ w3, w3 = w2.alloc (.cells #[.int .i64 f.i, .int .i64 f.s, .int .i64 f.l] 33) := ⟨_, rfl⟩
  obtain ⟨r, er⟩ : ∃ r, r = w2.heap.size := ⟨_, rfl⟩
  have hb3 : Below w2.heap.size w2 w3 := by rw [hw3]; exact box_below w2 _
  have HB3 := Lib.hid (HB1.out.trans ((hb2.trans (hb3.mono hb2.size)).mono HB1.out.size))
  have hq3 := blk_below (blk_below HQ.out hb2) hb3
  have HQ3 := Lib.hid hq3
  have q0 := cell_of hq3 (j := 0) rfl
  have q1 := cell_of hq3 (j := 1) rfl
  have q2 := cell_of hq3 (j := 2) rfl
  have HW3 := Lib.hid hw3
  have ER := Lib.hid er
  clear hw3 er hb3 hq3 hb2
  go_upto_region 3 with fail
  rw [← HW3.out, ← ER.out]
  go_wp2_with fail
  refine (HVA.out _).mono ?_
  rintro e w4 ⟨rfl, hb4⟩
  have HB4 := Lib.hid (HB3.out.trans (hb4.mono HB3.out.size))
  have HQ4 := Lib.hid (blk_below HQ3.out hb4)
  clear hb4 q0 q1 q2
  cases vd with
  | false =>
    have HE : Hid (RoPost B a w (.returned (.tuple #[.slice A T.length c, .int .i64 1])) w4) := Lib.hid (ro_same (by rw [← HA.out]; unfold opn; rw [if_pos HOK.out]) HD.out HB4.out)
    go_wp2_with fail
    exact bodyPost_ret (v := .tuple #[.slice A T.length c, .int .i64 1]) (by simp [results, Try.results36, go_sem]) rfl HE.out
  | true =>
    cases fb with
    | true =>
      have HE : Hid (RoPost B a w (.returned (.tuple #[.slice A T.length c, .int .i64 1])) w4) := Lib.hid (ro_same (by rw [← HA.out]; unfold opn; rw [if_neg (by rw [HOK.out]; simp), if_pos HFB.out]) HD.out HB4.out)
      go_wp2_with fail
      exact bodyPost_ret (v := .tuple #[.slice A T.length c, .int .i64 1]) (by simp [results, Try.results36, go_sem]) rfl HE.out
    | false =>
      by_cases h5 : 100 ≤ T.length
      · have h5' : decide ((100 : Int) ≤ (T.length : Int)) = true := by rw [decide_eq_true_eq]; omega
        have HE : Hid (RoPost B a w (.returned (.tuple #[.slice A T.length c, .int .i64 1])) w4) := Lib.hid (ro_same (by rw [← HA.out]; unfold opn; rw [if_neg (by rw [HOK.out]; simp), if_neg (by rw [HFB.out]; simp), if_pos h5]) HD.out HB4.out)
        clear h5
        go_wp2_with fail
        exact bodyPost_ret (v := .tuple #[.slice A T.length c, .int .i64 1]) (by simp [results, Try.results36, go_sem]) rfl HE.out
      · have h5' : decide ((100 : Int) ≤ (T.length : Int)) = false := by rw [decide_eq_false_iff_not]; omega
        have HAD : Hid (a = (wend x (wrun T x), 0)) := Lib.hid (by
          have hn : has T x.i = none := by have h := HFB.out; simpa using h
          rw [← HA.out]; unfold opn; rw [if_neg (by rw [HOK.out]; simp), if_neg (by rw [HFB.out]; simp), if_neg h5, wend_wit HG.out.srt, ins_wit HG.out.srt hn])
        have HWI := Lib.hid (rwith_any (c := c) (HR.out.below HB4.out).rd (by have := HLL.out; omega) x)
        have q0 := cell_of HQ4.out (j := 0) rfl
        have q1 := cell_of HQ4.out (j := 1) rfl
        have q2 := cell_of HQ4.out (j := 2) rfl
        clear h5
        go_wp2_with fail
        refine HWI.out.mono ?_
        rintro e w5 ⟨A5, c5, rfl, ho5, hb5⟩
        have HE : Hid (RoPost B a w (.returned (.tuple #[.slice A5 (wend x (wrun T x)).length c5, .int .i64 0])) w5) := Lib.hid (ro_new HAD.out ho5 (HB4.out.trans (hb5.mono HB4.out.size)))
        clear ho5 hb5
        go_wp2_with fail
        exact bodyPost_ret (v := .tuple #[.slice A5 (wend x (wrun T x)).length c5, .int .i64 0]) (by simp [results, Try.results36, go_sem]) rfl HE.out
set_option maxHeartbeats 8000000 in
theorem rrenew_any {w : World} {B : Nat} {A : Option Addr} {c : Nat} {T : Tb} (hR : DR w B A T) (hg : Le.Good T) (id now : Int) : Calls Try.prog 37 #[.slice A T.length c, .int .i64 id, .int .i64 now] w (RoPost B (ren T id now) w) := by
  obtain ⟨a, ha⟩ : ∃ a, ren T id now = a := ⟨_, rfl⟩
  rw [ha]
  have HA := Lib.hid ha
  have HD : Hid (DV w B (.slice A T.length c) T) := Lib.hid ⟨A, c, rfl, hR⟩
  have HR := Lib.hid hR
  have HG := Lib.hid hg
  have HLL : Hid (T.length ≤ 100) := Lib.hid hg.len
  have HCL := Lib.hid (clock_any now w)
  obtain ⟨t, ht⟩ : ∃ t, okT now = t := ⟨_, rfl⟩
  rw [ht] at HCL
  have HOK := Lib.hid ht
  have HGE := Lib.hid (rget_any (c := c) hR.rd (by have := hg.len; omega) id)
  unfold RgPost at HGE
  clear ha hR hg ht
  go_enter Try.func37, Try.ntmps37
  go_wp2_with fail
  refine HCL.out.mono ?_
  rintro e w1 ⟨rfl, rfl⟩
  cases t with
  | false =>
    have HE : Hid (RoPost B a w (.returned (.tuple #[.slice A T.length c, .int .i64 1])) w) := Lib.hid (ro_same (by rw [← HA.out]; unfold ren; rw [if_pos HOK.out]) HD.out (Below.refl _ _))
    go_wp2_with fail
    exact bodyPost_ret (v := .tuple #[.slice A T.length c, .int .i64 1]) (by simp [results, Try.results37, go_sem]) rfl HE.out
  | true =>
    obtain ⟨f, hf⟩ : ∃ f, fnd T id = f := ⟨_, rfl⟩
    rw [hf] at HGE
    cases hh : has T id with
    | none =>
      rw [hh] at HGE
      have HAD : Hid (a = (T, 100)) := Lib.hid (by rw [← HA.out]; unfold ren; rw [if_neg (by rw [HOK.out]; simp), hh])
      have HG2 : Hid (Calls Try.prog 13 #[.slice A T.length c, .int .i64 id] w fun e w' => e = .returned (.tuple #[.agg #[.int .i64 f.i, .int .i64 f.s, .int .i64 f.l], .bool false]) ∧ Below w.heap.size w w') := Lib.hid HGE.out
      clear hh hf HGE
      go_wp2_with fail
      refine HG2.out.mono ?_
      rintro e w2 ⟨rfl, hb2⟩
      obtain ⟨w3, hw3⟩ : ∃ w3, w3 = w2.alloc (.cells #[.int .i64 f.i, .int .i64 f.s, .int .i64 f.l] 33) := ⟨_, rfl⟩
      obtain ⟨r, er⟩ : ∃ r, r = w2.heap.size := ⟨_, rfl⟩
      have hb3 : Below w2.heap.size w2 w3 := by rw [hw3]; exact box_below w2 _
      have HE : Hid (RoPost B a w (.returned (.tuple #[.slice A T.length c, .int .i64 100])) w3) := Lib.hid (ro_same HAD.out HD.out (hb2.trans (hb3.mono hb2.size)))
      have HW3 := Lib.hid hw3
      have ER := Lib.hid er
      clear hw3 er hb3 hb2
      go_upto_region 4 with fail
      rw [← HW3.out, ← ER.out]
      go_wp2_with fail
      exact bodyPost_ret (v := .tuple #[.slice A T.length c, .int .i64 100]) (by simp [results, Try.results37, go_sem]) rfl HE.out
    | some g =>
      obtain rfl : g = f := by rw [← hf]; exact (fnd_some hh).symm
      rw [hh] at HGE
      obtain ⟨m, hm⟩ : ∃ m, max g.l now = m := ⟨_, rfl⟩
      have HID : Hid (g.i = id) := Lib.hid (has_mem hh).2
      have HAD : Hid (a = (wend ⟨g.i, g.s, m⟩ (wrun T ⟨g.i, g.s, m⟩), 0)) := Lib.hid (by
        rw [← HA.out]; unfold ren; rw [if_neg (by rw [HOK.out]; simp), hh, wend_wit HG.out.srt]
        have h := upd_wit HG.out.srt (x := ⟨g.i, g.s, m⟩) (z := g) (by rw [show (Ls.mk g.i g.s m).i = id from HID.out]; exact hh)
        rw [← h, ← hm, HID.out])
      have HG2 : Hid (Calls Try.prog 13 #[.slice A T.length c, .int .i64 id] w fun e w' => e = .returned (.tuple #[.agg #[.int .i64 g.i, .int .i64 g.s, .int .i64 g.l], .bool true]) ∧ Below w.heap.size w w') := Lib.hid HGE.out
      clear hh hf HGE
      go_wp2_with fail
      refine HG2.out.mono ?_
      rintro e w2 ⟨rfl, hb2⟩
      obtain ⟨w3, hw3⟩ : ∃ w3, w3 = w2.alloc (.cells #[.int .i64 g.i, .int .i64 g.s, .int .i64 g.l] 33) := ⟨_, rfl⟩
      obtain ⟨r, er⟩ : ∃ r, r = w2.heap.size := ⟨_, rfl⟩
      have hb3 : Below w2.heap.size w2 w3 := by rw [hw3]; exact box_below w2 _
      have hr : w3.heap[r]? = some (.cells #[.int .i64 g.i, .int .i64 g.s, .int .i64 g.l] 33 (0, 0)) := by rw [hw3, er]; exact new_block w2 _
      obtain ⟨w4, hw4⟩ : ∃ w4, w4 = w3.setCell ⟨r, 2, none⟩ (.int .i64 m) := ⟨_, rfl⟩
      have hr4 : w4.heap[r]? = some (.cells #[.int .i64 g.i, .int .i64 g.s, .int .i64 m] 33 (0, 0)) := by rw [hw4]; exact heap_setCell_same w3 r 2 _ 33 (.int .i64 m) hr
      have hb4 : Below w.heap.size w w4 := by rw [hw4]; exact (hb2.trans (hb3.mono hb2.size)).setCell (by rw [er]; exact hb2.size) _
      have r0 := cell_of hr (j := 0) rfl
      have r1 := cell_of hr (j := 1) rfl
      have r2 := cell_of hr (j := 2) rfl
      have f2 := frozen_of_row w3 r 2 _ _ hr
      have HB4 := Lib.hid hb4
      have HR4 := Lib.hid hr4
      have HWI := Lib.hid (rwith_any (c := c) (HR.out.below hb4).rd (by have := HLL.out; omega) ⟨g.i, g.s, m⟩)
      have HW3 := Lib.hid hw3
      have ER := Lib.hid er
      have HW4 := Lib.hid hw4
      clear hw3 er hb3 hb2 hr hw4 hr4 hb4
      go_upto_region 4 with fail
      rw [← HW3.out, ← ER.out]
      go_upto_region 7 with fail
      rw [← HW4.out]
      clear r0 r1 r2 f2
      have r0 := cell_of HR4.out (j := 0) rfl
      have r1 := cell_of HR4.out (j := 1) rfl
      have r2 := cell_of HR4.out (j := 2) rfl
      go_wp2_with fail
      refine HWI.out.mono ?_
      rintro e w5 ⟨A5, c5, rfl, ho5, hb5⟩
      obtain ⟨M, hM⟩ : ∃ M, wend ⟨g.i, g.s, m⟩ (wrun T ⟨g.i, g.s, m⟩) = M := ⟨_, rfl⟩
      rw [hM] at ho5 HAD
      rw [hM]
      have HE : Hid (RoPost B a w (.returned (.tuple #[.slice A5 M.length c5, .int .i64 0])) w5) := Lib.hid (ro_new HAD.out ho5 (HB4.out.trans (hb5.mono HB4.out.size)))
      clear ho5 hb5 hM
      go_wp2_with fail
      exact bodyPost_ret (v := .tuple #[.slice A5 M.length c5, .int .i64 0]) (by simp [results, Try.results37, go_sem]) rfl HE.out
set_option maxHeartbeats 8000000 in
theorem rclose_any {w : World} {B : Nat} {A : Option Addr} {c : Nat} {T : Tb} (hR : DR w B A T) (hg : Le.Good T) (id : Int) : Calls Try.prog 38 #[.slice A T.length c, .int .i64 id] w (RoPost B (cls T id) w) := by
  obtain ⟨a, ha⟩ : ∃ a, cls T id = a := ⟨_, rfl⟩
  rw [ha]
  have HA := Lib.hid ha
  have HD : Hid (DV w B (.slice A T.length c) T) := Lib.hid ⟨A, c, rfl, hR⟩
  have HR := Lib.hid hR
  have HG := Lib.hid hg
  have HLL : Hid (T.length ≤ 100) := Lib.hid hg.len
  have HGE := Lib.hid (rget_any (c := c) hR.rd (by have := hg.len; omega) id)
  unfold RgPost at HGE
  clear ha hR hg
  obtain ⟨f, hf⟩ : ∃ f, fnd T id = f := ⟨_, rfl⟩
  rw [hf] at HGE
  cases hh : has T id with
  | none =>
    rw [hh] at HGE
    have HAD : Hid (a = (T, 100)) := Lib.hid (by rw [← HA.out]; unfold cls; rw [hh])
    have HG2 : Hid (Calls Try.prog 13 #[.slice A T.length c, .int .i64 id] w fun e w' => e = .returned (.tuple #[.agg #[.int .i64 f.i, .int .i64 f.s, .int .i64 f.l], .bool false]) ∧ Below w.heap.size w w') := Lib.hid HGE.out
    clear hh hf HGE
    go_enter Try.func38, Try.ntmps38
    go_wp2_with fail
    refine HG2.out.mono ?_
    rintro e w2 ⟨rfl, hb2⟩
    obtain ⟨w3, hw3⟩ : ∃ w3, w3 = w2.alloc (.cells #[.int .i64 f.i, .int .i64 f.s, .int .i64 f.l] 33) := ⟨_, rfl⟩
    obtain ⟨r, er⟩ : ∃ r, r = w2.heap.size := ⟨_, rfl⟩
    have hb3 : Below w2.heap.size w2 w3 := by rw [hw3]; exact box_below w2 _
    have HE : Hid (RoPost B a w (.returned (.tuple #[.slice A T.length c, .int .i64 100])) w3) := Lib.hid (ro_same HAD.out HD.out (hb2.trans (hb3.mono hb2.size)))
    have HW3 := Lib.hid hw3
    have ER := Lib.hid er
    clear hw3 er hb3 hb2
    go_upto_region 2 with fail
    rw [← HW3.out, ← ER.out]
    go_wp2_with fail
    exact bodyPost_ret (v := .tuple #[.slice A T.length c, .int .i64 100]) (by simp [results, Try.results38, go_sem]) rfl HE.out
  | some g =>
    obtain rfl : g = f := by rw [← hf]; exact (fnd_some hh).symm
    rw [hh] at HGE
    have HAD : Hid (a = (wout T id, 0)) := Lib.hid (by
      rw [← HA.out]; unfold cls; rw [hh]
      show (del T id, 0) = _
      rw [del_filter HG.out.srt hh]; rfl)
    have HG2 : Hid (Calls Try.prog 13 #[.slice A T.length c, .int .i64 id] w fun e w' => e = .returned (.tuple #[.agg #[.int .i64 g.i, .int .i64 g.s, .int .i64 g.l], .bool true]) ∧ Below w.heap.size w w') := Lib.hid HGE.out
    clear hh hf HGE
    go_enter Try.func38, Try.ntmps38
    go_wp2_with fail
    refine HG2.out.mono ?_
    rintro e w2 ⟨rfl, hb2⟩
    obtain ⟨w3, hw3⟩ : ∃ w3, w3 = w2.alloc (.cells #[.int .i64 g.i, .int .i64 g.s, .int .i64 g.l] 33) := ⟨_, rfl⟩
    obtain ⟨r, er⟩ : ∃ r, r = w2.heap.size := ⟨_, rfl⟩
    have hb3 : Below w2.heap.size w2 w3 := by rw [hw3]; exact box_below w2 _
    have HB3 := Lib.hid (hb2.trans (hb3.mono hb2.size))
    have HWO := Lib.hid (rwithout_any (c := c) (HR.out.below HB3.out).rd (by have := HLL.out; omega) id)
    have HW3 := Lib.hid hw3
    have ER := Lib.hid er
    clear hw3 er hb3 hb2
    go_upto_region 2 with fail
    rw [← HW3.out, ← ER.out]
    go_wp2_with fail
    refine HWO.out.mono ?_
    rintro e w5 ⟨A5, c5, rfl, ho5, hb5⟩
    have HE : Hid (RoPost B a w (.returned (.tuple #[.slice A5 (wout T id).length c5, .int .i64 0])) w5) := Lib.hid (ro_new HAD.out ho5 (HB3.out.trans (hb5.mono HB3.out.size)))
    clear ho5 hb5
    go_wp2_with fail
    exact bodyPost_ret (v := .tuple #[.slice A5 (wout T id).length c5, .int .i64 0]) (by simp [results, Try.results38, go_sem]) rfl HE.out
end Go.Proofs.Ytocobanallohjaa
