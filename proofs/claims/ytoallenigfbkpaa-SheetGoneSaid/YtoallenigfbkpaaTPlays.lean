/-
  What the law's plays returns of a script: all answers are the document's. Condition: few bytes a call.
-/
import Derived.Test.YtoallenigfbkpaaTFew
namespace Go.Proofs.Ytoallenigfbkpaa
set_option maxRecDepth 100000
open Go.ChangeShapes Go.WideShapes Go.ChangeAt Go.RowKit Go.Proofs.Sg

theorem stB_ok {a b : Bool} (h : a = b) : (a != b) = false := by subst h; cases a <;> rfl
theorem run_good {S : Sh} (h : GoodS S) : ∀ os, GoodS (runS S os)
  | [] => h
  | o :: os => run_good (good_st h o) os
/-- What plays leaves. -/
def PlPost (w : World) (B sp mb : Nat) (S : Sh) (e : Ending) (w' : World) : Prop := ∃ A c A2 c2, e = .returned (.tuple #[dv A S.n c A2 S.K.length c2, .bool true]) ∧ SW w' B sp mb S ∧ DF w' A c A2 c2 S ∧ SK w w' sp mb
/-- What the loop keeps. -/
structure PlIn (w : World) (B sp mb q r : Nat) (T : Sh) (A : Option Addr) (c : Nat) (A2 : Option Addr) (c2 : Nat) (wr : World) : Prop where
  sw : SW wr B sp mb T
  df : DF wr A c A2 c2 T
  hq : wr.heap[q]? = some (.cells #[.slice A T.n c, .slice A2 T.K.length c2] 30 (0, 0))
  hr : wr.heap[r]? = some (.cells #[.slice none 0 0, .slice none 0 0] 30 (0, 0))
  sk : SK w wr sp mb
theorem PlIn.below {w wr w' : World} {B sp mb q r : Nat} {T : Sh} {A A2 : Option Addr} {c c2 : Nat} (h : PlIn w B sp mb q r T A c A2 c2 wr) (hb : Below wr.heap.size wr w') : PlIn w B sp mb q r T A c A2 c2 w' :=
  ⟨h.sw.below hb, h.df.below hb, blk_below h.hq hb, blk_below h.hr hb, h.sk.trans (SK.of_below hb)⟩
theorem SK.wr {w wr w9 : World} {sp mb r : Nat} (h : SK w wr sp mb) (hw : Wr r wr w9) (hr : w.heap.size ≤ r) : SK w w9 sp mb :=
  ⟨hw.below.os.trans h.os, hw.below.tape.trans h.tape, hw.below.output.trans h.output, Nat.le_trans h.size hw.below.size, fun k hk h1 h2 => (hw.rest k (by omega)).trans (h.block k hk h1 h2)⟩
theorem SW.wr {w w' : World} {B sp mb r : Nat} {T : Sh} {cs : Array Value} (h : SW w B sp mb T) (hw : Wr r w w') (hr : w.heap[r]? = some (.cells cs 30 (0, 0))) : SW w' B sp mb T := by
  refine ⟨gb_cells hw.gb (fun e1 => ?_) h.here, h.map.gb hw.gb (h.map.ne_cells hr), h.good, h.gsp, h.gmb⟩
  have h1 := h.here
  rw [e1, hr] at h1
  injection h1 with h1
  injection h1 with _ h1 _
  exact absurd h1 (by decide)
set_option maxHeartbeats 16000000 in
theorem plays_any {w : World} {B sp mb : Nat} {S : Sh} (h : SW w B sp mb S) {A A2 : Option Addr} {c c2 : Nat} (hD : DF w A c A2 c2 S) {B0 : Nat} {ad : Option Addr} {len cap : Nat} {os : List Opr} (hO : OReads w B0 ad len os) (hB : B0 ≤ B) (hf : ∀ o ∈ os, o.b.length ≤ 3000) (hl60 : os.length ≤ 60) :
    Calls Try.prog 12 #[.pointer (some ⟨sp, 0, none⟩), dv A S.n c A2 S.K.length c2, .slice ad len cap] w (PlPost w B sp mb (runS S os)) := by
  obtain ⟨w2, hw2, hb2, hq, hr, hs2⟩ := two_box w (.cells #[.slice A S.n c, .slice A2 S.K.length c2] 30) (.cells #[.slice none 0 0, .slice none 0 0] 30)
  obtain ⟨q, eq⟩ : ∃ q, q = w.heap.size := ⟨_, rfl⟩
  obtain ⟨r, er⟩ : ∃ r, r = w.heap.size + 1 := ⟨_, rfl⟩
  rw [← eq] at hq
  rw [← er] at hr
  have HIN : Hid (PlIn w B sp mb q r S A c A2 c2 w2) := Lib.hid ⟨h.below hb2, hD.below hb2, hq, hr, SK.of_below hb2⟩
  have HBW : Hid (B0 ≤ w.heap.size ∧ B ≤ w.heap.size ∧ B0 ≤ sp ∧ B0 ≤ mb) := Lib.hid (by have := h.lts; have := h.gsp; have := h.gmb; omega)
  have HOR : Hid (∀ W, SK w W sp mb → OReads W B0 ad len os) := Lib.hid (fun W hW => hO.kept (hW.below HBW.out.1 HBW.out.2.2.1 HBW.out.2.2.2))
  have HL := Lib.hid hO.1
  have HF := Lib.hid hf
  have H60 := Lib.hid hl60
  have HRW : Hid (w.heap.size ≤ r ∧ w.heap.size ≤ q ∧ q ≠ r) := Lib.hid (by omega)
  have HW2 := Lib.hid hw2
  have EQ := Lib.hid eq
  have ER := Lib.hid er
  unfold dv
  clear h hD hO hB hf hl60 hw2 eq er hb2 hq hr hs2
  go_enter Try.func12, Try.ntmps12
  go_upto_region 1 with fail
  rw [← HW2.out, ← ER.out, ← EQ.out]
  go_wp2_with fail
  go_loopw [14] (fun i wr => ∃ (j : Nat) (A : Option Addr) (c : Nat) (A2 : Option Addr) (c2 : Nat), j ≤ len ∧ i = .int .i64 (j : Int) ∧ Hid (PlIn w B sp mb q r (runS S (os.take j)) A c A2 c2 wr)) (fun i _ => len - (intOf i).toNat)
  case atStart => exact ⟨0, A, c, A2, c2, Nat.zero_le _, rfl, Lib.hid HIN.out⟩
  case round =>
    obtain ⟨j, A5, c5, A6, c6, hj, rfl, HP⟩ := hrel
    obtain ⟨T, hT⟩ : ∃ T, runS S (os.take j) = T := ⟨_, rfl⟩
    rw [hT] at HP
    by_cases hlt : j < len
    · obtain ⟨b, off, rfl, -, hc⟩ := (HOR.out wr HP.out.sk).2 (by omega)
      obtain ⟨e0, e1, e2, ⟨Ab, l, cb, e3, hr, hu, hlc⟩, hp1, hp2⟩ := hc j hlt
      obtain ⟨o, ho⟩ : ∃ o, os.getD j op0 = o := ⟨_, rfl⟩
      rw [ho] at e0 e1 e2 hr hp1 hp2
      have hl3 : o.b.length ≤ 3000 := by
        have hj2 : j < os.length := by rw [HL.out]; exact hlt
        rw [← ho, getD_eq _ hj2]; exact HF.out _ (List.getElem_mem hj2)
      have hlen := hr.len
      have HNX : Hid (runS S (os.take (j + 1)) = stS T o) := Lib.hid (by rw [run_next (by rw [HL.out]; exact hlt), hT, ho])
      have hj0 : (0 : Int) ≤ (j : Int) := by omega
      have hji : (j : Int) < (len : Int) := by omega
      obtain ⟨j1, hj1⟩ : ∃ j1, j + 1 = j1 := ⟨_, rfl⟩
      have hwj : IntKind.i64.wrap ((j : Int) + 1) = (j1 : Int) := by rw [IntKind.wrap_i64]; have := HL.out; have := H60.out; omega
      have HJ1 : Hid (j < len ∧ j + 1 = j1) := Lib.hid ⟨hlt, hj1⟩
      rw [hj1] at HNX
      -- the box of the call
      obtain ⟨w3, hw3⟩ : ∃ w3, w3 = wr.alloc (.cells #[.int .i64 o.k, .int .i64 o.p, .int .i64 o.n, .slice Ab l cb] 40) := ⟨_, rfl⟩
      obtain ⟨s, es⟩ : ∃ s, s = wr.heap.size := ⟨_, rfl⟩
      have hb3 : Below wr.heap.size wr w3 := by rw [hw3]; exact box_below wr _
      have hs3 : w3.heap[s]? = some (.cells #[.int .i64 o.k, .int .i64 o.p, .int .i64 o.n, .slice Ab l cb] 40 (0, 0)) := by rw [hw3, es]; exact new_block wr _
      have HP3 := Lib.hid (HP.out.below hb3)
      have hr3 := hr.below hb3
      have HW3 := Lib.hid hw3
      have ES := Lib.hid es
      have HGT := Lib.hid HP.out.sw.good
      -- facts of any later world
      have HSS : Hid (∀ W, Below w3.heap.size w3 W → (W.cell? ⟨q, 0, none⟩ = some (.slice A5 T.n c5) ∧ W.cell? ⟨q, 1, none⟩ = some (.slice A6 T.K.length c6) ∧ W.cell? ⟨s, 0, none⟩ = some (.int .i64 o.k) ∧ W.cell? ⟨s, 1, none⟩ = some (.int .i64 o.p) ∧ W.cell? ⟨s, 2, none⟩ = some (.int .i64 o.n) ∧ W.cell? ⟨s, 3, none⟩ = some (.slice Ab l cb))) := Lib.hid (fun W hW =>
        ⟨cell_of (HP3.out.below hW).hq (j := 0) rfl, cell_of (HP3.out.below hW).hq (j := 1) rfl, cell_of (blk_below hs3 hW) (j := 0) rfl, cell_of (blk_below hs3 hW) (j := 1) rfl, cell_of (blk_below hs3 hW) (j := 2) rfl, cell_of (blk_below hs3 hW) (j := 3) rfl⟩)
      have HNE : Hid (∀ W, Below w3.heap.size w3 W → Calls Try.prog 20 #[.pointer (some ⟨sp, 0, none⟩), .int .i64 o.p, .slice Ab l cb] W fun e w' => e = .returned (.int .i64 ((ndI T o.p l : Nat) : Int)) ∧ Below W.heap.size W w') := Lib.hid (fun W hW => need_any (HP3.out.below hW).sw o.p hp1 Ab l cb (by omega))
      have HRN : Hid (∀ W, Below w3.heap.size w3 W → Calls Try.prog 25 #[.agg #[.slice A5 T.n c5, .slice A6 T.K.length c6], .int .i64 o.p, .slice Ab l cb] W fun e w' => e = .returned (.int .i64 ((ndI T o.p l : Nat) : Int)) ∧ Below W.heap.size W w') := Lib.hid (fun W hW => rneed_any (HP3.out.below hW).df HGT.out o.p hp1 Ab l cb (by omega))
      have HDO : Hid (∀ W, Below w3.heap.size w3 W → Calls Try.prog 26 #[.agg #[.slice A5 T.n c5, .slice A6 T.K.length c6], .agg #[.int .i64 o.k, .int .i64 o.p, .int .i64 o.n, .slice Ab l cb]] W (DoPost W (stS T o) (stB o))) := Lib.hid (fun W hW => rdo_any (HP3.out.below hW).df HGT.out o (hr3.below hW) (by omega) hp1)
      have HRB := Lib.hid hr3
      have HS3 := Lib.hid hs3
      have HLL : Hid (l ≤ 3000 ∧ l ≤ cb ∧ o.p ≤ 9223372036854775807) := Lib.hid (by omega)
      obtain ⟨nI, hnI⟩ : ∃ z : Int, ((ndI T o.p l : Nat) : Int) = z := ⟨_, rfl⟩
      rw [hnI] at HNE HRN
      have hne : (nI != nI) = false := by simp
      obtain ⟨t0, t1, s0, s1, s2, s3⟩ := HSS.out w3 (Below.refl _ _)
      obtain ⟨kd, hkd⟩ : ∃ kd, o.k = kd := ⟨_, rfl⟩
      have HKD := Lib.hid hkd
      rw [hkd] at HSS HDO HW3 HS3 s0 e0
      clear hT hc ho hlt hj hj1 hr hu hlc hp1 hp2 hl3 hlen hw3 es hb3 hs3 hr3 hnI hkd
      go_upto_region 4 with fail
      rw [← HW3.out, ← ES.out]
      by_cases h0 : kd = 0
      · have g0 : (kd == 0) = true := by simp only [beq_iff_eq]; exact h0
        have hHd0 := HSS.out w3.drew (Below.refl _ _).drew
        clear h0 t0 t1 s0 s1 s2 s3
        go_region_held3 (fun W => W.cell? ⟨q, 0, none⟩ = some (.slice A5 T.n c5) ∧ W.cell? ⟨q, 1, none⟩ = some (.slice A6 T.K.length c6) ∧ W.cell? ⟨s, 0, none⟩ = some (.int .i64 kd) ∧ W.cell? ⟨s, 1, none⟩ = some (.int .i64 o.p) ∧ W.cell? ⟨s, 2, none⟩ = some (.int .i64 o.n) ∧ W.cell? ⟨s, 3, none⟩ = some (.slice Ab l cb))
          (first
            | assumption
            | (with_reducible exact HSS.out _ (Below.refl _ _).drew))
          (first
            | (go_at_call 20; (with_reducible refine (HNE.out _ (Below.refl _ _).drew).mono ?_); rintro e w4 ⟨rfl, hb4⟩; have hB4 : Below w3.heap.size w3 w4 := (Below.refl w3.heap.size w3).drew.trans (hb4.mono (Nat.le_refl _)); have hS4 := HSS.out w4 hB4)
            | (go_at_call 25; (with_reducible refine (HRN.out _ (by assumption)).mono ?_); rintro e w5 ⟨rfl, hb5⟩; have hB5 := hB4.trans (hb5.mono hB4.size); have hS5 := HSS.out w5 hB5))
        rename_i hHeld
        clear hHeld hHd0 hS4 hS5 hB4 hb4 hb5
        obtain ⟨T2, hT2⟩ : ∃ T2, stS T o = T2 := ⟨_, rfl⟩
        obtain ⟨ok, hok⟩ : ∃ ok, stB o = ok := ⟨_, rfl⟩
        have HD5 := Lib.hid (HDO.out w5 hB5)
        rw [hT2, hok] at HD5
        have HBX : Hid (Below w3.heap.size w3 w5) := Lib.hid hB5
        have HT2 := Lib.hid hT2
        have HOK := Lib.hid hok
        have hbb := stB_ok (rfl : ok = ok)
        obtain ⟨t0, t1, s0, s1, s2, s3⟩ := HSS.out w5 hB5
        clear hB5 hT2 hok
        go_wp2_with fail
        refine HD5.out.mono ?_
        rintro e w6 ⟨A7, c7, A8, c8, rfl, hd6, hb6⟩
        unfold dv
        obtain ⟨N2, hN2⟩ : ∃ N2, T2.n = N2 := ⟨_, rfl⟩
        obtain ⟨M2, hM2⟩ : ∃ M2, T2.K.length = M2 := ⟨_, rfl⟩
        have hB6 := HBX.out.trans (hb6.mono HBX.out.size)
        have hp6 := HP3.out.below hB6
        obtain ⟨w7, hw7⟩ : ∃ w7, w7 = w6.alloc (.cells #[.slice A7 N2 c7, .slice A8 M2 c8] 30) := ⟨_, rfl⟩
        obtain ⟨u, hu⟩ : ∃ u, u = w6.heap.size := ⟨_, rfl⟩
        have hb7 : Below w6.heap.size w6 w7 := by rw [hw7]; exact box_below w6 _
        have hu7 : w7.heap[u]? = some (.cells #[.slice A7 N2 c7, .slice A8 M2 c8] 30 (0, 0)) := by rw [hw7, hu]; exact new_block w6 _
        have hp7 := hp6.below hb7
        have hd7 := hd6.below hb7
        have hs7 := blk_below HS3.out (hB6.trans (hb7.mono hB6.size))
        have hr7 := HRB.out.below (hB6.trans (hb7.mono hB6.size))
        obtain ⟨w8, hw8⟩ : ∃ x, x = ((w7.setCell ⟨q, 0, none⟩ (.slice A7 N2 c7)).setCell ⟨q, 1, none⟩ (.slice A8 M2 c8)) := ⟨_, rfl⟩
        obtain ⟨hwr8, hk8⟩ := set_two hp7.hq (.slice A7 N2 c7) (.slice A8 M2 c8)
        rw [← hw8] at hwr8 hk8
        have hsw8 := hp7.sw.wr hwr8 hp7.hq
        have hdf8 := hd7.wr hwr8 hp7.hq
        have hrr8 : w8.heap[r]? = some (.cells #[.slice none 0 0, .slice none 0 0] 30 (0, 0)) := gb_cells hwr8.gb (Ne.symm HRW.out.2.2) hp7.hr
        have hs8 : w8.heap[s]? = some (.cells #[.int .i64 kd, .int .i64 o.p, .int .i64 o.n, .slice Ab l cb] 40 (0, 0)) := gb_cells hwr8.gb (fun e1 => by
          rw [e1] at hs7
          have h1 := hp7.hq
          rw [hs7] at h1
          injection h1 with h1
          injection h1 with _ h1 _
          exact absurd h1 (by decide)) hs7
        have hsk8 : SK w w8 sp mb := hp7.sk.wr hwr8 HRW.out.2.1
        have hr8 : Rd bcell 1 w8 Ab l o.b := by
          refine ⟨hr7.len, fun hn => ?_⟩
          obtain ⟨bb, oo, e1, hcc⟩ := hr7.cells hn
          refine ⟨bb, oo, e1, fun i hi j v hv => ?_⟩
          have hx := hcc i hi j v hv
          have hlt := cell_lt hx
          have hv' : ∃ z : Int, v = .int .u8 z := by
            rcases j with _ | j
            · exact ⟨_, (Option.some.inj hv).symm⟩
            · cases hv
          obtain ⟨z, rfl⟩ := hv'
          have hne : bb ≠ q := fun e2 => by
            rw [e2, cell_of_row w7 q _ _ _ _ hp7.hq] at hx
            rcases hq9 : oo + i * 1 + j with _ | _ | y
            · rw [hq9] at hx; simp at hx
            · rw [hq9] at hx; simp at hx
            · rw [hq9] at hx; simp at hx
          rw [← hx]
          simp only [World.cell?, hwr8.rest bb hne]
        have HDS := Lib.hid (does_any (hsw8.below (Below.refl _ _).drew) o (hr8.below (Below.refl _ _).drew) HLL.out.2.1 (by have := HLL.out; omega) HLL.out.2.2)
        unfold ov at HDS
        rw [HT2.out, HOK.out] at HDS
        have HS8 : Hid (∀ W, SK w8 W sp mb → (W.cell? ⟨q, 0, none⟩ = some (.slice A7 N2 c7) ∧ W.cell? ⟨q, 1, none⟩ = some (.slice A8 M2 c8) ∧ W.cell? ⟨s, 0, none⟩ = some (.int .i64 kd) ∧ W.cell? ⟨s, 1, none⟩ = some (.int .i64 o.p) ∧ W.cell? ⟨s, 2, none⟩ = some (.int .i64 o.n) ∧ W.cell? ⟨s, 3, none⟩ = some (.slice Ab l cb))) := Lib.hid (fun W hW =>
          ⟨cell_of (hW.blk hsw8 hk8 (by decide)) (j := 0) rfl, cell_of (hW.blk hsw8 hk8 (by decide)) (j := 1) rfl, cell_of (hW.blk hsw8 hs8 (by decide)) (j := 0) rfl, cell_of (hW.blk hsw8 hs8 (by decide)) (j := 1) rfl, cell_of (hW.blk hsw8 hs8 (by decide)) (j := 2) rfl, cell_of (hW.blk hsw8 hs8 (by decide)) (j := 3) rfl⟩)
        rw [HKD.out] at HDS
        have HEND : Hid (∀ w9, SW w9 B sp mb T2 → SK w8 w9 sp mb → PlIn w B sp mb q r T2 A7 c7 A8 c8 w9) := Lib.hid (fun w9 g1 g2 => ⟨g1, hdf8.sk g2 hsw8, by rw [hN2, hM2]; exact g2.blk hsw8 hk8 (by decide), g2.blk hsw8 hrr8 (by decide), hsk8.trans g2⟩)
        obtain ⟨v0, v1⟩ : w7.cell? ⟨u, 0, none⟩ = some (.slice A7 N2 c7) ∧ w7.cell? ⟨u, 1, none⟩ = some (.slice A8 M2 c8) := ⟨cell_of hu7 (j := 0) rfl, cell_of hu7 (j := 1) rfl⟩
        have x0 := cell_of hp7.hq (j := 0) rfl
        have x1 := cell_of hp7.hq (j := 1) rfl
        have y0 := frozen_of_row w7 q 0 _ _ hp7.hq
        have y1 := frozen_of_row w7 q 1 _ _ hp7.hq
        have HW7 := Lib.hid hw7
        have HU := Lib.hid hu
        have HW8 := Lib.hid hw8
        have HN2 := Lib.hid hN2
        have HM2 := Lib.hid hM2
        clear t0 t1 s0 s1 s2 s3 hd6 hb6 hB6 hp6 hw7 hu hb7 hu7 hp7 hd7 hs7 hr7 hw8 hwr8 hk8 hsw8 hdf8 hrr8 hs8 hsk8 hr8
        rw [hN2, hM2]
        clear hN2 hM2
        go_upto_region 7 with fail
        rw [← HW7.out, ← HU.out]
        go_upto_region 8 with fail
        rw [← HW8.out]
        clear v0 v1 x0 x1 y0 y1
        have hHd0 := HS8.out w8.drew (SK.of_below (Below.refl _ _).drew)
        go_region_held3 (fun W => W.cell? ⟨q, 0, none⟩ = some (.slice A7 N2 c7) ∧ W.cell? ⟨q, 1, none⟩ = some (.slice A8 M2 c8) ∧ W.cell? ⟨s, 0, none⟩ = some (.int .i64 kd) ∧ W.cell? ⟨s, 1, none⟩ = some (.int .i64 o.p) ∧ W.cell? ⟨s, 2, none⟩ = some (.int .i64 o.n) ∧ W.cell? ⟨s, 3, none⟩ = some (.slice Ab l cb))
          (first
            | assumption
            | (with_reducible exact HS8.out _ (SK.of_below (Below.refl _ _).drew)))
          (first
            | (go_at_call 17; (with_reducible refine HDS.out.mono ?_); rintro e w9 ⟨rfl, hsw9, hsk9⟩; have hk89 : SK w8 w9 sp mb := (SK.of_below (Below.refl _ _).drew).trans hsk9; have hS9 := HS8.out w9 hk89; have HSI := size_any hsw9; have HBK := blocks_any hsw9; rw [HN2.out] at HSI; rw [HM2.out] at HBK; have HSI := Lib.hid HSI; have HBK := Lib.hid HBK)
            | (go_at_call 19; (with_reducible refine HSI.out.mono ?_); rintro e w' ⟨rfl, rfl⟩)
            | (go_at_call 18; (with_reducible refine HBK.out.mono ?_); rintro e w' ⟨rfl, rfl⟩))
        have HPN := Lib.hid (HEND.out w9 hsw9 hk89)
        rename_i hHeld
        clear hHeld hHd0 hsw9 hsk9 hk89 hS9
        go_wp2_with fail
        go_roundw
        case rel => exact ⟨j1, A7, c7, A8, c8, by have := HJ1.out; omega, rfl, Lib.hid (by rw [HNX.out, HT2.out]; exact HPN.out)⟩
        case measure => simp [intOf]; have := HJ1.out; omega
      · have g0 : (kd == 0) = false := by simp only [beq_eq_false_iff_ne]; exact h0
        go_quiet (fail)
        obtain ⟨w5, hw5⟩ : ∃ w5, w5 = w3.drewN nq := ⟨_, rfl⟩
        rw [← hw5]
        have hB5 : Below w3.heap.size w3 w5 := by rw [hw5]; exact below_drewN (Below.refl _ _) nq
        clear h0 t0 t1 s0 s1 s2 s3 hw5
        obtain ⟨T2, hT2⟩ : ∃ T2, stS T o = T2 := ⟨_, rfl⟩
        obtain ⟨ok, hok⟩ : ∃ ok, stB o = ok := ⟨_, rfl⟩
        have HD5 := Lib.hid (HDO.out w5 hB5)
        rw [hT2, hok] at HD5
        have HBX : Hid (Below w3.heap.size w3 w5) := Lib.hid hB5
        have HT2 := Lib.hid hT2
        have HOK := Lib.hid hok
        have hbb := stB_ok (rfl : ok = ok)
        obtain ⟨t0, t1, s0, s1, s2, s3⟩ := HSS.out w5 hB5
        clear hB5 hT2 hok
        go_wp2_with fail
        refine HD5.out.mono ?_
        rintro e w6 ⟨A7, c7, A8, c8, rfl, hd6, hb6⟩
        unfold dv
        obtain ⟨N2, hN2⟩ : ∃ N2, T2.n = N2 := ⟨_, rfl⟩
        obtain ⟨M2, hM2⟩ : ∃ M2, T2.K.length = M2 := ⟨_, rfl⟩
        have hB6 := HBX.out.trans (hb6.mono HBX.out.size)
        have hp6 := HP3.out.below hB6
        obtain ⟨w7, hw7⟩ : ∃ w7, w7 = w6.alloc (.cells #[.slice A7 N2 c7, .slice A8 M2 c8] 30) := ⟨_, rfl⟩
        obtain ⟨u, hu⟩ : ∃ u, u = w6.heap.size := ⟨_, rfl⟩
        have hb7 : Below w6.heap.size w6 w7 := by rw [hw7]; exact box_below w6 _
        have hu7 : w7.heap[u]? = some (.cells #[.slice A7 N2 c7, .slice A8 M2 c8] 30 (0, 0)) := by rw [hw7, hu]; exact new_block w6 _
        have hp7 := hp6.below hb7
        have hd7 := hd6.below hb7
        have hs7 := blk_below HS3.out (hB6.trans (hb7.mono hB6.size))
        have hr7 := HRB.out.below (hB6.trans (hb7.mono hB6.size))
        obtain ⟨w8, hw8⟩ : ∃ x, x = ((w7.setCell ⟨q, 0, none⟩ (.slice A7 N2 c7)).setCell ⟨q, 1, none⟩ (.slice A8 M2 c8)) := ⟨_, rfl⟩
        obtain ⟨hwr8, hk8⟩ := set_two hp7.hq (.slice A7 N2 c7) (.slice A8 M2 c8)
        rw [← hw8] at hwr8 hk8
        have hsw8 := hp7.sw.wr hwr8 hp7.hq
        have hdf8 := hd7.wr hwr8 hp7.hq
        have hrr8 : w8.heap[r]? = some (.cells #[.slice none 0 0, .slice none 0 0] 30 (0, 0)) := gb_cells hwr8.gb (Ne.symm HRW.out.2.2) hp7.hr
        have hs8 : w8.heap[s]? = some (.cells #[.int .i64 kd, .int .i64 o.p, .int .i64 o.n, .slice Ab l cb] 40 (0, 0)) := gb_cells hwr8.gb (fun e1 => by
          rw [e1] at hs7
          have h1 := hp7.hq
          rw [hs7] at h1
          injection h1 with h1
          injection h1 with _ h1 _
          exact absurd h1 (by decide)) hs7
        have hsk8 : SK w w8 sp mb := hp7.sk.wr hwr8 HRW.out.2.1
        have hr8 : Rd bcell 1 w8 Ab l o.b := by
          refine ⟨hr7.len, fun hn => ?_⟩
          obtain ⟨bb, oo, e1, hcc⟩ := hr7.cells hn
          refine ⟨bb, oo, e1, fun i hi j v hv => ?_⟩
          have hx := hcc i hi j v hv
          have hlt := cell_lt hx
          have hv' : ∃ z : Int, v = .int .u8 z := by
            rcases j with _ | j
            · exact ⟨_, (Option.some.inj hv).symm⟩
            · cases hv
          obtain ⟨z, rfl⟩ := hv'
          have hne : bb ≠ q := fun e2 => by
            rw [e2, cell_of_row w7 q _ _ _ _ hp7.hq] at hx
            rcases hq9 : oo + i * 1 + j with _ | _ | y
            · rw [hq9] at hx; simp at hx
            · rw [hq9] at hx; simp at hx
            · rw [hq9] at hx; simp at hx
          rw [← hx]
          simp only [World.cell?, hwr8.rest bb hne]
        have HDS := Lib.hid (does_any (hsw8.below (Below.refl _ _).drew) o (hr8.below (Below.refl _ _).drew) HLL.out.2.1 (by have := HLL.out; omega) HLL.out.2.2)
        unfold ov at HDS
        rw [HT2.out, HOK.out] at HDS
        have HS8 : Hid (∀ W, SK w8 W sp mb → (W.cell? ⟨q, 0, none⟩ = some (.slice A7 N2 c7) ∧ W.cell? ⟨q, 1, none⟩ = some (.slice A8 M2 c8) ∧ W.cell? ⟨s, 0, none⟩ = some (.int .i64 kd) ∧ W.cell? ⟨s, 1, none⟩ = some (.int .i64 o.p) ∧ W.cell? ⟨s, 2, none⟩ = some (.int .i64 o.n) ∧ W.cell? ⟨s, 3, none⟩ = some (.slice Ab l cb))) := Lib.hid (fun W hW =>
          ⟨cell_of (hW.blk hsw8 hk8 (by decide)) (j := 0) rfl, cell_of (hW.blk hsw8 hk8 (by decide)) (j := 1) rfl, cell_of (hW.blk hsw8 hs8 (by decide)) (j := 0) rfl, cell_of (hW.blk hsw8 hs8 (by decide)) (j := 1) rfl, cell_of (hW.blk hsw8 hs8 (by decide)) (j := 2) rfl, cell_of (hW.blk hsw8 hs8 (by decide)) (j := 3) rfl⟩)
        rw [HKD.out] at HDS
        have HEND : Hid (∀ w9, SW w9 B sp mb T2 → SK w8 w9 sp mb → PlIn w B sp mb q r T2 A7 c7 A8 c8 w9) := Lib.hid (fun w9 g1 g2 => ⟨g1, hdf8.sk g2 hsw8, by rw [hN2, hM2]; exact g2.blk hsw8 hk8 (by decide), g2.blk hsw8 hrr8 (by decide), hsk8.trans g2⟩)
        obtain ⟨v0, v1⟩ : w7.cell? ⟨u, 0, none⟩ = some (.slice A7 N2 c7) ∧ w7.cell? ⟨u, 1, none⟩ = some (.slice A8 M2 c8) := ⟨cell_of hu7 (j := 0) rfl, cell_of hu7 (j := 1) rfl⟩
        have x0 := cell_of hp7.hq (j := 0) rfl
        have x1 := cell_of hp7.hq (j := 1) rfl
        have y0 := frozen_of_row w7 q 0 _ _ hp7.hq
        have y1 := frozen_of_row w7 q 1 _ _ hp7.hq
        have HW7 := Lib.hid hw7
        have HU := Lib.hid hu
        have HW8 := Lib.hid hw8
        have HN2 := Lib.hid hN2
        have HM2 := Lib.hid hM2
        clear t0 t1 s0 s1 s2 s3 hd6 hb6 hB6 hp6 hw7 hu hb7 hu7 hp7 hd7 hs7 hr7 hw8 hwr8 hk8 hsw8 hdf8 hrr8 hs8 hsk8 hr8
        rw [hN2, hM2]
        clear hN2 hM2
        go_upto_region 7 with fail
        rw [← HW7.out, ← HU.out]
        go_upto_region 8 with fail
        rw [← HW8.out]
        clear v0 v1 x0 x1 y0 y1
        have hHd0 := HS8.out w8.drew (SK.of_below (Below.refl _ _).drew)
        go_region_held3 (fun W => W.cell? ⟨q, 0, none⟩ = some (.slice A7 N2 c7) ∧ W.cell? ⟨q, 1, none⟩ = some (.slice A8 M2 c8) ∧ W.cell? ⟨s, 0, none⟩ = some (.int .i64 kd) ∧ W.cell? ⟨s, 1, none⟩ = some (.int .i64 o.p) ∧ W.cell? ⟨s, 2, none⟩ = some (.int .i64 o.n) ∧ W.cell? ⟨s, 3, none⟩ = some (.slice Ab l cb))
          (first
            | assumption
            | (with_reducible exact HS8.out _ (SK.of_below (Below.refl _ _).drew)))
          (first
            | (go_at_call 17; (with_reducible refine HDS.out.mono ?_); rintro e w9 ⟨rfl, hsw9, hsk9⟩; have hk89 : SK w8 w9 sp mb := (SK.of_below (Below.refl _ _).drew).trans hsk9; have hS9 := HS8.out w9 hk89; have HSI := size_any hsw9; have HBK := blocks_any hsw9; rw [HN2.out] at HSI; rw [HM2.out] at HBK; have HSI := Lib.hid HSI; have HBK := Lib.hid HBK)
            | (go_at_call 19; (with_reducible refine HSI.out.mono ?_); rintro e w' ⟨rfl, rfl⟩)
            | (go_at_call 18; (with_reducible refine HBK.out.mono ?_); rintro e w' ⟨rfl, rfl⟩))
        have HPN := Lib.hid (HEND.out w9 hsw9 hk89)
        rename_i hHeld
        clear hHeld hHd0 hsw9 hsk9 hk89 hS9
        go_wp2_with fail
        go_roundw
        case rel => exact ⟨j1, A7, c7, A8, c8, by have := HJ1.out; omega, rfl, Lib.hid (by rw [HNX.out, HT2.out]; exact HPN.out)⟩
        case measure => simp [intOf]; have := HJ1.out; omega
    · obtain rfl : j = len := by omega
      have hji : ¬ (j : Int) < (j : Int) := by omega
      have htk : os.take j = os := List.take_of_length_le (by rw [HL.out]; exact Nat.le_refl _)
      rw [htk] at hT
      have hP := HP.out
      have q0 := cell_of hP.hq (j := 0) rfl
      have q1 := cell_of hP.hq (j := 1) rfl
      have r0 := cell_of hP.hr (j := 0) rfl
      have r1 := cell_of hP.hr (j := 1) rfl
      have g0 := frozen_of_row wr r 0 _ _ hP.hr
      have g1 := frozen_of_row wr r 1 _ _ hP.hr
      obtain ⟨w9, hw9⟩ : ∃ x, x = ((wr.setCell ⟨r, 0, none⟩ (.slice A5 T.n c5)).setCell ⟨r, 1, none⟩ (.slice A6 T.K.length c6)) := ⟨_, rfl⟩
      obtain ⟨hwr9, hk9⟩ := set_two hP.hr (.slice A5 T.n c5) (.slice A6 T.K.length c6)
      rw [← hw9] at hwr9 hk9
      have z0 := cell_of hk9 (j := 0) rfl
      have z1 := cell_of hk9 (j := 1) rfl
      have HE : Hid (PlPost w B sp mb (runS S os) (.returned (.tuple #[.agg #[.slice A5 T.n c5, .slice A6 T.K.length c6], .bool true])) w9) := Lib.hid (by
        rw [hT]
        refine ⟨_, _, _, _, rfl, ?_, hP.df.wr hwr9 hP.hr, hP.sk.wr hwr9 HRW.out.1⟩
        exact hP.sw.wr hwr9 hP.hr)
      have HW9 := Lib.hid hw9
      clear hP hw9 hwr9 hk9 htk hT hlt
      go_wp2_with fail
      rw [← HW9.out]
      go_wp2_with fail
      exact bodyPost_ret (v := .tuple #[.agg #[.slice A5 T.n c5, .slice A6 T.K.length c6], .bool true]) (by simp [results, Try.results12, go_sem, z0, z1]) rfl HE.out
end Go.Proofs.Ytoallenigfbkpaa
