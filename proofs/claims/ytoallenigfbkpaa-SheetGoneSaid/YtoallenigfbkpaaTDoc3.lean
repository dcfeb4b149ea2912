/-
  What the document's Write returns. No condition.
-/
import Derived.Test.YtoallenigfbkpaaTDoc2
import Derived.Test.YtoallenigfbkpaaTRuns
namespace Go.Proofs.Ytoallenigfbkpaa
set_option maxRecDepth 100000
open Go.ChangeShapes Go.WideShapes Go.ChangeAt Go.RowKit Go.Proofs.Sg

/-- The document's file behind a call, and whether it was done. -/
def DoPost (w : World) (S : Sh) (ok : Bool) (e : Ending) (w' : World) : Prop := ∃ A c A2 c2, e = .returned (.tuple #[dv A S.n c A2 S.K.length c2, .bool ok]) ∧ DF w' A c A2 c2 S ∧ Below w.heap.size w w'
theorem set_two {w : World} {r : Nat} {a0 b0 : Value} (hr : w.heap[r]? = some (.cells #[a0, b0] 30 (0, 0))) (a b : Value) : Wr r w ((w.setCell ⟨r, 0, none⟩ a).setCell ⟨r, 1, none⟩ b) ∧ ((w.setCell ⟨r, 0, none⟩ a).setCell ⟨r, 1, none⟩ b).heap[r]? = some (.cells #[a, b] 30 (0, 0)) :=
  ⟨((Wr.refl r w).set 0 a).set 1 b, heap_setCell_same _ r 1 _ 30 b (heap_setCell_same w r 0 _ 30 a hr)⟩
theorem DF.wr {w w' : World} {r : Nat} {A A2 : Option Addr} {c c2 : Nat} {S : Sh} {cs : Array Value} (h : DF w A c A2 c2 S) (hw : Wr r w w') (hr : w.heap[r]? = some (.cells cs 30 (0, 0))) : DF w' A c A2 c2 S :=
  ⟨own_gb h.bytes hw.gb (own_ne h.bytes hr (by decide)), own_gb h.blocks hw.gb (own_ne h.blocks hr (by decide))⟩
/-- Bytes are copied into a row of the call's own. -/
theorem copy_row {w : World} {B g N c P n A0 o cb : Nat} {l b : List UInt8} (ho : w.ownsRow B 5 1 (.slice (some ⟨g, 0, none⟩) N c) N (bcells l)) (hr : Rd bcell 1 w (some ⟨A0, o, none⟩) n b) (hn : P + n ≤ N) :
    ∃ w', (∀ ty, (Builtin.copy_ #[27, 27] ty #[.slice (some ⟨g, P, none⟩) (N - P) (c - P), .slice (some ⟨A0, o, none⟩) n cb]).run Try.prog w = .ok (.int .i64 (n : Int)) w') ∧
      w'.ownsRow B 5 1 (.slice (some ⟨g, 0, none⟩) N c) N (bcells (spl l P b)) ∧ w.grownBy w' (some g) := by
  obtain ⟨cur, hg, hB, hnc, hcm, hcs, ht, hx⟩ := own_at ho
  have hl := hr.len
  have hcl : (bcells b).length = Nat.min n (N - P) * 1 := by
    rw [bcells_length, hl, Nat.mul_one]
    exact (Nat.min_eq_left (by omega)).symm
  refine ⟨w.setCells g P (bcells b), fun ty => ?_, ?_, setCells_grown _ _ _⟩
  · have h := run_copy_size (P := Try.prog) w 27 27 ty 5 g P (N - P) (c - P) ⟨A0, o, none⟩ n cb 1 (bcells b) Try.underlying27 sizeB hcl (fun j v hv => by
      have hj : j < b.length := by
        have := (List.getElem?_eq_some_iff.1 hv).1
        rwa [bcells_length] at this
      obtain ⟨A', o', e, hc⟩ := hr.cells (by omega)
      injection e with e
      injection e with e1 e2
      subst e1; subst e2
      rw [bcells_get, List.getElem?_eq_getElem hj] at hv
      have := hc j hj 0 _ rfl
      rw [Nat.mul_one, Nat.add_zero] at this
      rw [Go.WideShapes.add_plain, this]
      exact hv) (fun j hj => by
        rw [bcells_length] at hj
        rw [cell_of_row w g _ _ _ _ hg, Array.getElem?_eq_getElem (by omega)]; rfl) (fun j hj => frozen_of_row w g _ _ _ hg) (bcells_one _)
    rw [h]
    have : Nat.min n (N - P) = n := Nat.min_eq_left (by omega)
    rw [this]; rfl
  · have h := own_set_cells ho P (bcells b) (by rw [bcells_length, hl]; omega)
    rw [bcells_spl] at h
    exact h
theorem bs_snoc (f : Byt) (L : Nat) : bs f (L + 1) = bs f L ++ [f L] := by
  unfold bs
  rw [List.range_succ, List.map_append]; rfl
theorem u8_empty (w : World) : (w.alloc (.cells #[] 5)).ownsRow w.heap.size 5 1 (.slice (some ⟨w.heap.size, 0, none⟩) 0 0) 0 [] := own_new (new_block w _) (Nat.le_refl _) (by unfold maxLen; omega) rfl
set_option maxHeartbeats 8000000 in
theorem rwrite_any {w : World} {A A2 : Option Addr} {c c2 : Nat} {S : Sh} (hD : DF w A c A2 c2 S) (hg : GoodS S) (p : Int) (hp : p ≤ 9223372036854775807) {B : Option Addr} {n cb : Nat} {b : List UInt8} (hR : Rd bcell 1 w B n b) (hn : n ≤ 4611686018427387904) :
    Calls Try.prog 24 #[dv A S.n c A2 S.K.length c2, .int .i64 p, .slice B n cb] w (DoPost w (wrI S p b) (ft p b.length)) := by
  have hlen := hR.len
  obtain ⟨ok, hok⟩ : ∃ ok, ft p (n : Int) = ok := ⟨_, rfl⟩
  have HF : Hid (∀ W, Calls Try.prog 33 #[.int .i64 p, .int .i64 (n : Int)] W fun e w' => e = .returned (.bool ok) ∧ W = w') := Lib.hid (fun W => by rw [← hok]; exact rfits_any p n W)
  rw [hlen, hok]
  have HLEN := Lib.hid hlen
  have HOK := Lib.hid hok
  have HR0 := Lib.hid hR
  clear hlen hok hR
  obtain ⟨w2, hw2, hb2, hq, hr, hs2⟩ := two_box w (.cells #[.slice A S.n c, .slice A2 S.K.length c2] 30) (.cells #[.slice none 0 0, .slice none 0 0] 30)
  obtain ⟨q, eq⟩ : ∃ q, q = w.heap.size := ⟨_, rfl⟩
  obtain ⟨r, er⟩ : ∃ r, r = w.heap.size + 1 := ⟨_, rfl⟩
  rw [← eq] at hq
  rw [← er] at hr
  have HD := Lib.hid (hD.below hb2)
  have HQ := Lib.hid hq
  have HRB := Lib.hid hr
  have HW2 := Lib.hid hw2
  have EQ := Lib.hid eq
  have ER := Lib.hid er
  have HB2 := Lib.hid hb2
  have HRW : Hid (w.heap.size ≤ r ∧ r < w2.heap.size ∧ q < w2.heap.size) := Lib.hid (by omega)
  have hlim := hg.lim
  have HG := Lib.hid hg
  have HLIM := Lib.hid hlim
  have HKM : Hid (∀ k ∈ S.K, k < 65536) := Lib.hid (fun k hk => by have := hg.key k hk; omega)
  unfold dv
  clear hD hw2 eq er hb2 hq hr hs2
  cases ok with
  | false =>
    have HSS : Hid (wrI S p b = S) := Lib.hid (by unfold wrI; rw [HLEN.out, HOK.out]; simp)
    rw [HSS.out]
    have q0 := cell_of HQ.out (j := 0) rfl
    have q1 := cell_of HQ.out (j := 1) rfl
    have hr9 : w2.heap[r]? = some (.cells #[.slice none 0 0, .slice none 0 0] 30 (0, 0)) := by first | exact HRB.out | exact blk_below HRB.out (by first | exact Below.refl _ _ | exact Below.refl _ _)
    obtain ⟨w9, hw9⟩ : ∃ x, x = ((w2.setCell ⟨r, 0, none⟩ (.slice A S.n c)).setCell ⟨r, 1, none⟩ (.slice A2 S.K.length c2)) := ⟨_, rfl⟩
    obtain ⟨hwr9, hk9⟩ := set_two hr9 (.slice A S.n c) (.slice A2 S.K.length c2)
    rw [← hw9] at hwr9 hk9
    have r0 := cell_of hr9 (j := 0) rfl
    have r1 := cell_of hr9 (j := 1) rfl
    have g0 := frozen_of_row w2 r 0 _ _ hr9
    have g1 := frozen_of_row w2 r 1 _ _ hr9
    have HE : Hid (DoPost w S false (.returned (.tuple #[.agg #[.slice A S.n c, .slice A2 S.K.length c2], .bool false])) w9) := Lib.hid ⟨_, _, _, _, rfl, (HD.out).wr hwr9 hr9, (HB2.out.trans ((by first | exact Below.refl _ _ | exact Below.refl _ _ : Below w2.heap.size w2 w2).mono HB2.out.size)).trans (hwr9.below.mono HRW.out.1)⟩
    have z0 := cell_of hk9 (j := 0) rfl
    have z1 := cell_of hk9 (j := 1) rfl
    have HW9 := Lib.hid hw9
    clear hr9 hw9 hwr9 hk9
    go_enter Try.func24, Try.ntmps24
    go_upto_region 1 with fail
    rw [← HW2.out, ← ER.out, ← EQ.out]
    go_wp2_with fail
    refine (HF.out _).mono ?_
    rintro e w' ⟨rfl, rfl⟩
    go_wp2_with fail
    rw [← HW9.out]
    go_wp2_with fail
    exact bodyPost_ret (v := .tuple #[.agg #[.slice A S.n c, .slice A2 S.K.length c2], .bool false]) (by simp [results, Try.results24, go_sem, z0, z1]) rfl HE.out
  | true =>
    by_cases h0 : n = 0
    · subst h0
      have HSS : Hid (wrI S p b = S) := Lib.hid (by unfold wrI wr; rw [if_pos HLEN.out]; simp)
      rw [HSS.out]
      have q0 := cell_of HQ.out (j := 0) rfl
      have q1 := cell_of HQ.out (j := 1) rfl
      have hr9 : w2.heap[r]? = some (.cells #[.slice none 0 0, .slice none 0 0] 30 (0, 0)) := by first | exact HRB.out | exact blk_below HRB.out (by first | exact Below.refl _ _ | exact Below.refl _ _)
      obtain ⟨w9, hw9⟩ : ∃ x, x = ((w2.setCell ⟨r, 0, none⟩ (.slice A S.n c)).setCell ⟨r, 1, none⟩ (.slice A2 S.K.length c2)) := ⟨_, rfl⟩
      obtain ⟨hwr9, hk9⟩ := set_two hr9 (.slice A S.n c) (.slice A2 S.K.length c2)
      rw [← hw9] at hwr9 hk9
      have r0 := cell_of hr9 (j := 0) rfl
      have r1 := cell_of hr9 (j := 1) rfl
      have g0 := frozen_of_row w2 r 0 _ _ hr9
      have g1 := frozen_of_row w2 r 1 _ _ hr9
      have HE : Hid (DoPost w S true (.returned (.tuple #[.agg #[.slice A S.n c, .slice A2 S.K.length c2], .bool true])) w9) := Lib.hid ⟨_, _, _, _, rfl, (HD.out).wr hwr9 hr9, (HB2.out.trans ((by first | exact Below.refl _ _ | exact Below.refl _ _ : Below w2.heap.size w2 w2).mono HB2.out.size)).trans (hwr9.below.mono HRW.out.1)⟩
      have z0 := cell_of hk9 (j := 0) rfl
      have z1 := cell_of hk9 (j := 1) rfl
      have HW9 := Lib.hid hw9
      clear hr9 hw9 hwr9 hk9
      go_enter Try.func24, Try.ntmps24
      go_upto_region 1 with fail
      rw [← HW2.out, ← ER.out, ← EQ.out]
      go_wp2_with fail
      refine (HF.out _).mono ?_
      rintro e w' ⟨rfl, rfl⟩
      go_wp2_with fail
      rw [← HW9.out]
      go_wp2_with fail
      exact bodyPost_ret (v := .tuple #[.agg #[.slice A S.n c, .slice A2 S.K.length c2], .bool true]) (by simp [results, Try.results24, go_sem, z0, z1]) rfl HE.out
    obtain ⟨f0, f1, f2⟩ := ft_iff.1 HOK.out
    obtain ⟨P, hP⟩ : ∃ P : Nat, p = (P : Int) := ⟨p.toNat, by omega⟩
    subst hP
    obtain ⟨t, ht⟩ : ∃ t : Nat, P + n = t := ⟨_, rfl⟩
    have HT : Hid (P + n = t ∧ t ≤ 1048576 ∧ 0 < n) := Lib.hid (by omega)
    have hwt : IntKind.i64.wrap ((P : Int) + (n : Int)) = (t : Int) := by rw [IntKind.wrap_i64]; omega
    have hn0 : ((n : Int) == 0) = false := by simp only [beq_eq_false_iff_ne]; omega
    have HSS : Hid (wrI S (P : Int) b = ⟨max S.n t, wK S.K P n, wF S.f P b⟩) := Lib.hid (by
      unfold wrI wr
      rw [HLEN.out, HOK.out, if_pos rfl, if_neg h0, Int.toNat_natCast, ht])
    rw [HSS.out]
    have HSR := Lib.hid HG.out.srt
    obtain ⟨i0, hi, hz0, hz1, hz2⟩ := info_parts infoB
    have HRD : Hid (Rd bcell 1 (w2.alloc (.cells #[] 5)) A S.n (bs S.f S.n)) := Lib.hid ((HD.out.rdB).below (box_below w2 _))
    have HNIL : Hid (A = none → c = 0) := Lib.hid (own_cap HD.out.bytes)
    have q0 := cell_of (blk_alloc HQ.out (.cells #[] 5)) (j := 0) rfl
    have q0' := cell_of HQ.out (j := 0) rfl
    clear h0 f0 f1 f2 ht
    go_enter Try.func24, Try.ntmps24
    go_upto_region 1 with fail
    rw [← HW2.out, ← ER.out, ← EQ.out]
    go_wp2_with fail
    refine (HF.out _).mono ?_
    rintro e w' ⟨rfl, rfl⟩
    go_upto_region 6 with (at_builtin; refine wpList_append_rd rfl _ _ 27 rfl w2.heap.size 5 i0 _ 1 1 Try.underlying27 hi hz0 hz1 hz2 rfl (by decide) _ 0 [] rfl (u8_empty w2) A S.n c (bs S.f S.n) rfl HRD.out (fun _ _ => rfl) bcell_one HNIL.out (by have := HLIM.out; unfold maxLen; omega) (by have := HLIM.out; omega) (by simp) ?_; intro v3 w3 hown3 hg3)
    rw [Nat.zero_add, List.nil_append] at hown3
    have HX3 : Hid (Below w2.heap.size w2 w3) := Lib.hid ((box_below w2 (.cells #[] 5)).trans (gb_own (u8_empty w2) hg3 (Nat.le_refl _) (by simp)))
    have HO3 : Hid (w3.ownsRow w2.heap.size 5 1 v3 S.n (bcells (bs S.f S.n))) := Lib.hid hown3
    clear hown3 hg3 q0 q0'
    go_loopw [8] (fun u wr => ∃ L : Nat, S.n ≤ L ∧ L ≤ max S.n t ∧ Hid (wr.ownsRow w2.heap.size 5 1 u L (bcells (bs S.f L))) ∧ Hid (Below w2.heap.size w2 wr)) (fun u _ => t - lnOf u)
    case atStart => exact ⟨S.n, Nat.le_refl _, Nat.le_max_left _ _, HO3, HX3⟩
    case round =>
      obtain ⟨L, hL1, hL2, HO, HX⟩ := hrel
      obtain ⟨Ax, cx, eAx, -, -, hAx⟩ := own_form HO.out
      subst eAx
      by_cases hlt : L < t
      · have hlt1 : (L : Int) < (t : Int) := by omega
        have hlt2 : decide ((L : Int) < (t : Int)) = true := by simpa using hlt1
        have HLL : Hid (L + 1 ≤ max S.n t ∧ S.n ≤ L ∧ L < t ∧ L ≤ 1048576) := Lib.hid (by have := HLIM.out; have := HT.out; omega)
        clear hlt hL1 hL2 hAx
        go_wp2_with (at_builtin; refine wpList_append_own _ rfl _ _ 27 rfl w2.heap.size 5 i0 _ 1 1 Try.underlying27 hi hz0 hz1 hz2 rfl (by decide) _ L (bcells (bs S.f L)) rfl (HO.out.alloc _) ⟨wr.heap.size, 0, none⟩ 1 1 [.int .u8 0] rfl rfl (World.news_of_block (new_block wr _)) (fun u hu => by rcases List.mem_singleton.1 hu with rfl; rfl) (by have := HLL.out; unfold maxLen; omega) (by have := HLL.out; omega) (by have := HX.out.size; simp; omega) ?_; intro v5 w5 hown' hg5 hnil5)
        have HO5 : Hid (w5.ownsRow w2.heap.size 5 1 v5 (L + 1) (bcells (bs S.f (L + 1)))) := Lib.hid (by
          rw [bs_snoc, bcells_append]
          have e : bcells [S.f L] = [.int .u8 0] := by
            rw [HG.out.far L HLL.out.2.1]; rfl
          rw [e]; exact hown')
        have HX5 : Hid (Below w2.heap.size w2 w5) := Lib.hid ((HX.out.alloc HX.out.size _).grown hg5 (by have := HX.out.size; simp; omega) (fun j hj => (HO.out.lt j hj).1))
        have hln : ∃ Ay cy, v5 = .slice Ay (L + 1) cy := by obtain ⟨Ay, cy, e, -⟩ := own_form hown'; exact ⟨Ay, cy, e⟩
        obtain ⟨Ay, cy, rfl⟩ := hln
        clear hown' hg5 hnil5
        go_roundw
        case rel => exact ⟨L + 1, by have := HLL.out; omega, HLL.out.1, HO5, HX5⟩
        case measure => simp [lnOf]; have := HLL.out; omega
      · have hlt1 : ¬ (L : Int) < (t : Int) := by omega
        have hlt2 : decide ((L : Int) < (t : Int)) = false := by simpa using hlt1
        obtain ⟨N, hN⟩ : ∃ N, max S.n t = N := ⟨_, rfl⟩
        obtain rfl : L = N := by omega
        have HN := Lib.hid hN
        clear hlt hL1 hL2 hN
        obtain ⟨g, hgx⟩ := hAx (by have := HT.out; have := HN.out; omega)
        subst hgx
        have hrb : Rd bcell 1 wr B n b := HR0.out.below (HB2.out.trans (HX.out.mono HB2.out.size))
        obtain ⟨A0, o, hA0, -⟩ := hrb.cells (by have := HT.out; omega)
        subst hA0
        obtain ⟨w5, hcp, ho5, hg5⟩ := copy_row (cb := cb) HO.out hrb (P := P) (by have := HT.out; have := HN.out; omega)
        rw [← bs_write (by rw [HLEN.out]; have := HT.out; have := HN.out; omega)] at ho5
        have hs1 := bytes_from g 0 L cx P (by have := HT.out; have := HN.out; omega) (own_le HO.out).1
        rw [Nat.zero_add] at hs1
        have HO5 := Lib.hid ho5
        have hx5 : Below w2.heap.size w2 w5 := HX.out.trans (gb_to hg5 (HO.out.lt g rfl).1 HX.out.size)
        have HX5 := Lib.hid hx5
        have q1 := cell_of (blk_below HQ.out hx5) (j := 1) rfl
        clear hrb ho5 hg5 hx5 hAx
        go_wp2_with fail
        go_loopw [9, 10] (fun l i wr' => ∃ (d : Nat) (A3 : Option Addr) (c3 : Nat), d ≤ n ∧ i = .int .i64 (d : Int) ∧ l = .slice A3 (wK S.K P d).length c3 ∧ Hid (wr'.ownsRow 0 3 1 (.slice A3 (wK S.K P d).length c3) (wK S.K P d).length (ncells (wK S.K P d))) ∧ Hid (Below w5.heap.size w5 wr')) (fun _ i _ => n - (intOf i).toNat)
        case atStart => exact ⟨0, A2, c2, Nat.zero_le _, rfl, rfl, Lib.hid (own_below HD.out.blocks HX5.out), Lib.hid (Below.refl _ _)⟩
        case round =>
          obtain ⟨d, A3, c3, hd, rfl, rfl, HK, HY⟩ := hrel
          by_cases hlt : d < n
          · obtain ⟨d1, hd1⟩ : ∃ d1, d + 1 = d1 := ⟨_, rfl⟩
            have hT := HT.out
            have hwd : IntKind.i64.wrap ((d : Int) + 1) = (d1 : Int) := by rw [IntKind.wrap_i64]; omega
            obtain ⟨x, hx⟩ : ∃ x, P + d = x := ⟨_, rfl⟩
            obtain ⟨k, hk⟩ : ∃ k, x / 16 = k := ⟨_, rfl⟩
            obtain ⟨s, hs⟩ : ∃ s, x % 16 = s := ⟨_, rfl⟩
            have hwx : IntKind.i64.wrap ((P : Int) + (d : Int)) = (x : Int) := by rw [IntKind.wrap_i64]; omega
            have htq : Int.tdiv (x : Int) 16 = (k : Int) := by rw [Int.tdiv_eq_ediv_of_nonneg (by omega)]; omega
            have htm : Int.tmod (x : Int) 16 = (s : Int) := by rw [Int.tmod_eq_emod_of_nonneg (by omega)]; omega
            have hwk : IntKind.i64.wrap (k : Int) = (k : Int) := by rw [IntKind.wrap_i64]; omega
            have hws : IntKind.i64.wrap (s : Int) = (s : Int) := by rw [IntKind.wrap_i64]; omega
            have hlt1 : (d : Int) < (n : Int) := by omega
            obtain ⟨dI, hdI⟩ : ∃ z : Int, (d : Int) = z := ⟨_, rfl⟩
            obtain ⟨sI, hsI⟩ : ∃ z : Int, (s : Int) = z := ⟨_, rfl⟩
            have HD1 : Hid (d < n ∧ d + 1 = d1 ∧ (d : Int) = dI) := Lib.hid ⟨hlt, hd1, hdI⟩
            have HW : Hid (Calls Try.prog 34 #[.slice A3 (wK S.K P d).length c3, .int .i64 (k : Int)] wr (NuPost wr (wK S.K P d1))) := Lib.hid (by
              have h := with_any (c := c3) (Rd.of_own HK.out (fun _ _ => rfl) (by omega)) (srt_wK HSR.out P d) (by
                have := srt_len (m := 65536) (srt_wK HSR.out P d) (fun k hk => by
                  rcases mem_wK.1 hk with h1 | ⟨j, hj, rfl⟩
                  · exact HKM.out k h1
                  · omega)
                omega) k
              have e : wK S.K P d1 = ins k (wK S.K P d) := by rw [← hd1, ← hk, ← hx]; rfl
              rw [e]; exact h)
            rw [hdI] at hwd hwx hlt1 ⊢
            rw [hsI] at htm hws
            by_cases hd0 : d = 0
            · have hz : (dI == 0) = true := by simp only [beq_iff_eq]; omega
              clear hlt hT hd1 hx hk hs hsI hdI hd0 hd
              go_wp2_with fail
              refine HW.out.mono ?_
              rintro e w' ⟨v6, rfl, hrow6, hb6⟩
              obtain ⟨A6, c6, rfl, -⟩ := own_form hrow6
              have HK6 := Lib.hid (own_base hrow6 (Nat.zero_le _))
              have HY6 : Hid (Below w5.heap.size w5 w') := Lib.hid (HY.out.trans (hb6.mono HY.out.size))
              clear hrow6 hb6
              go_wp2_with fail
              go_roundw
              case rel => exact ⟨d1, A6, c6, by have := HD1.out; omega, rfl, rfl, HK6, HY6⟩
              case measure => simp [intOf]; have := HD1.out; omega
            · have hz : (dI == 0) = false := by simp only [beq_eq_false_iff_ne]; omega
              by_cases hr0 : s = 0
              · have hrz : (sI == 0) = true := by simp only [beq_iff_eq]; omega
                clear hlt hT hd1 hx hk hs hsI hdI hd0 hr0 hd
                go_wp2_with fail
                refine HW.out.mono ?_
                rintro e w' ⟨v6, rfl, hrow6, hb6⟩
                obtain ⟨A6, c6, rfl, -⟩ := own_form hrow6
                have HK6 := Lib.hid (own_base hrow6 (Nat.zero_le _))
                have HY6 : Hid (Below w5.heap.size w5 w') := Lib.hid (HY.out.trans (hb6.mono HY.out.size))
                clear hrow6 hb6
                go_wp2_with fail
                go_roundw
                case rel => exact ⟨d1, A6, c6, by have := HD1.out; omega, rfl, rfl, HK6, HY6⟩
                case measure => simp [intOf]; have := HD1.out; omega
              · have hrz : (sI == 0) = false := by simp only [beq_eq_false_iff_ne]; omega
                have e9 : wK S.K P d1 = wK S.K P d := by rw [← hd1]; exact wK_skip HSR.out hd0 (by omega)
                have HK2 : Hid (wr.ownsRow 0 3 1 (.slice A3 (wK S.K P d1).length c3) (wK S.K P d1).length (ncells (wK S.K P d1))) := Lib.hid (by rw [e9]; exact HK.out)
                rw [← e9]
                clear hlt hT hd1 hx hk hs hsI hdI hd0 hr0 hd e9 HK HW
                go_wp2_with fail
                go_roundw
                case rel => exact ⟨d1, A3, c3, by have := HD1.out; omega, rfl, rfl, HK2, HY⟩
                case measure => simp [intOf]; have := HD1.out; omega
          · obtain rfl : d = n := by omega
            have hlt1 : ¬ (d : Int) < (d : Int) := by omega
            have hy : Below w2.heap.size w2 wr := HX5.out.trans (HY.out.mono HX5.out.size)
            have hdf : DF wr (some ⟨g, 0, none⟩) cx A3 c3 ⟨max S.n t, wK S.K P d, wF S.f P b⟩ := ⟨by
              have h := own_below HO5.out HY.out
              rw [← HN.out] at h
              exact own_base h (Nat.zero_le _), HK.out⟩
            have hNN := HN.out
            have hr9 : wr.heap[r]? = some (.cells #[.slice none 0 0, .slice none 0 0] 30 (0, 0)) := by first | exact HRB.out | exact blk_below HRB.out (by first | exact hy | exact Below.refl _ _)
            obtain ⟨w9, hw9⟩ : ∃ x, x = ((wr.setCell ⟨r, 0, none⟩ (.slice (some ⟨g, 0, none⟩) (max S.n t) cx)).setCell ⟨r, 1, none⟩ (.slice A3 (wK S.K P d).length c3)) := ⟨_, rfl⟩
            obtain ⟨hwr9, hk9⟩ := set_two hr9 (.slice (some ⟨g, 0, none⟩) (max S.n t) cx) (.slice A3 (wK S.K P d).length c3)
            rw [← hw9] at hwr9 hk9
            have r0 := cell_of hr9 (j := 0) rfl
            have r1 := cell_of hr9 (j := 1) rfl
            have g0 := frozen_of_row wr r 0 _ _ hr9
            have g1 := frozen_of_row wr r 1 _ _ hr9
            have HE : Hid (DoPost w ⟨max S.n t, wK S.K P d, wF S.f P b⟩ true (.returned (.tuple #[.agg #[.slice (some ⟨g, 0, none⟩) (max S.n t) cx, .slice A3 (wK S.K P d).length c3], .bool true])) w9) := Lib.hid ⟨_, _, _, _, rfl, (hdf).wr hwr9 hr9, (HB2.out.trans ((by first | exact hy | exact Below.refl _ _ : Below w2.heap.size w2 wr).mono HB2.out.size)).trans (hwr9.below.mono HRW.out.1)⟩
            have z0 := cell_of hk9 (j := 0) rfl
            have z1 := cell_of hk9 (j := 1) rfl
            have HW9 := Lib.hid hw9
            clear hr9 hw9 hwr9 hk9
            rw [hNN] at HW9 HE z0
            have HE2 : Hid (DoPost w ⟨max S.n t, wK S.K P d, wF S.f P b⟩ true (.returned (.tuple #[.agg #[.slice (some ⟨g, 0, none⟩) L cx, .slice A3 (wK S.K P d).length c3], .bool true])) w9) := Lib.hid (by rw [hNN]; exact HE.out)
            clear hdf hy hNN
            go_wp2_with fail
            rw [← HW9.out]
            go_wp2_with fail
            exact bodyPost_ret (v := .tuple #[.agg #[.slice (some ⟨g, 0, none⟩) L cx, .slice A3 (wK S.K P d).length c3], .bool true]) (by simp [results, Try.results24, go_sem, z0, z1]) rfl HE2.out
end Go.Proofs.Ytoallenigfbkpaa
