/-
  What the laws' own Part returns and leaves. Condition: not too many pairs.
-/
import Derived.Test.YtdlhjpcofldfnaaRef2
namespace Go.Proofs.Ytdlhjpcofldfnaa
set_option maxRecDepth 100000
open Go.ChangeShapes Go.WideShapes Go.ChangeAt Go.RowKit

/-! ### Rows of pairs -/
def qcell (p : Int × Int) : List Value := [.int .i64 p.1, .int .i64 p.2]
def qcells (l : List (Int × Int)) : List Value := l.flatMap qcell
theorem qcells_length (l : List (Int × Int)) : (qcells l).length = l.length * 2 := parts_length qcell 2 l (fun _ _ => rfl)
theorem info69 : (Try.prog.info? 69).map (fun i => (i.zero, i.size, i.bytes)) = some (some (.agg #[.int .i64 0, .int .i64 0]), 2, 16) := by kernel_rfl
theorem qrow_reads {w : World} {B n c : Nat} {A : Option Addr} {l : List (Int × Int)} (h : w.ownsRow B 69 2 (.slice A n c) n (qcells l)) (hl : l.length = n) : QReads w A n l := by
  refine ⟨hl, fun hn => ?_⟩
  obtain ⟨A', c', e, -, -, hA⟩ := own_form h
  injection e with e1 e2 e3
  obtain ⟨g, hg⟩ := hA hn
  rw [← e1] at hg
  subst hg
  refine ⟨g, 0, rfl, fun i hi => ?_⟩
  have e : ∀ j, j < 2 → w.cell? ⟨g, i * 2 + j, none⟩ = (qcell (l.getD i (0, 0)))[j]? := fun j hj => by
    have h1 := part_get qcell 2 l i (by omega) (fun _ _ => rfl) j hj
    rw [getD_eq _ (by omega), ← h1]
    have hlt : i * 2 + j < (qcells l).length := by rw [qcells_length]; omega
    rw [own_cell h (i * 2 + j) _ (List.getElem?_eq_getElem hlt)]
    exact (List.getElem?_eq_getElem hlt).symm
  rw [Nat.zero_add]
  exact ⟨e 0 (by omega), e 1 (by omega)⟩
theorem run_qcopy {w : World} {A1 : Option Addr} {n1 c1 g : Nat} {l : List (Int × Int)} (hp : QReads w A1 n1 l) (hg : w.heap[g]? = some (.cells #[] 69 (0, 0))) (B : Nat) (hBg : B ≤ g) (hB : B ≤ w.heap.size) (hn : n1 ≤ 100000) (ty : TypeId) :
    ∃ g' c' w', (Builtin.append_ #[27, 27] ty #[.slice (some ⟨g, 0, none⟩) 0 0, .slice A1 n1 c1]).run Try.prog w = .ok (.slice (some ⟨g', 0, none⟩) n1 c') w' ∧ w'.ownsRow B 69 2 (.slice (some ⟨g', 0, none⟩) n1 c') n1 (qcells l) ∧ w.grownBy w' none := by
  obtain ⟨i0, hi, hz0, hz1, hz2⟩ := info_parts info69
  have hl := hp.len
  by_cases h0 : n1 = 0
  · subst h0
    obtain rfl : l = [] := List.eq_nil_of_length_eq_zero hl
    have hsrc : Src Try.prog i0.size 27 (.slice A1 0 c1) 0 [] w := by
      cases A1 with
      | none => exact Src.ofNil w Try.underlying27 c1
      | some a => exact Src.ofSlice w Try.underlying27 a 0 c1 [] (by simp) (fun j u hu => by simp at hu) (fun u hu => by cases hu)
    exact ⟨g, 0, w, run_append_nothing (P := Try.prog) w 27 27 ty 69 i0 Try.underlying27 hi (some ⟨g, 0, none⟩) 0 0 (Nat.le_refl _) _ hsrc, ⟨rfl, .inr ⟨g, 0, #[], rfl, hBg, hg, Nat.le_refl _, by unfold maxLen; omega, rfl, rfl⟩⟩, ⟨rfl, rfl, rfl, Nat.le_refl _, fun _ _ _ => rfl⟩⟩
  · obtain ⟨b, off, rfl, hc⟩ := hp.cells (by omega)
    have hcl : ∀ j u, (qcells l)[j]? = some u → w.cell? ((⟨b, off, none⟩ : Addr).add j) = some u := fun j u hu => by
      have hj := (List.getElem?_eq_some_iff.1 hu).1
      rw [qcells_length] at hj
      rw [Go.WideShapes.add_plain]
      have hi3 : j / 2 < l.length := by omega
      have e := part_get qcell 2 l (j / 2) hi3 (fun _ _ => rfl) (j % 2) (by omega)
      have hjj : j / 2 * 2 + j % 2 = j := by omega
      rw [hjj] at e
      have hu' : (qcell l[j / 2])[j % 2]? = some u := by rw [← e]; exact hu
      obtain ⟨c0, c1⟩ := hc (j / 2) (by omega)
      rw [getD_eq _ hi3] at c0 c1
      have h3 : j % 2 = 0 ∨ j % 2 = 1 := by omega
      rcases h3 with h | h
      · rw [h] at hu'; rw [show off + j = off + j / 2 * 2 by omega, c0]; exact hu'
      · rw [h] at hu'; rw [show off + j = off + j / 2 * 2 + 1 by omega, c1]; exact hu'
    obtain ⟨v', w', hrun, r1, r2⟩ := run_append_arg_grows (P := Try.prog) w 27 ty 69 i0 _ 2 16 Try.underlying27 hi hz0 hz1 hz2 rfl (by decide) ⟨g, 0, none⟩ 0 0 [] rfl (fun j u hu => by simp at hu) ⟨b, off, none⟩ n1 c1 (qcells l) (by rw [qcells_length, hl]) hcl (by omega) (by unfold maxLen; omega) (by omega)
    rw [Nat.zero_add, List.nil_append] at r1
    obtain ⟨g', cap, rfl, hbg, hlt⟩ := r1.form (by omega)
    exact ⟨g', cap, w', hrun, own_base r1 hB, r2⟩
theorem wpList_qcopy {w : World} {ops : Array Oper} {rest : List Oper} {o : Oper} {a : Act} {Q : Exit → Act → World → Prop} (hgd : o.guard = none) (s x : Operand)
    (ho : o.op = .call { callee := .builtin .append, args := #[s, x], argTypes := #[27, 27] }) {A1 : Option Addr} {n1 c1 g : Nat} {l : List (Int × Int)} (hs : a.eval s = .slice (some ⟨g, 0, none⟩) 0 0) (hx : a.eval x = .slice A1 n1 c1)
    (hp : QReads w A1 n1 l) (hg : w.heap[g]? = some (.cells #[] 69 (0, 0))) (B : Nat) (hBg : B ≤ g) (hB : B ≤ w.heap.size) (hn : n1 ≤ 100000)
    (hK : ∀ g' c' w', w'.ownsRow B 69 2 (.slice (some ⟨g', 0, none⟩) n1 c') n1 (qcells l) → w.grownBy w' none → wpList Try.prog ops Q rest (a.put o.dst (.slice (some ⟨g', 0, none⟩) n1 c')) w') :
    wpList Try.prog ops Q (o :: rest) a w := by
  refine wpList_plain hgd fun K hK' => ?_
  obtain ⟨g', c', w', hrun, r1, r2⟩ := run_qcopy (c1 := c1) hp hg B hBg hB hn o.type
  unfold Oper.wp
  simp [execOp, ho, resolve, invoke, builtin, hs, hx, hrun, Result.andThen]
  exact hK' _ _ (hK g' c' w' r1 r2)
theorem qrow_more {W : World} {B g n c : Nat} {l : List (Int × Int)} {p : Int × Int} (h : W.ownsRow B 69 2 (.slice (some ⟨g, 0, none⟩) (n + 1) c) (n + 1) (qcells l ++ qcell p)) : W.ownsRow B 69 2 (.slice (some ⟨g, 0, none⟩) (n + 1) c) (n + 1) (qcells (l ++ [p])) := by
  simpa [qcells] using h
theorem btw_eq (a b : Int) (x : Pk) : btw (min a b) (max a b) x = ((x.f == a && x.t == b) || (x.f == b && x.t == a)) := by
  unfold btw
  rw [Bool.eq_iff_iff]
  simp only [Bool.and_eq_true, Bool.or_eq_true, beq_iff_eq]
  omega
def RPPost (w : World) (A1 A2 : Option Addr) (n2 : Nat) (L' : List Pk) (qs : List (Int × Int)) (e : Ending) (w' : World) : Prop :=
  ∃ A1' m c1' A2' c2', e = .returned (.agg #[.slice A1' m c1', .slice A2' n2 c2']) ∧ RNet w A1 A2 w' A1' A2' m n2 L' qs
theorem take_at {L : List Pk} {i : Nat} (h : i < L.length) : L.take (i + 1) = L.take i ++ [L.getD i pk0] := by
  rw [getD_eq pk0 h]; exact List.take_succ_eq_append_getElem h
theorem part_keep {W : World} {B g m c : Nat} {a b : Int} {M : List Pk} {K1 : List Pk} {x : Pk} (hm : btw (min a b) (max a b) x = false) (hk : K1 = keepF (min a b) (max a b) M ++ (if btw (min a b) (max a b) x = true then [] else [x])) (hl : (keepF (min a b) (max a b) M).length = m)
    (h : W.ownsRow B 31 3 (.slice (some ⟨g, 0, none⟩) (m + 1) c) (m + 1) (pcells (keepF (min a b) (max a b) M) ++ pcell x)) : K1.length = m + 1 ∧ W.ownsRow B 31 3 (.slice (some ⟨g, 0, none⟩) (m + 1) c) (m + 1) (pcells K1) := by
  rw [if_neg (by rw [hm]; decide)] at hk
  rw [hk]
  exact ⟨by simp [hl], row_more h⟩
theorem part_skip {a b : Int} {M K1 : List Pk} {x : Pk} (hm : btw (min a b) (max a b) x = true) (hk : K1 = keepF (min a b) (max a b) M ++ (if btw (min a b) (max a b) x = true then [] else [x])) : K1 = keepF (min a b) (max a b) M := by
  rw [if_pos hm, List.append_nil] at hk
  exact hk
def PtRel (w : World) (bz br gq cq n1 c1 n2 : Nat) (A1 : Option Addr) (a b : Int) (L : List Pk) (qs : List (Int × Int)) (v8 v9 : Value) (wr : World) : Prop :=
  ∃ (i : Nat) (A : Option Addr) (m c : Nat), i ≤ n1 ∧ v9 = .int .i64 i ∧ v8 = .slice A m c ∧ (keepF (min a b) (max a b) (L.take i)).length = m ∧ wr.ownsRow w.heap.size 31 3 (.slice A m c) m (pcells (keepF (min a b) (max a b) (L.take i))) ∧
    wr.heap[bz]? = some (.cells #[.slice A1 n1 c1, .slice (some ⟨gq, 0, none⟩) (n2 + 1) cq] 29 (0, 0)) ∧ wr.heap[br]? = some (.cells #[.slice none 0 0, .slice none 0 0] 29 (0, 0)) ∧ wr.ownsRow w.heap.size 69 2 (.slice (some ⟨gq, 0, none⟩) (n2 + 1) cq) (n2 + 1) (qcells (qs ++ [(a, b)])) ∧ Below w.heap.size w wr
set_option maxHeartbeats 8000000 in
theorem rpart_any {w : World} {A1 A2 : Option Addr} {n1 c1 n2 c2 : Nat} {L : List Pk} {qs : List (Int × Int)} (hp : PReads w A1 n1 L) (hq : QReads w A2 n2 qs) (hn1 : n1 ≤ 2000) (hn2 : n2 ≤ 1000) (a b : Int) :
    Calls Try.prog 24 #[.agg #[.slice A1 n1 c1, .slice A2 n2 c2], .int .i64 a, .int .i64 b] w (RPPost w A1 A2 (n2 + 1) (keepF (min a b) (max a b) L) (qs ++ [(a, b)])) := by
  obtain ⟨bz, hbz⟩ : ∃ b, b = w.heap.size := ⟨_, rfl⟩
  obtain ⟨wbz, hwbz⟩ : ∃ q, q = w.alloc (.cells #[.slice A1 n1 c1, .slice A2 n2 c2] 29) := ⟨_, rfl⟩
  have ebz : bz = w.heap.size := by rw [hbz]
  have hbwbz : Below w.heap.size w wbz := by rw [hwbz]; exact (Below.refl _ _).alloc (by omega) _
  obtain ⟨br, hbr⟩ : ∃ b, b = w.heap.size + 1 := ⟨_, rfl⟩
  obtain ⟨wbr, hwbr⟩ : ∃ q, q = wbz.alloc (.cells #[.slice none 0 0, .slice none 0 0] 29) := ⟨_, rfl⟩
  have ebr : br = wbz.heap.size := by rw [hbr, hwbz]; simp
  have hbwbr : Below w.heap.size w wbr := by rw [hwbr]; exact (hbwbz).alloc (by omega) _
  have xbz : wbz.heap[bz]? = some (.cells #[.slice A1 n1 c1, .slice A2 n2 c2] 29 (0, 0)) := by rw [hwbz, ebz]; exact new_block _ _
  replace xbz : wbr.heap[bz]? = some (.cells #[.slice A1 n1 c1, .slice A2 n2 c2] 29 (0, 0)) := by rw [hwbr]; exact ((box_below _ _).block _ (Array.getElem?_eq_some_iff.1 xbz).1).trans xbz
  have xbr : wbr.heap[br]? = some (.cells #[.slice none 0 0, .slice none 0 0] 29 (0, 0)) := by rw [hwbr, ebr]; exact new_block _ _
  have Xbz := Lib.hid xbz
  have Ebz := Lib.hid hbz
  have Wbz := Lib.hid hwbz
  have Sbz : Hid (w.heap.size ≤ bz) := Lib.hid (by rw [hbz]; omega)
  have Xbr := Lib.hid xbr
  have Ebr := Lib.hid hbr
  have Wbr := Lib.hid hwbr
  have Sbr : Hid (w.heap.size ≤ br) := Lib.hid (by rw [hbr]; omega)
  have HB := Lib.hid hbwbr
  clear hbwbz hwbz hbwbr hwbr hbz ebz xbz hbr ebr xbr
  obtain ⟨i9, hi9, hz90, hz91, hz92⟩ := info_parts info69
  have HP := Lib.hid hp
  have HQ := Lib.hid hq
  have HL := Lib.hid hp.len
  have HNE : Hid (bz ≠ br) := Lib.hid (by have := Ebz.out; have := Ebr.out; omega)
  have hb6 := box_below wbr (.cells #[] 69)
  have XZ6 := Lib.hid ((hb6.block _ (Array.getElem?_eq_some_iff.1 Xbz.out).1).trans Xbz.out)
  have XR6 := Lib.hid ((hb6.block _ (Array.getElem?_eq_some_iff.1 Xbr.out).1).trans Xbr.out)
  have HG6 := Lib.hid (new_block wbr (.cells #[] 69))
  have HB6 := Lib.hid (HB.out.trans (hb6.mono HB.out.size))
  have HQ6 := Lib.hid (hq.kept HB6.out)
  clear hp hq Xbz Xbr hb6
  have z1 := cell_of XZ6.out (j := 1) rfl
  go_enter Try.func24, Try.ntmps24
  go_upto_region 1 with fail
  rw [← Wbz.out, ← Wbr.out, ← Ebr.out, ← Ebz.out]
  go_wp2_with (first
    | (at_builtin; refine wpList_qcopy rfl (.tmp 11) (.tmp 13) rfl rfl rfl HQ6.out HG6.out w.heap.size HB.out.size HB6.out.size (by omega) ?_; intro g6 c6 w6 hrow hgrow; have XZ7 := Lib.hid ((hgrow.block _ (Array.getElem?_eq_some_iff.1 XZ6.out).1 (by simp)).trans XZ6.out); have XR7 := Lib.hid ((hgrow.block _ (Array.getElem?_eq_some_iff.1 XR6.out).1 (by simp)).trans XR6.out); have HB7 := Lib.hid (HB6.out.grown hgrow HB6.out.size (fun _ e => by cases e)); have HO7 := Lib.hid (own_below hrow (box_below w6 (.cells #[.int .i64 a, .int .i64 b] 69))); clear hrow hgrow z1)
    | (at_builtin; refine wpList_append_lies _ rfl (.tmp 15) (.tmp 19) 27 rfl w.heap.size 69 i9 _ 2 16 Try.underlying27 hi9 hz90 hz91 hz92 rfl (by decide) _ n2 (qcells qs) rfl HO7.out ⟨w6.heap.size, 0, none⟩ 1 1 (qcell (a, b)) rfl rfl (World.news_of_block (new_block w6 _)) (by intro u hu; simp [qcell] at hu; rcases hu with rfl | rfl <;> rfl) (by decide) (by unfold maxLen; omega) (by omega) (Nat.le_trans HB7.out.size (box_below w6 _).size) _ rfl ?_; intro gq cq w8 hown hgrow hat hlt8; have XB := box_below w6 (.cells #[.int .i64 a, .int .i64 b] 69); have hz7 := (XB.block _ (Array.getElem?_eq_some_iff.1 XZ7.out).1).trans XZ7.out; have hr7 := (XB.block _ (Array.getElem?_eq_some_iff.1 XR7.out).1).trans XR7.out; have XZ8 := Lib.hid ((hgrow.block _ (Array.getElem?_eq_some_iff.1 hz7).1 (fun e => own_ne HO7.out hz7 (by decide) e.symm)).trans hz7); have XR8 := Lib.hid ((hgrow.block _ (Array.getElem?_eq_some_iff.1 hr7).1 (fun e => own_ne HO7.out hr7 (by decide) e.symm)).trans hr7); have HB8 := Lib.hid ((HB7.out.trans (XB.mono HB7.out.size)).grown hgrow (Nat.le_trans HB7.out.size XB.size) (fun k e => (HO7.out.lt k e).1)); have HO8 := Lib.hid (qrow_more hown); clear hown hgrow hat hlt8 XB hz7 hr7; have z1 := cell_of XZ8.out (j := 1) rfl; have fz := frozen_of_row w8 bz 1 _ _ XZ8.out)
    | fail)
  obtain ⟨wl, hwl⟩ : ∃ q, q = w8.setCell ⟨bz, 1, none⟩ (.slice (some ⟨gq, 0, none⟩) (n2 + 1) cq) := ⟨_, rfl⟩
  rw [← hwl]
  have hoth : ∀ k, k ≠ bz → wl.heap[k]? = w8.heap[k]? := fun k hk => by rw [hwl]; exact Go.Deep.blk_setCell_other w8 ⟨bz, 1, none⟩ _ k hk
  have HZL : Hid (wl.heap[bz]? = some (.cells #[.slice A1 n1 c1, .slice (some ⟨gq, 0, none⟩) (n2 + 1) cq] 29 (0, 0))) := Lib.hid (by rw [hwl]; exact heap_setCell_same w8 bz 1 _ 29 _ XZ8.out)
  have HRL := Lib.hid ((hoth br (Ne.symm HNE.out)).trans XR8.out)
  have HQL := Lib.hid (own_tag HO8.out (fun k cs hcs => (hoth k (fun e => by rw [e, XZ8.out] at hcs; cases hcs)).trans hcs))
  have HBL : Hid (Below w.heap.size w wl) := Lib.hid (by rw [hwl]; exact HB8.out.setCell Sbz.out _)
  clear hwl hoth z1 fz
  go_loopw [8, 9] (fun v8 v9 wr => PtRel w bz br gq cq n1 c1 n2 A1 a b L qs v8 v9 wr) (fun _ v9 _ => n1 - (intOf v9).toNat)
  case atStart => exact ⟨0, none, 0, 0, Nat.zero_le _, rfl, rfl, rfl, ⟨rfl, .inl ⟨rfl, rfl⟩⟩, HZL.out, HRL.out, HQL.out, HBL.out⟩
  case round =>
    obtain ⟨i, A, m, c, hi, rfl, rfl, hlw, how, hzw, hrw, hqw, hbw⟩ := hrel
    have HLW := Lib.hid hlw
    have HOW := Lib.hid how
    have HZW := Lib.hid hzw
    have HRW := Lib.hid hrw
    have HQW := Lib.hid hqw
    have HBW := Lib.hid hbw
    have hmi : m ≤ i := by rw [← hlw]; refine Nat.le_trans (List.length_filter_le _ _) ?_; rw [List.length_take]; exact Nat.min_le_left _ _
    clear hlw how hzw hrw hqw hbw
    by_cases hlt : i < n1
    · obtain ⟨b1, off, rfl, s0, s1, s2⟩ := preads_at (HP.out.kept HBW.out) hlt
      obtain ⟨x, hx⟩ : ∃ x, x = L.getD i pk0 := ⟨_, rfl⟩
      rw [← hx] at s0 s1 s2
      have HTK : Hid (L.take (i + 1) = L.take i ++ [x]) := Lib.hid (by rw [hx]; exact take_at (by rw [HL.out]; exact hlt))
      obtain ⟨bx, hbx⟩ : ∃ b, b = wr.heap.size := ⟨_, rfl⟩
      obtain ⟨w1, hw1⟩ : ∃ w1, w1 = wr.alloc (.cells #[.int .i64 x.f, .int .i64 x.t, .string x.b] 31) := ⟨_, rfl⟩
      have hb1 : Below wr.heap.size wr w1 := by rw [hw1]; exact box_below wr _
      have XX1 : Hid (w1.heap[bx]? = some (.cells #[.int .i64 x.f, .int .i64 x.t, .string x.b] 31 (0, 0))) := Lib.hid (by rw [hw1, hbx]; exact new_block wr _)
      have XZ1 := Lib.hid ((hb1.block _ (Array.getElem?_eq_some_iff.1 HZW.out).1).trans HZW.out)
      have XR1 := Lib.hid ((hb1.block _ (Array.getElem?_eq_some_iff.1 HRW.out).1).trans HRW.out)
      have HO1 := Lib.hid (own_below HOW.out hb1)
      have HQ1 := Lib.hid (own_below HQW.out hb1)
      have HB1 := Lib.hid (HBW.out.trans (hb1.mono HBW.out.size))
      have HW1 := Lib.hid hw1
      have HBX := Lib.hid hbx
      have hi0 : (0 : Int) ≤ (i : Int) := by omega
      have hi1 : (i : Int) < (n1 : Int) := by omega
      have z0 := cell_of HZW.out (j := 0) rfl
      clear hx hw1 hb1 hbx
      go_upto_region 8 with fail
      rw [← HW1.out, ← HBX.out]
      clear s0 s1 s2 z0
      have x0 := cell_of XX1.out (j := 0) rfl
      have x1 := cell_of XX1.out (j := 1) rfl
      have x2 := cell_of XX1.out (j := 2) rfl
      obtain ⟨q1, hq1⟩ : ∃ q, (x.f == a) = q := ⟨_, rfl⟩
      obtain ⟨q2, hq2⟩ : ∃ q, (x.t == b) = q := ⟨_, rfl⟩
      obtain ⟨q3, hq3⟩ : ∃ q, (x.f == b) = q := ⟨_, rfl⟩
      obtain ⟨q4, hq4⟩ : ∃ q, (x.t == a) = q := ⟨_, rfl⟩
      have HM : Hid (btw (min a b) (max a b) x = ((q1 && q2) || (q3 && q4))) := Lib.hid (by rw [btw_eq, hq1, hq2, hq3, hq4])
      have HKS := Lib.hid (keep_snoc (min a b) (max a b) (L.take i) x)
      rw [← HTK.out] at HKS
      have hb2 := box_below w1 (.cells #[.int .i64 x.f, .int .i64 x.t, .string x.b] 31)
      have HS2 := Lib.hid (SRow.of_own HLW.out (own_below HO1.out hb2))
      have HZ2 := Lib.hid ((hb2.block _ (Array.getElem?_eq_some_iff.1 XZ1.out).1).trans XZ1.out)
      have HR2 := Lib.hid ((hb2.block _ (Array.getElem?_eq_some_iff.1 XR1.out).1).trans XR1.out)
      have HQ2 := Lib.hid (own_below HQ1.out hb2)
      have HB2 := Lib.hid (HB1.out.trans (hb2.mono HB1.out.size))
      clear hb2
      cases q1 <;> cases q2 <;> cases q3 <;> cases q4
      all_goals
        go_wp2_with (first
          | (at_builtin; refine wpList_append_sent rfl (.tmp 58) (.tmp 60) rfl rfl HS2.out ⟨w1.heap.size, 0, none⟩ 1 1 (pcell x) rfl rfl (World.news_of_block (new_block w1 _)) (by intro u hu; simp [pcell] at hu; rcases hu with rfl | rfl | rfl <;> rfl) (by decide) (by omega) HB2.out.size ?_; intro g8 c8 w8 hown hgrow hat hlt8; have HR := Lib.hid (part_keep HM.out HKS.out HLW.out hown); have HZ8 := Lib.hid (grow_other hgrow HS2.out HZ2.out (by decide)); have HR8 := Lib.hid (grow_other hgrow HS2.out HR2.out (by decide)); have HQ8 := Lib.hid (own_tag HQ2.out (fun k cs hcs => grow_other hgrow HS2.out hcs (by decide))); have HB8 := Lib.hid (grow_below hgrow HS2.out HB2.out HB2.out.size); clear hown hgrow hat hlt8)
          | fail)
        first
          | (go_round
             case rel => exact ⟨i + 1, _, m + 1, _, by omega, by go_num, rfl, HR.out.1, HR.out.2, HZ8.out, HR8.out, HQ8.out, HB8.out⟩
             case measure => simp [intOf]; omega)
          | (go_round
             case rel => exact ⟨i + 1, A, m, c, by omega, by go_num, rfl, (by rw [part_skip HM.out HKS.out]; exact HLW.out), (by rw [part_skip HM.out HKS.out]; exact HO1.out), XZ1.out, XR1.out, HQ1.out, HB1.out⟩
             case measure => simp [intOf]; omega)
    · obtain rfl : i = n1 := by omega
      have hi1 : ¬ (i : Int) < (i : Int) := by omega
      have htk : L.take i = L := List.take_of_length_le (by rw [HL.out]; exact Nat.le_refl _)
      rw [htk] at HLW HOW
      have HOK : Hid (∀ x ∈ keepF (min a b) (max a b) L, POk x) := Lib.hid (fun x hx => HP.out.ok x (List.mem_filter.1 hx).1)
      clear htk
      obtain ⟨f1z, f1r, f2r, fnet⟩ := fin_net (A1 := A1) (A2o := A2) HZW.out HRW.out HNE.out HOW.out HLW.out HOK.out (fun W' hk => qrow_reads (own_tag HQW.out (fun k cs hcs => (hk k (fun e => by rw [e, HZW.out] at hcs; cases hcs) (fun e => by rw [e, HRW.out] at hcs; cases hcs)).trans hcs)) (by simp [HQ.out.len])) (fun a e => .inr (HQW.out.lt a.block (by rw [e]; rfl))) HBW.out Sbz.out Sbr.out
      obtain ⟨w9, hw9⟩ : ∃ q, q = ((wr.setCell ⟨bz, 0, none⟩ (.slice A m c)).setCell ⟨br, 0, none⟩ (.slice A m c)).setCell ⟨br, 1, none⟩ (.slice (some ⟨gq, 0, none⟩) (n2 + 1) cq) := ⟨_, rfl⟩
      rw [← hw9] at f2r fnet
      have z0 := cell_of HZW.out (j := 0) rfl
      have fz := frozen_of_row wr bz 0 _ _ HZW.out
      have y0 := cell_of f1z (j := 0) rfl
      have y1 := cell_of f1z (j := 1) rfl
      have r0 := cell_of f1r (j := 0) rfl
      have r1 := cell_of f1r (j := 1) rfl
      have f0 := frozen_of_row _ br 0 _ _ f1r
      have f1 := frozen_of_row _ br 1 _ _ f1r
      have t0 := cell_of f2r (j := 0) rfl
      have t1 := cell_of f2r (j := 1) rfl
      have HE : Hid (RPPost w A1 A2 (n2 + 1) (keepF (min a b) (max a b) L) (qs ++ [(a, b)]) (.returned (.agg #[.slice A m c, .slice (some ⟨gq, 0, none⟩) (n2 + 1) cq])) w9) := Lib.hid ⟨_, _, _, _, _, rfl, fnet⟩
      have HW9 := Lib.hid hw9
      clear f1z f1r f2r fnet hw9
      go_wp2_with fail
      rw [← HW9.out]
      exact bodyPost_ret (v := .agg #[.slice A m c, .slice (some ⟨gq, 0, none⟩) (n2 + 1) cq]) (by simp [results, Try.results24, go_sem, t0, t1]) rfl HE.out
end Go.Proofs.Ytdlhjpcofldfnaa
