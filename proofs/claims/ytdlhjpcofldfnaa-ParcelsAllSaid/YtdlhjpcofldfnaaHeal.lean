/-
  What Part and Heal leave. Conditions: the ends are ints; not too many pairs are apart.
-/
import Derived.Test.YtdlhjpcofldfnaaDelF
namespace Go.Proofs.Ytdlhjpcofldfnaa
set_option maxRecDepth 100000
open Go.ChangeShapes Go.WideShapes Go.ChangeAt Go.RowKit

theorem run_clear_map (w : World) (mb : Nat) (es : Array MapEntry) (clock : Nat) (h : w.heap[mb]? = some (.map es clock)) (ty : TypeId) :
    (Builtin.clear_ #[49] ty #[.map (some mb)]).run Try.prog w = .ok (.tuple #[]) (Go.ChangeMaps.setBlock w mb (.map #[] clock)) := by
  simp [Builtin.clear_, run_underlying Try.underlying49, Go.MapKept.run_getObj_map h, Go.MapKept.run_setObj_map _ h, Go.ChangeMaps.setBlock]
theorem empty_map {w : World} {mb clock : Nat} (h : w.heap[mb]? = some (.map #[] clock)) : w.ownsMap Try.prog 63 unitElem mb 0 (.map [] : DataW Unit) :=
  ⟨#[], clock, h, ⟨by simp, Go.MapKept.stamped_empty clock, by simp⟩, Nat.le_refl _, rfl⟩
theorem row_not_map {w : World} {base e size n mb : Nat} {v : Value} {xs : List Value} {es : Array MapEntry} {clock : Nat} (h : w.ownsRow base e size v n xs) (hm : w.heap[mb]? = some (.map es clock)) : v.ownBlock ≠ some mb := fun hv => by
  rcases h.2 with ⟨rfl, _⟩ | ⟨g, cap, cur, rfl, _, hg, _⟩
  · simp [Value.ownBlock] at hv
  · simp only [Value.ownBlock, Option.some.injEq] at hv
    subst hv
    rw [hm] at hg
    cases hg
/-- The map turns. -/
theorem net_map {w w' : World} {B np mb n : Nat} {rv : Value} {L : List Pk} {ap ap' : List (Int × Int)} {D : DataW Unit} (h : NetW w B np mb rv L ap) (hg : w.grownBy w' (some mb)) (hm : w'.ownsMap Try.prog 63 unitElem mb n D) (hn : n ≤ ap'.length) (hD : ApOk D ap') (hs : ap'.length ≤ 1000000) :
    NetW w' B np mb rv L ap' ∧ Kn B np mb rv rv w w' := by
  obtain ⟨n0, D0, -, ⟨es, clock, hb, -⟩, -⟩ := h.map
  have hne := row_not_map h.row hb
  have hnm : np ≠ mb := fun e => by
    have := h.here
    rw [e, hb] at this
    cases this
  have hk : ∀ k, k < w.heap.size → k ≠ mb → w'.heap[k]? = w.heap[k]? := fun k hk h1 => hg.block k hk (fun e => h1 (Option.some.inj e))
  refine ⟨⟨(hk np h.lt.1 hnm).trans h.here, h.baseN, h.baseM, ⟨h.row.1, ?_⟩, ⟨n, D, hn, hm, hD⟩, h.ok, h.small.1, hs⟩, ⟨(Below.refl _ _).grown hg h.size (fun k e => by rw [← Option.some.inj e]; exact h.baseM), fun k k0 _ k2 _ => hk k k0 k2, fun k e => .inl e⟩⟩
  rcases h.row.2 with hn' | ⟨k, cap, cur, rfl, hbg, hg', rest⟩
  · exact .inl hn'
  · exact .inr ⟨k, cap, cur, rfl, hbg, (hk k (Array.getElem?_eq_some_iff.1 hg').1 (fun e => hne (by rw [e]; rfl))).trans hg', rest⟩
def HlPost (B np mb : Nat) (rv : Value) (L : List Pk) (w : World) (e : Ending) (w' : World) : Prop := e = .returned (.tuple #[]) ∧ NetW w' B np mb rv L [] ∧ Kn B np mb rv rv w w'
set_option maxHeartbeats 1000000 in
theorem heal_any {w : World} {B np mb : Nat} {rv : Value} {L : List Pk} {ap : List (Int × Int)} (h : NetW w B np mb rv L ap) :
    Calls Try.prog 18 #[.pointer (some ⟨np, 0, none⟩)] w (HlPost B np mb rv L w) := by
  obtain ⟨n0, D0, -, ⟨es, clock, hb, -⟩, -⟩ := h.map
  have hclr := run_clear_map w mb es clock hb
  have c1 := cell_of h.here (j := 1) rfl
  obtain ⟨w', hw'⟩ : ∃ w', w' = Go.ChangeMaps.setBlock w mb (.map #[] clock) := ⟨_, rfl⟩
  rw [← hw'] at hclr
  have HE : Hid (HlPost B np mb rv L w (.returned (.tuple #[])) w') := Lib.hid (by
    have hg : w.grownBy w' (some mb) := by rw [hw']; exact World.mapTurned.grown ⟨es, clock, #[], clock, hb, rfl⟩
    have hh : w'.heap[mb]? = some (.map #[] clock) := by rw [hw']; exact Go.ChangeMaps.heap_setBlock_same hb _
    obtain ⟨h1, h2⟩ := net_map (ap' := []) h hg (empty_map hh) (Nat.le_refl _) apok_nil (Nat.zero_le _)
    exact ⟨rfl, h1, h2⟩)
  clear h hb hw'
  go_enter Try.func18, Try.ntmps18
  go_wp2_with fail
  go_end0
  exact HE.out
def PtPost (B np mb : Nat) (rv : Value) (L : List Pk) (ap : List (Int × Int)) (a b : Int) (w : World) (e : Ending) (w' : World) : Prop :=
  e = .returned (.tuple #[]) ∧ ∃ rv', NetW w' B np mb rv' (keepF (min a b) (max a b) L) ((min a b, max a b) :: ap) ∧ Kn B np mb rv rv' w w'
set_option maxHeartbeats 2000000 in
theorem part_any {w : World} {B np mb : Nat} {rv : Value} {L : List Pk} {ap : List (Int × Int)} (h : NetW w B np mb rv L ap) {a b : Int} (ha : I64 a) (hb : I64 b) (hap : ap.length < 1000000) :
    Calls Try.prog 17 #[.pointer (some ⟨np, 0, none⟩), .int .i64 a, .int .i64 b] w (PtPost B np mb rv L ap a b w) := by
  obtain ⟨A, c, rfl, -, -, -⟩ := own_form h.row
  obtain ⟨lo, hlo⟩ : ∃ m, m = min a b := ⟨_, rfl⟩
  obtain ⟨hi, hhi⟩ : ∃ m, m = max a b := ⟨_, rfl⟩
  obtain ⟨kl, hkl⟩ := key_any a b ha hb
  have HBT : Hid (∀ W, Calls Try.prog 29 #[.int .i64 a, .int .i64 b] W fun e w' => e = .returned (.agg #[.int .i64 lo, .int .i64 hi]) ∧ Below W.heap.size W w') := Lib.hid (fun W => by rw [hlo, hhi]; exact between_any a b W)
  have HKL : Hid (keyOf Try.prog 63 (.agg #[.int .i64 lo, .int .i64 hi]) = some kl) := Lib.hid (by rw [hlo, hhi]; exact hkl)
  have HKV := Lib.hid hkl
  have HN := Lib.hid h
  have HLO := Lib.hid hlo
  have HHI := Lib.hid hhi
  have HAP := Lib.hid hap
  clear h ha hb hlo hhi hkl hap
  go_enter Try.func17, Try.ntmps17
  go_wp2_with fail
  refine (HBT.out w).mono ?_
  rintro e w1 ⟨rfl, hb1⟩
  obtain ⟨pb, hpb⟩ : ∃ b, b = w1.heap.size := ⟨_, rfl⟩
  obtain ⟨w2, hw2⟩ : ∃ w2, w2 = w1.alloc (.cells #[.int .i64 lo, .int .i64 hi] 63) := ⟨_, rfl⟩
  have hb2 : Below w1.heap.size w1 w2 := by rw [hw2]; exact box_below w1 _
  have HN2 := Lib.hid ((HN.out.kept hb1).kept hb2)
  have HX2 : Hid (Bx np mb (.slice A L.length c) w2 pb (.cells #[.int .i64 lo, .int .i64 hi] 63)) := Lib.hid (by rw [hw2, hpb]; exact Bx.new (HN.out.kept hb1) _)
  have HB2 := Lib.hid (hb1.trans (hb2.mono hb1.size))
  obtain ⟨nn, D, hnn, hmap, hD⟩ := HN2.out.map
  have HMAP : Hid (w2.drew.ownsMap Try.prog 63 unitElem mb nn D) := Lib.hid (ownsMap_kept hmap rfl)
  have HNN := Lib.hid hnn
  have HDD := Lib.hid hD
  have HTD := Lib.hid (hmap.isMap)
  have hnx : nn < maxLen := by have := HAP.out; unfold maxLen; omega
  have HNX := Lib.hid hnx
  have c1 := cell_of HN2.out.here (j := 1) rfl
  have x0 := cell_of HX2.out.here (j := 0) rfl
  have x1 := cell_of HX2.out.here (j := 1) rfl
  have HW2 := Lib.hid hw2
  have HPB := Lib.hid hpb
  clear hb1 hb2 hnn hmap hD hnx hw2 hpb
  go_upto_region 1 with fail
  rw [← HW2.out, ← HPB.out]
  go_still_tail 6, (by kernel_rfl)
  change wpList _ _ _ _ _ w2.drew
  go_wp2_with (first
    | (at_mapUpdate; refine wpList_mapUpdate_own _ rfl _ _ _ 49 rfl 63 65 law63 Try.underlying49 _ mb nn _ rfl HMAP.out HNX.out _ _ _ rfl rfl HKL.out _ [] unitElem_mk ?_; intro w3 hown3 hgrow3; obtain ⟨hn3, hk3⟩ := net_map (ap' := (lo, hi) :: ap) (HN2.out.kept (Below.refl _ _).drew) hgrow3 hown3 (by have := HNN.out; simp only [List.length_cons]; omega) (by rw [HLO.out, HHI.out]; exact apok_put HDD.out HTD.out HKV.out) (by have := HAP.out; simp only [List.length_cons]; omega); have HN3 := Lib.hid hn3; have HK3 := Lib.hid (((Kn.of_below HB2.out HN.out.size).trans (Kn.of_below (Below.refl _ _).drew HN2.out.size)).trans hk3); have hx3 := ((HX2.out.kn (Kn.of_below (Below.refl _ _).drew HN2.out.size)).kn hk3).here; have HX3 := Lib.hid hx3; have c3 := cell_of hn3.here (j := 0) rfl; clear hown3 hgrow3 hn3 hk3 hx3)
    | fail)
  have HDF := Lib.hid (dfunc_any B A L.length c L w3 pb lo hi HN3.out.row rfl HN3.out.ok HX3.out HN3.out.small.1)
  refine HDF.out.mono ?_
  rintro e w4 ⟨rfl, hown4, hgr4⟩
  obtain ⟨kl4, hkl4⟩ : ∃ m, m = keepF lo hi L := ⟨_, rfl⟩
  rw [← hkl4] at hown4 ⊢
  obtain ⟨hn5, hk5⟩ := net_row (rv' := .slice A kl4.length c) (L' := kl4) HN3.out hown4 hgr4 (fun k hk => .inl (by cases A <;> exact hk)) (fun x hx => HN3.out.ok x (by rw [hkl4] at hx; exact (List.mem_filter.1 hx).1)) (by rw [hkl4]; exact Nat.le_trans (List.length_filter_le _ _) HN3.out.small.1)
  have hh4 := (hgr4.block np HN3.out.lt.1 (fun e => own_ne HN3.out.row HN3.out.here (by decide) e.symm)).trans HN3.out.here
  obtain ⟨w5, hw5⟩ : ∃ w5, w5 = w4.setCell ⟨np, 0, none⟩ (.slice A kl4.length c) := ⟨_, rfl⟩
  rw [← hw5] at hn5 hk5
  have HE : Hid (PtPost B np mb (.slice A L.length c) L ap a b w (.returned (.tuple #[])) w5) := Lib.hid ⟨rfl, _, by rw [← HLO.out, ← HHI.out, ← hkl4]; exact hn5, HK3.out.trans hk5⟩
  have d0 := cell_of hh4 (j := 0) rfl
  have df := frozen_of_row w4 np 0 _ _ hh4
  have HW5 := Lib.hid hw5
  clear hown4 hgr4 hkl4 hn5 hk5 hh4 hw5 c3
  go_wp2_with fail
  rw [← HW5.out]
  go_end0
  exact HE.out
end Go.Proofs.Ytdlhjpcofldfnaa
