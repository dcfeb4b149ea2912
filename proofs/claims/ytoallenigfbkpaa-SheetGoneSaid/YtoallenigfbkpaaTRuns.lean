/-
  What Runs returns: the runs of the blocks that are there. No condition.
-/
import Derived.Test.YtoallenigfbkpaaTBlank
import Derived.Test.YtoallenigfbkpaaTIter
namespace Go.Proofs.Ytoallenigfbkpaa
set_option maxRecDepth 100000
open Go.ChangeShapes Go.WideShapes Go.ChangeAt Go.RowKit Go.Proofs.Sg

def RuPost (w : World) (K : List Nat) (e : Ending) (w' : World) : Prop := ∃ v, e = .returned v ∧ w'.ownsRow w.heap.size 46 2 v (rn K K.length).length (pcells (rn K K.length)) ∧ Below w.heap.size w w'
theorem keys_any (mb : Nat) (W : World) : Calls Try.prog 39 #[.map (some mb)] W fun e w' => e = .returned (.func (.func 43) #[] #[.pointer (some ⟨W.heap.size, 0, none⟩)]) ∧ W.alloc (.cells #[.map (some mb)] 50) = w' :=
  (callsIn_wide.1 (maps_Keys_any (some mb) W)).mono fun _ _ h => ⟨h.1, h.2.symm⟩
def SoPost (K : List Nat) (w : World) (e : Ending) (w' : World) : Prop := ∃ v, e = .returned v ∧ w'.ownsRow w.heap.size 3 1 v K.length (ncells K) ∧ Below w.heap.size w w'
theorem sorted_any {w : World} {mb : Nat} {K : List Nat} {f : Byt} (h : MW w mb K f) :
    Calls Try.prog 38 #[.func (.func 43) #[] #[.pointer (some ⟨w.heap.size, 0, none⟩)]] (w.alloc (.cells #[.map (some mb)] 50)) (SoPost K (w.alloc (.cells #[.map (some mb)] 50))) := by
  have hlen := h.len
  have hsrt := h.srt
  obtain ⟨M, hm, hs, hh, -⟩ := h.ex
  refine (callsIn_wide.1 (slices_Sorted_keys mb _ M blR w hm (by rw [hs]; unfold maxLen; omega) (by rw [hs]; omega))).mono ?_
  rintro e w' ⟨v, ss, rfl, hp, hrow, -, hb⟩
  obtain ⟨es, hD, hpw, _⟩ := hm.entries lawI
  obtain ⟨es', hD', hko⟩ := hm.keysOf
  obtain rfl : es = es' := by rw [hD] at hD'; simpa using hD'
  have hnd : (K.map (fun k : Nat => (k : Int))).Nodup := List.pairwise_map.2 (hsrt.imp (fun h1 => by omega))
  have hp2 : (K.map (fun k : Nat => (k : Int))).Perm (intKeys M) := by
    rw [hD]
    refine perm_intKeys hpw (fun p hp => by obtain ⟨v, hv⟩ := hko p hp; obtain ⟨x, _, hx, _⟩ := Maps.keyOf_i64 Try.underlying3 hv; exact ⟨x, hx⟩) hnd (fun x => ?_)
    rw [← hD, hh, List.mem_map]
    constructor
    · rintro ⟨k, hk, rfl⟩; exact ⟨k, hk, rfl⟩
    · rintro ⟨k, hk, rfl⟩; exact ⟨k, hk, rfl⟩
  have hs2 : (K.map (fun k : Nat => (k : Int))).mergeSort leI = K.map (fun k : Nat => (k : Int)) := List.mergeSort_of_pairwise (List.pairwise_map.2 (hsrt.imp (fun h1 => by simp only [leI, decide_eq_true_eq]; omega)))
  have e1 := mergeSort_of_perm_i (hp.trans hp2.symm)
  have e2 : ss.length = K.length := by have := (hp.trans hp2.symm).length_eq; rwa [List.length_map] at this
  change w'.ownsRow _ _ _ _ _ ((ss.mergeSort leI).map encZ) at hrow
  rw [e1, hs2, e2, List.map_map] at hrow
  refine ⟨v, rfl, ?_, hb⟩
  rw [ncells_map]
  exact hrow
/-! ### Runs -/
def lnOf : Value → Nat | .slice _ n _ => n | _ => 0
theorem ncell_at {w : World} {A : Option Addr} {n : Nat} {K : List Nat} {m : Nat} (h : Rd ncell 1 w A n (K.drop m)) (hn : 0 < n) : ∃ b off, A = some ⟨b, off, none⟩ ∧ w.cell? ⟨b, off, none⟩ = some (.int .i64 ((K.getD m 0 : Nat) : Int)) := by
  obtain ⟨b, off, x, h1, h2, h3⟩ := h.at hn
  rw [List.getElem?_drop, Nat.add_zero] at h2
  refine ⟨b, off, h1, ?_⟩
  have := h3 0 _ rfl
  rw [List.getD_eq_getElem?_getD, h2]
  simpa using this
/-- All but the first. -/
theorem tail_of {w : World} {b off n c : Nat} {K : List Nat} {m : Nat} (h : Rd ncell 1 w (some ⟨b, off, none⟩) n (K.drop m)) (hn : 0 < n) (hc : n ≤ c) : ∃ A, (∀ W : World, (Instr.slice 28 (.slice (some ⟨b, off, none⟩) n c) (some (.int .i64 1)) none none).run Try.prog W = .ok (.slice A (n - 1) (c - 1)) W) ∧ Rd ncell 1 w A (n - 1) (K.drop (m + 1)) := by
  obtain ⟨i0, hi, hz0, hz1, hz2⟩ := info_parts infoI
  have e : Try.prog.elem 28 = 3 := by kernel_rfl
  have hl : (K.drop (m + 1)).length = n - 1 := by have := h.len; rw [List.length_drop] at this ⊢; omega
  by_cases hne : c = 1
  · refine ⟨some ⟨b, off, none⟩, fun W => ?_, ⟨hl, fun h0 => absurd h0 (by omega)⟩⟩
    rw [run_slice_l (P := Try.prog) (w := W) 28 (some ⟨b, off, none⟩) n c Try.underlying28 .i64 1 (by omega) (by omega)]
    simp [e, sizeOf, typeInfo, hi, hz1, sliced, hne]
  · refine ⟨some ⟨b, off + 1, none⟩, fun W => ?_, ⟨hl, fun h0 => ⟨b, off + 1, rfl, fun i hi' j v hv => ?_⟩⟩⟩
    · rw [run_slice_l (P := Try.prog) (w := W) 28 (some ⟨b, off, none⟩) n c Try.underlying28 .i64 1 (by omega) (by omega)]
      simp [e, sizeOf, typeInfo, hi, hz1, sliced, hne, Go.WideShapes.add_plain]
    · obtain ⟨b', o', e1, hc'⟩ := h.cells hn
      injection e1 with e1
      injection e1 with e1 e2
      subst e1; subst e2
      have hi2 : i + 1 < (K.drop m).length := by rw [List.length_drop] at hi' ⊢; omega
      have e9 : (K.drop m)[i + 1] = (K.drop (m + 1))[i] := by
        have e8 : m + (i + 1) = m + 1 + i := by omega
        simp only [List.getElem_drop, e8]
      have := hc' (i + 1) hi2 j v (by rw [e9]; exact hv)
      rw [← this]
      congr 2
      omega
theorem run_two (W : World) (x y : Int) : (Instr.buildSlice 55 1 #[(0, .agg #[.int .i64 x, .int .i64 y])]).run Try.prog W = .ok (.slice (some ⟨W.heap.size, 0, none⟩) 1 1) (W.alloc (.cells #[.int .i64 x, .int .i64 y] 46)) := by
  kernel_rfl
set_option maxHeartbeats 4000000 in
theorem runs_any {w : World} {B sp mb : Nat} {S : Sh} (h : SW w B sp mb S) : Calls Try.prog 27 #[.pointer (some ⟨sp, 0, none⟩)] w (RuPost w S.K) := by
  have HK := Lib.hid (keys_any mb w)
  have HSO := Lib.hid (sorted_any h.map)
  have HLEN := Lib.hid h.map.len
  have HLIM := Lib.hid h.map.lim
  obtain ⟨w1, hw1⟩ : ∃ w1, w1 = w.alloc (.cells #[.map (some mb)] 50) := ⟨_, rfl⟩
  have hb1 : Below w.heap.size w w1 := by rw [hw1]; exact box_below w _
  rw [← hw1] at HK HSO
  have d1 := cell_of h.here (j := 1) rfl
  have HB1 := Lib.hid hb1
  obtain ⟨K, hK⟩ : ∃ K, K = S.K := ⟨_, rfl⟩
  rw [← hK] at HSO HLEN HLIM ⊢
  clear h hw1 hb1 hK
  go_enter Try.func27, Try.ntmps27
  go_wp2_with fail
  go_step3
  go_wp2_with fail
  refine HK.out.mono ?_
  rintro e w1' ⟨rfl, rfl⟩
  go_wp2_with fail
  refine HSO.out.mono ?_
  rintro e w2 ⟨v, rfl, hrow, hb2⟩
  obtain ⟨A, cp, rfl, hcp, -, -⟩ := own_form hrow
  have HR0 : Hid (Rd ncell 1 w2 A K.length K) := Lib.hid (Rd.of_own hrow (fun _ _ => rfl) (by omega))
  have HB2 := Lib.hid (HB1.out.trans (hb2.mono HB1.out.size))
  have HCP := Lib.hid hcp
  obtain ⟨i0, hi, hz0, hz1, hz2⟩ := info_parts infoT
  clear hrow hb2 d1 hcp
  go_wp2_with fail
  go_step3
  go_wp2_with fail
  go_loopg [3, 4] K.length (fun g u l wr => ∃ (m : Nat) (A : Option Addr) (c : Nat), m + g = K.length ∧ l = .slice A g c ∧ g ≤ c ∧ Hid (Rd ncell 1 w2 A g (K.drop m)) ∧ Hid (m = 0 ∨ g = 0 ∨ K.getD m 0 ≠ K.getD (m - 1) 0 + 1) ∧ Hid (wr.ownsRow w2.heap.size 46 2 u (rn K m).length (pcells (rn K m))) ∧ Hid (Below w2.heap.size w2 wr))
  case atStart => exact ⟨0, A, cp, by omega, rfl, HCP.out, Lib.hid (by simpa using HR0.out), Lib.hid (.inl rfl), Lib.hid (World.ownsRow_nil _ _ _ _), Lib.hid (Below.refl _ _)⟩
  case round =>
    obtain ⟨m, A, c, hm, rfl, hc, HR, HM, HO, HX⟩ := hrel
    cases gk with
    | zero =>
      have HE : Hid (RuPost w K (.returned u3) wr) := Lib.hid (by
        have h := HO.out
        have e : m = K.length := by omega
        rw [e] at h
        exact ⟨_, rfl, own_base h HB2.out.size, HB2.out.trans (HX.out.mono HB2.out.size)⟩)
      go_wp2_with fail
      (try rw [Exit.noGoto_ret])
      go_ret
      exact HE.out
    | succ g =>
      obtain ⟨b, off, rfl, c0⟩ := ncell_at (HR.out.below HX.out) (by omega)
      obtain ⟨x, hx⟩ : ∃ x : Nat, K.getD m 0 = x := ⟨_, rfl⟩
      rw [hx] at c0
      have hn0 : (0 : Int) < ((g + 1 : Nat) : Int) := by omega
      have HXX := Lib.hid hx
      have HM1 := Lib.hid hm
      clear hx hm
      go_wp2_with fail
      go_loopg [3, 4, 6] g (fun g2 u l y wr' => ∃ (m2 : Nat) (A2 : Option Addr) (c2 z : Nat), u = u3 ∧ m ≤ m2 ∧ m2 + g2 + 1 = K.length ∧ l = .slice A2 (g2 + 1) c2 ∧ g2 + 1 ≤ c2 ∧ y = .int .i64 (z : Int) ∧ Hid (Rd ncell 1 w2 A2 (g2 + 1) (K.drop m2)) ∧ Hid (K.getD m2 0 = z ∧ rn K (m2 + 1) = rn K m ++ [(x, z)]) ∧ wr' = wr)
      case atStart => exact ⟨m, _, c, x, rfl, Nat.le_refl _, by have := HM1.out; omega, rfl, hc, rfl, HR, Lib.hid ⟨HXX.out, by
        rw [rn_new, HXX.out]
        have := HM.out
        have := HM1.out
        omega⟩, rfl⟩
      case round =>
        obtain ⟨m2, A2, c2, z, rfl, hmm, hm2, rfl, hc2, rfl, HR2, HZ, rfl⟩ := hrel
        obtain ⟨b2, off2, rfl, -⟩ := ncell_at HR2.out (by omega)
        obtain ⟨A3, htl, hr3⟩ := tail_of HR2.out (by omega) hc2
        rw [Nat.add_sub_cancel] at htl hr3
        have HR3 := Lib.hid hr3
        have HM2 := Lib.hid hm2
        have hlim : K.length ≤ 65536 := HLEN.out
        have HEX : Hid (∀ (u : Value) (w9 : World), w9.ownsRow w2.heap.size 46 2 u ((rn K m).length + 1) (pcells (rn K m) ++ pcell (x, z)) → Hid (w9.ownsRow w2.heap.size 46 2 u (rn K (m2 + 1)).length (pcells (rn K (m2 + 1))))) := Lib.hid (fun u w9 ho => Lib.hid (by
          rw [HZ.out.2, pcells_append, List.length_append]
          have e : pcells [(x, z)] = pcell (x, z) := by simp [pcells]
          rw [e]; exact ho))
        have hrl : (rn K m).length ≤ m := rn_len m
        have HRL : Hid ((rn K m).length + 1 ≤ 65536 ∧ w2.heap.size ≤ wr.heap.size) := Lib.hid ⟨by have := HM1.out; omega, HX.out.size⟩
        have hbt := run_two
        cases gk with
        | zero =>
          clear hr3 hm2 hrl hlim
          go_wp2_with (at_builtin; refine wpList_append_own _ rfl _ _ 55 rfl w2.heap.size 46 i0 _ 2 16 Try.underlying55 hi hz0 hz1 hz2 rfl (by decide) _ (rn K m).length (pcells (rn K m)) rfl (HO.out.alloc _) ⟨wr.heap.size, 0, none⟩ 1 1 (pcell (x, z)) rfl rfl (World.news_of_block (new_block wr _)) (pcell_one (x, z)) (by have := HRL.out; unfold maxLen; omega) (by have := HRL.out; omega) (by have := HRL.out; simp; omega) ?_; intro v' w5 hown' hg5 hnil5)
          have HX5 : Hid (Below w2.heap.size w2 w5) := Lib.hid ((HX.out.alloc HX.out.size _).grown hg5 (by have := HRL.out; simp; omega) (fun j hj => (HO.out.lt j hj).1))
          have HO5 := HEX.out _ _ hown'
          go_roundg 0
          case measure => have := HM1.out; have := HM2.out; omega
          case rel => exact ⟨m2 + 1, _, c2 - 1, by have := HM2.out; omega, rfl, by omega, HR3, Lib.hid (.inr (.inl rfl)), HO5, HX5⟩
        | succ gk =>
          obtain ⟨b3, off3, rfl, c3⟩ := ncell_at (hr3.below HX.out) (by omega)
          obtain ⟨y, hy⟩ : ∃ y : Nat, K.getD (m2 + 1) 0 = y := ⟨_, rfl⟩
          rw [hy] at c3
          have hz9 : ((gk + 1 : Nat) : Int) ≠ 0 := by omega
          have hzz : z < 65536 := HLIM.out _ (by
            rw [← HZ.out.1, List.getD_eq_getElem?_getD, List.getElem?_eq_getElem (by omega)]
            exact List.getElem_mem _)
          obtain ⟨t, ht⟩ : ∃ t : Int, (z : Int) + 1 = t := ⟨_, rfl⟩
          have hwz : IntKind.i64.wrap ((z : Int) + 1) = t := by rw [IntKind.wrap_i64]; omega
          have hq0 : (((gk + 1 : Nat) : Int) == 0) = false := by simp only [beq_eq_false_iff_ne]; omega
          have hge : (0 : Int) < ((gk + 1 : Nat) : Int) := by omega
          obtain ⟨q, hq⟩ : ∃ q : Nat, gk + 1 = q := ⟨_, rfl⟩
          have HQ := Lib.hid hq
          by_cases hyz : y = z + 1
          · have hyz' : ¬ (y : Int) ≠ t := by omega
            have hyt : ((y : Int) != t) = false := by simp only [bne_eq_false_iff_eq]; omega
            have HYT : Hid (t = ((z + 1 : Nat) : Int)) := Lib.hid (by omega)
            have HYY : Hid (K.getD (m2 + 1) 0 = z + 1 ∧ rn K (m2 + 1 + 1) = rn K m ++ [(x, z + 1)]) := Lib.hid ⟨by rw [hy]; exact hyz, by
              rw [rn_on (R := rn K m) (a := x) (b := z) (by omega) (by rw [Nat.add_sub_cancel, HZ.out.1, hy]; exact hyz) HZ.out.2, hy, hyz]⟩
            clear hr3 hm2 hrl hlim hyz hy ht hq hzz
            go_wp2_with fail
            go_roundg gk
            case measure => omega
            case rel => exact ⟨m2 + 1, _, c2 - 1, z + 1, rfl, by omega, by have := HM2.out; omega, rfl, by omega, by rw [HYT.out], HR3, HYY, rfl⟩
          · have hyt : ((y : Int) != t) = true := by simp only [bne_iff_ne, ne_eq]; omega
            have hyz' : (y : Int) ≠ t := by omega
            have HA : Hid (m2 + 1 = 0 ∨ gk + 1 = 0 ∨ K.getD (m2 + 1) 0 ≠ K.getD (m2 + 1 - 1) 0 + 1) := Lib.hid (.inr (.inr (by rw [Nat.add_sub_cancel, HZ.out.1, hy]; exact hyz)))
            clear hr3 hm2 hrl hlim hy ht hq hzz
            go_wp2_with (at_builtin; refine wpList_append_own _ rfl _ _ 55 rfl w2.heap.size 46 i0 _ 2 16 Try.underlying55 hi hz0 hz1 hz2 rfl (by decide) _ (rn K m).length (pcells (rn K m)) rfl (HO.out.alloc _) ⟨wr.heap.size, 0, none⟩ 1 1 (pcell (x, z)) rfl rfl (World.news_of_block (new_block wr _)) (pcell_one (x, z)) (by have := HRL.out; unfold maxLen; omega) (by have := HRL.out; omega) (by have := HRL.out; simp; omega) ?_; intro v' w5 hown' hg5 hnil5)
            have HX5 : Hid (Below w2.heap.size w2 w5) := Lib.hid ((HX.out.alloc HX.out.size _).grown hg5 (by have := HRL.out; simp; omega) (fun j hj => (HO.out.lt j hj).1))
            have HO5 := HEX.out _ _ hown'
            go_roundg (gk + 1)
            case measure => have := HM1.out; have := HM2.out; omega
            case rel => exact ⟨m2 + 1, _, c2 - 1, by have := HM2.out; omega, rfl, by omega, HR3, HA, HO5, HX5⟩
end Go.Proofs.Ytoallenigfbkpaa
