/-
  The law Reads: what is read is a copy, as the document says it at any place. No condition.
-/
import Derived.Test.YtoallenigfbkpaaTLawV
namespace Go.Proofs.Ytoallenigfbkpaa
set_option maxRecDepth 100000
open Go.ChangeShapes Go.WideShapes Go.ChangeAt Go.RowKit Go.Proofs.Sg

set_option maxHeartbeats 16000000 in
theorem reads_law {w : World} {ad : Option Addr} {len cap : Nat} {os : List Opr} (hO : OReads w w.heap.size ad len os) (p m : Int) (hp : p ≤ 9223372036854775807) : Calls Try.prog 4 #[.slice ad len cap, .int .i64 p, .int .i64 m] w (LwPost w) := by
  have HNEW := Lib.hid (new_any w)
  have HO := Lib.hid hO
  clear hO
  go_enter Try.func4, Try.ntmps4
  go_wp2_with fail
  refine HNEW.out.mono ?_
  rintro e w1 ⟨sp, mb, rfl, hs, hb⟩
  have HS1 := Lib.hid hs
  have HB1 := Lib.hid hb
  have HFEW := Lib.hid (few_any (cap := cap) (HO.out.kept hb) hb.size)
  have hnil : ∀ W, (binOp .eql 23 (.pointer (some ⟨sp, 0, none⟩)) (.pointer none)).run Try.prog W = .ok (.bool false) W := fun W => by kernel_rfl
  have hnil2 : ∀ W, (binOp .neq 23 (.pointer (some ⟨sp, 0, none⟩)) (.pointer none)).run Try.prog W = .ok (.bool true) W := fun W => by kernel_rfl
  clear hs hb
  go_wp2_with fail
  refine HFEW.out.mono ?_
  rintro e w2 ⟨r, rfl, hr, hb2⟩
  have HB2 := Lib.hid (HB1.out.trans (hb2.mono HB1.out.size))
  have HS2 := Lib.hid (HS1.out.below hb2)
  have HAL : Hid (∀ W, Below w.heap.size w W → Calls Try.prog 11 #[] W fun e w' => e = .returned (.bool true) ∧ Below w.heap.size w w') := Lib.hid (fun W hW => (alive_any W).mono (fun e w' h => ⟨h.1, hW.trans (h.2.mono hW.size)⟩))
  have HR := Lib.hid hr
  clear hr hb2
  cases r with
  | false =>
    go_wp2_with fail
    refine (HAL.out _ HB2.out).mono ?_
    rintro e w' ⟨rfl, hb9⟩
    have HE : Hid (LwPost w (.returned (.bool true)) w') := Lib.hid ⟨rfl, hb9⟩
    clear hb9
    go_wp2_with fail
    go_ret
    exact HE.out
  | true =>
    have HPL := Lib.hid (plays_any HS2.out (df0 w2) (HO.out.kept HB2.out) (Nat.le_refl _) (HR.out rfl).1 (cap := cap) (HR.out rfl).2)
    unfold dv at HPL
    go_wp2_with fail
    refine HPL.out.mono ?_
    rintro e w3 ⟨A, c, A2, c2, rfl, hs3, hd3, hk3⟩
    unfold dv
    have hb3 : Below w.heap.size w w3 := HB2.out.trans (hk3.below HB2.out.size hs3.gsp hs3.gmb)
    obtain ⟨T, hT⟩ : ∃ T, runS S0 os = T := ⟨_, rfl⟩
    rw [hT] at hs3 hd3 ⊢
    obtain ⟨w4, hw4⟩ : ∃ w4, w4 = w3.alloc (.cells #[.slice A T.n c, .slice A2 T.K.length c2] 30) := ⟨_, rfl⟩
    obtain ⟨u, hu⟩ : ∃ u, u = w3.heap.size := ⟨_, rfl⟩
    have hb4 : Below w3.heap.size w3 w4 := by rw [hw4]; exact box_below w3 _
    have hu4 : w4.heap[u]? = some (.cells #[.slice A T.n c, .slice A2 T.K.length c2] 30 (0, 0)) := by rw [hw4, hu]; exact new_block w3 _
    have HU := Lib.hid hu4
    have HS4 := Lib.hid (hs3.below hb4)
    have HD4 := Lib.hid (hd3.below hb4)
    have HB4 := Lib.hid (hb3.trans (hb4.mono hb3.size))
    have HW4 := Lib.hid hw4
    have HUE := Lib.hid hu
    have HLIM := Lib.hid HS4.out.good.lim
    have HA4 : Hid (∀ W, Calls Try.prog 11 #[] W fun e w' => e = .returned (.bool true) ∧ Below W.heap.size W w') := Lib.hid (fun W => alive_any W)
    have HSS : Hid (∀ W, Below w4.heap.size w4 W → W.cell? ⟨u, 0, none⟩ = some (.slice A T.n c) ∧ W.cell? ⟨u, 1, none⟩ = some (.slice A2 T.K.length c2)) := Lib.hid (fun W hW => ⟨cell_of (blk_below HU.out hW) (j := 0) rfl, cell_of (blk_below HU.out hW) (j := 1) rfl⟩)
    clear hT hs3 hd3 hk3 hb3 hw4 hu hb4 hu4
    go_upto_region 5 with fail
    rw [← HW4.out, ← HUE.out]
    obtain ⟨L, hL⟩ : ∃ l, rd T p m = l := ⟨_, rfl⟩
    obtain ⟨str, hstr⟩ : ∃ s, sB L = s := ⟨_, rfl⟩
    have HRE : Hid (∀ W, Below w4.heap.size w4 W → Calls Try.prog 14 #[.pointer (some ⟨sp, 0, none⟩), .int .i64 p, .int .i64 m] W fun e w' => ∃ A c, e = .returned (.slice A L.length c) ∧ w'.ownsRow W.heap.size 5 1 (.slice A L.length c) L.length (bcells L) ∧ (∀ W2, Below w'.heap.size w' W2 → (convert 27 9 (.slice A L.length c)).run Try.prog W2 = .ok (.string str) W2) ∧ Below W.heap.size W w') := Lib.hid (fun W hW => (read_any (HS4.out.below hW) p m hp).mono (by
      rintro e w' ⟨v, rfl, hr, hb⟩
      rw [hL] at hr
      obtain ⟨A', c', rfl, -⟩ := own_form hr
      exact ⟨A', c', rfl, hr, fun W2 h2 => by rw [← hstr]; exact conv_rd (c := c') ((Rd.of_own hr (fun _ _ => rfl) (by omega)).below h2), hb⟩))
    have HRR : Hid (∀ W, Below w4.heap.size w4 W → Calls Try.prog 15 #[.agg #[.slice A T.n c, .slice A2 T.K.length c2], .int .i64 p, .int .i64 m] W fun e w' => ∃ A k c, e = .returned (.slice A k c) ∧ (convert 27 9 (.slice A k c)).run Try.prog w' = .ok (.string str) w' ∧ Below W.heap.size W w') := Lib.hid (fun W hW => (rread_any (HD4.out.below hW) HLIM.out p m hp).mono (by
      rintro e w' ⟨A', k', c', rfl, hr, hk, hb⟩
      rw [hL] at hr
      exact ⟨A', k', c', rfl, by rw [← hstr]; exact conv_rd (c := c') hr, hb⟩))
    have hne : (str != str) = false := str_ne _
    have heq : (str == str) = true := str_eq _
    have HNL : Hid (L.length ≤ 1048576) := Lib.hid (by
      have h1 := rd_le T p m
      rw [hL] at h1
      have := HLIM.out
      omega)
    clear hL hstr
    go_wp2_with fail
    refine (HRE.out w4 (Below.refl _ _)).mono ?_
    rintro e w5 ⟨G, gc, rfl, ho5, hcv5, hb5⟩
    have HOZ := Lib.hid ho5
    have HCV := Lib.hid hcv5
    have HBZ := Lib.hid hb5
    clear ho5 hcv5 hb5
    go_upto_region 6 with fail
    obtain ⟨n0, n1⟩ := HSS.out w5.drew HBZ.out.drew
    have n2 := HCV.out w5.drew (Below.refl _ _).drew
    go_region_with (first
      | (go_at_call 15; (with_reducible refine (HRR.out _ HBZ.out.drew).mono ?_); rintro e w6 ⟨A6, k6, c6, rfl, hcv6, hb6⟩; have hB6 : Below w5.heap.size w5 w6 := (Below.refl _ _).drew.trans (hb6.mono (Nat.le_refl _)); obtain ⟨m0, m1⟩ := HSS.out w6 (HBZ.out.trans (hB6.mono HBZ.out.size)); have m2 := HCV.out w6 hB6))
    all_goals
      have HO6 := Lib.hid (own_below HOZ.out hB6)
      have HB6 := Lib.hid (HBZ.out.trans (hB6.mono HBZ.out.size))
      clear HOZ HBZ
      have HOZ := HO6
      have HBZ := HB6
      rw [zcell_of] at HOZ
      have HZ0 : Hid ((L.map (fun x => (x.toNat : Int))).length = L.length) := Lib.hid (by rw [List.length_map])
      clear HO6 HB6 hcv6 hb6 hB6 m0 m1 m2 n0 n1 n2
      (try simp only [List.getElem_toArray, List.getElem_cons_succ, List.getElem_cons_zero, Act.put, List.setIfInBounds_toArray, List.set_cons_succ, List.set_cons_zero])
      go_wp2_with fail
      go_loopw [46] (fun v wr => ∃ (j : Nat) (zs : List Int), j ≤ L.length ∧ zs.length = L.length ∧ v = .int .i64 (j : Int) ∧ Hid (wr.ownsRow w4.heap.size 5 1 (.slice G L.length gc) L.length (zs.flatMap zcell)) ∧ Hid (Below w4.heap.size w4 wr)) (fun v _ => L.length - (intOf v).toNat)
      case atStart => exact ⟨0, _, Nat.zero_le _, HZ0.out, rfl, HOZ, HBZ⟩
      case round =>
        obtain ⟨j, zs, hj, hz, rfl, HO9, HX9⟩ := hrel
        by_cases hlt : j < L.length
        · have hji : (j : Int) < ((L.length : Nat) : Int) := by omega
          have hj0 : (0 : Int) ≤ (j : Int) := by omega
          obtain ⟨j1, hj1⟩ : ∃ j1, j + 1 = j1 := ⟨_, rfl⟩
          have hwj : IntKind.i64.wrap ((j : Int) + 1) = (j1 : Int) := by rw [IntKind.wrap_i64]; have := HNL.out; omega
          have ho := HO9.out
          obtain ⟨Bx, cx, ex, -, -, hAx⟩ := own_form ho
          obtain ⟨g, rfl⟩ : ∃ g, G = some ⟨g, 0, none⟩ := by
            injection ex with ex; subst ex; exact hAx (by omega)
          obtain ⟨z, hzj⟩ : ∃ z, zs[j]? = some z := ⟨_, List.getElem?_eq_getElem (by omega)⟩
          have x0 := own_cell ho j (.int .u8 z) (by
            have := part_get zcell 1 zs j (by omega) (fun _ _ => rfl) 0 (by omega)
            rw [Nat.mul_one, Nat.add_zero] at this
            rw [this]
            have e : zs[j]'(by omega) = z := by rw [List.getElem?_eq_getElem (by omega)] at hzj; exact Option.some.inj hzj
            rw [e]; rfl)
          obtain ⟨cur, hcur, -, -, -, -, -, -⟩ := own_at ho
          have y0 := frozen_of_row wr g j _ _ hcur
          have HO5 : Hid (∀ x : Int, (wr.setCell ⟨g, j, none⟩ (.int .u8 x)).ownsRow w4.heap.size 5 1 (.slice (some ⟨g, 0, none⟩) L.length gc) L.length ((zs.set j x).flatMap zcell)) := Lib.hid (fun x => by
            have h5 := own_set_cells ho (j * 1) (zcell x) (by simp [zcell]; omega)
            rw [part_set zcell 1 zs j (by omega) x (fun _ _ => rfl) rfl, Nat.mul_one] at h5
            exact h5)
          have HX5 : Hid (∀ x : Int, Below w4.heap.size w4 (wr.setCell ⟨g, j, none⟩ (.int .u8 x))) := Lib.hid (fun x => HX9.out.setCell (ho.lt g rfl).1 _)
          have HJ1 : Hid (j < L.length ∧ j + 1 = j1) := Lib.hid ⟨hlt, hj1⟩
          have HZL := Lib.hid hz
          clear ho ex hAx hzj hcur hj1 hlt hz hj
          go_wp2_with fail
          go_roundw
          case rel => exact ⟨j1, _, by have := HJ1.out; omega, by rw [List.length_set]; exact HZL.out, rfl, Lib.hid (HO5.out _), Lib.hid (HX5.out _)⟩
          case measure => simp [intOf]; have := HJ1.out; omega
        · obtain rfl : j = L.length := by omega
          have hji : ¬ ((L.length : Nat) : Int) < ((L.length : Nat) : Int) := by omega
          clear hlt hj
          go_upto_region 13 with fail
          obtain ⟨n0, n1⟩ := HSS.out wr.drew HX9.out.drew
          go_region_with (first
            | (go_at_call 11; (with_reducible refine (HA4.out _).mono ?_); rintro e w10 ⟨rfl, hb10⟩; have hB10 : Below w4.heap.size w4 w10 := HX9.out.drew.trans (hb10.mono HX9.out.drew.size); obtain ⟨m0, m1⟩ := HSS.out w10 hB10)
            | (go_at_call 14; (with_reducible refine (HRE.out _ hB10).mono ?_); rintro e w11 ⟨A11, c11, rfl, ho11, hcv11, hb11⟩; have hB11 := hB10.trans (hb11.mono hB10.size); obtain ⟨m2, m3⟩ := HSS.out w11 hB11; have m4 := hcv11 w11 (Below.refl _ _))
            | (go_at_call 15; (with_reducible refine (HRR.out _ hB11).mono ?_); rintro e w12 ⟨A12, k12, c12, rfl, hcv12, hb12⟩; have hB12 := hB11.trans (hb12.mono hB11.size); have m5 := hcv11 w12 hb12))
          all_goals
            have HE : Hid (LwPost w (.returned (.bool true)) w12) := Lib.hid ⟨rfl, HB4.out.trans (hB12.mono HB4.out.size)⟩
            clear ho11 hcv12 m5
            (try simp only [List.getElem_toArray, List.getElem_cons_succ, List.getElem_cons_zero, Act.put, List.setIfInBounds_toArray, List.set_cons_succ, List.set_cons_zero])
            go_wp2_with fail
            go_ret
            exact HE.out
end Go.Proofs.Ytoallenigfbkpaa
