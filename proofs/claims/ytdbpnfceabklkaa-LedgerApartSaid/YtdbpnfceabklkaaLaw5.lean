/-
  LedgerApart: the law returns true of every script and number of sectors. No condition.
-/
import Derived.Test.YtdbpnfceabklkaaOut
import Derived.Lib.SlBytesConst
namespace Go.Proofs.Ytdbpnfceabklkaa
set_option maxRecDepth 100000
open Go.ChangeShapes Go.WideShapes Go.ChangeAt Go.RowKit

theorem kl_kp {B : Nat} {w w' : World} (h : Kp B w w') : Kl B w w' := Kl.of_kp h
set_option maxHeartbeats 8000000 in
theorem law_apart (A : Option Addr) (n c : Nat) (l : List Ov) (x : Int) (w : World) (hR : OReads w A n l) :
    Calls Try.prog 7 #[.slice A n c, .int .i64 x] w fun e w' => e = .returned (.bool true) ∧ Below w.heap.size w w' := by
  have HF := Lib.hid (few_any A n c l w hR)
  have HR := Lib.hid hR
  obtain ⟨f, hf⟩ : ∃ f, f = fewL l := ⟨_, rfl⟩
  rw [← hf] at HF
  have HFW := Lib.hid hf
  clear hR hf
  by_cases hx1 : x < 4
  · go_enter Try.func7, Try.ntmps7
    go_wp2_with fail
    refine (alive_any w).mono ?_
    rintro e w2 ⟨rfl, hb2⟩
    have HB2 := Lib.hid hb2
    clear hb2
    go_wp2_with fail
    go_ret
    exact ⟨rfl, HB2.out⟩
  by_cases hx2 : 100 < x
  · go_enter Try.func7, Try.ntmps7
    go_wp2_with fail
    refine (alive_any w).mono ?_
    rintro e w2 ⟨rfl, hb2⟩
    have HB2 := Lib.hid hb2
    clear hb2
    go_wp2_with fail
    go_ret
    exact ⟨rfl, HB2.out⟩
  cases f with
  | false =>
    go_enter Try.func7, Try.ntmps7
    go_wp2_with fail
    refine HF.out.mono ?_
    rintro e w1 ⟨rfl, hb1⟩
    have HB1 := Lib.hid hb1
    clear hb1
    go_wp2_with fail
    refine (alive_any w1).mono ?_
    rintro e w2 ⟨rfl, hb2⟩
    have HB2 := Lib.hid (HB1.out.trans (hb2.mono HB1.out.size))
    clear hb2
    go_wp2_with fail
    go_ret
    exact ⟨rfl, HB2.out⟩
  | true =>
    obtain ⟨many, rfl⟩ : ∃ m : Nat, x = (m : Int) := ⟨x.toNat, by omega⟩
    have hfew := few_ok HFW.out.symm
    rw [HR.out.len] at hfew
    have HFEW := Lib.hid hfew
    have hn120 : n ≤ 120 := hfew.1
    have h4 : 4 ≤ many := by omega
    have h100 : many ≤ 100 := by omega
    have hm0 : (4 : Int) ≤ (many : Int) := by omega
    have hm1 : (many : Int) ≤ 100 := by omega
    have kc := fun (w : World) (C : Array Value) (n c : Nat) => Lib.run_convert_bytes_const (P := Try.prog) w 48 5 C n c Try.underlying48 Try.underlying5
    have HN : Hid (∀ w1, Calls Try.prog 27 #[.int .i64 ((many : Int) + 4)] w1 (NwPost w1 (many + 4))) := Lib.hid (fun w1 => new_any ((many : Int) + 4) (many + 4) w1 (by omega) (.inr (by omega)))
    have KC := Lib.hid kc
    clear hfew hx1 hx2 kc
    go_enter Try.func7, Try.ntmps7
    go_wp2_with fail
    refine HF.out.mono ?_
    rintro e w1 ⟨rfl, hb1⟩
    have HB1 := Lib.hid hb1
    clear hb1
    go_wp2_with fail
    refine (HN.out w1).mono ?_
    rintro e w2 ⟨p, rfl, hp2, hb2⟩
    obtain ⟨C4, hC4⟩ : ∃ C : Array Value, C = #[Value.int .i64 0, .int .i64 1, .int .i64 ((many : Int) + 2), .int .i64 ((many : Int) + 3)] := ⟨_, rfl⟩
    have HC4 := Lib.hid hC4
    obtain ⟨w3, hw3⟩ : ∃ w3, w3 = w2.alloc (.cells C4 3) := ⟨_, rfl⟩
    have hb3 : Below w2.heap.size w2 w3 := by rw [hw3]; exact box_below w2 _
    have HP3 := Lib.hid ((hp2.mono HB1.out.size).kept hb3)
    have HX3 : Hid (w3.heap[w2.heap.size]? = some (.cells C4 3 (0, 0))) := Lib.hid (by rw [hw3]; exact new_block w2 _)
    have HB3 := Lib.hid ((HB1.out.trans (hb2.mono HB1.out.size)).trans (hb3.mono (Nat.le_trans HB1.out.size hb2.size)))
    have HW3 := Lib.hid hw3
    clear hp2 hb2 hC4 hw3 hb3
    go_upto_region 7 with fail
    rw [← HC4.out, ← HW3.out]
    go_loopw [39] (fun vk wr => ∃ (k : Nat) (D : Dk), k ≤ 4 ∧ vk = .int .i64 k ∧ Four many k D ∧ PDisk wr w.heap.size p D ∧ wr.heap[w2.heap.size]? = some (.cells C4 3 (0, 0)) ∧ Kl w.heap.size w wr) (fun vk _ => 4 - (intOf vk).toNat)
    case atStart => exact ⟨0, _, Nat.zero_le _, rfl, four_start many, HP3.out, HX3.out, Kl.of_below HB3.out (Nat.le_refl _)⟩
    case round =>
      obtain ⟨k, D, hk, rfl, hfo, hpd, hxr, hkl⟩ := hrel
      have HFO := Lib.hid hfo
      have HPD := Lib.hid hpd
      have HXR := Lib.hid hxr
      have HKL := Lib.hid hkl
      clear hfo hpd hxr hkl
      by_cases hlt : k < 4
      · obtain ⟨nn, hnn⟩ : ∃ nn, nn = ((nsAt many k : Nat) : Int) := ⟨_, rfl⟩
        have hc := cell_of HXR.out (j := k) (v := .int .i64 nn) (by rw [HC4.out, hnn]; exact ns_cell hlt)
        have hc2 := hc
        rw [← Nat.zero_add k] at hc2
        obtain ⟨w4, hw4⟩ : ∃ w4, w4 = wr.alloc (.cells #[.int .u8 109, .int .u8 105, .int .u8 110, .int .u8 101] 5 (4, 5)) := ⟨_, rfl⟩
        have hb4 : Below wr.heap.size wr w4 := by rw [hw4]; exact box_below wr _
        have HP4 := Lib.hid (HPD.out.kept hb4)
        have HX4 : Hid (w4.heap[w2.heap.size]? = some (.cells C4 3 (0, 0))) := Lib.hid ((hb4.block _ (Array.getElem?_eq_some_iff.1 HXR.out).1).trans HXR.out)
        have HRB : Hid (∀ w', Kp w.heap.size w4 w' → Reads w' (some ⟨wr.heap.size, 0, none⟩) 4 mineL) := Lib.hid (reads_kp (by rw [hw4]; exact new_block wr _) rfl rfl mine_bys)
        have HWR := Lib.hid (write_any w.heap.size p D nn (some ⟨wr.heap.size, 0, none⟩) 4 4 mineL w4 HP4.out HRB.out (by have := HFO.out.wait; omega))
        have hnx := four_next HFO.out hlt
        rw [← hnn] at hnx
        have HNX := Lib.hid hnx
        have HK4 := Lib.hid (HKL.out.trans (Kl.of_below hb4 HKL.out.below.size))
        have kcr := KC.out wr #[.int .u8 109, .int .u8 105, .int .u8 110, .int .u8 101] 4 4
        have hk0 : (0 : Int) ≤ (k : Int) := by omega
        have hk1 : (k : Int) < 4 := by omega
        have HW4 := Lib.hid hw4
        have kcs : (convert 48 48 (.slice (some ⟨wr.heap.size, 0, none⟩) 4 4)).run Try.prog (wr.alloc (.cells #[.int .u8 109, .int .u8 105, .int .u8 110, .int .u8 101] 5)) = .ok (.slice (some ⟨wr.heap.size, 0, none⟩) 4 4) w4 := by rw [hw4]; exact kcr
        clear hnn hw4 hb4 hnx kcr
        go_wp2_with fail
        refine HWR.out.mono ?_
        rintro e w5 ⟨rfl, hp5, hk5⟩
        obtain ⟨z1, z2⟩ := HNX.out
        have HP5 := Lib.hid hp5
        have HX5 : Hid (w5.heap[w2.heap.size]? = some (.cells C4 3 (0, 0))) := Lib.hid (hk5.tag _ _ _ _ HX4.out (by decide) (by decide) (by decide))
        have HK5 := Lib.hid (HK4.out.trans (Kl.of_kp hk5))
        have HZ2 := Lib.hid z2
        rw [z1]
        clear hp5 hk5 z1 z2 hc hc2 kcs
        go_wp2_with fail
        go_round
        case rel => exact ⟨k + 1, _, by omega, by go_num, HZ2.out, HP5.out, HX5.out, HK5.out⟩
        case measure => simp [intOf]; omega
      · obtain rfl : k = 4 := by omega
        have HAL := Lib.hid (four_alive HFO.out h4 (by omega) (by obtain ⟨sv, wv, left, hpd⟩ := HPD.out; exact hpd.ok))
        have HOP := Lib.hid (open_found w.heap.size p 2 many ((many - 2) / 2) mk0 [] D wr HPD.out HKL.out.below.size HFO.out.dead (by rw [HFO.out.len]; omega) h4 (by rw [HFO.out.len]; omega) rfl HAL.out.inv.hold rok_nil)
        go_wp2_with fail
        refine HOP.out.mono ?_
        rintro e w6 ⟨q, bv, rfl, hpl, -, hb6⟩
        have HRUN : Hid (Run w q p ((many - 2) / 2) (many + 4) ⟨2, (many - 2) / 2, mk0, enc []⟩ bv D [] [] w6) := Lib.hid ⟨hpl, HAL.out, rfl, rfl, HFO.out.len, by have := HFO.out.wait; omega, HKL.out.trans (Kl.of_below hb6 HKL.out.below.size)⟩
        have HMI := Lib.hid HFO.out.mine
        clear hpl hb6
        go_wp2_with fail
        go_loopw [63] (fun vk wr => ∃ (k : Nat) (G : Lg) (bv : Value) (D : Dk) (now firm : List (List Int)), k ≤ n ∧ vk = .int .i64 k ∧ Run w q p ((many - 2) / 2) (many + 4) G bv D now firm wr ∧ ∀ j, j < 4 → (cur D).getD (nsAt many j) [] = pad mineL) (fun vk _ => n - (intOf vk).toNat)
        case atStart => exact ⟨0, _, bv, D, [], [], Nat.zero_le _, rfl, HRUN.out, HMI.out⟩
        case round =>
          obtain ⟨k, G, bv, D, now, firm, hk, rfl, hrun, hmi⟩ := hrel
          have HRU := Lib.hid hrun
          have HMJ := Lib.hid hmi
          clear hrun hmi
          by_cases hlt : k < n
          · obtain ⟨b, off, o, rfl, hmem, -, hok, h0, h1, h2⟩ := ov_round HR.out hlt HRU.out.kl.below
            have hol : o.len ≤ 60 := HFEW.out.2 o hmem
            obtain ⟨wo, hwo⟩ : ∃ wo, wo = wr.alloc (.cells #[.int .i64 o.k, .string o.S, .slice o.A o.len o.cap] 33) := ⟨_, rfl⟩
            have hbo : Below wr.heap.size wr wo := by rw [hwo]; exact box_below wr _
            have HRO := Lib.hid (HRU.out.below hbo)
            have hbo2 : wo.heap[wr.heap.size]? = some (.cells #[.int .i64 o.k, .string o.S, .slice o.A o.len o.cap] 33 (0, 0)) := by rw [hwo]; exact new_block wr _
            have HBO2 := Lib.hid hbo2
            have HWO := Lib.hid hwo
            have HD := Lib.hid (run_does_at HRO.out hok (by omega))
            have HOU : Hid (∀ j, j < 4 → (cur (stepL G D o.k (sb o.S) o.all).2.1).getD (nsAt many j) [] = pad mineL) := Lib.hid (fun j hj => by
              rw [step_outside HRU.out.al o.k (sb o.S) o.all hok.reads.2.2 _ (by rw [HRU.out.fr, HRU.out.size]; exact ns_out h4)]
              exact HMJ.out j hj)
            have hk0 : (0 : Int) ≤ (k : Int) := by omega
            have hk1 : (k : Int) < (n : Int) := by omega
            clear hwo hbo hbo2 hok hol hmem
            go_upto_region 17 with fail
            rw [← HWO.out]
            have o0 := cell_of HBO2.out (j := 0) rfl
            have o1 := cell_of HBO2.out (j := 1) rfl
            have o2 := cell_of HBO2.out (j := 2) rfl
            go_wp2_with fail
            refine HD.out.mono ?_
            rintro e w5 ⟨rfl, bv5, hr5, hk5⟩
            have HR5 := Lib.hid hr5
            clear hr5 hk5 o0 o1 o2 h0 h1 h2
            go_wp2_with fail
            go_round
            case rel => exact ⟨k + 1, _, bv5, _, _, _, by omega, by go_num, HR5.out, HOU.out⟩
            case measure => simp [intOf]; omega
          · obtain rfl : k = n := by omega
            have hk1 : ¬ (k : Int) < (k : Int) := by omega
            obtain ⟨w7, hw7⟩ : ∃ w7, w7 = wr.alloc (.cells C4 3) := ⟨_, rfl⟩
            have hb7 : Below wr.heap.size wr w7 := by rw [hw7]; exact box_below wr _
            have HR7 := Lib.hid (HRU.out.below hb7)
            obtain ⟨b7, hb7'⟩ : ∃ b7, b7 = wr.heap.size := ⟨_, rfl⟩
            have HX7 : Hid (w7.heap[b7]? = some (.cells C4 3 (0, 0))) := Lib.hid (by rw [hw7, hb7']; exact new_block wr _)
            have HW7 := Lib.hid hw7
            have HB7 := Lib.hid hb7'
            clear hw7 hb7 hb7'
            go_upto_region 20 with fail
            rw [← HC4.out, ← HW7.out, ← HB7.out]
            go_loopw [77] (fun vk wr3 => ∃ j : Nat, j ≤ 4 ∧ vk = .int .i64 j ∧ Run w q p ((many - 2) / 2) (many + 4) G bv D now firm wr3 ∧ wr3.heap[b7]? = some (.cells C4 3 (0, 0))) (fun vk _ => 4 - (intOf vk).toNat)
            case atStart => exact ⟨0, Nat.zero_le _, rfl, HR7.out, HX7.out⟩
            case round =>
              obtain ⟨j, hj, rfl, hrj, hxj⟩ := hrel
              have HRJ := Lib.hid hrj
              have HXJ := Lib.hid hxj
              clear hrj hxj
              by_cases hlt2 : j < 4
              · obtain ⟨nn, hnn⟩ : ∃ nn, nn = ((nsAt many j : Nat) : Int) := ⟨_, rfl⟩
                have hc := cell_of HXJ.out (j := j) (v := .int .i64 nn) (by rw [HC4.out, hnn]; exact ns_cell hlt2)
                have hc2 := hc
                rw [← Nat.zero_add j] at hc2
                have HRD := Lib.hid (read_any w.heap.size p D nn _ HRJ.out.pl.disk)
                have hdr := do_read (D := D) (n := nsAt many j) HRJ.out.al.dead (by rw [HRJ.out.len]; exact ns_lt)
                rw [← hnn, HMJ.out j hlt2] at hdr
                have HDR := Lib.hid hdr
                have hj0 : (0 : Int) ≤ (j : Int) := by omega
                have hj1 : (j : Int) < 4 := by omega
                clear hnn hdr
                go_wp2_with fail
                refine HRD.out.mono ?_
                rintro e w8 ⟨A8, l8, c8, rfl, hr8, hc8, -, hb8, -⟩
                rw [HDR.out] at hr8 ⊢
                have hl8 : l8 = 64 := by have := hr8.1; rw [← this]; rfl
                subst hl8
                obtain ⟨A9, c9, hs9, hr9, -, -⟩ := sub_to hr8 hc8 5 (by decide)
                have hcv := conv_reads (c := c9) hr9
                rw [mine_five] at hcv
                have hs9' : ∀ W : World, (Instr.slice 48 (.slice A8 64 c8) none (some (.int .i64 5)) none).run Try.prog W = .ok (.slice A9 5 c9) W := hs9
                have HR8 := Lib.hid (HRJ.out.below hb8)
                have HX8 : Hid (w8.heap[b7]? = some (.cells C4 3 (0, 0))) := Lib.hid ((hb8.block _ (Array.getElem?_eq_some_iff.1 HXJ.out).1).trans HXJ.out)
                have heq : (!(mineZ.toList == [109, 105, 110, 101, 0])) = false := by rw [ByteArray.toList_eq]; decide
                clear hr8 hb8 hr9 hs9 hc hc2
                go_wp2_with fail
                go_round
                case rel => exact ⟨j + 1, by omega, by go_num, HR8.out, HX8.out⟩
                case measure => simp [intOf]; omega
              · obtain rfl : j = 4 := by omega
                go_wp2_with fail
                refine (alive_any _).mono ?_
                rintro e w9 ⟨rfl, hb9⟩
                have HR9 := Lib.hid (HRJ.out.below hb9)
                clear hb9
                go_wp2_with fail
                go_ret
                exact ⟨rfl, HR9.out.kl.below⟩
end Go.Proofs.Ytdbpnfceabklkaa
