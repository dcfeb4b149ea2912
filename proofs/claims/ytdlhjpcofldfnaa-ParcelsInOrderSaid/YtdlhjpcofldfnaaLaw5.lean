/-
  ParcelsInOrder: the law returns true of all messages. No condition.
-/
import Derived.Test.YtdlhjpcofldfnaaPkEq
namespace Go.Proofs.Ytdlhjpcofldfnaa
set_option maxRecDepth 100000
open Go.ChangeShapes Go.WideShapes Go.ChangeAt Go.RowKit

theorem send_free {L : List Pk} {x : Pk} (h : L.length < 2000) : canSend L [] x = true := decide_eq_true ⟨h, by simp⟩
theorem at_head (x : Pk) (l : List Pk) : atL (x :: l) 0 = (x, true) ∧ tkL (x :: l) 0 = l := by
  have e : atL (x :: l) 0 = (x, true) := by
    unfold atL
    rw [if_pos ⟨by omega, by simp⟩]
    rfl
  refine ⟨e, ?_⟩
  unfold tkL
  rw [e]
  rfl
set_option maxHeartbeats 4000000 in
theorem law_order (A : Option Addr) (n c : Nat) (l : List Pk) (w : World) (hR : PReads w A n l) :
    Calls Try.prog 7 #[.slice A n c] w fun e w' => e = .returned (.bool true) ∧ Below w.heap.size w w' := by
  have HR := Lib.hid hR
  have HL := Lib.hid hR.len
  clear hR
  by_cases hlong : (500 : Int) < (n : Int)
  · go_enter Try.func7, Try.ntmps7
    go_wp2_with fail
    refine (new_any w).mono ?_
    rintro e w1 ⟨np, mb, rfl, hn, hb⟩
    have HB := Lib.hid hb
    clear hn hb
    go_wp2_with fail
    refine (alive_any w1).mono ?_
    rintro e w2 ⟨rfl, hb2⟩
    have HB2 := Lib.hid (HB.out.trans (hb2.mono HB.out.size))
    clear hb2
    go_wp2_with fail
    go_ret
    exact ⟨rfl, HB2.out⟩
  have hn500 : n ≤ 500 := by omega
  go_enter Try.func7, Try.ntmps7
  go_wp2_with fail
  refine (new_any w).mono ?_
  rintro e w1 ⟨np, mb, rfl, hn, hb⟩
  have HN := Lib.hid hn
  have HB := Lib.hid hb
  clear hn hb
  go_wp2_with fail
  go_loopw [25] (fun vk wr => ∃ (k : Nat) (rv : Value), k ≤ n ∧ vk = .int .i64 k ∧ NetW wr w.heap.size np mb rv (l.take k) [] ∧ Below w.heap.size w wr) (fun vk _ => n - (intOf vk).toNat)
  case atStart => exact ⟨0, _, Nat.zero_le _, rfl, HN.out, HB.out⟩
  case round =>
    obtain ⟨k, rv, hk, rfl, hnet, hbw⟩ := hrel
    have HNT := Lib.hid hnet
    have HBW := Lib.hid hbw
    clear hnet hbw
    by_cases hlt : k < n
    · obtain ⟨b, off, x, rfl, -, -, htk, hok, h0, h1, h2⟩ := (HR.out.kept HBW.out).round hlt
      have HTK := Lib.hid htk
      obtain ⟨wo, hwo⟩ : ∃ wo, wo = wr.alloc (.cells #[.int .i64 x.f, .int .i64 x.t, .string x.b] 31) := ⟨_, rfl⟩
      have hbo : Below wr.heap.size wr wo := by rw [hwo]; exact box_below wr _
      have hbx : wo.heap[wr.heap.size]? = some (.cells #[.int .i64 x.f, .int .i64 x.t, .string x.b] 31 (0, 0)) := by rw [hwo]; exact new_block wr _
      have HNO := Lib.hid (HNT.out.kept hbo)
      have HBO := Lib.hid (HBW.out.trans (hbo.mono HBW.out.size))
      have HBX := Lib.hid hbx
      have HWO := Lib.hid hwo
      have HSD := Lib.hid (send_any HNO.out x hok)
      have HCS : Hid (canSend (l.take k) [] x = true) := Lib.hid (send_free (by rw [List.length_take]; omega))
      have hk0 : (0 : Int) ≤ (k : Int) := by omega
      have hk1 : (k : Int) < (n : Int) := by omega
      clear htk hok hwo hbo hbx
      go_upto_region 7 with fail
      rw [← HWO.out]
      have o0 := cell_of HBX.out (j := 0) rfl
      have o1 := cell_of HBX.out (j := 1) rfl
      have o2 := cell_of HBX.out (j := 2) rfl
      go_wp2_with fail
      refine HSD.out.mono ?_
      rintro e w5 ⟨rfl, rv5, hn5, hk5⟩
      rw [HCS.out]
      rw [if_pos HCS.out, ← HTK.out] at hn5
      have HN5 := Lib.hid hn5
      have HB5 := Lib.hid (HBO.out.trans hk5.below)
      clear hn5 hk5 o0 o1 o2 h0 h1 h2
      go_wp2_with fail
      go_round
      case rel => exact ⟨k + 1, rv5, by omega, by go_num, HN5.out, HB5.out⟩
      case measure => simp [intOf]; omega
    · obtain rfl : k = n := by omega
      have hk1 : ¬ (k : Int) < (k : Int) := by omega
      have hfull := HNT.out
      rw [List.take_of_length_le (by rw [HL.out]; exact Nat.le_refl _)] at hfull
      have HFU := Lib.hid hfull
      clear hfull
      go_wp2_with fail
      go_loopw [36] (fun vk wr2 => ∃ (j : Nat) (rv : Value), j ≤ k ∧ vk = .int .i64 j ∧ NetW wr2 w.heap.size np mb rv (l.drop j) [] ∧ Below w.heap.size w wr2) (fun vk _ => k - (intOf vk).toNat)
      case atStart => exact ⟨0, _, Nat.zero_le _, rfl, HFU.out, HBW.out⟩
      case round =>
        obtain ⟨j, rv2, hj, rfl, hnet, hbw⟩ := hrel
        have HNJ := Lib.hid hnet
        have HBJ := Lib.hid hbw
        clear hnet hbw
        by_cases hlt2 : j < k
        · obtain ⟨b, off, x, rfl, -, hdr, -, hok, h0, h1, h2⟩ := (HR.out.kept HBJ.out).round hlt2
          have HDR := Lib.hid hdr
          obtain ⟨bo, hbe⟩ : ∃ bo, bo = wr.heap.size := ⟨_, rfl⟩
          obtain ⟨wo, hwo⟩ : ∃ wo, wo = wr.alloc (.cells #[.int .i64 x.f, .int .i64 x.t, .string x.b] 31) := ⟨_, rfl⟩
          have hbo : Below wr.heap.size wr wo := by rw [hwo]; exact box_below wr _
          have HBX : Hid (Bx np mb rv2 wo bo (.cells #[.int .i64 x.f, .int .i64 x.t, .string x.b] 31)) := Lib.hid (by rw [hwo, hbe]; exact Bx.new HNJ.out _)
          have HNO := Lib.hid (HNJ.out.kept hbo)
          have HBO := Lib.hid (HBJ.out.trans (hbo.mono HBJ.out.size))
          have HWO := Lib.hid hwo
          have HBE := Lib.hid hbe
          have HTK := Lib.hid (take_any HNO.out 0)
          have hj0 : (0 : Int) ≤ (j : Int) := by omega
          have hj1 : (j : Int) < (k : Int) := by omega
          clear hdr hok hwo hbo hbe
          go_upto_region 13 with fail
          rw [← HWO.out, ← HBE.out]
          go_wp2_with fail
          refine HTK.out.mono ?_
          rintro e w5 ⟨rfl, rv5, hn5, hk5⟩
          obtain ⟨e1, e2⟩ := at_head x (l.drop (j + 1))
          rw [← HDR.out] at e1 e2
          rw [e2] at hn5
          rw [e1]
          have HN5 := Lib.hid hn5
          have HB5 := Lib.hid (HBO.out.trans hk5.below)
          have HX5 := Lib.hid (HBX.out.kn hk5)
          have hne := neq31 x x
          rw [same_refl] at hne
          obtain ⟨w6, hw6⟩ : ∃ w6, w6 = w5.alloc (.cells #[.int .i64 x.f, .int .i64 x.t, .string x.b] 31) := ⟨_, rfl⟩
          have hb6 : Below w5.heap.size w5 w6 := by rw [hw6]; exact box_below w5 _
          have hx6 : w6.heap[w5.heap.size]? = some (.cells #[.int .i64 x.f, .int .i64 x.t, .string x.b] 31 (0, 0)) := by rw [hw6]; exact new_block w5 _
          have hbo6 := (hb6.block _ (Array.getElem?_eq_some_iff.1 HX5.out.here).1).trans HX5.out.here
          have o0 := cell_of hbo6 (j := 0) rfl
          have o1 := cell_of hbo6 (j := 1) rfl
          have o2 := cell_of hbo6 (j := 2) rfl
          have x0 := cell_of hx6 (j := 0) rfl
          have x1 := cell_of hx6 (j := 1) rfl
          have x2 := cell_of hx6 (j := 2) rfl
          have HN6 := Lib.hid (HN5.out.kept hb6)
          have HB6 := Lib.hid (HB5.out.trans (hb6.mono HB5.out.size))
          have HW6 := Lib.hid hw6
          have g31 := guard31
          clear hn5 hk5 e1 e2 h0 h1 h2 hw6 hb6 hx6 hbo6
          unfold pv
          go_upto_region 14 with fail
          rw [← HW6.out]
          go_wp2_with fail
          go_round
          case rel => exact ⟨j + 1, rv5, by omega, by go_num, HN6.out, HB6.out⟩
          case measure => simp [intOf]; omega
        · obtain rfl : j = k := by omega
          have hj1 : ¬ (j : Int) < (j : Int) := by omega
          go_wp2_with fail
          refine (alive_any wr).mono ?_
          rintro e w3 ⟨rfl, hb3⟩
          have HB3 := Lib.hid (HBJ.out.trans (hb3.mono HBJ.out.size))
          have hlen := len_any (HNJ.out.kept hb3)
          rw [List.drop_eq_nil_of_le (by rw [HL.out]; exact Nat.le_refl _)] at hlen
          have HLN := Lib.hid hlen
          clear hb3 hlen
          go_wp2_with fail
          refine HLN.out.mono ?_
          rintro e w4 ⟨rfl, rfl⟩
          go_wp2_with fail
          go_ret
          exact ⟨rfl, HB3.out⟩
end Go.Proofs.Ytdlhjpcofldfnaa
