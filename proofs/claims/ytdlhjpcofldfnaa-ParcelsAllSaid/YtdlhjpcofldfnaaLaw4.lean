/-
  ParcelsParts: the law returns true of every script and two ends. No condition.
-/
import Derived.Test.YtdlhjpcofldfnaaDoes
namespace Go.Proofs.Ytdlhjpcofldfnaa
set_option maxRecDepth 100000
open Go.ChangeShapes Go.WideShapes Go.ChangeAt Go.RowKit

theorem ap_one (L : List Pk) (ap : List (Int × Int)) (o : Po) : (doL L ap o).ap.length ≤ ap.length + 1 := by
  unfold doL
  repeat' split
  all_goals simp
/-- An empty message. -/
def mt (a b : Int) : Pk := ⟨a, b, ⟨#[]⟩⟩
theorem not_sent (L : List Pk) (ap : List (Int × Int)) (a b : Int) : canSend L ((min a b, max a b) :: ap) (mt a b) = false ∧ canSend L ((min a b, max a b) :: ap) (mt b a) = false := by
  constructor
  · exact decide_eq_false (fun h => h.2 (by simp [mt]))
  · exact decide_eq_false (fun h => h.2 (by simp [mt, Int.min_comm b a, Int.max_comm b a]))
theorem sent_free (L : List Pk) (x : Pk) : canSend L [] x = decide (L.length < 2000) := by
  unfold canSend
  by_cases h : L.length < 2000
  · rw [decide_eq_true h]; exact decide_eq_true ⟨h, by simp⟩
  · rw [decide_eq_false h]; exact decide_eq_false (fun hh => h hh.1)
/-- What stays lies not between the two. -/
theorem kept_apart {a b : Int} {L : List Pk} {j : Nat} (h : j < (keepF (min a b) (max a b) L).length) : ∃ x, atL (keepF (min a b) (max a b) L) (j : Int) = (x, true) ∧ ((x.f == a) = true → (x.t == b) = false) ∧ ((x.f == b) = true → (x.t == a) = false) := by
  refine ⟨(keepF (min a b) (max a b) L).getD j pk0, ?_, ?_⟩
  · unfold atL
    rw [if_pos ⟨by omega, by omega⟩, Int.toNat_natCast]
  · rw [getD_eq pk0 h]
    have hm := (List.mem_filter.1 (List.getElem_mem h)).2
    generalize (keepF (min a b) (max a b) L)[j] = x at hm
    unfold btw at hm
    have hn : ¬ (min x.f x.t = min a b ∧ max x.f x.t = max a b) := fun hh => by simp [hh.1, hh.2] at hm
    refine ⟨fun h1 => ?_, fun h1 => ?_⟩
    · have h1' : x.f = a := by simpa using h1
      have : ¬ x.t = b := fun h2 => hn ⟨by rw [h1', h2], by rw [h1', h2]⟩
      simpa using this
    · have h1' : x.f = b := by simpa using h1
      have : ¬ x.t = a := fun h2 => hn ⟨by rw [h1', h2, Int.min_comm], by rw [h1', h2, Int.max_comm]⟩
      simpa using this
set_option maxHeartbeats 8000000 in
theorem law_parts (A : Option Addr) (n c : Nat) (l : List Po) (a b : Int) (w : World) (hR : SReads w A n l) (ha : I64 a) (hb : I64 b) :
    Calls Try.prog 6 #[.slice A n c, .int .i64 a, .int .i64 b] w fun e w' => e = .returned (.bool true) ∧ Below w.heap.size w w' := by
  have HR := Lib.hid hR
  have HA := Lib.hid ha
  have HB2 := Lib.hid hb
  clear hR ha hb
  by_cases hlong : (200 : Int) < (n : Int)
  · go_enter Try.func6, Try.ntmps6
    go_wp2_with fail
    refine (new_any w).mono ?_
    rintro e w1 ⟨np, mb, rfl, hn, hb⟩
    have HB := Lib.hid hb
    clear hn hb
    go_wp2_with fail
    refine (alive_any w1).mono ?_
    rintro e w2 ⟨rfl, hb2⟩
    have HB3 := Lib.hid (HB.out.trans (hb2.mono HB.out.size))
    clear hb2
    go_wp2_with fail
    go_ret
    exact ⟨rfl, HB3.out⟩
  have hn200 : n ≤ 200 := by omega
  go_enter Try.func6, Try.ntmps6
  go_wp2_with fail
  refine (new_any w).mono ?_
  rintro e w1 ⟨np, mb, rfl, hn, hb⟩
  have HN := Lib.hid hn
  have HB := Lib.hid hb
  clear hn hb
  go_wp2_with fail
  go_loopw [32] (fun vk wr => ∃ (k : Nat) (rv : Value) (L : List Pk) (ap : List (Int × Int)), k ≤ n ∧ vk = .int .i64 k ∧ NetW wr w.heap.size np mb rv L ap ∧ ap.length ≤ k ∧ Below w.heap.size w wr) (fun vk _ => n - (intOf vk).toNat)
  case atStart => exact ⟨0, _, _, _, Nat.zero_le _, rfl, HN.out, Nat.le_refl _, HB.out⟩
  case round =>
    obtain ⟨k, rv, L, ap, hk, rfl, hnet, hap, hbw⟩ := hrel
    have HNT := Lib.hid hnet
    have HBW := Lib.hid hbw
    have HAP := Lib.hid hap
    clear hnet hbw hap
    by_cases hlt : k < n
    · obtain ⟨b1, off, o, rfl, -, -, hok, hoc⟩ := (HR.out.kept HBW.out).round hlt
      obtain ⟨wo, hwo⟩ : ∃ wo, wo = wr.alloc (.cells #[.int .i64 o.k, .int .i64 o.K, .int .i64 o.J, .int .i64 o.p.f, .int .i64 o.p.t, .string o.p.b] 33) := ⟨_, rfl⟩
      have hbo : Below wr.heap.size wr wo := by rw [hwo]; exact box_below wr _
      have hbx : wo.heap[wr.heap.size]? = some (.cells #[.int .i64 o.k, .int .i64 o.K, .int .i64 o.J, .int .i64 o.p.f, .int .i64 o.p.t, .string o.p.b] 33 (0, 0)) := by rw [hwo]; exact new_block wr _
      have HNO := Lib.hid (HNT.out.kept hbo)
      have HBO := Lib.hid (HBW.out.trans (hbo.mono HBW.out.size))
      have HBX := Lib.hid hbx
      have HWO := Lib.hid hwo
      have HDO := Lib.hid (does_any HNO.out o hok (by have := HAP.out; omega))
      obtain ⟨h0, h1, h2, h3, h4, h5⟩ := hoc
      have hk0 : (0 : Int) ≤ (k : Int) := by omega
      have hk1 : (k : Int) < (n : Int) := by omega
      clear hok hwo hbo hbx
      go_upto_region 7 with fail
      rw [← HWO.out]
      have o0 := cell_of HBX.out (j := 0) rfl
      have o1 := cell_of HBX.out (j := 1) rfl
      have o2 := cell_of HBX.out (j := 2) rfl
      have o3 := cell_of HBX.out (j := 3) rfl
      have o4 := cell_of HBX.out (j := 4) rfl
      have o5 := cell_of HBX.out (j := 5) rfl
      go_wp2_with fail
      refine HDO.out.mono ?_
      rintro e w5 ⟨rfl, rv5, hn5, hk5⟩
      have HN5 := Lib.hid hn5
      have HB5 := Lib.hid (HBO.out.trans hk5.below)
      clear hn5 hk5 o0 o1 o2 o3 o4 o5 h0 h1 h2 h3 h4 h5
      go_wp2_with fail
      go_round
      case rel => exact ⟨k + 1, rv5, _, _, by omega, by go_num, HN5.out, by have := HAP.out; have := ap_one L ap o; omega, HB5.out⟩
      case measure => simp [intOf]; omega
    · obtain rfl : k = n := by omega
      have hk1 : ¬ (k : Int) < (k : Int) := by omega
      have HPT := Lib.hid (part_any HNT.out HA.out HB2.out (by have := HAP.out; omega))
      go_wp2_with fail
      refine HPT.out.mono ?_
      rintro e w2 ⟨rfl, rv2, hn2, hk2⟩
      have HN2 := Lib.hid hn2
      have HW2 := Lib.hid (HBW.out.trans hk2.below)
      obtain ⟨M, hM⟩ : ∃ M, M = keepF (min a b) (max a b) L := ⟨_, rfl⟩
      rw [← hM] at HN2
      have HM := Lib.hid hM
      have HNS := Lib.hid (not_sent M ap a b)
      clear hn2 hk2 hM
      have HS1 := Lib.hid (send_any HN2.out (mt a b) ⟨HA.out, HB2.out⟩)
      unfold mt at HS1
      go_wp2_with fail
      refine HS1.out.mono ?_
      rintro e w3 ⟨rfl, rv3, hn3, hk3⟩
      change NetW _ _ _ _ _ (if canSend M _ (mt a b) = true then _ else _) _ at hn3
      have HC1 : Hid (canSend M ((min a b, max a b) :: ap) ⟨a, b, ⟨#[]⟩⟩ = false) := Lib.hid HNS.out.1
      rw [HC1.out]
      rw [if_neg (by rw [HNS.out.1]; decide)] at hn3
      have HN3 := Lib.hid hn3
      have HW3 := Lib.hid (HW2.out.trans hk3.below)
      clear hn3 hk3
      have HS2 := Lib.hid (send_any HN3.out (mt b a) ⟨HB2.out, HA.out⟩)
      unfold mt at HS2
      go_wp2_with fail
      refine HS2.out.mono ?_
      rintro e w4 ⟨rfl, rv4, hn4, hk4⟩
      change NetW _ _ _ _ _ (if canSend M _ (mt b a) = true then _ else _) _ at hn4
      have HC2 : Hid (canSend M ((min a b, max a b) :: ap) ⟨b, a, ⟨#[]⟩⟩ = false) := Lib.hid HNS.out.2
      rw [HC2.out]
      rw [if_neg (by rw [HNS.out.2]; decide)] at hn4
      have HN4 := Lib.hid hn4
      have HW4 := Lib.hid (HW3.out.trans hk4.below)
      clear hn4 hk4
      have HL4 := Lib.hid (len_any HN4.out)
      go_wp2_with fail
      refine HL4.out.mono ?_
      rintro e w4' ⟨rfl, rfl⟩
      go_wp2_with fail
      go_loopw [56] (fun vk wr2 => ∃ (j : Nat) (rv : Value), j ≤ M.length ∧ vk = .int .i64 j ∧ NetW wr2 w.heap.size np mb rv M ((min a b, max a b) :: ap) ∧ Below w.heap.size w wr2) (fun vk _ => M.length - (intOf vk).toNat)
      case atStart => exact ⟨0, _, Nat.zero_le _, rfl, HN4.out, HW4.out⟩
      case round =>
        obtain ⟨j, rv6, hj, rfl, hnet, hbw⟩ := hrel
        have HNJ := Lib.hid hnet
        have HBJ := Lib.hid hbw
        have hm2 : M.length ≤ 2000 := HNJ.out.small.1
        clear hnet hbw
        by_cases hlt2 : j < M.length
        · have HAT := Lib.hid (at_any HNJ.out (j : Int))
          obtain ⟨x, hx, hx1, hx2⟩ := kept_apart (a := a) (b := b) (L := L) (j := j) (by rw [← HM.out]; exact hlt2)
          rw [← HM.out] at hx
          have HX := Lib.hid hx
          have hj0 : (0 : Int) ≤ (j : Int) := by omega
          have hj1 : (j : Int) < (M.length : Int) := by omega
          have H12 := Lib.hid (And.intro hx1 hx2)
          clear hx hx1 hx2
          go_wp2_with fail
          refine HAT.out.mono ?_
          rintro e w6 ⟨rfl, hb6⟩
          rw [HX.out]
          have HN6 := Lib.hid (HNJ.out.kept hb6)
          have HB6 := Lib.hid (HBJ.out.trans (hb6.mono HBJ.out.size))
          obtain ⟨bq, hbq⟩ : ∃ b, b = w6.heap.size := ⟨_, rfl⟩
          obtain ⟨w7, hw7⟩ : ∃ w7, w7 = w6.alloc (.cells #[.int .i64 x.f, .int .i64 x.t, .string x.b] 31) := ⟨_, rfl⟩
          have hb7 : Below w6.heap.size w6 w7 := by rw [hw7]; exact box_below w6 _
          have HN7 := Lib.hid (HN6.out.kept hb7)
          have HX7 : Hid (w7.heap[bq]? = some (.cells #[.int .i64 x.f, .int .i64 x.t, .string x.b] 31 (0, 0))) := Lib.hid (by rw [hw7, hbq]; exact new_block w6 _)
          have HB7 := Lib.hid (HB6.out.trans (hb7.mono HB6.out.size))
          have HW7 := Lib.hid hw7
          have HBQ := Lib.hid hbq
          clear hb6 hb7 hw7 hbq
          unfold pv
          go_upto_region 16 with fail
          rw [← HW7.out, ← HBQ.out]
          have x0 := cell_of HX7.out (j := 0) rfl
          have x1 := cell_of HX7.out (j := 1) rfl
          obtain ⟨q1, hq1⟩ : ∃ q, (x.f == a) = q := ⟨_, rfl⟩
          obtain ⟨q2, hq2⟩ : ∃ q, (x.f == b) = q := ⟨_, rfl⟩
          have hq3 := fun h => H12.out.1 (hq1.trans h)
          have hq4 := fun h => H12.out.2 (hq2.trans h)
          cases q1 <;> cases q2
          all_goals
            try replace hq3 := hq3 rfl
            try replace hq4 := hq4 rfl
            go_wp2_with fail
            go_round
            case rel => exact ⟨j + 1, rv6, by omega, by go_num, HN7.out, HB7.out⟩
            case measure => simp [intOf]; omega
        · obtain rfl : j = M.length := by omega
          have hj1 : ¬ (M.length : Int) < (M.length : Int) := by omega
          have HLJ := Lib.hid (len_any HNJ.out)
          have HHL := Lib.hid (heal_any HNJ.out)
          go_wp2_with fail
          refine HLJ.out.mono ?_
          rintro e w6 ⟨rfl, rfl⟩
          go_wp2_with fail
          refine HHL.out.mono ?_
          rintro e w7 ⟨rfl, hn7, hk7⟩
          have HN7 := Lib.hid hn7
          have HB7 := Lib.hid (HBJ.out.trans hk7.below)
          clear hn7 hk7
          have HS8 := Lib.hid (send_any HN7.out (mt a b) ⟨HA.out, HB2.out⟩)
          unfold mt at HS8
          have HC8 : Hid (canSend M [] ⟨a, b, ⟨#[]⟩⟩ = decide (M.length < 2000)) := Lib.hid (sent_free M _)
          go_wp2_with fail
          refine HS8.out.mono ?_
          rintro e w8 ⟨rfl, rv8, hn8, hk8⟩
          have HN8 := Lib.hid hn8
          have HB8 := Lib.hid (HB7.out.trans hk8.below)
          clear hn8 hk8
          rw [HC8.out]
          by_cases hful : M.length < 2000
          · have hi : ¬ (2000 : Int) ≤ (M.length : Int) := by omega
            have hd : decide ((2000 : Int) ≤ (M.length : Int)) = false := decide_eq_false hi
            rw [decide_eq_true hful]
            go_wp2_with fail
            refine (alive_any w8).mono ?_
            rintro e w9 ⟨rfl, hb9⟩
            have HN9 := Lib.hid (HN8.out.kept hb9)
            have HB9 := Lib.hid (HB8.out.trans (hb9.mono HB8.out.size))
            have HP := Lib.hid (apart_any HN9.out HA.out HB2.out)
            clear hb9
            go_wp2_with fail
            refine HP.out.mono ?_
            rintro e w10 ⟨rfl, hb10⟩
            have HB10 := Lib.hid (HB9.out.trans (hb10.mono HB9.out.size))
            have e0 : decide ((min a b, max a b) ∈ ([] : List (Int × Int))) = false := decide_eq_false (by simp)
            rw [e0]
            clear hb10
            go_wp2_with fail
            go_ret
            exact ⟨rfl, HB10.out⟩
          · have hi : (2000 : Int) ≤ (M.length : Int) := by omega
            have hd : decide ((2000 : Int) ≤ (M.length : Int)) = true := decide_eq_true hi
            rw [decide_eq_false hful]
            go_wp2_with fail
            refine (alive_any w8).mono ?_
            rintro e w9 ⟨rfl, hb9⟩
            have HN9 := Lib.hid (HN8.out.kept hb9)
            have HB9 := Lib.hid (HB8.out.trans (hb9.mono HB8.out.size))
            have HP := Lib.hid (apart_any HN9.out HA.out HB2.out)
            clear hb9
            go_wp2_with fail
            refine HP.out.mono ?_
            rintro e w10 ⟨rfl, hb10⟩
            have HB10 := Lib.hid (HB9.out.trans (hb10.mono HB9.out.size))
            have e0 : decide ((min a b, max a b) ∈ ([] : List (Int × Int))) = false := decide_eq_false (by simp)
            rw [e0]
            clear hb10
            go_wp2_with fail
            go_ret
            exact ⟨rfl, HB10.out⟩
end Go.Proofs.Ytdlhjpcofldfnaa
