/-
  LedgerRoom: the law returns true of every number of sectors and all sizes. No condition.
-/
import Derived.Test.YtdbpnfceabklkaaInts
namespace Go.Proofs.Ytdbpnfceabklkaa
set_option maxRecDepth 100000
open Go.ChangeShapes Go.WideShapes Go.ChangeAt Go.RowKit

/-- What the law asks of Room. -/
theorem room_ok {many nd sz : Nat} (hsz : sz = (many - 2) / 2) (h4 : 4 ≤ many) :
    ¬ roomL sz nd < min 4096 (32 * ((many : Int) - 2) - 128 - 4 - (nd : Int)) ∧ ¬ roomL sz nd < -1 ∧ ¬ 4096 < roomL sz nd := by
  unfold roomL
  omega
theorem need_app (l : List (List Int)) (s : List Int) : need (l ++ [s]) = need l + (s.length + 4) := need_snoc l s
theorem run_need {w wr : World} {q p sz n : Nat} {G : Lg} {bv : Value} {D : Dk} {now firm : List (List Int)} (h : Run w q p sz n G bv D now firm wr) : G.bs.length = need now ∧ need now ≤ sz * 64 := by
  have h2 := h.al.inv.room
  rw [enc_length, h.size] at h2
  exact ⟨by rw [h.al.inv.bs, enc_length], h2⟩
set_option maxHeartbeats 8000000 in
theorem law_room (x : Int) (A1 : Option Addr) (n1 c1 : Nat) (zs : List Int) (w : World) (hS : IReads w A1 n1 zs) (hn1 : n1 ≤ 9223372036854775807) :
    Calls Try.prog 4 #[.int .i64 x, .slice A1 n1 c1] w fun e w' => e = .returned (.bool true) ∧ Below w.heap.size w w' := by
  have HS := Lib.hid hS
  have hn2 : (n1 : Int) ≤ 9223372036854775807 := by omega
  clear hS hn1
  by_cases hgo : 4 ≤ x ∧ x ≤ 2000 ∧ n1 ≤ 100
  · obtain ⟨hx4, hx2, h100⟩ := hgo
    obtain ⟨many, rfl⟩ : ∃ m : Nat, x = (m : Int) := ⟨x.toNat, by omega⟩
    have hm4 : ¬ (many : Int) < 4 := by omega
    have hm2 : ¬ (2000 : Int) < (many : Int) := by omega
    have h100' : ¬ (100 : Int) < (n1 : Int) := by omega
    obtain ⟨sz, hsz⟩ : ∃ s, s = (many - 2) / 2 := ⟨_, rfl⟩
    have HSZ := Lib.hid hsz
    have h4 : 4 ≤ many := by omega
    have h2000 : many ≤ 2000 := by omega
    have HON : Hid (∀ w1, Calls Try.prog 12 #[.int .i64 (many : Int)] w1 (OnPost w1 many)) := Lib.hid (fun w1 => opened_any many w1 h4 (by omega))
    have hs1 : sz ≤ 1000 := by omega
    have hsz4 := fun nd => room_ok (nd := nd) hsz h4
    have HRK := Lib.hid hsz4
    obtain ⟨m, hm⟩ : ∃ m, m = 1 + n1 := ⟨_, rfl⟩
    have HM := Lib.hid hm
    have hm1 : m ≤ 101 := by omega
    clear hsz hsz4 hm
    go_enter Try.func4, Try.ntmps4
    go_wp2_with fail
    refine (HON.out w).mono ?_
    rintro e w2 ⟨p, q, bv, rfl, hpl, hb2⟩
    have HRUN : Hid (Run w q p sz (many + 4) ⟨2, sz, mk0, []⟩ bv (newD (many + 4)) [] [] w2) := Lib.hid (by rw [HSZ.out]; exact run_open (by omega) h4 (Below.refl _ _) hpl hb2)
    have HO : Hid ((w2.alloc (.cells #[.int .i64 0] 3)).ownsRow w.heap.size 3 1 (.slice (some ⟨w2.heap.size, 0, none⟩) 1 1) 1 (i64s [0])) := Lib.hid (own_one3 w2 _ 0 HRUN.out.kl.below.size)
    have HSA : Hid (IReads (w2.alloc (.cells #[.int .i64 0] 3)) A1 n1 zs) := Lib.hid ((HS.out.kept HRUN.out.kl.below).kept (box_below w2 _))
    have HBZ : Hid (w.heap.size ≤ (w2.alloc (.cells #[.int .i64 0] 3)).heap.size) := Lib.hid (Nat.le_trans HRUN.out.kl.below.size (box_below w2 _).size)
    have hn0 : 1 + n1 ≤ 100000000 := by omega
    clear hpl hb2
    go_wp2_with (first
      | (at_builtin; refine wpList_append_ints rfl (.tmp 30) (.tmp 31) rfl w.heap.size (.slice (some ⟨w2.heap.size, 0, none⟩) 1 1) 1 (i64s [0]) rfl HO.out A1 n1 c1 zs rfl HSA.out hn0 HBZ.out ?_; intro v1 w3 h2 h3; rw [← HM.out] at h2; have HRA : Hid (Run w q p sz (many + 4) ⟨2, sz, mk0, []⟩ bv (newD (many + 4)) [] [] w3) := Lib.hid (HRUN.out.below (new_grown h3)); obtain ⟨Ar, cr, rfl, -, -, -⟩ := own_form h2; have HG : Hid (w3.ownsRow w.heap.size 3 1 (.slice Ar m cr) m (i64s (0 :: zs))) := Lib.hid h2; clear h2 h3)
      | fail)
    go_loopw [7, 34] (fun vn vk wr => ∃ (k : Nat) (G : Lg) (bv : Value) (D : Dk) (now firm : List (List Int)), k ≤ m ∧ vk = .int .i64 k ∧ vn = .int .i64 (need now : Int) ∧ Run w q p sz (many + 4) G bv D now firm wr ∧ wr.ownsRow w.heap.size 3 1 (.slice Ar m cr) m (i64s (0 :: zs))) (fun _ vk _ => m - (intOf vk).toNat)
    case atStart => exact ⟨0, _, bv, _, [], [], Nat.zero_le _, rfl, rfl, HRA.out, HG.out⟩
    case round =>
      obtain ⟨k, G, bv, D, now, firm, hk, rfl, rfl, hrun, hown⟩ := hrel
      have HRU := Lib.hid hrun
      have HOW := Lib.hid hown
      obtain ⟨nd, hnd⟩ : ∃ nd, nd = need now := ⟨_, rfl⟩
      obtain ⟨hg1, hg2⟩ := run_need hrun
      rw [← hnd] at hg1 hg2 ⊢
      have hnd1 : nd ≤ 64000 := by omega
      have hnd2 : (nd : Int) ≤ 64000 := by omega
      have hnd3 : (0 : Int) ≤ (nd : Int) := by omega
      have HND := Lib.hid hnd
      have HG1 := Lib.hid hg1
      clear hrun hown hnd hg1 hg2
      by_cases hlt : k < m
      · obtain ⟨g, rfl, hc1, hc2⟩ := own_i64 HOW.out k hlt
        obtain ⟨x, hx⟩ : ∃ x, x = (0 :: zs).getD k 0 := ⟨_, rfl⟩
        rw [← hx] at hc1 hc2
        obtain ⟨r, hr⟩ : ∃ r, r = roomL sz nd := ⟨_, rfl⟩
        obtain ⟨hr1, hr2, hr3⟩ := HRK.out nd
        rw [← hr] at hr1 hr2 hr3
        obtain ⟨sv, hsv⟩ : ∃ sv, min 4096 (32 * ((many : Int) - 2) - 128 - 4 - (nd : Int)) = sv := ⟨_, rfl⟩
        rw [hsv] at hr1
        have hd1 : decide (r < sv) = false := decide_eq_false (by omega)
        have hd2 : decide (r < -1) = false := decide_eq_false (by omega)
        have hd3 : decide (4096 < r) = false := decide_eq_false (by omega)
        have HRM : Hid (∀ W, Below wr.heap.size wr W → Calls Try.prog 13 #[.pointer (some ⟨q, 0, none⟩)] W fun e w' => e = .returned (.int .i64 r) ∧ ∃ n, w' = W.drewN n) := Lib.hid (fun W hb => by
          have h := room_any w.heap.size q p G bv D W (HRU.out.below hb).pl
          rw [HRU.out.size, HG1.out, ← hr] at h
          exact h)
        have e1 : IntKind.i64.wrap (32 * ((many : Int) - 2) - 128 - 4) = 32 * ((many : Int) - 2) - 128 - 4 := by rw [IntKind.wrap_i64]; omega
        have e2 : IntKind.i64.wrap (32 * ((many : Int) - 2) - 128 - 4 - (nd : Int)) = 32 * ((many : Int) - 2) - 128 - 4 - (nd : Int) := by rw [IntKind.wrap_i64]; omega
        have hk0 : (0 : Int) ≤ (k : Int) := by omega
        have hk1 : (k : Int) < (m : Int) := by omega
        clear hx hr
        go_wp2_with fail
        refine (sure_any many wr (by omega)).mono ?_
        rintro e w' ⟨rfl, rfl⟩
        go_wp2_with fail
        refine (HRM.out wr (Below.refl _ _)).mono ?_
        rintro e w4 ⟨rfl, n4, hw4⟩
        clear hsv
        have HB4 : Hid (Below wr.heap.size wr w4) := Lib.hid (by rw [hw4]; exact below_drewN (Below.refl _ _) _)
        clear hw4
        go_wp2_with fail
        refine (HRM.out w4 HB4.out).mono ?_
        rintro e w5 ⟨rfl, n5, hw5⟩
        have HB5 : Hid (Below wr.heap.size wr w5) := Lib.hid (by rw [hw5]; exact below_drewN HB4.out _)
        clear hw5
        go_wp2_with fail
        refine (HRM.out w5 HB5.out).mono ?_
        rintro e w6 ⟨rfl, n6, hw6⟩
        have HB6 : Hid (Below wr.heap.size wr w6) := Lib.hid (by rw [hw6]; exact below_drewN HB5.out _)
        clear hw6 e1 e2 hr1 hr2 hd1 hd2
        have HR6 := Lib.hid (HRU.out.below HB6.out)
        have HO6 := Lib.hid (own_below HOW.out HB6.out)
        by_cases hneg : x < 0
        · go_wp2_with fail
          go_round
          case rel => exact ⟨k + 1, G, bv, D, now, firm, by omega, by go_num, by rw [HND.out], HR6.out, HO6.out⟩
          case measure => simp [intOf]; omega
        · by_cases hbig : 5000 < x
          · go_wp2_with fail
            go_round
            case rel => exact ⟨k + 1, G, bv, D, now, firm, by omega, by go_num, by rw [HND.out], HR6.out, HO6.out⟩
            case measure => simp [intOf]; omega
          · obtain ⟨xn, rfl⟩ : ∃ n : Nat, x = (n : Int) := ⟨x.toNat, by omega⟩
            have hx5 : xn ≤ 5000 := by omega
            obtain ⟨C, hmk, hrd⟩ := make_zero xn (by omega)
            have hmk6 := hmk w6
            have hcv := conv_reads (c := xn) (hrd w6)
            obtain ⟨S, hS⟩ : ∃ S, S = strOfNums (List.replicate xn 0) := ⟨_, rfl⟩
            rw [← hS] at hcv
            have hsb : sb S = List.replicate xn 0 := by rw [hS]; exact sb_str (bys_zero xn)
            have hsl : (sb S).length = xn := by rw [hsb]; exact List.length_replicate
            have HSL := Lib.hid hsl
            obtain ⟨w7, hw7⟩ : ∃ w7, w7 = w6.alloc (.cells C 5) := ⟨_, rfl⟩
            have hb7 : Below w6.heap.size w6 w7 := by rw [hw7]; exact box_below w6 _
            rw [← hw7] at hmk6 hcv
            have HR7 := Lib.hid (HR6.out.below hb7)
            have HO7 := Lib.hid (own_below HO6.out hb7)
            have HAP := Lib.hid (run_append HR7.out S (by rw [← sb_len, hsl]; omega))
            clear hS hsb hsl hw7 hb7 hmk hrd
            go_wp2_with fail
            refine HAP.out.mono ?_
            rintro e w8 ⟨rfl, G8, bv8, hr8, hk8⟩
            obtain ⟨a, ha⟩ : ∃ a, a = amissL false (need now) [sb S] sz := ⟨_, rfl⟩
            rw [← ha] at hr8 ⊢
            have HO8 := Lib.hid (own_kl HO7.out (by decide) hk8)
            clear ha hk8 hmk6 hcv
            by_cases h0 : a = 0
            · subst h0
              rw [if_pos rfl] at hr8
              have HR8 := Lib.hid hr8
              have hx0 : (0 : Int) ≤ (xn : Int) := by omega
              have hx6 : (xn : Int) ≤ 5000 := by omega
              clear hr8
              go_wp2_with fail
              go_round
              case rel => exact ⟨k + 1, G8, bv8, D, now ++ [sb S], firm, by omega, by go_num, by rw [need_app, HSL.out, ← HND.out]; go_num, HR8.out, HO8.out⟩
              case measure => simp [intOf]; omega
            · rw [if_neg h0] at hr8
              have HR8 := Lib.hid hr8
              have hb0 : (a == 0) = false := by simpa using h0
              clear hr8
              go_wp2_with fail
              go_round
              case rel => exact ⟨k + 1, G8, bv8, D, now, firm, by omega, by go_num, by rw [HND.out], HR8.out, HO8.out⟩
              case measure => simp [intOf]; omega
      · obtain rfl : k = m := by omega
        have hk1 : ¬ (k : Int) < (k : Int) := by omega
        go_wp2_with fail
        refine (alive_any wr).mono ?_
        rintro e w3 ⟨rfl, hb3⟩
        have HR3 := Lib.hid (HRU.out.below hb3)
        clear hb3
        go_wp2_with fail
        go_ret
        exact ⟨rfl, HR3.out.kl.below⟩
  · by_cases h1 : x < 4
    · go_enter Try.func4, Try.ntmps4
      go_wp2_with fail
      refine (alive_any w).mono ?_
      rintro e w2 ⟨rfl, hb2⟩
      have HB2 := Lib.hid hb2
      clear hb2
      go_wp2_with fail
      go_ret
      exact ⟨rfl, HB2.out⟩
    · by_cases h2 : 2000 < x
      · go_enter Try.func4, Try.ntmps4
        go_wp2_with fail
        refine (alive_any w).mono ?_
        rintro e w2 ⟨rfl, hb2⟩
        have HB2 := Lib.hid hb2
        clear hb2
        go_wp2_with fail
        go_ret
        exact ⟨rfl, HB2.out⟩
      · have h3 : (100 : Int) < (n1 : Int) := by
          have : ¬ n1 ≤ 100 := fun h => hgo ⟨by omega, by omega, h⟩
          omega
        clear hgo
        go_enter Try.func4, Try.ntmps4
        go_wp2_with fail
        refine (alive_any w).mono ?_
        rintro e w2 ⟨rfl, hb2⟩
        have HB2 := Lib.hid hb2
        clear hb2
        go_wp2_with fail
        go_ret
        exact ⟨rfl, HB2.out⟩
end Go.Proofs.Ytdbpnfceabklkaa
