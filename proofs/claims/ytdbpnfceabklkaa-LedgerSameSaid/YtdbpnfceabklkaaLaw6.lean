/-
  LedgerSame: the law returns true of every script and crash. No condition.
-/
import Derived.Test.YtdbpnfceabklkaaRun
namespace Go.Proofs.Ytdbpnfceabklkaa
set_option maxRecDepth 100000
open Go.ChangeShapes Go.WideShapes Go.ChangeAt Go.RowKit

theorem replace_same {G : Lg} {D : Dk} {now firm : List (List Int)} (h : Alive G D now firm) : amissL D.dead 0 now G.sz = 0 ∧ (putL G D (1 - G.m.half) 0 (enc now)).2.2 = 0 ∧ Alive (putL G D (1 - G.m.half) 0 (enc now)).1 (putL G D (1 - G.m.half) 0 (enc now)).2.1 now now ∧
    (putL G D (1 - G.m.half) 0 (enc now)).1.fr = G.fr ∧ (putL G D (1 - G.m.half) 0 (enc now)).1.sz = G.sz ∧ (putL G D (1 - G.m.half) 0 (enc now)).2.1.firm.length = D.firm.length ∧ (putL G D (1 - G.m.half) 0 (enc now)).2.1.wait = [] := by
  have hr : need now ≤ G.sz * 64 := by rw [← enc_length]; exact h.inv.room
  obtain ⟨p1, p2, p3, p4, p5, p6, p7, p8⟩ := put_alive h.inv h.dead h.arm (inv_fits_replace h.inv h.inv.rn hr) h.inv.rn
  refine ⟨?_, p1, ⟨p2, p3, p4⟩, p6, p7, by rw [p8, ups_length, cur_len], p5⟩
  unfold amissL
  rw [h.dead, if_neg (by decide), if_neg (by rintro ⟨s, hs, h4⟩; have := (h.inv.rn s hs).1; omega), if_neg (by omega)]
theorem crash_idle {D : Dk} (h : D.wait = []) (k t : Int) : cur (crash D k t) = cur D ∧ (crash D k t).firm.length = D.firm.length := by
  have e : (crash D k t).firm = D.firm := by
    show crashL D.firm D.wait (kp k) (tr t) = D.firm
    unfold crashL
    rw [h, if_neg (by simp)]; rfl
  have e2 : cur (crash D k t) = (crash D k t).firm := rfl
  rw [e2, e]
  refine ⟨?_, rfl⟩
  unfold cur
  rw [h]; rfl
set_option maxHeartbeats 4000000 in
theorem law_same (A : Option Addr) (n c : Nat) (l : List Ov) (x y : Int) (w : World) (hR : OReads w A n l) :
    Calls Try.prog 8 #[.slice A n c, .agg #[.int .i64 x, .int .i64 y]] w fun e w' => e = .returned (.bool true) ∧ Below w.heap.size w w' := by
  obtain ⟨wb, hwb⟩ : ∃ wb, wb = w.alloc (.cells #[.int .i64 x, .int .i64 y] 52) := ⟨_, rfl⟩
  have hbx : wb.heap[w.heap.size]? = some (.cells #[.int .i64 x, .int .i64 y] 52 (0, 0)) := by rw [hwb]; exact new_block w _
  have hbb : Below w.heap.size w wb := by rw [hwb]; exact box_below w _
  have HF := Lib.hid (few_any A n c l wb (hR.kept hbb))
  have HR := Lib.hid hR
  have HBX := Lib.hid hbx
  have HBB := Lib.hid hbb
  have HWB := Lib.hid hwb
  obtain ⟨f, hf⟩ : ∃ f, f = fewL l := ⟨_, rfl⟩
  rw [← hf] at HF
  have HFW := Lib.hid hf
  clear hR hf hbx hbb hwb
  go_enter Try.func8, Try.ntmps8
  go_upto_region 1 with fail
  rw [← HWB.out]
  go_wp2_with fail
  refine HF.out.mono ?_
  rintro e w1 ⟨rfl, hb1⟩
  have HB1 := Lib.hid (HBB.out.trans (hb1.mono HBB.out.size))
  have hx1 := (hb1.block _ (Array.getElem?_eq_some_iff.1 HBX.out).1).trans HBX.out
  have HX1 := Lib.hid hx1
  clear hb1 hx1
  cases f with
  | false =>
    go_wp2_with fail
    refine (alive_any w1).mono ?_
    rintro e w2 ⟨rfl, hb2⟩
    have HB2 := Lib.hid (HB1.out.trans (hb2.mono HB1.out.size))
    clear hb2
    go_wp2_with fail
    go_ret
    exact ⟨rfl, HB2.out⟩
  | true =>
    have hfew := few_ok HFW.out.symm
    rw [HR.out.len] at hfew
    have HFEW := Lib.hid hfew
    have hn120 : n ≤ 120 := hfew.1
    clear hfew
    go_wp2_with fail
    refine (opened_any 60 w1 (by decide) (by decide)).mono ?_
    rintro e w2 ⟨p, q, bv, rfl, hpl, hb2⟩
    have HRUN := Lib.hid (run_open (w := w) (by decide) (by decide) HB1.out hpl hb2)
    have HX2 : Hid (w2.heap[w.heap.size]? = some (.cells #[.int .i64 x, .int .i64 y] 52 (0, 0))) := Lib.hid ((hb2.block _ (Array.getElem?_eq_some_iff.1 HX1.out).1).trans HX1.out)
    clear hpl hb2
    go_wp2_with fail
    go_loopw [26] (fun vk wr => ∃ (k : Nat) (G : Lg) (bv : Value) (D : Dk) (now firm : List (List Int)), k ≤ n ∧ vk = .int .i64 k ∧ Run w q p 29 64 G bv D now firm wr ∧ wr.heap[w.heap.size]? = some (.cells #[.int .i64 x, .int .i64 y] 52 (0, 0))) (fun vk _ => n - (intOf vk).toNat)
    case atStart => exact ⟨0, _, bv, _, [], [], Nat.zero_le _, rfl, HRUN.out, HX2.out⟩
    case round =>
      obtain ⟨k, G, bv, D, now, firm, hk, rfl, hrun, hxr⟩ := hrel
      have HRU := Lib.hid hrun
      have HXR := Lib.hid hxr
      clear hrun hxr
      by_cases hlt : k < n
      · obtain ⟨b, off, o, rfl, hmem, -, hok, h0, h1, h2⟩ := ov_round HR.out hlt HRU.out.kl.below
        have hol : o.len ≤ 60 := HFEW.out.2 o hmem
        obtain ⟨wo, hwo⟩ : ∃ wo, wo = wr.alloc (.cells #[.int .i64 o.k, .string o.S, .slice o.A o.len o.cap] 33) := ⟨_, rfl⟩
        have hbo : Below wr.heap.size wr wo := by rw [hwo]; exact box_below wr _
        have HRO := Lib.hid (HRU.out.below hbo)
        have hbo2 : wo.heap[wr.heap.size]? = some (.cells #[.int .i64 o.k, .string o.S, .slice o.A o.len o.cap] 33 (0, 0)) := by rw [hwo]; exact new_block wr _
        have HXO : Hid (wo.heap[w.heap.size]? = some (.cells #[.int .i64 x, .int .i64 y] 52 (0, 0))) := Lib.hid ((hbo.block _ (Array.getElem?_eq_some_iff.1 HXR.out).1).trans HXR.out)
        have HBO2 := Lib.hid hbo2
        have HWO := Lib.hid hwo
        have HD := Lib.hid (run_does HRO.out hok (by omega))
        have hk0 : (0 : Int) ≤ (k : Int) := by omega
        have hk1 : (k : Int) < (n : Int) := by omega
        clear hwo hbo hbo2 hok hol hmem
        go_upto_region 9 with fail
        rw [← HWO.out]
        have o0 := cell_of HBO2.out (j := 0) rfl
        have o1 := cell_of HBO2.out (j := 1) rfl
        have o2 := cell_of HBO2.out (j := 2) rfl
        go_wp2_with fail
        refine HD.out.mono ?_
        rintro e w5 ⟨rfl, G5, bv5, D5, hr5, hk5⟩
        have HR5 := Lib.hid hr5
        have HX5 : Hid (w5.heap[w.heap.size]? = some (.cells #[.int .i64 x, .int .i64 y] 52 (0, 0))) := Lib.hid (hk5.tag _ _ _ _ HXO.out (by decide))
        clear hr5 hk5 o0 o1 o2 h0 h1 h2
        go_wp2_with fail
        go_round
        case rel => exact ⟨k + 1, G5, bv5, D5, _, _, by omega, by go_num, HR5.out, HX5.out⟩
        case measure => simp [intOf]; omega
      · obtain rfl : k = n := by omega
        have hk1 : ¬ (k : Int) < (k : Int) := by omega
        have HAL := Lib.hid (all_any w.heap.size q p G bv D now wr HRU.out.pl HRU.out.al.inv.bs HRU.out.al.inv.rn)
        go_wp2_with fail
        refine HAL.out.mono ?_
        rintro e w3 ⟨v3, rfl, ho3, hb3⟩
        obtain ⟨A3, c3, rfl, hs3, -, -⟩ := own_str (B := w.heap.size) ho3 (fun s hs => (HRU.out.al.inv.rn s hs).2)
        have hnl : now.length ≤ 100000 := by
          have h1 := need_len now
          have h2 := HRU.out.al.inv.room
          have h3 := HRU.out.size
          rw [enc_length, h3] at h2
          omega
        have HR3 := Lib.hid (HRU.out.below hb3)
        have HS3 := Lib.hid hs3
        have HX3 : Hid (w3.heap[w.heap.size]? = some (.cells #[.int .i64 x, .int .i64 y] 52 (0, 0))) := Lib.hid ((hb3.block _ (Array.getElem?_eq_some_iff.1 HXR.out).1).trans HXR.out)
        have HRP := Lib.hid (replace_any w.heap.size q p G bv D A3 now.length c3 now w3 HR3.out.pl hs3.1 hnl (fun s hs => by have := (HRU.out.al.inv.rn s hs).1; omega) HRU.out.wait)
        have HNL := Lib.hid hnl
        clear ho3 hb3 hs3 hnl
        go_wp2_with fail
        refine HRP.out.mono ?_
        intro e w4 hrp
        obtain ⟨z0, z1, z2, z3, z4, z5, z6⟩ := replace_same HRU.out.al
        rcases hrp with ⟨h0, -⟩ | ⟨-, bb, hse⟩
        · exact absurd z0 h0
        obtain ⟨bv4, he4, hpl4, hkl4⟩ := se_ds hse
        rw [z1] at he4
        subst he4
        obtain ⟨G4, hG4⟩ : ∃ G4, G4 = (putL G D (1 - G.m.half) 0 (enc now)).1 := ⟨_, rfl⟩
        obtain ⟨D4, hD4⟩ : ∃ D4, D4 = (putL G D (1 - G.m.half) 0 (enc now)).2.1 := ⟨_, rfl⟩
        rw [← hG4] at hpl4 z2 z3 z4
        rw [← hD4] at hpl4 z2 z5 z6
        have HR4 : Hid (Run w q p 29 64 G4 bv4 D4 now now w4) := Lib.hid ⟨hpl4, z2, by rw [z3]; exact HRU.out.fr, by rw [z4]; exact HRU.out.size, by rw [z5]; exact HRU.out.len, by rw [z6]; exact Nat.zero_le _, HR3.out.kl.trans hkl4⟩
        have HW4 := Lib.hid z6
        have HS4 := Lib.hid (HS3.out.kl hkl4)
        have hx4 : w4.heap[w.heap.size]? = some (.cells #[.int .i64 x, .int .i64 y] 52 (0, 0)) := hkl4.tag _ _ _ _ HX3.out (by decide)
        have x0 := cell_of hx4 (j := 0) rfl
        have x1 := cell_of hx4 (j := 1) rfl
        have HCR := Lib.hid (crash_any w.heap.size p D4 x y w4 HR4.out.pl.disk (by rw [HR4.out.len]; decide) (by rw [z6]; exact Nat.zero_le _))
        clear hse hpl4 hkl4 z0 z1 z2 z3 z4 z5 z6 hG4 hD4 hx4
        go_wp2_with fail
        refine HCR.out.mono ?_
        rintro e w5 ⟨p5, rfl, hp5, hb5⟩
        obtain ⟨hc1, hc2⟩ := crash_idle HW4.out x y
        have hh := HR4.out.al.inv.hold
        rw [← hc1, HR4.out.fr, HR4.out.size] at hh
        have HOP := Lib.hid (open_found w.heap.size p5 2 60 29 _ now (crash D4 x y) w5 (hp5.mono HR4.out.kl.below.size) (Nat.le_trans HR4.out.kl.below.size hb5.size) rfl (by rw [hc2, HR4.out.len]; decide) (by decide) (by rw [hc2, HR4.out.len]; decide) rfl hh HR4.out.al.inv.rn)
        have HR5 := Lib.hid (HR4.out.below hb5)
        have HS5 := Lib.hid (HS4.out.kept hb5 HR4.out.kl.below.size)
        clear hp5 hb5 hc1 hc2 hh x0 x1
        go_wp2_with fail
        refine HOP.out.mono ?_
        rintro e w6 ⟨q6, bv6, rfl, hpl6, -, hb6⟩
        have HR6 := Lib.hid (HR5.out.below hb6)
        have HS6 := Lib.hid (HS5.out.kept hb6 HR5.out.kl.below.size)
        have HP6 := Lib.hid hpl6
        clear hpl6 hb6
        go_wp2_with fail
        refine (alive_any w6).mono ?_
        rintro e w7 ⟨rfl, hb7⟩
        have HR7 := Lib.hid (HR6.out.below hb7)
        have HS7 := Lib.hid (HS6.out.kept hb7 HR6.out.kl.below.size)
        have HA7 := Lib.hid (all_any w.heap.size q6 p5 _ bv6 _ now w7 (HP6.out.kept hb7) rfl HR6.out.al.inv.rn)
        clear hb7
        go_wp2_with fail
        refine HA7.out.mono ?_
        rintro e w8 ⟨v8, rfl, ho8, hb8⟩
        obtain ⟨A8, c8, rfl, hs8, -, -⟩ := own_sreads ho8 (fun s hs => (HR7.out.al.inv.rn s hs).2)
        have HR8 := Lib.hid (HR7.out.below hb8)
        have HS8 := Lib.hid (HS7.out.kept hb8 HR7.out.kl.below.size)
        have HT8 := Lib.hid (same_true A8 A3 now.length now.length c8 c3 now w8 hs8 HS8.out.1 (by have := HNL.out; omega))
        clear ho8 hb8 hs8
        go_wp2_with fail
        refine HT8.out.mono ?_
        rintro e w9 ⟨rfl, m9, hw9⟩
        have hb9 : Below w8.heap.size w8 w9 := by rw [hw9]; exact below_drewN (Below.refl _ _) _
        have HR9 := Lib.hid (HR8.out.below hb9)
        have HS9 := Lib.hid (HS8.out.kept hb9 HR8.out.kl.below.size)
        have HA9 := Lib.hid (all_any w.heap.size q p _ bv4 _ now w9 HR9.out.pl HR9.out.al.inv.bs HR9.out.al.inv.rn)
        clear hb9 hw9
        go_wp2_with fail
        refine HA9.out.mono ?_
        rintro e w10 ⟨v10, rfl, ho10, hb10⟩
        obtain ⟨A10, c10, rfl, hs10, -, -⟩ := own_sreads ho10 (fun s hs => (HR9.out.al.inv.rn s hs).2)
        have HR10 := Lib.hid (HR9.out.below hb10)
        have HS10 := Lib.hid (HS9.out.kept hb10 HR9.out.kl.below.size)
        have HT10 := Lib.hid (same_true A10 A3 now.length now.length c10 c3 now w10 hs10 HS10.out.1 (by have := HNL.out; omega))
        clear ho10 hb10 hs10
        go_wp2_with fail
        refine HT10.out.mono ?_
        rintro e w11 ⟨rfl, m11, hw11⟩
        have hb11 : Below w10.heap.size w10 w11 := by rw [hw11]; exact below_drewN (Below.refl _ _) _
        have HR11 := Lib.hid (HR10.out.below hb11)
        clear hb11 hw11
        go_wp2_with fail
        go_ret
        exact ⟨rfl, HR11.out.kl.below⟩
end Go.Proofs.Ytdbpnfceabklkaa
