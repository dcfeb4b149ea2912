/-
  LedgerOwn: the law returns true of every script and all records. No condition.
-/
import Derived.Test.YtdbpnfceabklkaaOwn
namespace Go.Proofs.Ytdbpnfceabklkaa
set_option maxRecDepth 100000
open Go.ChangeShapes Go.WideShapes Go.ChangeAt Go.RowKit

/-- Behind Replace: the ledger; the slice that was given; what is wanted. -/
def Mid (w : World) (q p n : Nat) (Ag : Option Addr) (cg : Nat) (vw : Value) (wr : World) : Prop :=
  ∃ G bv D now firm b1 Aw cw xs, vw = .slice Aw now.length cw ∧ Run w q p 29 64 G bv D now firm wr ∧ w.heap.size ≤ b1 ∧ b1 ≤ wr.heap.size ∧
    wr.ownsRow w.heap.size 9 1 (.slice Ag n cg) n xs ∧ (∀ k, (Value.slice Ag n cg).ownBlock = some k → k < b1) ∧ wr.ownsRow b1 9 1 (.slice Aw now.length cw) now.length (strs now)
theorem own_kl9 {wr w' : World} {base n : Nat} {v : Value} {xs : List Value} (h : wr.ownsRow base 9 1 v n xs) {B : Nat} (hk : Kl B wr w') : w'.ownsRow base 9 1 v n xs :=
  own_tag h (fun k cs hc => hk.tag _ _ _ _ hc (by decide))
theorem own_size {w : World} {base n : Nat} {v : Value} {xs : List Value} (h : w.ownsRow base 9 1 v n xs) : ∀ k, v.ownBlock = some k → k < w.heap.size := fun k hk => (h.lt k hk).2
theorem run_len {w wr : World} {q p n : Nat} {G : Lg} {bv : Value} {D : Dk} {now firm : List (List Int)} (h : Run w q p 29 n G bv D now firm wr) : now.length ≤ 100000 := by
  have h1 := need_len now
  have h2 := h.al.inv.room
  have h3 := h.size
  rw [enc_length, h3] at h2
  omega
theorem own_reads9 {w : World} {base n c : Nat} {A : Option Addr} {l : List (List Int)} (h : w.ownsRow base 9 1 (.slice A n c) n (strs l)) (hB : ∀ s ∈ l, Bys s) : SReads w A n l := by
  obtain ⟨A', c', e, hs, -, -⟩ := own_sreads h hB
  injection e with e1 e2 e3
  rw [e1]; exact hs
theorem new_grown {w w' : World} {o : Obj} {c m : Nat} (h : (w.alloc o).grownBy w' (Value.slice (some ⟨w.heap.size, 0, none⟩) m c).ownBlock) : Below w.heap.size w w' :=
  (box_below w o).grown h (box_below w o).size (fun k hk => by simp only [Value.ownBlock, Option.some.injEq] at hk; omega)
def mineS : ByteArray := { data := #[109, 105, 110, 101] }
set_option maxHeartbeats 8000000 in
theorem law_own (A : Option Addr) (n c : Nat) (l : List Ov) (A1 : Option Addr) (n1 c1 : Nat) (all : List (List Int)) (w : World) (hR : OReads w A n l) (hS : SReads w A1 n1 all) (hn1 : n1 ≤ 9223372036854775807) (hz : ∀ s ∈ all, s.length ≤ 9223372036854775807) :
    Calls Try.prog 9 #[.slice A n c, .slice A1 n1 c1] w fun e w' => e = .returned (.bool true) ∧ Below w.heap.size w w' := by
  have HF := Lib.hid (few_any A n c l w hR)
  have HR := Lib.hid hR
  have HS := Lib.hid hS
  have HN := Lib.hid hS.1
  have HZ := Lib.hid hz
  obtain ⟨f, hf⟩ : ∃ f, f = fewL l := ⟨_, rfl⟩
  rw [← hf] at HF
  have HFW := Lib.hid hf
  have hn2 : (n1 : Int) ≤ 9223372036854775807 := by omega
  clear hR hS hz hf hn1
  by_cases hgo : f = true ∧ n1 ≤ 60
  · obtain ⟨rfl, h60⟩ := hgo
    have hfew := few_ok HFW.out.symm
    rw [HR.out.len] at hfew
    have HFEW := Lib.hid hfew
    have hn120 : n ≤ 120 := hfew.1
    have h60' : ¬ (60 : Int) < (n1 : Int) := by omega
    clear hfew
    go_enter Try.func9, Try.ntmps9
    go_wp2_with fail
    refine HF.out.mono ?_
    rintro e w1 ⟨rfl, hb1⟩
    have HB1 := Lib.hid hb1
    clear hb1
    go_wp2_with fail
    refine (opened_any 60 w1 (by decide) (by decide)).mono ?_
    rintro e w2 ⟨p, q, bv, rfl, hpl, hb2⟩
    have HRUN := Lib.hid (run_open (w := w) (by decide) (by decide) HB1.out hpl hb2)
    clear hpl hb2
    go_wp2_with fail
    go_loopw [31] (fun vk wr => ∃ (k : Nat) (G : Lg) (bv : Value) (D : Dk) (now firm : List (List Int)), k ≤ n ∧ vk = .int .i64 k ∧ Run w q p 29 64 G bv D now firm wr) (fun vk _ => n - (intOf vk).toNat)
    case atStart => exact ⟨0, _, bv, _, [], [], Nat.zero_le _, rfl, HRUN.out⟩
    case round =>
      obtain ⟨k, G, bv, D, now, firm, hk, rfl, hrun⟩ := hrel
      have HRU := Lib.hid hrun
      clear hrun
      by_cases hlt : k < n
      · obtain ⟨b, off, o, rfl, hmem, -, hok, h0, h1, h2⟩ := ov_round HR.out hlt HRU.out.kl.below
        have hol : o.len ≤ 60 := HFEW.out.2 o hmem
        obtain ⟨wo, hwo⟩ : ∃ wo, wo = wr.alloc (.cells #[.int .i64 o.k, .string o.S, .slice o.A o.len o.cap] 33) := ⟨_, rfl⟩
        have hbo : Below wr.heap.size wr wo := by rw [hwo]; exact box_below wr _
        have HRO := Lib.hid (HRU.out.below hbo)
        have hbo2 : wo.heap[wr.heap.size]? = some (.cells #[.int .i64 o.k, .string o.S, .slice o.A o.len o.cap] 33 (0, 0)) := by rw [hwo]; exact new_block wr _
        have HBO2 := Lib.hid hbo2
        have HWO := Lib.hid hwo
        have HD := Lib.hid (run_does HRO.out hok (by omega))
        have hk0 : (0 : Int) ≤ (k : Int) := by omega
        have hk1 : (k : Int) < (n : Int) := by omega
        clear hwo hbo hbo2 hok hol hmem
        go_upto_region 9 with fail
        rw [← HWO.out]
        have o0 := cell_of HBO2.out (j := 0) rfl
        have o1 := cell_of HBO2.out (j := 1) rfl
        have o2 := cell_of HBO2.out (j := 2) rfl
        go_wp2_with fail
        refine HD.out.mono ?_
        rintro e w5 ⟨rfl, G5, bv5, D5, hr5, hk5⟩
        have HR5 := Lib.hid hr5
        clear hr5 hk5 o0 o1 o2 h0 h1 h2
        go_wp2_with fail
        go_round
        case rel => exact ⟨k + 1, G5, bv5, D5, _, _, by omega, by go_num, HR5.out⟩
        case measure => simp [intOf]; omega
      · obtain rfl : k = n := by omega
        have hk1 : ¬ (k : Int) < (k : Int) := by omega
        have HO : Hid ((wr.alloc (.cells #[] 9)).ownsRow w.heap.size 9 1 (.slice (some ⟨wr.heap.size, 0, none⟩) 0 0) 0 []) := Lib.hid (own_none9 wr _ HRU.out.kl.below.size)
        have HSA : Hid (SReads (wr.alloc (.cells #[] 9)) A1 n1 all) := Lib.hid ((HS.out.kept HRU.out.kl.below).kept (box_below wr _))
        have HBZ : Hid (w.heap.size ≤ (wr.alloc (.cells #[] 9)).heap.size) := Lib.hid (Nat.le_trans HRU.out.kl.below.size (box_below wr _).size)
        have hn0 : 0 + n1 ≤ 100000000 := by omega
        go_wp2_with (first
          | (at_builtin; refine wpList_append_st rfl (.tmp 39) (.tmp 40) rfl w.heap.size (.slice (some ⟨wr.heap.size, 0, none⟩) 0 0) 0 [] rfl HO.out A1 n1 c1 all rfl HSA.out hn0 HBZ.out ?_; intro v1 w2 h2 h3; rw [Nat.zero_add] at h2; have HRA : Hid (Run w q p 29 64 G bv D now firm w2) := Lib.hid (HRU.out.below (new_grown h3)); obtain ⟨Ag, cg, rfl, -, -, -⟩ := own_form h2; have HG := Lib.hid h2; clear h2 h3)
          | fail)
        have HAL := Lib.hid (all_any w.heap.size q p G bv D now _ HRA.out.pl HRA.out.al.inv.bs HRA.out.al.inv.rn)
        refine HAL.out.mono ?_
        rintro e w3 ⟨v3, rfl, ho3, hb3⟩
        obtain ⟨A3, c3, rfl, -, -, -⟩ := own_form ho3
        have HR3 := Lib.hid (HRA.out.below hb3)
        have HG3 := Lib.hid (own_below HG.out hb3)
        have HW3 := Lib.hid ho3
        have HT3 := Lib.hid (own_size HG.out)
        have HRP := Lib.hid (run_replace HR3.out (c := cg) (own_reads9 HG3.out HS.out.2.2) (by omega) HZ.out)
        have HB3 := Lib.hid hb3
        clear ho3 hb3
        go_wp2_with fail
        refine HRP.out.mono ?_
        rintro e w4 ⟨rfl, G4, bv4, D4, hr4, hk4⟩
        have HG4 := Lib.hid (own_kl9 HG3.out hk4)
        have HW4 := Lib.hid (own_kl9 HW3.out hk4)
        obtain ⟨a, ha⟩ : ∃ a, a = amissL false 0 all 29 := ⟨_, rfl⟩
        rw [← ha] at hr4 ⊢
        have HR4 := Lib.hid hr4
        have HB4 := Lib.hid (Nat.le_trans HB3.out.size hk4.below.size)
        clear hr4 hk4 ha
        go_upto_if 47 with fail
        go_cut [10] (fun s10 wx => Mid w q p n1 Ag cg s10 wx)
        case first =>
          by_cases h0 : a = 0
          · subst h0
            have hr5 := HR4.out
            rw [if_pos rfl, if_pos rfl] at hr5
            have HR5 := Lib.hid hr5
            have HO4 : Hid ((w4.alloc (.cells #[] 9)).ownsRow w4.heap.size 9 1 (.slice (some ⟨w4.heap.size, 0, none⟩) 0 0) 0 []) := Lib.hid (own_none9 w4 _ (Nat.le_refl _))
            have HSB : Hid (SReads (w4.alloc (.cells #[] 9)) A1 n1 all) := Lib.hid ((HS.out.kept hr5.kl.below).kept (box_below w4 _))
            have HBZ4 : Hid (w4.heap.size ≤ (w4.alloc (.cells #[] 9)).heap.size) := Lib.hid (box_below w4 _).size
            have hn0 : 0 + n1 ≤ 100000000 := by omega
            clear hr5
            go_wp2_with (first
              | (at_builtin; refine wpList_append_st rfl (.tmp 48) (.tmp 49) rfl w4.heap.size (.slice (some ⟨w4.heap.size, 0, none⟩) 0 0) 0 [] rfl HO4.out A1 n1 c1 all rfl HSB.out hn0 HBZ4.out ?_; intro v1 w5 h2 h3; rw [Nat.zero_add] at h2; have HRB : Hid (Run w q p 29 64 G4 bv4 D4 all all w5) := Lib.hid (HR5.out.below (new_grown h3)); have HGB := Lib.hid (own_below HG4.out (new_grown h3)); have HZB := Lib.hid (new_grown h3).size; obtain ⟨Aw, cw, rfl, -, -, -⟩ := own_form h2; have HWB := Lib.hid h2; clear h2 h3)
              | fail)
            go_meet
            have e := HN.out
            subst e
            exact ⟨G4, bv4, D4, all, all, w4.heap.size, Aw, cw, _, rfl, HRB.out, HR4.out.kl.below.size, HZB.out, HGB.out, fun k hk => Nat.lt_of_lt_of_le (HT3.out k hk) HB4.out, HWB.out⟩
          · have hr5 := HR4.out
            rw [if_neg h0, if_neg h0] at hr5
            have HR5 := Lib.hid hr5
            have hb0 : (a == 0) = false := by simpa using h0
            clear hr5
            go_wp2_with fail
            go_meet
            exact ⟨G4, bv4, D4, now, firm, _, A3, c3, _, rfl, HR5.out, HRA.out.kl.below.size, HB4.out, HG4.out, HT3.out, HW4.out⟩
        case rest =>
          obtain ⟨G5, bv5, D5, now5, firm5, b1, Aw, cw, xs, rfl, hr5, hb5, hb6, hg5, ht5, hw5⟩ := hcut
          have HR5 := Lib.hid hr5
          have HB5 := Lib.hid hb5
          have HB6 := Lib.hid hb6
          have HM5 := Lib.hid (own_mine hg5 ht5)
          have HW5 := Lib.hid hw5
          obtain ⟨m5, hm5⟩ : ∃ m, m = now5.length := ⟨_, rfl⟩
          have HM := Lib.hid hm5
          have hm100 : m5 ≤ 100000 := by rw [hm5]; exact run_len hr5
          clear hr5 hb5 hb6 hg5 ht5 hw5 hm5
          go_wp2_with fail
          go_loopw [53] (fun vk wr2 => ∃ k : Nat, k ≤ n1 ∧ vk = .int .i64 k ∧ Mine w.heap.size b1 Ag n1 wc wr2) (fun vk _ => n1 - (intOf vk).toNat)
          case atStart => exact ⟨0, Nat.zero_le _, rfl, HM5.out⟩
          case round =>
            obtain ⟨k, hk, rfl, hmine⟩ := hrel
            have HMI := Lib.hid hmine
            clear hmine
            by_cases hlt : k < n1
            · obtain ⟨g, rfl, ⟨u, hu⟩, hf, hset⟩ := HMI.out.round hlt
              have HSE := Lib.hid (hset (.string mineS))
              have hu2 := hu
              have hf2 := hf
              rw [Nat.zero_add] at hu2 hf2
              have hk0 : (0 : Int) ≤ (k : Int) := by omega
              have hk1 : (k : Int) < (n1 : Int) := by omega
              clear hset
              go_wp2_with fail
              go_round
              case rel => exact ⟨k + 1, by omega, by go_num, by first | exact HSE.out | (have h := HSE.out; rw [Nat.zero_add] at h; exact h)⟩
              case measure => simp [intOf]; omega
            · obtain rfl : k = n1 := by omega
              have hk1 : ¬ (k : Int) < (k : Int) := by omega
              have HR6 := Lib.hid (HMI.out.run HR5.out (Nat.le_refl _))
              have HW6 := Lib.hid (HMI.out.own HW5.out)
              have HAL6 := Lib.hid (all_any w.heap.size q p G5 bv5 D5 now5 _ HR6.out.pl HR6.out.al.inv.bs HR6.out.al.inv.rn)
              go_wp2_with fail
              refine HAL6.out.mono ?_
              rintro e w7 ⟨v7, rfl, ho7, hb7⟩
              rw [← HM.out] at ho7
              obtain ⟨A7, c7, rfl, -, -, -⟩ := own_form ho7
              have HM7 := Lib.hid (own_mine ho7 (own_size ho7))
              have HB7 := Lib.hid hb7
              have HR7 := Lib.hid (HR6.out.below hb7)
              clear ho7 hb7
              go_wp2_with fail
              go_loopw [64] (fun vk wr3 => ∃ k : Nat, k ≤ m5 ∧ vk = .int .i64 k ∧ Mine wr.heap.size w7.heap.size A7 m5 w7 wr3) (fun vk _ => m5 - (intOf vk).toNat)
              case atStart => exact ⟨0, Nat.zero_le _, rfl, HM7.out⟩
              case round =>
                obtain ⟨j, hj, rfl, hmine⟩ := hrel
                have HMJ := Lib.hid hmine
                clear hmine
                by_cases hlt2 : j < m5
                · obtain ⟨g, rfl, ⟨u, hu⟩, hf, hset⟩ := HMJ.out.round hlt2
                  have HSE := Lib.hid (hset (.string mineS))
                  have hu2 := hu
                  have hf2 := hf
                  rw [Nat.zero_add] at hu2 hf2
                  have hj0 : (0 : Int) ≤ (j : Int) := by omega
                  have hj1 : (j : Int) < (m5 : Int) := by omega
                  clear hset
                  go_wp2_with fail
                  go_round
                  case rel => exact ⟨j + 1, by omega, by go_num, by first | exact HSE.out | (have h := HSE.out; rw [Nat.zero_add] at h; exact h)⟩
                  case measure => simp [intOf]; omega
                · obtain rfl : j = m5 := by omega
                  have hj1 : ¬ (j : Int) < (j : Int) := by omega
                  have HR8 := Lib.hid (HMJ.out.run HR7.out HR6.out.kl.below.size)
                  have HB8 := Lib.hid (HB7.out.trans HMJ.out.below)
                  go_wp2_with fail
                  refine (alive_any _).mono ?_
                  rintro e w9 ⟨rfl, hb9⟩
                  have HR9 := Lib.hid (HR8.out.below hb9)
                  have HB9 := Lib.hid (HB8.out.trans (hb9.mono HB8.out.size))
                  have HAL9 := Lib.hid (all_any w.heap.size q p G5 bv5 D5 now5 _ HR9.out.pl HR9.out.al.inv.bs HR9.out.al.inv.rn)
                  clear hb9
                  go_wp2_with fail
                  refine HAL9.out.mono ?_
                  rintro e w10 ⟨v10, rfl, ho10, hb10⟩
                  rw [← HM.out] at ho10
                  obtain ⟨A10, c10, rfl, -, -, -⟩ := own_form ho10
                  have HS10 := Lib.hid (own_reads9 ho10 (fun s hs => (HR9.out.al.inv.rn s hs).2))
                  have HR10 := Lib.hid (HR9.out.below hb10)
                  have HW6' := HW6.out
                  rw [← HM.out] at HW6'
                  have HSW := Lib.hid ((own_reads9 HW6' (fun s hs => (HR9.out.al.inv.rn s hs).2)).kept (HB9.out.trans (hb10.mono HB9.out.size)))
                  have HSM := Lib.hid (same_true A10 Aw j j c10 cw now5 _ HS10.out HSW.out (by omega))
                  clear ho10 hb10 HW6'
                  rw [← HM.out]
                  go_wp2_with fail
                  refine HSM.out.mono ?_
                  rintro e w11 ⟨rfl, m11, hw11⟩
                  have hb11 : Below w10.heap.size w10 w11 := by rw [hw11]; exact below_drewN (Below.refl _ _) _
                  have HR11 := Lib.hid (HR10.out.below hb11)
                  clear hb11 hw11
                  go_wp2_with fail
                  go_ret
                  exact ⟨rfl, HR11.out.kl.below⟩
  · cases f with
    | false =>
      go_enter Try.func9, Try.ntmps9
      go_wp2_with fail
      refine HF.out.mono ?_
      rintro e w1 ⟨rfl, hb1⟩
      have HB1 := Lib.hid hb1
      clear hb1 hgo
      go_wp2_with fail
      refine (alive_any w1).mono ?_
      rintro e w2 ⟨rfl, hb2⟩
      have HB2 := Lib.hid (HB1.out.trans (hb2.mono HB1.out.size))
      clear hb2
      go_wp2_with fail
      go_ret
      exact ⟨rfl, HB2.out⟩
    | true =>
      have hn60 : (60 : Int) < (n1 : Int) := by
        have : ¬ n1 ≤ 60 := fun h => hgo ⟨rfl, h⟩
        omega
      go_enter Try.func9, Try.ntmps9
      go_wp2_with fail
      refine HF.out.mono ?_
      rintro e w1 ⟨rfl, hb1⟩
      have HB1 := Lib.hid hb1
      clear hb1 hgo
      go_wp2_with fail
      refine (alive_any w1).mono ?_
      rintro e w2 ⟨rfl, hb2⟩
      have HB2 := Lib.hid (HB1.out.trans (hb2.mono HB1.out.size))
      clear hb2
      go_wp2_with fail
      go_ret
      exact ⟨rfl, HB2.out⟩
end Go.Proofs.Ytdbpnfceabklkaa
