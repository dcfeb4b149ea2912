/-
  The law Room: never more blocks than the bytes have, and just as many more as a write needs. No condition.
-/
import Derived.Test.YtoallenigfbkpaaTLawV
namespace Go.Proofs.Ytoallenigfbkpaa
set_option maxRecDepth 100000
open Go.ChangeShapes Go.WideShapes Go.ChangeAt Go.RowKit Go.Proofs.Sg

theorem room_cap {S : Sh} (h : GoodS S) : S.K.length ≤ (S.n + 15) / 16 := srt_len h.srt (fun k hk => by have := h.key k hk; omega)
theorem room_add {S : Sh} (h : GoodS S) (p : Int) (b : List UInt8) : (wrI S p b).K.length = S.K.length + ndI S p b.length := by
  unfold wrI ndI
  by_cases hf : ft p b.length = true
  · rw [if_pos hf, if_pos hf]
    unfold wr nd
    have h1 := wK_len_le h.srt p.toNat b.length
    split
    · rename_i h0
      rw [h0]
      show _ = S.K.length + (S.K.length - S.K.length)
      omega
    · show (wK S.K p.toNat b.length).length = _
      omega
  · rw [if_neg hf, if_neg hf]; rfl
set_option maxHeartbeats 16000000 in
theorem room_law {w : World} {ad : Option Addr} {len cap : Nat} {os : List Opr} (hO : OReads w w.heap.size ad len os) (p : Int) (hp : p ≤ 9223372036854775807) {A1 : Option Addr} {n1 c1 : Nat} {b1 : List UInt8} (hR1 : Rd bcell 1 w A1 n1 b1) (hC1 : n1 ≤ c1) : Calls Try.prog 6 #[.slice ad len cap, .int .i64 p, .slice A1 n1 c1] w (LwPost w) := by
  have HNEW := Lib.hid (new_any w)
  have HO := Lib.hid hO
  have HLN := Lib.hid hO.1
  have HR1 := Lib.hid hR1
  have HC1 := Lib.hid hC1
  have HL1 := Lib.hid hR1.len
  have HPP := Lib.hid hp
  have HAL : Hid (∀ W, Below w.heap.size w W → Calls Try.prog 11 #[] W fun e w' => e = .returned (.bool true) ∧ Below w.heap.size w w') := Lib.hid (fun W hW => (alive_any W).mono (fun e w' h => ⟨h.1, hW.trans (h.2.mono hW.size)⟩))
  clear hO hR1 hC1 hp
  go_enter Try.func6, Try.ntmps6
  go_wp2_with fail
  refine HNEW.out.mono ?_
  rintro e w1 ⟨sp, mb, rfl, hs, hb⟩
  have HS1 := Lib.hid hs
  have HB1 := Lib.hid hb
  have hnil : ∀ W, (binOp .eql 23 (.pointer (some ⟨sp, 0, none⟩)) (.pointer none)).run Try.prog W = .ok (.bool false) W := fun W => by kernel_rfl
  have hnil2 : ∀ W, (binOp .neq 23 (.pointer (some ⟨sp, 0, none⟩)) (.pointer none)).run Try.prog W = .ok (.bool true) W := fun W => by kernel_rfl
  clear hs hb
  by_cases g1 : (60 : Int) < (len : Int)
  · have k1 : decide ((60 : Int) < (len : Int)) = true := by simp only [decide_eq_true_eq]; exact g1
    go_wp2_with fail
    refine (HAL.out _ HB1.out).mono ?_
    rintro e w' ⟨rfl, hb9⟩
    have HE : Hid (LwPost w (.returned (.bool true)) w') := Lib.hid ⟨rfl, hb9⟩
    clear hb9
    go_wp2_with fail
    go_ret
    exact HE.out
  · have k1 : decide ((60 : Int) < (len : Int)) = false := by simp only [decide_eq_false_iff_not]; exact g1
    by_cases g2 : (3000 : Int) < (n1 : Int)
    · have k2 : decide ((3000 : Int) < (n1 : Int)) = true := by simp only [decide_eq_true_eq]; exact g2
      go_wp2_with fail
      refine (HAL.out _ HB1.out).mono ?_
      rintro e w' ⟨rfl, hb9⟩
      have HE : Hid (LwPost w (.returned (.bool true)) w') := Lib.hid ⟨rfl, hb9⟩
      clear hb9
      go_wp2_with fail
      go_ret
      exact HE.out
    · have k2 : decide ((3000 : Int) < (n1 : Int)) = false := by simp only [decide_eq_false_iff_not]; exact g2
      have HG1 := Lib.hid g1
      have HG2 := Lib.hid g2
      clear g1 g2
      go_wp2_with fail
      clear k1 k2 hnil hnil2
      go_loopw [33] (fun i wr => ∃ j : Nat, j ≤ len ∧ i = .int .i64 (j : Int) ∧ Hid (SW wr w.heap.size sp mb (runS S0 (os.take j))) ∧ Hid (Below w.heap.size w wr)) (fun i _ => len - (intOf i).toNat)
      case atStart => exact ⟨0, Nat.zero_le _, rfl, Lib.hid HS1.out, HB1⟩
      case round =>
        obtain ⟨j, hj, rfl, HS, HB⟩ := hrel
        obtain ⟨T, hT⟩ : ∃ T, runS S0 (os.take j) = T := ⟨_, rfl⟩
        rw [hT] at HS
        by_cases hlt : j < len
        · obtain ⟨b, off, rfl, -, hc⟩ := (HO.out.kept HB.out).2 (by omega)
          obtain ⟨e0, e1, e2, ⟨Ab, l, cb, e3, hr, hu, hlc⟩, hp1, hp2⟩ := hc j hlt
          obtain ⟨o, ho⟩ : ∃ o, os.getD j op0 = o := ⟨_, rfl⟩
          rw [ho] at e0 e1 e2 hr hp1 hp2
          have HNX : Hid (runS S0 (os.take (j + 1)) = stS T o) := Lib.hid (by rw [run_next (by rw [HLN.out]; exact hlt), hT, ho])
          have hj0 : (0 : Int) ≤ (j : Int) := by omega
          have hji : (j : Int) < (len : Int) := by omega
          obtain ⟨j1, hj1⟩ : ∃ j1, j + 1 = j1 := ⟨_, rfl⟩
          have hwj : IntKind.i64.wrap ((j : Int) + 1) = (j1 : Int) := by rw [IntKind.wrap_i64]; have := HG1.out; omega
          have HJ1 : Hid (j < len ∧ j + 1 = j1) := Lib.hid ⟨hlt, hj1⟩
          rw [hj1] at HNX
          obtain ⟨w3, hw3⟩ : ∃ w3, w3 = wr.alloc (.cells #[.int .i64 o.k, .int .i64 o.p, .int .i64 o.n, .slice Ab l cb] 40) := ⟨_, rfl⟩
          obtain ⟨s, es⟩ : ∃ s, s = wr.heap.size := ⟨_, rfl⟩
          have hb3 : Below wr.heap.size wr w3 := by rw [hw3]; exact box_below wr _
          have hs3 : w3.heap[s]? = some (.cells #[.int .i64 o.k, .int .i64 o.p, .int .i64 o.n, .slice Ab l cb] 40 (0, 0)) := by rw [hw3, es]; exact new_block wr _
          have HS3 := Lib.hid (HS.out.below hb3)
          have hr3 := hr.below hb3
          have HB3 := Lib.hid (HB.out.trans (hb3.mono HB.out.size))
          have HW3 := Lib.hid hw3
          have ES := Lib.hid es
          have s0 := cell_of hs3 (j := 0) rfl
          have s1 := cell_of hs3 (j := 1) rfl
          have s2 := cell_of hs3 (j := 2) rfl
          have s3 := cell_of hs3 (j := 3) rfl
          have HRB := Lib.hid hr3
          have HLL : Hid (l ≤ cb ∧ o.p ≤ 9223372036854775807) := Lib.hid ⟨hlc, hp1⟩
          clear hT hc ho hlt hj hj1 hr hu hlc hp1 hp2 hw3 es hb3 hs3 hr3
          by_cases g3 : (3000 : Int) < (l : Int)
          · have k3 : decide ((3000 : Int) < (l : Int)) = true := by simp only [decide_eq_true_eq]; exact g3
            go_upto_region 7 with fail
            rw [← HW3.out, ← ES.out]
            go_wp2_with fail
            refine (HAL.out _ HB3.out).mono ?_
            rintro e w' ⟨rfl, hb9⟩
            have HE : Hid (LwPost w (.returned (.bool true)) w') := Lib.hid ⟨rfl, hb9⟩
            clear hb9
            go_wp2_with fail
            go_ret
            exact HE.out
          · have k3 : decide ((3000 : Int) < (l : Int)) = false := by simp only [decide_eq_false_iff_not]; exact g3
            have HDS := Lib.hid (does_any HS3.out o HRB.out HLL.out.1 (by omega) HLL.out.2)
            unfold ov at HDS
            obtain ⟨T2, hT2⟩ : ∃ T2, stS T o = T2 := ⟨_, rfl⟩
            rw [hT2] at HDS HNX
            clear hT2 g3
            go_upto_region 7 with fail
            rw [← HW3.out, ← ES.out]
            go_wp2_with fail
            refine HDS.out.mono ?_
            rintro e w4 ⟨rfl, hs4, hk4⟩
            have HS4 := Lib.hid hs4
            have HB4 := Lib.hid (HB3.out.trans (hk4.below HB3.out.size hs4.gsp hs4.gmb))
            have hcap := room_cap hs4.good
            have hlim := hs4.good.lim
            have HSI := Lib.hid (size_any hs4)
            have HBK := Lib.hid (blocks_any hs4)
            obtain ⟨N, hN⟩ : ∃ N, T2.n = N := ⟨_, rfl⟩
            obtain ⟨M, hM⟩ : ∃ M, T2.K.length = M := ⟨_, rfl⟩
            rw [hN] at hcap hlim HSI
            rw [hM] at hcap HBK
            obtain ⟨x, hx⟩ : ∃ x : Int, (N : Int) + 16 = x := ⟨_, rfl⟩
            obtain ⟨y, hy⟩ : ∃ y : Int, x - 1 = y := ⟨_, rfl⟩
            obtain ⟨Q, hQ⟩ : ∃ Q : Nat, (N + 15) / 16 = Q := ⟨_, rfl⟩
            have f1 : IntKind.i64.wrap ((N : Int) + 16) = x := by rw [IntKind.wrap_i64]; omega
            have f2 : IntKind.i64.wrap (x - 1) = y := by rw [IntKind.wrap_i64]; omega
            have f3 : Int.tdiv y 16 = (Q : Int) := by rw [Int.tdiv_eq_ediv_of_nonneg (by omega)]; omega
            have f4 : IntKind.i64.wrap (Q : Int) = (Q : Int) := by rw [IntKind.wrap_i64]; omega
            have f5 : ¬ (Q : Int) < (M : Int) := by omega
            have f6 : decide ((Q : Int) < (M : Int)) = false := by simp only [decide_eq_false_iff_not]; exact f5
            clear hs4 hk4 hcap hlim hN hM hx hy hQ s0 s1 s2 s3 k3
            go_wp2_with fail
            refine HBK.out.mono ?_
            rintro e w5 ⟨rfl, rfl⟩
            go_wp2_with fail
            refine HSI.out.mono ?_
            rintro e w5 ⟨rfl, rfl⟩
            go_wp2_with fail
            go_roundw
            case rel => exact ⟨j1, by have := HJ1.out; omega, rfl, Lib.hid (by rw [HNX.out]; exact HS4.out), HB4⟩
            case measure => simp [intOf]; have := HJ1.out; omega
        · obtain rfl : j = len := by omega
          have hji : ¬ ((j : Nat) : Int) < ((j : Nat) : Int) := by omega
          have HADD := Lib.hid (room_add HS.out.good p b1)
          rw [HL1.out] at HADD
          have hfar := HS.out.good.lim
          have hMl := HS.out.map.len
          have HBK := Lib.hid (blocks_any HS.out)
          have HNE := Lib.hid (need_any HS.out p HPP.out A1 n1 c1 (by have := HG2.out; omega))
          obtain ⟨M, hM⟩ : ∃ M, T.K.length = M := ⟨_, rfl⟩
          obtain ⟨ND, hND⟩ : ∃ k, ndI T p n1 = k := ⟨_, rfl⟩
          obtain ⟨T2, hT2⟩ : ∃ k, wrI T p b1 = k := ⟨_, rfl⟩
          obtain ⟨K2, hK2⟩ : ∃ k, T2.K.length = k := ⟨_, rfl⟩
          have HGT := Lib.hid HS.out.good
          have hK9 : K2 ≤ 65536 := by
            rw [← hK2, ← hT2]
            have h1 := room_cap (good_wrI HGT.out p b1)
            have h2 := (good_wrI HGT.out p b1).lim
            omega
          rw [hT2, hK2, hM, hND] at HADD
          rw [hM] at HBK
          rw [hND] at HNE
          have f1 : IntKind.i64.wrap ((M : Int) + (ND : Int)) = (K2 : Int) := by rw [IntKind.wrap_i64]; have := HADD.out; omega
          have f2 : ((K2 : Int) == (K2 : Int)) = true := by simp
          have HT2 := Lib.hid hT2
          have HK2 := Lib.hid hK2
          have HK9 := Lib.hid hK9
          have HNO : Hid (ft p n1 = false → ND = 0) := Lib.hid (fun e => by rw [← hND]; unfold ndI; rw [e]; rfl)
          clear hT hlt hj hfar hMl hM hND hT2 hK2 hK9
          go_wp2_with fail
          refine HBK.out.mono ?_
          rintro e w5 ⟨rfl, rfl⟩
          go_wp2_with fail
          refine HNE.out.mono ?_
          rintro e w5 ⟨rfl, hb5⟩
          have HB5 := Lib.hid (HB.out.trans (hb5.mono HB.out.size))
          have HWR := Lib.hid (write_any (HS.out.below hb5) p HPP.out (rd_at HR1.out (rd_und HR1.out) HB5.out) HC1.out (by have := HG2.out; omega))
          rw [HT2.out, HL1.out] at HWR
          obtain ⟨ok, hok⟩ : ∃ k, ft p n1 = k := ⟨_, rfl⟩
          rw [hok] at HWR HNO
          clear hb5 hok
          cases ok with
          | true =>
            go_wp2_with fail
            refine HWR.out.mono ?_
            rintro e w6 ⟨rfl, hs6, hk6⟩
            have HS6 := Lib.hid hs6
            have HB6 := Lib.hid (HB5.out.trans (hk6.below HB5.out.size hs6.gsp hs6.gmb))
            clear hs6 hk6
            go_wp2_with fail
            refine (alive_any w6).mono ?_
            rintro e w7 ⟨rfl, hb7⟩
            have HBK7 := Lib.hid (blocks_any (HS6.out.below hb7))
            rw [HK2.out] at HBK7
            have HE : Hid (LwPost w (.returned (.bool true)) w7) := Lib.hid ⟨rfl, HB6.out.trans (hb7.mono HB6.out.size)⟩
            clear hb7
            go_wp2_with fail
            refine HBK7.out.mono ?_
            rintro e w8 ⟨rfl, rfl⟩
            go_wp2_with fail
            go_ret
            exact HE.out
          | false =>
            obtain rfl : ND = 0 := HNO.out rfl
            obtain rfl : K2 = M := by have := HADD.out; omega
            have f3 : IntKind.i64.wrap (K2 : Int) = (K2 : Int) := by rw [IntKind.wrap_i64]; have := HK9.out; omega
            have f4 : IntKind.i64.wrap ((K2 : Int) + 0) = (K2 : Int) := by rw [Int.add_zero]; exact f3
            clear f1
            go_wp2_with fail
            refine HWR.out.mono ?_
            rintro e w6 ⟨rfl, hs6, hk6⟩
            have HS6 := Lib.hid hs6
            have HB6 := Lib.hid (HB5.out.trans (hk6.below HB5.out.size hs6.gsp hs6.gmb))
            clear hs6 hk6
            go_wp2_with fail
            refine (alive_any w6).mono ?_
            rintro e w7 ⟨rfl, hb7⟩
            have HBK7 := Lib.hid (blocks_any (HS6.out.below hb7))
            rw [HK2.out] at HBK7
            have HE : Hid (LwPost w (.returned (.bool true)) w7) := Lib.hid ⟨rfl, HB6.out.trans (hb7.mono HB6.out.size)⟩
            clear hb7
            go_wp2_with fail
            refine HBK7.out.mono ?_
            rintro e w8 ⟨rfl, rfl⟩
            go_wp2_with fail
            go_ret
            exact HE.out
end Go.Proofs.Ytoallenigfbkpaa
