/-
  What Number returns of any path and number, and Cut of what Number made. Conditions: the text's length.
-/
import Derived.Test.YtmjlkbfcajaldaaDoorDigits
namespace Go.Proofs.YtmjlkbfcajaldaaDoor
open Go.ChangeShapes Go.WideShapes Go.ChangeAt Go.RowKit Go.Proofs.Zn

theorem number_no {l : Txt} {n : Int} (h : numOk l n = false) : number l n = [] := by
  unfold number; rw [h]; rfl
theorem number_yes {l : Txt} {n : Int} (h : numOk l n = true) : number l n = l ++ ten n.toNat := by
  unfold number; rw [h]; rfl
theorem numOk_no {l : Txt} {n : Int} (h : ¬ (1 ≤ depth l ∧ 0 ≤ n ∧ n ≤ 9999999999)) : numOk l n = false := by
  cases hh : numOk l n
  · rfl
  · rw [numOk_iff] at hh; exact absurd ⟨hh.1, hh.2.1, hh.2.2.1⟩ h
set_option maxHeartbeats 1000000 in
theorem number_first (s : ByteArray) (n : Int) (w : World) (hs : s.size ≤ 140737488355328) (h : ¬ (1 ≤ depth (L s) ∧ 0 ≤ n ∧ n ≤ 9999999999)) :
    Calls Tryd.prog 22 #[.string s, .int .i64 n] w fun e w' => e = .returned (.tuple #[.string ByteArray.empty, .bool false]) ∧ Below w.heap.size w w' := by
  obtain ⟨d, hd⟩ : ∃ d, depth (L s) = d := ⟨_, rfl⟩
  rw [hd] at h
  have HD := Lib.hid hd
  have HH := Lib.hid h
  clear hd h
  by_cases h1 : d < 1
  · go_enter Tryd.func22, Tryd.ntmps22
    go_wp2_with fail
    refine (depth_any _ _ (by omega)).mono ?_
    rintro e w1 ⟨rfl, hb⟩
    rw [HD.out]
    have HB := Lib.hid hb
    clear hb
    go_wp2
    go_ret2
    exact ⟨rfl, HB.out⟩
  · by_cases h2 : n < 0
    · go_enter Tryd.func22, Tryd.ntmps22
      go_wp2_with fail
      refine (depth_any _ _ (by omega)).mono ?_
      rintro e w1 ⟨rfl, hb⟩
      rw [HD.out]
      have HB := Lib.hid hb
      clear hb
      go_wp2
      go_ret2
      exact ⟨rfl, HB.out⟩
    · have h3 : 9999999999 < n := by have := HH.out; omega
      go_enter Tryd.func22, Tryd.ntmps22
      go_wp2_with fail
      refine (depth_any _ _ (by omega)).mono ?_
      rintro e w1 ⟨rfl, hb⟩
      rw [HD.out]
      have HB := Lib.hid hb
      clear hb
      go_wp2
      go_ret2
      exact ⟨rfl, HB.out⟩
set_option maxHeartbeats 1000000 in
theorem number_then (s : ByteArray) (n : Nat) (w : World) (hs : s.size ≤ 140737488355328) (h1 : 1 ≤ depth (L s)) (hn : n ≤ 9999999999) :
    Calls Tryd.prog 22 #[.string s, .int .i64 n] w fun e w' => e = .returned (.tuple #[.string (B (number (L s) n)), .bool (numOk (L s) n)]) ∧ Below w.heap.size w w' := by
  have hv : valid (L s ++ ten n) = numOk (L s) n := by
    unfold numOk
    rw [decide_eq_true h1, decide_eq_true (show (0 : Int) ≤ n by omega), decide_eq_true (show (n : Int) ≤ 9999999999 by omega)]
    simp
  obtain ⟨d, hd⟩ : ∃ d, depth (L s) = d := ⟨_, rfl⟩
  rw [hd] at h1
  have HD := Lib.hid hd
  have hl : (ten n).length = 10 := tenK_length _ _
  have hsum : ∀ w, (Op.stringOp .add s (B (ten n))).run Tryd.prog w = .ok (.string (B (L s ++ ten n))) w := add_any _ _ _ (by rw [LB, LB]) (by have := B_size (ten n); omega)
  have hsz : (B (L s ++ ten n)).size ≤ 4611686018427387904 := by rw [B_size, List.length_append, hl, L_len]; omega
  cases hk : numOk (L s) n
  · rw [number_no hk]
    rw [hk] at hv
    have HV := Lib.hid hv
    clear hd hv hk hl
    go_enter Tryd.func22, Tryd.ntmps22
    go_wp2_with fail
    refine (depth_any _ _ (by omega)).mono ?_
    rintro e w1 ⟨rfl, hb⟩
    rw [HD.out]
    have HB := Lib.hid hb
    clear hb
    go_wp2_with fail
    refine (digits_any _ _ hn).mono ?_
    rintro e w2 ⟨rfl, hb⟩
    have HB2 := Lib.hid (HB.out.trans (hb.mono HB.out.size))
    clear hb
    go_wp2_with fail
    refine (valid_any _ _ hsz).mono ?_
    rintro e w3 ⟨rfl, hb⟩
    rw [LB, HV.out]
    have HB3 := Lib.hid (HB2.out.trans (hb.mono HB2.out.size))
    clear hb
    go_wp2
    go_ret2
    exact ⟨rfl, HB3.out⟩
  · have HN := Lib.hid (number_yes hk)
    rw [hk] at hv
    have HV := Lib.hid hv
    clear hd hv hk hl
    go_enter Tryd.func22, Tryd.ntmps22
    go_wp2_with fail
    refine (depth_any _ _ (by omega)).mono ?_
    rintro e w1 ⟨rfl, hb⟩
    rw [HD.out]
    have HB := Lib.hid hb
    clear hb
    go_wp2_with fail
    refine (digits_any _ _ hn).mono ?_
    rintro e w2 ⟨rfl, hb⟩
    have HB2 := Lib.hid (HB.out.trans (hb.mono HB.out.size))
    clear hb
    go_wp2_with fail
    refine (valid_any _ _ hsz).mono ?_
    rintro e w3 ⟨rfl, hb⟩
    rw [LB, HV.out]
    have HB3 := Lib.hid (HB2.out.trans (hb.mono HB2.out.size))
    clear hb
    go_wp2
    go_ret2
    exact ⟨by rw [HN.out]; rfl, HB3.out⟩
theorem number_any (s : ByteArray) (n : Int) (w : World) (hs : s.size ≤ 140737488355328) :
    Calls Tryd.prog 22 #[.string s, .int .i64 n] w fun e w' => e = .returned (.tuple #[.string (B (number (L s) n)), .bool (numOk (L s) n)]) ∧ Below w.heap.size w w' := by
  by_cases h : 1 ≤ depth (L s) ∧ 0 ≤ n ∧ n ≤ 9999999999
  · obtain ⟨h1, h2, h3⟩ := h
    obtain ⟨m, rfl⟩ := Int.eq_ofNat_of_zero_le h2
    exact number_then s m w hs h1 (by omega)
  · have hk := numOk_no h
    rw [hk, number_no hk]
    exact number_first s n w hs h
/-! ### Cut -/
set_option maxHeartbeats 1000000 in
theorem cut_empty (w : World) : Calls Tryd.prog 24 #[.string ByteArray.empty] w fun e w' => e = .returned (.tuple #[.string ByteArray.empty, .int .i64 0, .bool false]) ∧ Below w.heap.size w w' := by
  have h0 : ByteArray.empty.size = 0 := rfl
  go_enter Tryd.func24, Tryd.ntmps24
  go_wp2_with fail
  go_ret3
  exact ⟨rfl, Below.refl _ _⟩
theorem pow_le {k : Nat} (h : k ≤ 10) : 10 ^ k ≤ 10000000000 := Nat.pow_le_pow_right (n := 10) (by omega) h
theorem dig_take {l : Txt} (h : dig l) (k : Nat) : dig (l.take k) := fun c hc => h c (List.mem_of_mem_take hc)
theorem val_step {s : ByteArray} {k : Nat} (h : k < s.size) : val ((L s).take (k + 1)) = 10 * val ((L s).take k) + (s[k].toNat - 48) := by
  rw [take_snoc s k h, val_snoc]
theorem dig_at {s : ByteArray} {k : Nat} (hd : dig (L s)) (h : k < s.size) : 48 ≤ s[k].toNat ∧ s[k].toNat ≤ 57 :=
  hd _ (by show s.data[k] ∈ _; exact List.getElem_mem (by simpa using h))
set_option maxHeartbeats 2000000 in
theorem cut_num (s : ByteArray) (l : Txt) (n : Nat) (w : World) (hs : s.size ≤ 140737488355328) (e : L s = l ++ ten n) (h1 : 1 ≤ depth l) (hn : n ≤ 9999999999) :
    Calls Tryd.prog 24 #[.string s] w fun e w' => e = .returned (.tuple #[.string (B l), .int .i64 n, .bool true]) ∧ Below w.heap.size w w' := by
  have hl : (ten n).length = 10 := tenK_length _ _
  have hsz : s.size = l.length + 10 := by rw [← L_len, e, List.length_append, hl]
  have X1 : Hid (s.extract 0 l.length = B l) := Lib.hid (by rw [ext_to, e]; simp)
  obtain ⟨t, ht⟩ : ∃ t, s.extract l.length s.size = t := ⟨_, rfl⟩
  have X2 : Hid (L t = ten n) := Lib.hid (by rw [← ht, ext_from, LB, e]; simp)
  have hts : t.size = 10 := by rw [← L_len, X2.out, hl]
  have hat : (s.size : Int) - 10 = (l.length : Int) := by omega
  have hls : (l.length : Int) ≤ s.size := by omega
  have hls2 : (B l).size ≤ 4611686018427387904 := by rw [B_size]; omega
  have hls3 : (B l).size ≤ 281474976710656 := by rw [B_size]; omega
  have hdd : dig (L t) := by rw [X2.out]; exact tenK_dig 10 n
  have HV := Lib.hid (val_ten 10 n (by omega))
  obtain ⟨d, hd⟩ : ∃ d, depth l = d := ⟨_, rfl⟩
  rw [hd] at h1
  have HD := Lib.hid hd
  have HS := Lib.hid hsz
  have HDD := Lib.hid hdd
  have HL := Lib.hid hl
  have HT := Lib.hid hts
  clear hd e hsz hdd hl hts
  go_enter Tryd.func24, Tryd.ntmps24
  go_wp2_with fail
  rw [X1.out]
  refine (depth_any _ _ hls2).mono ?_
  rintro e w1 ⟨rfl, hb⟩
  rw [LB, HD.out]
  have HB := Lib.hid hb
  clear hb
  go_wp2_with fail
  go_loopw [6] (fun v wr => ∃ (k a : Nat), k ≤ 10 ∧ v = .int .i64 a ∧ a ≤ 10000000000 ∧ wr = w1.iter t k ∧ Hid (val ((L t).take k) = a)) (fun _ wr => 10 - wr.iterPos w1.heap.size)
  case atStart => exact ⟨0, 0, by omega, rfl, by omega, rfl, Lib.hid rfl⟩
  case round =>
    obtain ⟨k, a, hk, rfl, ha, rfl, HA⟩ := hrel
    have hT := HT.out
    by_cases hlt : k < t.size
    · have hc := dig_at HDD.out hlt
      have hstep := val_step hlt
      have hbd := val_lt _ (dig_take HDD.out (k + 1))
      have hp := pow_le (show k + 1 ≤ 10 by omega)
      rw [List.length_take, L_len, hT, Nat.min_eq_left (by omega)] at hbd
      rw [HA.out] at hstep
      have hnx : ∀ ty, (Instr.next (.pointer (some ⟨w1.heap.size, 0, none⟩)) true ty).run Tryd.prog (w1.iter t k) = _ := fun ty => run_next_ascii w1 t k ty hlt (by omega)
      obtain ⟨c, hcc⟩ : ∃ c, (t[k]'hlt).toNat = c := ⟨_, rfl⟩
      rw [hcc] at hnx hc hstep
      have hcl : (48 : Int) ≤ c := by omega
      have hch : (c : Int) ≤ 57 := by omega
      have HG : Hid (dgB c = true) := Lib.hid (by unfold dgB; simp; omega)
      have HST := Lib.hid hstep
      have ha2 : 10 * a + (c - 48) ≤ 10000000000 := by omega
      have hk' : k < 10 := by omega
      clear hstep hbd hp hcc hT
      go_wp2_with ((with_reducible refine (digit_any _ _).mono ?_); rintro e w' ⟨rfl, rfl⟩; rw [HG.out])
      go_roundw
      case rel => exact ⟨k + 1, 10 * a + (c - 48), hk', by congr 1; omega, ha2, rfl, HST⟩
      case measure => simp; omega
    · have hk10 : k = 10 := by omega
      have hav : a = n := by
        rw [← HA.out, hk10, X2.out, List.take_of_length_le (by rw [HL.out]; omega)]
        exact HV.out
      subst hav
      have hnx : ∀ ty, (Instr.next (.pointer (some ⟨w1.heap.size, 0, none⟩)) true ty).run Tryd.prog (w1.iter t k) = _ := fun ty => run_next_end w1 t k ty hlt
      clear hT hk10
      go_wp2_with fail
      rw [X1.out]
      refine (clone_any _ _ hls3).mono ?_
      rintro e w2 ⟨rfl, hb⟩
      have HB2 := Lib.hid (HB.out.trans ((iter_below w1 t k).trans (hb.mono (iter_below w1 t k).size) |>.mono HB.out.size))
      clear hb
      go_wp2
      go_ret3
      exact ⟨rfl, HB2.out⟩
end Go.Proofs.YtmjlkbfcajaldaaDoor
