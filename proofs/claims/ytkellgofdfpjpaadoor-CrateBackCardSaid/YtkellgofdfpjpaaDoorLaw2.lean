/-
  What the law CrateBack returns of two slices of bytes that read: true, and older memory is as it was. Condition: the table's cells hold what its initialiser lays; the second slice's array takes no more than any input may.
-/
import Derived.Test.YtkellgofdfpjpaaDoorLaw1
namespace Go.Proofs.YtkellgofdfpjpaaDoor
open Go.ChangeShapes Go.WideShapes Go.ChangeAt Go.RowKit Go.Proofs.Crc

theorem back_long (ad ba : Option Addr) (len cap mlen mcap : Nat) (zs : List Int) (w : World) (hR : Reads w ad len zs) (hT : Table w) (hl : 4096 < len) :
    Calls Tryd.prog 5 #[.slice ad len cap, .slice ba mlen mcap] w fun e w' => e = .returned (.bool true) ∧ Below w.heap.size w w' := by
  have HP := Lib.hid (put_any ad len cap zs w hR hT)
  have HT := Lib.hid hT
  have HE : Hid (putE zs = 31) := Lib.hid (by unfold putE; rw [if_neg (by rw [hR.1]; omega)])
  have HE2 : Hid (putB zs = []) := Lib.hid (by unfold putB; rw [if_neg (by rw [hR.1]; omega)])
  clear hR hT
  go_enter Tryd.func5, Tryd.ntmps5
  go_wp2_with fail
  refine HP.out.mono ?_
  rintro e w1 ⟨A, n, c, rfl, h1, -, -, hb1⟩
  rw [HE.out]
  rw [HE2.out] at h1
  obtain rfl : n = 0 := h1.1.symm
  have HB1 := Lib.hid hb1
  clear h1 hb1
  go_wp2_with fail
  refine (alive_any w1 (HT.out.kept HB1.out)).mono ?_
  rintro e w2 ⟨rfl, hb2⟩
  have HB2 := Lib.hid (HB1.out.trans (hb2.mono HB1.out.size))
  clear hb2
  go_wp2
  go_ret
  exact ⟨rfl, HB2.out⟩
set_option maxHeartbeats 1000000 in
theorem law_back (ad ba : Option Addr) (len cap mlen mcap : Nat) (zs ms : List Int) (w : World) (hR : Reads w ad len zs) (hM : Reads w ba mlen ms) (hT : Table w) (hc : mlen ≤ mcap) (hcm : mcap ≤ 140737488351232) :
    Calls Tryd.prog 5 #[.slice ad len cap, .slice ba mlen mcap] w fun e w' => e = .returned (.bool true) ∧ Below w.heap.size w w' := by
  by_cases hlong : 4096 < len
  · exact back_long ad ba len cap mlen mcap zs w hR hT hlong
  have HP := Lib.hid (put_any ad len cap zs w hR hT)
  have HT := Lib.hid hT
  have HE : Hid (putE zs = 0) := Lib.hid (by unfold putE; rw [if_pos (by rw [hR.1]; omega)])
  have HE2 : Hid (putB zs = crt zs) := Lib.hid (by unfold putB; rw [if_pos (by rw [hR.1]; omega)])
  have HR := Lib.hid hR
  have HM := Lib.hid hM
  have HG := Lib.hid (gt_crt_more hR.bys (by rw [hR.1]; omega) ms)
  have HB := Lib.hid (bys_append (crt_bys hR.bys) hM.bys)
  obtain ⟨i0, hi, hz0, hz1, hz2⟩ := info_parts info5
  clear hR hM hT
  go_enter Tryd.func5, Tryd.ntmps5
  go_wp2_with fail
  refine HP.out.mono ?_
  rintro e w1 ⟨A, n, c, rfl, h1, -, -, hb1⟩
  rw [HE.out]
  rw [HE2.out] at h1
  have HN : Hid (n = len + 12) := Lib.hid (by rw [← h1.1, crt_length, HR.out.1])
  have HB1 := Lib.hid hb1
  have HO : Hid ((w1.alloc (.cells #[] 5)).ownsRow w1.heap.size 5 1 (.slice (some ⟨w1.heap.size, 0, none⟩) 0 0) 0 []) := Lib.hid (World.ownsRow_lit (base := w1.heap.size) (e := 5) (size := 1) w1 #[] 0 (Nat.le_refl _) (by unfold maxLen; omega) rfl)
  have H1 := Lib.hid (h1.kept (box_below w1 (.cells #[] 5)))
  have hsz : w1.heap.size ≤ (w1.alloc (.cells #[] 5)).heap.size := by simp
  have hn0 : (0 : Nat) ≤ 1048576 := by omega
  have hn1 : n ≤ 1048576 := by rw [HN.out]; omega
  have hn2 : n ≤ 140737488355328 := by omega
  have hm47 : mlen ≤ 140737488355328 := by omega
  clear h1 hb1 hc hcm
  go_wp2_with (first
    | (at_builtin; refine wpList_append_wide rfl (.tmp 24) (.tmp 25) rfl w1.heap.size i0 hi hz0 hz1 hz2 (.slice (some ⟨w1.heap.size, 0, none⟩) 0 0) 0 [] rfl HO.out A n c (crt zs) rfl H1.out hn0 hn2 hsz ?_; intro v2 w2 h5 h6; have HX := Lib.hid (first_row h5 h6); clear h5 h6; have HM2 := Lib.hid ((HM.out.kept HB1.out).kept HX.out.2); have hsz2 := HX.out.2.size)
    | (at_builtin; refine wpList_append_wide rfl (.tmp 26) (.tmp 27) rfl w1.heap.size i0 hi hz0 hz1 hz2 v2 n ((crt zs).map (Value.int .u8)) rfl HX.out.1 ba mlen mcap ms rfl HM2.out hn1 hm47 hsz2 ?_; intro v3 w3 h7 h8; have HY := Lib.hid (row_bytes HX.out.2 HX.out.1 h7 h8); clear h7 h8))
  have HB3 := Lib.hid (HB1.out.trans (HY.out.2.mono HB1.out.size))
  refine (get_own HY.out.1 HB.out (HT.out.kept HB3.out) HG.out.1).mono ?_
  rintro e w4 ⟨A4, c4, rfl, h4, hb4⟩
  rw [HG.out.2.1] at h4
  rw [HR.out.1] at h4 ⊢
  have H4 := Lib.hid h4
  have HB4 := Lib.hid (HB3.out.trans (hb4.mono HB3.out.size))
  clear h4 hb4
  go_wp2_with fail
  refine (alive_any w4 (HT.out.kept HB4.out)).mono ?_
  rintro e w5 ⟨rfl, hb5⟩
  have HB5 := Lib.hid (HB4.out.trans (hb5.mono HB4.out.size))
  have d1 := conv_reads (c := c4) (H4.out.kept hb5)
  have d2 := conv_reads (c := cap) (HR.out.kept HB5.out)
  obtain ⟨S, hS⟩ : ∃ S, S = strOfNums zs := ⟨_, rfl⟩
  rw [← hS] at d1 d2
  have ht : ((len : Int) + 12 == (n : Int)) = true := by rw [HN.out]; simp
  clear hS hb5 hn1 hn2
  go_wp2
  go_ret
  exact ⟨rfl, HB5.out⟩
end Go.Proofs.YtkellgofdfpjpaaDoor
