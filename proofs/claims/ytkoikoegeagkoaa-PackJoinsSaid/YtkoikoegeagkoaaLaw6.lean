/-
  What the law PackJoins returns of two slices of fields that read, all of them together: true, and older memory is as it was. No condition.
-/
import Derived.Test.YtkoikoegeagkoaaLaw5
namespace Go.Proofs.Ytkoikoegeagkoaa
open Go.ChangeShapes Go.WideShapes Go.ChangeAt Go.RowKit

theorem str_cat (xs ys : List Int) : strOfNums xs ++ strOfNums ys = strOfNums (xs ++ ys) := by
  apply ByteArray.ext
  simp [strOfNums]
set_option maxRecDepth 100000 in
set_option maxHeartbeats 4000000 in
theorem joins_good (ad bd : Option Addr) (alen acap blen bcap : Nat) (fs gs : List Fld) (w : World) (hA : FReads w ad alen fs) (hB : FReads w bd blen gs) (ha : alen ≤ 200) (hb : blen ≤ 200) (hea : errL fs = 0) (heb : errL gs = 0) :
    Calls Try.prog 8 #[.slice ad alen acap, .slice bd blen bcap] w fun e w' => e = .returned (.bool true) ∧ Below w.heap.size w w' := by
  have h1' : decide ((200 : Int) < (alen : Int)) = false := by simp; omega
  have h2' : decide ((200 : Int) < (blen : Int)) = false := by simp; omega
  have HA := Lib.hid hA
  have HB := Lib.hid hB
  have HLA := Lib.hid hA.1
  have HLB := Lib.hid hB.1
  have hma : alen ≤ 4294967296 := by omega
  have hmb : blen ≤ 4294967296 := by omega
  have hka : alen ≤ 4398046511104 := by omega
  have hkb : blen ≤ 4398046511104 := by omega
  have hnm1 : 0 + alen ≤ 4294967296 := by omega
  have hnm2 : alen + blen ≤ 4294967296 := by omega
  obtain ⟨i0, hi, hz0, hz1, hz2⟩ := info_parts info40
  have hec : errL (fs ++ gs) = 0 := by rw [errL_append, if_pos hea, heb]
  have HEA := Lib.hid hea
  have HEB := Lib.hid heb
  have HEC := Lib.hid hec
  have HXA : Hid (encB fs = bytL fs) := Lib.hid (by unfold encB; rw [if_pos hea])
  have HXB : Hid (encB gs = bytL gs) := Lib.hid (by unfold encB; rw [if_pos heb])
  have HXC : Hid (encB (fs ++ gs) = bytL fs ++ bytL gs) := Lib.hid (by unfold encB; rw [if_pos hec, bytL_append])
  have HSM := Lib.hid (sm_back hea (bytL gs))
  have HDC := Lib.hid (dc_back heb)
  have HS1 : Hid ((bytL fs).length ≤ 205200) := Lib.hid (by have h1 := bytL_len hea; have h2 := hA.1; omega)
  have HS2 : Hid ((bytL gs).length ≤ 205200) := Lib.hid (by have h1 := bytL_len heb; have h2 := hB.1; omega)
  clear hA hB ha hb hea heb hec
  go_enter Try.func8, Try.ntmps8
  go_wp2_with fail
  refine (encode_any _ _ _ fs _ HA.out hma).mono ?_
  rintro e w1 ⟨A1, n1, c1, rfl, hn1, hr1, -, -, hb1⟩
  rw [HEA.out]
  rw [HXA.out] at hn1 hr1
  have HB1 := Lib.hid hb1
  have HN1 := Lib.hid hn1
  have HR1 := Lib.hid hr1
  clear hb1 hn1 hr1
  go_wp2_with fail
  refine (encode_any _ _ _ gs _ (HB.out.kept HB1.out) hmb).mono ?_
  rintro e w2 ⟨A2, n2, c2, rfl, hn2, hr2, -, -, hb2⟩
  rw [HEB.out]
  rw [HXB.out] at hn2 hr2
  have HB2 := Lib.hid (HB1.out.trans (hb2.mono HB1.out.size))
  have HN2 := Lib.hid hn2
  have HR2 := Lib.hid hr2
  have HR12 := Lib.hid (HR1.out.kept hb2)
  have HO2 := Lib.hid (World.ownsRow_lit (base := w2.heap.size) (e := 40) (size := 3) w2 #[] 0 (Nat.le_refl _) (by unfold maxLen; omega) rfl)
  have HA2 := Lib.hid ((HA.out.kept HB2.out).kept (box_below w2 (.cells #[] 40)))
  have hsz2 : w2.heap.size ≤ (w2.alloc (.cells #[] 40)).heap.size := by simp
  clear hb2 hn2 hr2
  go_wp2_with (first
    | (at_builtin; refine wpList_append_fields rfl (.tmp 36) (.tmp 37) rfl w2.heap.size i0 hi hz0 hz1 hz2 (.slice (some ⟨w2.heap.size, 0, none⟩) 0 0) 0 [] rfl HO2.out ad alen acap fs rfl HA2.out hnm1 hsz2 ?_; intro v5 w5 hown5 hgrow5; have HX5 := Lib.hid (fapp_one hown5 hgrow5); clear hgrow5 hown5)
    | (at_builtin; refine wpList_append_fields rfl (.tmp 38) (.tmp 39) rfl w2.heap.size i0 hi hz0 hz1 hz2 v5 alen (fcs fs) rfl HX5.out.1 bd blen bcap gs rfl ((HB.out.kept HB2.out).kept HX5.out.2) hnm2 HX5.out.2.size ?_; intro v6 w6 hown6 hgrow6; have HX6 := Lib.hid (fapp_two HX5.out.1 HX5.out.2 hown6 hgrow6); clear hown6 hgrow6))
  refine (encode_own HX6.out.1 hnm2).mono ?_
  rintro e w7 ⟨A7, n7, c7, rfl, hn7, hr7, hnc7, hcm7, hb7⟩
  rw [HEC.out]
  rw [HXC.out] at hn7 hr7
  have HB27 := Lib.hid (HX6.out.2.trans (hb7.mono HX6.out.2.size))
  have HB7 := Lib.hid (HB2.out.trans (HB27.out.mono HB2.out.size))
  have HR7 := Lib.hid hr7
  have HR17 := Lib.hid (HR12.out.kept HB27.out)
  have HR27 := Lib.hid (HR2.out.kept HB27.out)
  have hn7' : n7 = n1 + n2 := by rw [hn7, List.length_append, HN1.out, HN2.out]
  have hle : n1 ≤ n7 := by omega
  have hle' : (n1 : Int) ≤ (n7 : Int) := by omega
  have hsub : n7 - n1 = n2 := by omega
  have HN7 := Lib.hid hn7'
  have HCM7 := Lib.hid hcm7
  clear hb7 hn7 hr7 hn7' hcm7
  go_wp2_with fail
  refine (kinds_any ad alen acap fs w7 (HA.out.kept HB7.out) hka).mono ?_
  rintro e w8 ⟨rfl, hk8, hb8⟩
  have HB8 := Lib.hid (HB7.out.trans (hb8.mono HB7.out.size))
  have HK8 := Lib.hid hk8
  have HR78 := Lib.hid (HR7.out.kept hb8)
  have HR18 := Lib.hid (HR17.out.kept hb8)
  have HR28 := Lib.hid (HR27.out.kept hb8)
  clear hk8 hb8
  go_wp2_with fail
  refine (some_any _ A7 alen alen n7 c7 (fs.map (·.k)) (bytL fs ++ bytL gs) w8 HK8.out HR78.out (bys_append (bytL_bys fs) (bytL_bys gs)) hma hnc7 HCM7.out).mono ?_
  rintro e w9 ⟨A9, c9, rfl, hf9, hb9⟩
  rw [HSM.out] at hf9 ⊢
  simp only [Sm.e, Sm.l, Sm.n] at hf9 ⊢
  rw [HLA.out] at hf9 ⊢
  rw [← HN1.out]
  have HB9 := Lib.hid (HB8.out.trans (hb9.mono HB8.out.size))
  have HF9 := Lib.hid hf9
  have HR79 := Lib.hid (HR78.out.kept hb9)
  have HR19 := Lib.hid (HR18.out.kept hb9)
  have HR29 := Lib.hid (HR28.out.kept hb9)
  clear hf9 hb9
  obtain ⟨A', c', hsl, hrd', hac', hcc'⟩ := sub_from HR79.out hnc7 n1 hle
  rw [hsub] at hsl hrd' hac'
  rw [show (bytL fs ++ bytL gs).drop n1 = bytL gs by rw [HN1.out, List.drop_left]] at hrd'
  have hmin := fun (ts : Array TypeId) (t : TypeId) (W : World) => run_min (P := Try.prog) ts t n1 n7 hle W
  have HCMa : Hid (c' ≤ maxLen) := Lib.hid (Nat.le_trans hcc' HCM7.out)
  have HCS : Hid (CS w9 bd blen gs A' n2 (bytL gs) w9.drew) := Lib.hid ⟨(HB.out.kept HB9.out).kept (Below.refl _ _).drew, hrd'.kept (Below.refl _ _).drew, (Below.refl _ _).drew⟩
  clear hsub hrd' hcc'
  go_wp2_with fail
  go_region_held3 (fun w' => CS w9 bd blen gs A' n2 (bytL gs) w') (first | exact HCS.out | assumption)
    (first
      | (go_at_call 18; (with_reducible refine (kinds_cs (w := w9) (A := A') (n := n2) (fs := gs) (zs := bytL gs) ?_ hkb).mono ?_); assumption; rintro e w10 ⟨rfl, hk10, hs10⟩; have HK10 := Lib.hid hk10; clear hk10)
      | (go_at_call 13; (with_reducible refine (decode_cs (w := w9) (ad := bd) (fs := gs) (zs := bytL gs) (ks := gs.map (·.k)) ?_ HK10.out (bytL_bys gs) hmb hac' HCMa.out).mono ?_); assumption; rintro e w11 ⟨⟨A11, c11, rfl, hf11⟩, hs11⟩; rw [HDC.out] at hf11 ⊢; simp only [Sm.e, Sm.l] at hf11 ⊢; rw [HLB.out] at hf11 ⊢; have HF11 := Lib.hid hf11; clear hf11))
  all_goals
    have HB911 := Lib.hid hs11.2.2
    have HB11 := Lib.hid (HB9.out.trans (HB911.out.mono HB9.out.size))
    have HF9b := Lib.hid (HF9.out.kept HB911.out)
    clear hs11
    go_wp2_with fail
    refine (alive_any _).mono ?_
    rintro e w12 ⟨rfl, hb12⟩
    have HB12 := Lib.hid (HB11.out.trans (hb12.mono HB11.out.size))
    have HF912 := Lib.hid (HF9b.out.kept hb12)
    have HF1112 := Lib.hid (HF11.out.kept hb12)
    have d1 := conv_reads (c := c1) ((HR19.out.kept HB911.out).kept hb12)
    have d2 := conv_reads (c := c2) ((HR29.out.kept HB911.out).kept hb12)
    have d7 := conv_reads (c := c7) ((HR79.out.kept HB911.out).kept hb12)
    have hcat := str_cat (bytL fs) (bytL gs)
    have hs1 : (strOfNums (bytL fs)).size ≤ 205200 := by rw [strOfNums_size]; exact HS1.out
    have hs2 : (strOfNums (bytL gs)).size ≤ 205200 := by rw [strOfNums_size]; exact HS2.out
    obtain ⟨S1, hS1⟩ : ∃ S, S = strOfNums (bytL fs) := ⟨_, rfl⟩
    obtain ⟨S2, hS2⟩ : ∃ S, S = strOfNums (bytL gs) := ⟨_, rfl⟩
    obtain ⟨S7, hS7⟩ : ∃ S, S = strOfNums (bytL fs ++ bytL gs) := ⟨_, rfl⟩
    rw [← hS1] at d1 hcat hs1
    rw [← hS2] at d2 hcat hs2
    rw [← hS7] at d7 hcat
    have hadd : ∀ W : World, (Op.stringOp .add S1 S2).run Try.prog W = .ok (.string S7) W := fun W => by rw [run_string_add_sum (P := Try.prog) W S1 S2 (by omega), hcat]
    have hsum : S1.size + S2.size ≤ 9223372036854775807 := by omega
    clear hb12 hS1 hS2 hS7 hs1 hs2
    go_wp2_with fail
    refine (same_any _ _ _ _ _ fs _ HF912.out (HA.out.kept HB12.out) hma).mono ?_
    rintro e w13 ⟨rfl, hb13⟩
    have HB13 := Lib.hid (HB12.out.trans (hb13.mono HB12.out.size))
    have HF13 := Lib.hid (HF1112.out.kept hb13)
    clear hb13
    go_wp2_with fail
    refine (same_any _ _ _ _ _ gs _ HF13.out (HB.out.kept HB13.out) hmb).mono ?_
    rintro e w14 ⟨rfl, hb14⟩
    have HB14 := Lib.hid (HB13.out.trans (hb14.mono HB13.out.size))
    clear hb14
    go_wp2
    go_ret
    exact ⟨rfl, HB14.out⟩
theorem law_joins (ad bd : Option Addr) (alen acap blen bcap : Nat) (fs gs : List Fld) (w : World) (hA : FReads w ad alen fs) (hB : FReads w bd blen gs) :
    Calls Try.prog 8 #[.slice ad alen acap, .slice bd blen bcap] w fun e w' => e = .returned (.bool true) ∧ Below w.heap.size w w' := by
  by_cases h : 200 < alen ∨ 200 < blen
  · exact joins_many ad bd alen acap blen bcap w h
  by_cases he : errL fs = 0 ∧ errL gs = 0
  · exact joins_good ad bd alen acap blen bcap fs gs w hA hB (by omega) (by omega) he.1 he.2
  · exact joins_bad ad bd alen acap blen bcap fs gs w hA hB (by omega) (by omega) (by
      by_cases h1 : errL fs = 0
      · exact .inr fun h2 => he ⟨h1, h2⟩
      · exact .inl h1)
end Go.Proofs.Ytkoikoegeagkoaa
