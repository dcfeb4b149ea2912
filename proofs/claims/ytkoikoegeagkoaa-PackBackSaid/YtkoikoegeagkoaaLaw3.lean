/-
  What the law PackCuts returns of a slice of fields that reads, and a number: true, and older memory is as it was. No condition.
-/
import Derived.Test.YtkoikoegeagkoaaLaw2
import Derived.Deep.RegionHeld3
namespace Go.Proofs.Ytkoikoegeagkoaa
open Go.ChangeShapes Go.WideShapes Go.ChangeAt Go.RowKit

theorem sub_to {w : World} {A : Option Addr} {len cap : Nat} {zs : List Int} (hR : Reads .u8 w A len zs) (hc : len ≤ cap) (h : Nat) (hh : h ≤ len) :
    ∃ A' c', (∀ W : World, (Instr.slice 24 (.slice A len cap) none (some (.int .i64 (h : Int))) none).run Try.prog W = .ok (.slice A' h c') W) ∧ Reads .u8 w A' h (zs.take h) ∧ h ≤ c' ∧ c' ≤ cap := by
  obtain ⟨i0, hi, hz0, hz1, hz2⟩ := info_parts info5
  obtain ⟨A', c', h1, h2, h3, h4⟩ := sub_any hR hc 0 h (by omega) hh
  refine ⟨A', c', fun W => ?_, h2, h3, h4⟩
  rw [show (h : Nat) - 0 = h from rfl] at h1
  rw [← h1 W, run_slice_lh (P := Try.prog) (w := W) 24 A len cap Try.underlying24 .i64 .i64 ((0 : Nat) : Int) (h : Int) (by omega) (by omega) (by omega),
    run_slice_h (P := Try.prog) (w := W) 24 A len cap Try.underlying24 .i64 (h : Int) (by omega) (by omega)]
  simp
/-- What holds of the world while a record that was cut off is read. -/
def CS (w : World) (ad : Option Addr) (len : Nat) (fs : List Fld) (A : Option Addr) (n : Nat) (zs : List Int) (w' : World) : Prop :=
  FReads w' ad len fs ∧ Reads .u8 w' A n zs ∧ Below w.heap.size w w'
theorem CS.kept {w w1 w2 : World} {ad A : Option Addr} {len n : Nat} {fs : List Fld} {zs : List Int} (h : CS w ad len fs A n zs w1) (hb : Below w1.heap.size w1 w2) : CS w ad len fs A n zs w2 :=
  ⟨h.1.kept hb, h.2.1.kept hb, h.2.2.trans (hb.mono h.2.2.size)⟩
theorem kinds_cs {w W : World} {ad A : Option Addr} {len cap n : Nat} {fs : List Fld} {zs : List Int} (h : CS w ad len fs A n zs W) (hm : len ≤ 4398046511104) :
    Calls Try.prog 18 #[.slice ad len cap] W fun e w' => e = .returned (.slice (some ⟨W.heap.size, 0, none⟩) len len) ∧ Reads .i64 w' (some ⟨W.heap.size, 0, none⟩) len (fs.map (·.k)) ∧ CS w ad len fs A n zs w' :=
  (kinds_any ad len cap fs W h.1 hm).mono fun _ _ ⟨h1, h2, h3⟩ => ⟨h1, h2, h.kept h3⟩
theorem decode_cs {w W : World} {ad A ka : Option Addr} {len n c : Nat} {fs : List Fld} {zs ks : List Int} (h : CS w ad len fs A n zs W) (hk : Reads .i64 W ka len ks) (hB : Bys zs) (hm : len ≤ 4294967296) (hc : n ≤ c) (hcm : c ≤ maxLen) :
    Calls Try.prog 13 #[.slice ka len len, .slice A n c] W fun e w' => (∃ (A' : Option Addr) (c' : Nat), e = .returned (.tuple #[.slice A' (dc ks zs).l.length c', .int .i64 (dc ks zs).e]) ∧ FReads w' A' (dc ks zs).l.length (dc ks zs).l) ∧ CS w ad len fs A n zs w' :=
  (decode_any ka A len len n c ks zs W hk h.2.1 hB hm hc hcm).mono fun _ _ ⟨A', c', h1, h2, h3⟩ => ⟨⟨A', c', h1, h2⟩, h.kept h3⟩
set_option maxHeartbeats 1000000 in
theorem cuts_few (ad : Option Addr) (len cap : Nat) (fs : List Fld) (cut : Int) (w : World) (hR : FReads w ad len fs) (h300 : len ≤ 300) (hskip : errL fs ≠ 0 ∨ cut < 0 ∨ ((encB fs).length : Int) ≤ cut) :
    Calls Try.prog 7 #[.slice ad len cap, .int .i64 cut] w fun e w' => e = .returned (.bool true) ∧ Below w.heap.size w w' := by
  have h300' : ¬ (300 : Int) < (len : Int) := by omega
  have HR := Lib.hid hR
  have hm : len ≤ 4294967296 := by omega
  obtain ⟨m, hmm⟩ : ∃ m, m = (encB fs).length := ⟨_, rfl⟩
  rw [← hmm] at hskip
  have HM := Lib.hid hmm
  have HC := Lib.hid (encode_any ad len cap fs w hR hm)
  obtain ⟨er, hE⟩ : ∃ er, er = errL fs := ⟨_, rfl⟩
  rw [← hE] at hskip
  have HE := Lib.hid hE
  clear hR h300 hmm hE
  by_cases he : er = 0
  · have h1 : (er != 0) = false := by simpa using he
    by_cases hneg : cut < 0
    · have h2 : decide (cut < 0) = true := by simpa using hneg
      clear he hskip
      go_enter Try.func7, Try.ntmps7
      go_wp2_with fail
      refine HC.out.mono ?_
      rintro e w1 ⟨A, n, c, rfl, hn, hrd, hnc, hcm, hb1⟩
      rw [← HE.out]
      have HB1 := Lib.hid hb1
      clear hn hrd hb1
      go_wp2_with fail
      refine (alive_any _).mono ?_
      rintro e w2 ⟨rfl, hb2⟩
      have HB2 := Lib.hid (HB1.out.trans (hb2.mono HB1.out.size))
      clear hb2
      go_wp2
      go_ret
      exact ⟨rfl, HB2.out⟩
    · have h2 : decide (cut < 0) = false := by simpa using hneg
      have h3 : (m : Int) ≤ cut := by rcases hskip with h | h | h; exact absurd he h; exact absurd h hneg; exact h
      clear he hskip
      go_enter Try.func7, Try.ntmps7
      go_wp2_with fail
      refine HC.out.mono ?_
      rintro e w1 ⟨A, n, c, rfl, hn, hrd, hnc, hcm, hb1⟩
      rw [← HE.out]
      obtain rfl : n = m := by rw [hn]; exact HM.out.symm
      have HB1 := Lib.hid hb1
      clear hn hrd hb1
      go_wp2_with fail
      refine (alive_any _).mono ?_
      rintro e w2 ⟨rfl, hb2⟩
      have HB2 := Lib.hid (HB1.out.trans (hb2.mono HB1.out.size))
      clear hb2
      go_wp2
      go_ret
      exact ⟨rfl, HB2.out⟩
  · have h1 : (er != 0) = true := by simpa using he
    clear he hskip
    go_enter Try.func7, Try.ntmps7
    go_wp2_with fail
    refine HC.out.mono ?_
    rintro e w1 ⟨A, n, c, rfl, hn, hrd, hnc, hcm, hb1⟩
    rw [← HE.out]
    have HB1 := Lib.hid hb1
    clear hn hrd hb1
    go_wp2_with fail
    refine (alive_any _).mono ?_
    rintro e w2 ⟨rfl, hb2⟩
    have HB2 := Lib.hid (HB1.out.trans (hb2.mono HB1.out.size))
    clear hb2
    go_wp2
    go_ret
    exact ⟨rfl, HB2.out⟩
set_option maxHeartbeats 1000000 in
theorem cuts_in (ad : Option Addr) (len cap : Nat) (fs : List Fld) (cut : Nat) (w : World) (hR : FReads w ad len fs) (h300 : len ≤ 300) (he : errL fs = 0) (hcut : cut < (bytL fs).length) :
    Calls Try.prog 7 #[.slice ad len cap, .int .i64 (cut : Int)] w fun e w' => e = .returned (.bool true) ∧ Below w.heap.size w w' := by
  have h300' : ¬ (300 : Int) < (len : Int) := by omega
  have HR := Lib.hid hR
  have hm : len ≤ 4294967296 := by omega
  have hm2 : len ≤ 4398046511104 := by omega
  have HC := Lib.hid (encode_any ad len cap fs w hR hm)
  have HE := Lib.hid he
  have HEN : Hid (encB fs = bytL fs) := Lib.hid (by unfold encB; rw [if_pos he])
  have HD := Lib.hid (dc_cut he hcut)
  have HCUT := Lib.hid hcut
  have HBY := Lib.hid (bys_take cut (bytL_bys fs))
  clear hR h300 he hcut
  go_enter Try.func7, Try.ntmps7
  go_wp2_with fail
  refine HC.out.mono ?_
  rintro e w1 ⟨A, n, c, rfl, hn, hrd, hnc, hcm, hb1⟩
  rw [HE.out]
  rw [HEN.out] at hn hrd
  have hcn : cut < n := by rw [hn]; exact HCUT.out
  have hcn' : (cut : Int) < (n : Int) := by omega
  have hcc : (cut : Int) ≤ (c : Int) := by omega
  obtain ⟨A', c', hsl, hrd2, hac, hcc'⟩ := sub_to hrd hnc cut (by omega)
  have hcm' : c' ≤ maxLen := by omega
  have HCS : Hid (CS w ad len fs A' cut ((bytL fs).take cut) w1.drew) := Lib.hid ⟨HR.out.kept hb1.drew, hrd2.kept (Below.refl _ _).drew, hb1.drew⟩
  have HCM := Lib.hid hcm'
  clear hn hrd hb1 hrd2 hcm hcm'
  go_wp2_with fail
  go_region_held3 (fun w' => CS w ad len fs A' cut ((bytL fs).take cut) w') (first | exact HCS.out | assumption)
    (first
      | (go_at_call 18; (with_reducible refine (kinds_cs (w := w) (A := A') (n := cut) (fs := fs) (zs := (bytL fs).take cut) ?_ hm2).mono ?_); assumption; rintro e w2 ⟨rfl, hk2, hs2⟩; have HK2 := Lib.hid hk2; clear hk2)
      | (go_at_call 13; (with_reducible refine (decode_cs (w := w) (ad := ad) (fs := fs) (zs := (bytL fs).take cut) (ks := fs.map (·.k)) ?_ HK2.out HBY.out hm hac HCM.out).mono ?_); assumption; rintro e w3 ⟨⟨A3, c3, rfl, hf3⟩, hs3⟩; rw [HD.out]; simp only [Sm.e, Sm.l, List.length_nil]))
  go_wp2_with fail
  refine (alive_any _).mono ?_
  rintro e w4 ⟨rfl, hb4⟩
  have HB4 := Lib.hid (hs3.2.2.trans (hb4.mono hs3.2.2.size))
  clear hb4
  go_wp2
  go_ret
  exact ⟨rfl, HB4.out⟩
theorem law_cuts (ad : Option Addr) (len cap : Nat) (fs : List Fld) (cut : Int) (w : World) (hR : FReads w ad len fs) :
    Calls Try.prog 7 #[.slice ad len cap, .int .i64 cut] w fun e w' => e = .returned (.bool true) ∧ Below w.heap.size w w' := by
  by_cases h300 : 300 < len
  · have h300' := many len h300
    go_enter Try.func7, Try.ntmps7
    go_wp2_with fail
    refine (alive_any _).mono ?_
    rintro e w2 ⟨rfl, hb2⟩
    go_wp2
    go_ret
    exact ⟨rfl, hb2⟩
  by_cases he : errL fs = 0
  · have e : encB fs = bytL fs := by unfold encB; rw [if_pos he]
    by_cases hneg : cut < 0
    · exact cuts_few ad len cap fs cut w hR (by omega) (.inr (.inl hneg))
    by_cases hge : ((encB fs).length : Int) ≤ cut
    · exact cuts_few ad len cap fs cut w hR (by omega) (.inr (.inr hge))
    obtain ⟨m, rfl⟩ := Int.eq_ofNat_of_zero_le (show 0 ≤ cut by omega)
    rw [e] at hge
    exact cuts_in ad len cap fs m w hR (by omega) he (by omega)
  · exact cuts_few ad len cap fs cut w hR (by omega) (.inl he)
end Go.Proofs.Ytkoikoegeagkoaa
