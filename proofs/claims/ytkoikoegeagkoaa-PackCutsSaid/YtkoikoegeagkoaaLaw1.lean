/-
  What the laws PackKinds, PackWrites and PackReads return of slices that read: true, and older memory is as it was. Condition: the slices take no more bytes than any input may.
-/
import Derived.Test.YtkoikoegeagkoaaAlive
import Derived.Test.YtkoikoegeagkoaaREnc
import Derived.Test.YtkoikoegeagkoaaSame
namespace Go.Proofs.Ytkoikoegeagkoaa
open Go.ChangeShapes Go.WideShapes Go.ChangeAt Go.RowKit

set_option maxHeartbeats 400000 in
theorem law_kinds (ad : Option Addr) (len cap : Nat) (fs : List Fld) (w : World) (hR : FReads w ad len fs) (hm : len ≤ 4398046511104) :
    Calls Try.prog 9 #[.slice ad len cap] w fun e w' => e = .returned (.bool true) ∧ Below w.heap.size w w' := by
  have HC := Lib.hid (kinds_any ad len cap fs w hR hm)
  have HR := Lib.hid hR
  clear hR
  go_enter Try.func9, Try.ntmps9
  go_wp2_with fail
  refine HC.out.mono ?_
  rintro e w1 ⟨rfl, hk, hb⟩
  have HK := Lib.hid hk
  have HB := Lib.hid hb
  clear hk hb
  go_wp2
  go_loopw [14] (fun i wr => ∃ k n : Nat, k ≤ len ∧ i = .int .i64 k ∧ wr = w1.drewN n) (fun i _ => len - (intOf i).toNat)
  case atStart => exact ⟨0, 0, by omega, rfl, rfl⟩
  case round =>
    obtain ⟨k, n, hk, rfl, rfl⟩ := hrel
    by_cases hlt : k < len
    · obtain ⟨b, off, rfl, hc⟩ := (HR.out.kept HB.out).2 (by omega)
      obtain ⟨c, o2, e2, hd⟩ := HK.out.2 (by omega)
      have h1 := (hc k hlt).1
      have g1 := hd k hlt
      rw [getD_map_k] at g1
      injection e2 with e2
      injection e2 with e3 e4
      subst e3 e4
      rw [Nat.zero_add] at g1
      obtain ⟨x, hx⟩ : ∃ x, x = (fs.getD k z0).k := ⟨_, rfl⟩
      rw [← hx] at h1 g1
      have hk0 : (0 : Int) ≤ (k : Int) := by omega
      have hk1 : (k : Int) < (len : Int) := by omega
      clear hc hd hx
      go_wp2
      go_quiet (fail)
      go_wp2
      go_roundw
      case rel => exact ⟨k + 1, _, by omega, by go_num, rfl⟩
      case measure => simp [intOf]; omega
    · obtain rfl : len = k := by omega
      go_wp2_with fail
      refine (alive_any _).mono ?_
      rintro e w2 ⟨rfl, hb2⟩
      have HB2 := Lib.hid ((below_drewN HB.out n).trans (hb2.mono (below_drewN HB.out n).size))
      clear hb2
      go_wp2
      go_ret
      exact ⟨rfl, HB2.out⟩
theorem many (len : Nat) (h : 300 < len) : (300 : Int) < (len : Int) := by omega
set_option maxHeartbeats 400000 in
theorem law_writes (ad : Option Addr) (len cap : Nat) (fs : List Fld) (w : World) (hR : FReads w ad len fs) :
    Calls Try.prog 3 #[.slice ad len cap] w fun e w' => e = .returned (.bool true) ∧ Below w.heap.size w w' := by
  have HR := Lib.hid hR
  clear hR
  by_cases h300 : 300 < len
  · have h300' := many len h300
    go_enter Try.func3, Try.ntmps3
    go_wp2_with fail
    refine (alive_any _).mono ?_
    rintro e w2 ⟨rfl, hb2⟩
    go_wp2
    go_ret
    exact ⟨rfl, hb2⟩
  have h300' : ¬ (300 : Int) < (len : Int) := by omega
  have hm : len ≤ 4294967296 := by omega
  go_enter Try.func3, Try.ntmps3
  go_wp2_with fail
  refine (encode_any _ _ _ fs _ HR.out hm).mono ?_
  rintro e w1 ⟨A, n, c, rfl, hn, hrd, hnc, hcm, hb1⟩
  have HB1 := Lib.hid hb1
  have HRD := Lib.hid hrd
  have HN := Lib.hid hn
  clear hn hrd hb1
  go_wp2_with fail
  refine (rencode_any _ _ _ fs _ (HR.out.kept HB1.out) hm).mono ?_
  rintro e w2 ⟨A2, n2, c2, rfl, hn2, hrd2, hnc2, hcm2, hb2⟩
  obtain rfl : n = n2 := by rw [hn2]; exact HN.out
  have HB2 := Lib.hid hb2
  have HRD2 := Lib.hid hrd2
  clear hn2 hrd2 hb2
  go_wp2_with fail
  refine (alive_any _).mono ?_
  rintro e w3 ⟨rfl, hb3⟩
  have HB3 := Lib.hid (HB1.out.trans ((HB2.out.trans (hb3.mono HB2.out.size)).mono HB1.out.size))
  have c1 := conv_reads (c := c) ((HRD.out.kept HB2.out).kept hb3)
  have c3 := conv_reads (c := c2) (HRD2.out.kept hb3)
  obtain ⟨S, hS⟩ : ∃ S, S = strOfNums (encB fs) := ⟨_, rfl⟩
  obtain ⟨er, hE⟩ : ∃ er, er = errL fs := ⟨_, rfl⟩
  rw [← hS] at c1 c3
  rw [← hE]
  clear hS hE hb3
  go_wp2
  go_ret
  exact ⟨rfl, HB3.out⟩
end Go.Proofs.Ytkoikoegeagkoaa
