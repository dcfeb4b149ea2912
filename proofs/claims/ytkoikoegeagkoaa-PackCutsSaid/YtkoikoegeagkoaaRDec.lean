/-
  What the document's own Decode returns of kinds and bytes that read: the fields that have all of the bytes, or what is amiss first. Condition: no more than 2^32 kinds; the bytes' array takes no more than 2^61.
-/
import Derived.Test.YtkoikoegeagkoaaRSome
import Derived.Test.YtkoikoegeagkoaaDec
namespace Go.Proofs.Ytkoikoegeagkoaa
open Go.ChangeShapes Go.WideShapes Go.ChangeAt Go.RowKit

set_option maxHeartbeats 400000 in
theorem rdecode_any (ka ba : Option Addr) (len kcap blen bcap : Nat) (ks zs : List Int) (w : World) (hK : Reads .i64 w ka len ks) (hR : Reads .u8 w ba blen zs) (hB : Bys zs) (hm : len ≤ 4294967296) (hc : blen ≤ bcap) (hcm : bcap ≤ 2305843009213693952) :
    Calls Try.prog 14 #[.slice ka len kcap, .slice ba blen bcap] w (DecPost w (dc ks zs)) := by
  have hcall := rsome_any ka ba len kcap blen bcap ks zs w hK hR hB hm hc hcm
  have hl := hR.1
  cases hs : sm ks zs with
  | bad er =>
    have hne : (er != 0) = true := by simpa using sm_bad_ne hs
    rw [hs] at hcall
    have HC := Lib.hid hcall
    have HS := Lib.hid (dc_of_bad hs)
    clear hcall hs hK hR hB hl
    go_enter Try.func14, Try.ntmps14
    go_wp2_with fail
    refine HC.out.mono ?_
    rintro e w1 ⟨A, c, rfl, hf, hb1⟩
    have HB := Lib.hid hb1
    simp only [Sm.e, Sm.l, Sm.n, List.length_nil]
    clear hf hb1
    go_wp2
    go_ret2
    exact dec_bad HS.out HB.out
  | good l n =>
    have hnb := (sm_good hB hs).1
    rw [hs] at hcall
    have HC := Lib.hid hcall
    by_cases hn : n < blen
    · have HS := Lib.hid (dc_of_less hs (by omega))
      have hn' : ((n : Int) != (blen : Int)) = true := by simp; omega
      clear hcall hs hK hR hB hl hn hnb
      go_enter Try.func14, Try.ntmps14
      go_wp2_with fail
      refine HC.out.mono ?_
      rintro e w1 ⟨A, c, rfl, hf, hb1⟩
      have HF := Lib.hid hf
      have HB := Lib.hid hb1
      simp only [Sm.e, Sm.l, Sm.n]
      clear hf hb1
      go_wp2
      go_ret2
      exact dec_bad HS.out HB.out
    · have HS := Lib.hid (dc_of_all hs (by omega))
      have hn' : ((n : Int) != (blen : Int)) = false := by simp; omega
      clear hcall hs hK hR hB hl hn hnb
      go_enter Try.func14, Try.ntmps14
      go_wp2_with fail
      refine HC.out.mono ?_
      rintro e w1 ⟨A, c, rfl, hf, hb1⟩
      have HF := Lib.hid hf
      have HB := Lib.hid hb1
      simp only [Sm.e, Sm.l, Sm.n]
      clear hf hb1
      go_wp2
      go_ret2
      exact dec_good HS.out HF.out HB.out
end Go.Proofs.Ytkoikoegeagkoaa
