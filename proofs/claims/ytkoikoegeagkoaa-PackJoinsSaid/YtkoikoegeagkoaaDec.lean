/-
  What pack.Decode returns of kinds and bytes that read: the fields that have all of the bytes, or what is amiss first. Condition: no more than 2^32 kinds; the slice's length fits its capacity.
-/
import Derived.Test.YtkoikoegeagkoaaSome
namespace Go.Proofs.Ytkoikoegeagkoaa
open Go.ChangeShapes Go.WideShapes Go.ChangeAt Go.RowKit

def DecPost (w : World) (s : Sm) (e : Ending) (w' : World) : Prop :=
  ∃ (A : Option Addr) (c : Nat), e = .returned (.tuple #[.slice A s.l.length c, .int .i64 s.e]) ∧ FReads w' A s.l.length s.l ∧ Below w.heap.size w w'
theorem dec_bad {w w' : World} {s : Sm} {er : Int} (hs : s = .bad er) (hb : Below w.heap.size w w') : DecPost w s (.returned (.tuple #[.slice none 0 0, .int .i64 er])) w' := by
  subst hs; exact ⟨none, 0, rfl, freads_none w', hb⟩
theorem dec_bad_at {w w' : World} {s : Sm} {er : Int} {A : Option Addr} {c : Nat} (hs : s = .bad er) (hf : FReads w' A 0 []) (hb : Below w.heap.size w w') : DecPost w s (.returned (.tuple #[.slice A 0 c, .int .i64 er])) w' := by
  subst hs; exact ⟨A, c, rfl, hf, hb⟩
theorem dec_good {w w' : World} {s : Sm} {l : List Fld} {n : Nat} {A : Option Addr} {c : Nat} (hs : s = .good l n) (hf : FReads w' A l.length l) (hb : Below w.heap.size w w') : DecPost w s (.returned (.tuple #[.slice A l.length c, .int .i64 0])) w' := by
  subst hs; exact ⟨A, c, rfl, hf, hb⟩
theorem dc_of_bad {ks zs : List Int} {er : Int} (h : sm ks zs = .bad er) : dc ks zs = .bad er := by simp [dc, h]
theorem dc_of_less {ks zs : List Int} {l : List Fld} {n : Nat} (h : sm ks zs = .good l n) (hn : n < zs.length) : dc ks zs = .bad 21 := by simp [dc, h, hn]
theorem dc_of_all {ks zs : List Int} {l : List Fld} {n : Nat} (h : sm ks zs = .good l n) (hn : ¬ n < zs.length) : dc ks zs = .good l n := by simp [dc, h, hn]
set_option maxHeartbeats 400000 in
theorem decode_any (ka ba : Option Addr) (len kcap blen bcap : Nat) (ks zs : List Int) (w : World) (hK : Reads .i64 w ka len ks) (hR : Reads .u8 w ba blen zs) (hB : Bys zs) (hm : len ≤ 4294967296) (hc : blen ≤ bcap) (hcm : bcap ≤ maxLen) :
    Calls Try.prog 13 #[.slice ka len kcap, .slice ba blen bcap] w (DecPost w (dc ks zs)) := by
  have hcall := some_any ka ba len kcap blen bcap ks zs w hK hR hB hm hc hcm
  have hl := hR.1
  cases hs : sm ks zs with
  | bad er =>
    have hne : (er == 0) = false := by simpa using sm_bad_ne hs
    rw [hs] at hcall
    have HC := Lib.hid hcall
    have HS := Lib.hid (dc_of_bad hs)
    clear hcall hs hK hR hB hl
    go_enter Try.func13, Try.ntmps13
    go_wp2_with fail
    refine HC.out.mono ?_
    rintro e w1 ⟨A, c, rfl, hf, hb1⟩
    have HF := Lib.hid hf
    have HB := Lib.hid hb1
    simp only [Sm.e, Sm.l, Sm.n, List.length_nil]
    clear hf hb1
    go_wp2
    go_ret2
    exact dec_bad_at HS.out HF.out HB.out
  | good l n =>
    rw [hs] at hcall
    have HC := Lib.hid hcall
    by_cases hn : n < blen
    · have HS := Lib.hid (dc_of_less hs (by omega))
      have hn' : (n : Int) < (blen : Int) := by omega
      clear hcall hs hK hR hB hl hn
      go_enter Try.func13, Try.ntmps13
      go_wp2_with fail
      refine HC.out.mono ?_
      rintro e w1 ⟨A, c, rfl, hf, hb1⟩
      have HF := Lib.hid hf
      have HB := Lib.hid hb1
      simp only [Sm.e, Sm.l, Sm.n]
      clear hf hb1
      go_wp2
      go_ret2
      exact dec_bad HS.out HB.out
    · have HS := Lib.hid (dc_of_all hs (by omega))
      have hn' : ¬ (n : Int) < (blen : Int) := by omega
      clear hcall hs hK hR hB hl hn
      go_enter Try.func13, Try.ntmps13
      go_wp2_with fail
      refine HC.out.mono ?_
      rintro e w1 ⟨A, c, rfl, hf, hb1⟩
      have HF := Lib.hid hf
      have HB := Lib.hid hb1
      simp only [Sm.e, Sm.l, Sm.n]
      clear hf hb1
      go_wp2
      go_ret2
      exact dec_good HS.out HF.out HB.out
end Go.Proofs.Ytkoikoegeagkoaa
