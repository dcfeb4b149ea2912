/-
  What the document's own test of sameness returns of two slices that read as the same fields: true. Condition: they hold no more than 2^32 fields.
-/
import Derived.Test.YtkoikoegeagkoaaAmiss
import Derived.BigQuiet
import Derived.Deep.QuietTactic
namespace Go.Proofs.Ytkoikoegeagkoaa
open Go.ChangeShapes Go.WideShapes Go.ChangeAt Go.RowKit

theorem same_any (ad bd : Option Addr) (len acap bcap : Nat) (fs : List Fld) (w : World) (hA : FReads w ad len fs) (hB : FReads w bd len fs) (hm : len ≤ 4294967296) :
    Calls Try.prog 17 #[.slice ad len acap, .slice bd len bcap] w fun e w' => e = .returned (.bool true) ∧ Below w.heap.size w w' := by
  have HA := Lib.hid hA
  have HB := Lib.hid hB
  clear hA hB
  go_enter Try.func17, Try.ntmps17
  go_wp2
  go_loopw [5] (fun i wr => ∃ k n : Nat, k ≤ len ∧ i = .int .i64 k ∧ wr = w.drewN n) (fun i _ => len - (intOf i).toNat)
  case atStart => exact ⟨0, 0, by omega, rfl, rfl⟩
  case round =>
    obtain ⟨k, n, hk, rfl, rfl⟩ := hrel
    by_cases hlt : k < len
    · obtain ⟨b, off, rfl, hc⟩ := HA.out.2 (by omega)
      obtain ⟨c, o2, rfl, hd⟩ := HB.out.2 (by omega)
      obtain ⟨h1, h2, h3⟩ := hc k hlt
      obtain ⟨g1, g2, g3⟩ := hd k hlt
      obtain ⟨f, hf⟩ : ∃ f, f = fs.getD k z0 := ⟨_, rfl⟩
      rw [← hf] at h1 h2 h3 g1 g2 g3
      have hk0 : (0 : Int) ≤ (k : Int) := by omega
      have hk1 : (k : Int) < (len : Int) := by omega
      clear hc hd hf
      go_wp2
      go_quiet (fail)
      go_wp2
      go_roundw
      case rel => exact ⟨k + 1, _, by omega, by go_num, rfl⟩
      case measure => simp [intOf]; omega
    · obtain rfl : len = k := by omega
      go_wp2
      go_ret
      exact ⟨rfl, below_drewN (Below.refl _ _) n⟩
end Go.Proofs.Ytkoikoegeagkoaa
