/-
  What the laws on sums return of slices that read as bytes: true, and older memory is as it was. Condition: the table's cells hold what its initialiser lays.
-/
import Derived.Test.YtcobgidmmfliaaaDoorWalk3
namespace Go.Proofs.YtcobgidmmfliaaaDoor
open Go.ChangeShapes Go.WideShapes Go.ChangeAt Go.RowKit Go.Proofs.Crc

theorem cell_lt {w : World} {b : Nat} {o : Nat} {v : Value} (h : w.cell? ⟨b, o, none⟩ = some v) : b < w.heap.size := by
  rcases Nat.lt_or_ge b w.heap.size with h' | h'
  · exact h'
  · simp [World.cell?, Array.getElem?_eq_none h'] at h
theorem reads_kept {w w' : World} {ad : Option Addr} {len : Nat} {zs : List Int} (hR : Reads w ad len zs) (hb : Below w.heap.size w w') : Reads w' ad len zs :=
  reads_below hR hb (fun b off e hl => by
    obtain ⟨_, h2, _⟩ := hR
    obtain ⟨b', off', e', hc⟩ := h2 hl
    rw [e] at e'
    have e'' := Option.some.inj e'
    have hbb : b = b' := congrArg Addr.block e''
    rw [hbb]
    exact cell_lt (hc 0 hl))
theorem law_sums (ad : Option Addr) (len cap : Nat) (zs : List Int) (w : World) (hR : Reads w ad len zs) (hT : Table w) (hm : len ≤ 9223372036854775807) :
    Calls Tryd.prog 3 #[.slice ad len cap] w fun e w' => e = .returned (.bool true) ∧ Below w.heap.size w w' := by
  have HT := Lib.hid hT
  have HR := Lib.hid hR
  clear hR hT
  go_enter Tryd.func3, Tryd.ntmps3
  go_wp2_with fail
  refine (alive_any w HT.out).mono ?_
  rintro e w1 ⟨rfl, hb⟩
  have HR1 := Lib.hid (reads_kept HR.out hb)
  have HT1 := Lib.hid (table_below HT.out hb (table_lt HT.out))
  have HB := Lib.hid hb
  clear hb
  go_wp2_with fail
  refine (sum_any _ _ _ _ _ HR1.out HT1.out hm).mono ?_
  rintro e w' ⟨rfl, rfl⟩
  go_wp2_with fail
  refine (rsum_any _ _ _ _ _ HR1.out hm).mono ?_
  rintro e w' ⟨rfl, rfl⟩
  go_wp2_with fail
  go_ret
  exact ⟨rfl, HB.out⟩
theorem law_mores (v : BitVec 32) (ad : Option Addr) (len cap : Nat) (zs : List Int) (w : World) (hR : Reads w ad len zs) (hT : Table w) (hm : len ≤ 9223372036854775807) :
    Calls Tryd.prog 4 #[.int .u32 (U v), .slice ad len cap] w fun e w' => e = .returned (.bool true) ∧ Below w.heap.size w w' := by
  have HT := Lib.hid hT
  have HR := Lib.hid hR
  clear hR hT
  go_enter Tryd.func4, Tryd.ntmps4
  go_wp2_with fail
  refine (alive_any w HT.out).mono ?_
  rintro e w1 ⟨rfl, hb⟩
  have HR1 := Lib.hid (reads_kept HR.out hb)
  have HT1 := Lib.hid (table_below HT.out hb (table_lt HT.out))
  have HB := Lib.hid hb
  clear hb
  go_wp2_with fail
  refine (more_any _ _ _ _ _ _ HR1.out HT1.out hm).mono ?_
  rintro e w' ⟨rfl, rfl⟩
  go_wp2_with fail
  refine (rmore_any _ _ _ _ _ _ HR1.out hm).mono ?_
  rintro e w' ⟨rfl, rfl⟩
  go_wp2_with fail
  go_ret
  exact ⟨rfl, HB.out⟩
end Go.Proofs.YtcobgidmmfliaaaDoor
