/-
  What the document's Do returns of any disk and any call. Condition: not too many sectors and writes.
-/
import Derived.Test.YtogofgfdkkjnlaaRDo1
import Derived.Test.YtogofgfdkkjnlaaRDo2
import Derived.Test.YtogofgfdkkjnlaaRDo3
import Derived.Test.YtogofgfdkkjnlaaRDo4
import Derived.Test.YtogofgfdkkjnlaaRDo5
import Derived.Test.YtogofgfdkkjnlaaRDo6
import Derived.Test.YtogofgfdkkjnlaaRDo7
namespace Go.Proofs.Ytogofgfdkkjnlaa
open Go.ChangeShapes Go.WideShapes Go.ChangeAt Go.RowKit

theorem rdo_any (B : Nat) (fv wv : Value) (D : Dk) (k n t : Int) (A : Option Addr) (len cap : Nat) (zs : List Int) (w : World) (h : RDisk w B fv wv D) (hB : B ≤ w.heap.size) (hok : Dok D) (hf : D.firm.length ≤ 65536) (hn : D.wait.length ≤ 100000) (hR : Reads w A len zs) :
    Calls Try.prog 24 #[.agg #[fv, wv, .int .i64 D.armed, .bool D.dead], .agg #[.int .i64 k, .int .i64 n, .int .i64 t, .slice A len cap]] w (DoPost w B D k n t zs) := by
  obtain ⟨Af, cf, rfl, -, -, -⟩ := own_form h.firm
  obtain ⟨Aw, cw, rfl, -, -, -⟩ := own_form h.wait
  have hz : zs.length = len := hR.1
  by_cases h3 : k = 3
  · subst h3; exact rdo_arm B Af Aw cf cw D n t A len cap zs w h
  by_cases h4 : k = 4
  · subst h4; exact rdo_crash B Af Aw cf cw D n t A len cap zs w h hB hok hf
  by_cases h0 : k < 0
  · exact rdo_neg B Af Aw cf cw D k n t A len cap zs w h h0
  by_cases h5 : 4 < k
  · exact rdo_big B Af Aw cf cw D k n t A len cap zs w h h5
  cases hd : D.dead with
  | true => rw [← hd]; exact rdo_dead B Af Aw cf cw D k n t A len cap zs w h (by omega) hd
  | false =>
    rw [← hd]
    by_cases h2 : k = 2
    · subst h2
      cases hd2 : (dies D).dead with
      | true => exact rdo_syncdead B Af Aw cf cw D n t A len cap zs w h hok hd hd2
      | false => exact rdo_sync B Af Aw cf cw D n t A len cap zs w h hB hf hok hd hd2
    by_cases hl : n < 0
    · exact rdo_badlow B Af Aw cf cw D k n t A len cap zs w h (by omega) hd hl
    by_cases hh : (D.firm.length : Int) ≤ n
    · exact rdo_badhigh B Af Aw cf cw D k n t A len cap zs w h (by omega) hd hh (by omega)
    obtain ⟨m, rfl⟩ : ∃ m : Nat, n = (m : Int) := ⟨n.toNat, by omega⟩
    by_cases h1 : k = 1
    · subst h1; exact rdo_read B Af Aw cf cw D m t A len cap zs w h hd (by omega)
    obtain rfl : k = 0 := by omega
    by_cases hll : 64 < len
    · exact rdo_badlong B Af Aw cf cw D (m : Int) t A len cap zs w h hd (by omega) (by omega) hll hz
    · cases hd2 : (dies (putD D m zs)).dead with
      | true => exact rdo_writedead B Af Aw cf cw D m t A len cap zs w h hB hok hd (by omega) hR (by omega) hn hd2
      | false => exact rdo_write B Af Aw cf cw D m t A len cap zs w h hB hok hd (by omega) hR (by omega) hn hd2
end Go.Proofs.Ytogofgfdkkjnlaa
