/-
  What Open returns where a ledger is known to be; what the laws' opened returns; that the laws' own test of life returns true. Condition: not too many sectors.
-/
import Derived.Test.YtdbpnfceabklkaaInv
namespace Go.Proofs.Ytdbpnfceabklkaa
set_option maxRecDepth 100000
open Go.ChangeShapes Go.WideShapes Go.ChangeAt Go.RowKit

def OfPost (B p : Nat) (G : Lg) (D : Dk) (w : World) (e : Ending) (w' : World) : Prop :=
  ∃ q bv, e = .returned (.tuple #[.pointer (some ⟨q, 0, none⟩), .int .i64 0]) ∧ PL w' B q p G bv D ∧ w.heap.size ≤ q ∧ Below w.heap.size w w'
theorem open_found (B p fr many sz : Nat) (m : Mk) (l : List (List Int)) (D : Dk) (w : World) (hD : PDisk w B p D) (hB : B ≤ w.heap.size) (hd : D.dead = false) (hn : D.firm.length ≤ 65536) (hm : 4 ≤ many) (hfit : fr + many ≤ D.firm.length) (hsz : sz = (many - 2) / 2) (hh : Holds (cur D) fr sz m (enc l)) (hl : Rok l) :
    Calls Try.prog 21 #[.pointer (some ⟨p, 0, none⟩), .int .i64 (fr : Int), .int .i64 (many : Int)] w (OfPost B p ⟨fr, sz, m, enc l⟩ D w) := by
  have hf := hh.found rfl hl
  refine (open_any B p fr many sz D w hD hB hd hn hm hfit hsz).mono ?_
  rintro e w' ⟨hb, h⟩
  rcases h with ⟨q, m', bs', bv, rfl, hf', hpl, hq⟩ | ⟨_, h⟩
  · obtain ⟨rfl, rfl⟩ := hf.same hf'
    exact ⟨q, bv, rfl, hpl, hq, hb⟩
  · exact absurd hf (h _ _)
theorem alive_new (n fr sz : Nat) (hf : fr + 2 + 2 * sz ≤ n) (hs : sz ≤ 65536) : Alive ⟨fr, sz, mk0, []⟩ (newD n) [] [] := by
  refine ⟨⟨rok_nil, rok_nil, rfl, ?_, ⟨rfl, Nat.le_refl _⟩, Nat.zero_le _, hs, Int.le_refl 0⟩, rfl, rfl⟩
  exact holds_new hf
theorem newD_len (n : Nat) : (newD n).firm.length = n := List.length_replicate
def OnPost (w : World) (many : Nat) (e : Ending) (w' : World) : Prop :=
  ∃ p q bv, e = .returned (.tuple #[.pointer (some ⟨p, 0, none⟩), .pointer (some ⟨q, 0, none⟩)]) ∧ PL w' w.heap.size q p ⟨2, (many - 2) / 2, mk0, []⟩ bv (newD (many + 4)) ∧ Below w.heap.size w w'
theorem opened_any (many : Nat) (w : World) (h4 : 4 ≤ many) (hm : many ≤ 60000) : Calls Try.prog 12 #[.int .i64 (many : Int)] w (OnPost w many) := by
  have HN := Lib.hid (new_any ((many + 4 : Nat) : Int) (many + 4) w (by omega) (.inr rfl))
  have e1 : IntKind.i64.wrap ((many : Int) + 4) = ((many + 4 : Nat) : Int) := by rw [IntKind.wrap_i64]; omega
  go_enter Try.func12, Try.ntmps12
  go_wp2_with fail
  refine HN.out.mono ?_
  rintro e w1 ⟨p, rfl, hp, hb⟩
  have HO := Lib.hid (open_found w.heap.size p 2 many ((many - 2) / 2) mk0 [] (newD (many + 4)) w1 hp hb.size rfl (by rw [newD_len]; omega) h4 (by rw [newD_len]; omega) rfl (holds_new (by omega)) rok_nil)
  have HB := Lib.hid hb
  clear hp hb e1
  go_wp2_with fail
  refine HO.out.mono ?_
  rintro e w2 ⟨q, bv, rfl, hpl, -, hb2⟩
  have HP : Hid (PL w2 w.heap.size q p ⟨2, (many - 2) / 2, mk0, []⟩ bv (newD (many + 4))) := Lib.hid hpl
  have HB2 := Lib.hid (HB.out.trans (hb2.mono HB.out.size))
  clear hpl hb2
  go_wp2_with fail
  go_ret2
  exact ⟨p, q, bv, rfl, HP.out, HB2.out⟩
end Go.Proofs.Ytdbpnfceabklkaa
