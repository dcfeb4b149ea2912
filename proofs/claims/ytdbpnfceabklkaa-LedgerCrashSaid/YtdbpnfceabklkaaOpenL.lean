/-
  What ledger.Open returns: the ledger that is there; or why there is none. Condition: the disk has no more than 65536 sectors.
-/
import Derived.Test.YtdbpnfceabklkaaFind2
namespace Go.Proofs.Ytdbpnfceabklkaa
set_option maxRecDepth 100000
open Go.ChangeShapes Go.WideShapes Go.ChangeAt Go.RowKit

theorem open_dead (B p : Nat) (D : Dk) (x y : Int) (w : World) (hD : PDisk w B p D) (hd : D.dead = true) :
    Calls Try.prog 21 #[.pointer (some ⟨p, 0, none⟩), .int .i64 x, .int .i64 y] w fun e w' => e = .returned (.tuple #[.pointer none, .int .i64 40]) ∧ Below w.heap.size w w' := by
  have HA := Lib.hid (dead_any B p D w hD)
  rw [hd] at HA
  clear hD hd
  go_enter Try.func21, Try.ntmps21
  go_wp2_with fail
  refine HA.out.mono ?_
  rintro e w' ⟨rfl, rfl⟩
  go_wp2_with fail
  go_ret2
  exact ⟨rfl, Below.refl _ _⟩
theorem open_form (B p : Nat) (D : Dk) (x y : Int) (w : World) (hD : PDisk w B p D) (hd : D.dead = false) (hx : -9223372036854775808 ≤ x ∧ x ≤ 9223372036854775807) (hy : y ≤ 9223372036854775807) (hn : D.firm.length ≤ 65536) (hb : x < 0 ∨ y < 4 ∨ (D.firm.length : Int) < x + y) :
    Calls Try.prog 21 #[.pointer (some ⟨p, 0, none⟩), .int .i64 x, .int .i64 y] w fun e w' => e = .returned (.tuple #[.pointer none, .int .i64 50]) ∧ Below w.heap.size w w' := by
  have HA := Lib.hid (dead_any B p D w hD)
  have HM := Lib.hid (many_any B p D w hD)
  rw [hd] at HA
  clear hD hd
  obtain ⟨x0, x1⟩ := hx
  by_cases h1 : x < 0
  · clear hb
    go_enter Try.func21, Try.ntmps21
    go_wp2_with fail
    refine HA.out.mono ?_
    rintro e w' ⟨rfl, rfl⟩
    go_wp2_with fail
    go_ret2
    exact ⟨rfl, Below.refl _ _⟩
  by_cases h2 : y < 4
  · clear hb
    go_enter Try.func21, Try.ntmps21
    go_wp2_with fail
    refine HA.out.mono ?_
    rintro e w' ⟨rfl, rfl⟩
    go_wp2_with fail
    go_ret2
    exact ⟨rfl, Below.refl _ _⟩
  · obtain ⟨k, hk⟩ : ∃ k : Int, k = (D.firm.length : Int) := ⟨_, rfl⟩
    rw [← hk] at HM hb
    have h3 : k - y < x := by omega
    have h4 : k ≤ 65536 := by omega
    have h5 : 0 ≤ k := by omega
    clear hb hk x0 x1
    go_enter Try.func21, Try.ntmps21
    go_wp2_with fail
    refine HA.out.mono ?_
    rintro e w' ⟨rfl, rfl⟩
    go_wp2_with fail
    refine HM.out.mono ?_
    rintro e w' ⟨rfl, rfl⟩
    go_wp2_with fail
    go_ret2
    exact ⟨rfl, Below.refl _ _⟩
/-- What Open leaves where a ledger could be. -/
def OpPost (w : World) (B p fr sz : Nat) (D : Dk) (e : Ending) (w' : World) : Prop :=
  Below w.heap.size w w' ∧ ((∃ q m bs bv, e = .returned (.tuple #[.pointer (some ⟨q, 0, none⟩), .int .i64 0]) ∧ Found (cur D) fr sz m bs ∧ PL w' B q p ⟨fr, sz, m, bs⟩ bv D ∧ w.heap.size ≤ q) ∨
    (e = .returned (.tuple #[.pointer none, .int .i64 50]) ∧ ∀ m bs, ¬ Found (cur D) fr sz m bs))
theorem open_end {w w9 : World} {B p fr sz : Nat} {D : Dk} {X : Obj} {ok : Bool} (hX : X = .cells (lcells p ⟨fr, sz, mk0, []⟩ (.slice none 0 0)).toArray 74) (hD : PDisk w B p D) (hB : B ≤ w.heap.size) (hfit : fr + 2 + 2 * sz ≤ D.firm.length) (hn : D.firm.length ≤ 65536) (h : FdPost (w.alloc X) w.heap.size p fr sz D (.returned (.bool ok)) w9) :
    Below w.heap.size w w9 ∧ ((ok = true ∧ ∃ m bs bv, Found (cur D) fr sz m bs ∧ PL w9 B w.heap.size p ⟨fr, sz, m, bs⟩ bv D) ∨ (ok = false ∧ ∀ m bs, ¬ Found (cur D) fr sz m bs)) := by
  subst hX
  obtain ⟨hg, h⟩ := h
  have hq0 := new_block w (.cells (lcells p ⟨fr, sz, mk0, []⟩ (.slice none 0 0)).toArray 74)
  have hb : Below w.heap.size w w9 := (box_below w _).grown hg (by simp) (fun k e => by injection e with e; omega)
  refine ⟨hb, ?_⟩
  rcases h with ⟨m, bs, bv, he, hf, hq, hr⟩ | ⟨he, hf⟩
  · injection he with he
    injection he with he
    have hd1 := (hD.kept (box_below w (.cells (lcells p ⟨fr, sz, mk0, []⟩ (.slice none 0 0)).toArray 74))).grown hq0 hg
    have hok : Dok D := by obtain ⟨_, _, _, h⟩ := hD; exact h.ok
    have hgk := hf.gok (cur_ok hok) (by rw [cur_len]; exact hfit) (by rw [cur_len]; exact hn)
    rw [cur_len] at hgk
    exact .inl ⟨he, m, bs, bv, hf, hq, hB, own_base hr (by simp; omega), hd1, hgk⟩
  · injection he with he
    injection he with he
    exact .inr ⟨he, hf⟩
theorem open_any (B p fr many sz : Nat) (D : Dk) (w : World) (hD : PDisk w B p D) (hB : B ≤ w.heap.size) (hd : D.dead = false) (hn : D.firm.length ≤ 65536) (hm : 4 ≤ many) (hfit : fr + many ≤ D.firm.length) (hsz : sz = (many - 2) / 2) :
    Calls Try.prog 21 #[.pointer (some ⟨p, 0, none⟩), .int .i64 (fr : Int), .int .i64 (many : Int)] w (OpPost w B p fr sz D) := by
  have HA := Lib.hid (dead_any B p D w hD)
  have HM := Lib.hid (many_any B p D w hD)
  rw [hd] at HA
  obtain ⟨X, hX⟩ : ∃ X : Obj, X = .cells (lcells p ⟨fr, sz, mk0, []⟩ (.slice none 0 0)).toArray 74 := ⟨_, rfl⟩
  have hfit2 : fr + 2 + 2 * sz ≤ D.firm.length := by omega
  have HF := Lib.hid (find_any B w.heap.size p fr sz D (w.alloc X) (hD.kept (box_below w X)) (by rw [hX]; exact new_block w _) hd hfit2 hn)
  have HEND := Lib.hid (fun ok w9 => open_end (ok := ok) (w9 := w9) hX hD hB hfit2 hn)
  obtain ⟨k, hk⟩ : ∃ k : Int, k = (D.firm.length : Int) := ⟨_, rfl⟩
  rw [← hk] at HM
  have h1 : ¬ (fr : Int) < 0 := by omega
  have h2 : ¬ (many : Int) < 4 := by omega
  have h3 : ¬ k - (many : Int) < (fr : Int) := by omega
  have h4 : k ≤ 65536 := by omega
  have h5 : 0 ≤ k := by omega
  have h6 : (many : Int) ≤ 65536 := by omega
  have h7 : ((many : Int) - 2) / 2 = (sz : Int) := by omega
  have HX : Hid (Obj.cells #[.pointer (some ⟨p, 0, none⟩), .int .i64 (fr : Int), .int .i64 (sz : Int), .int .i64 0, .int .u8 0, .int .u8 0, .int .u8 0, .int .u8 0, .int .u8 0, .int .u8 0, .int .u8 0, .int .u8 0, .int .i64 0, .int .i64 0, .slice none 0 0] 74 = X) := Lib.hid (by rw [hX]; rfl)
  clear hD hd hX hk hfit hfit2 hsz hn hB hm
  go_enter Try.func21, Try.ntmps21
  go_wp2_with fail
  refine HA.out.mono ?_
  rintro e w' ⟨rfl, rfl⟩
  go_wp2_with fail
  refine HM.out.mono ?_
  rintro e w' ⟨rfl, rfl⟩
  go_wp2_with fail
  rw [HX.out]
  refine HF.out.mono ?_
  intro e w9 h9
  obtain ⟨ok, rfl⟩ : ∃ ok, e = .returned (.bool ok) := by
    rcases h9.2 with ⟨_, _, _, he, _⟩ | ⟨he, _⟩
    · exact ⟨_, he⟩
    · exact ⟨_, he⟩
  obtain ⟨hb, hr⟩ := HEND.out ok w9 h9
  clear h9
  rcases hr with ⟨rfl, m, bs, bv, hf, hp⟩ | ⟨rfl, hf⟩
  · have HR : Hid (OpPost w B p fr sz D (.returned (.tuple #[.pointer (some ⟨w.heap.size, 0, none⟩), .int .i64 0])) w9) := Lib.hid ⟨hb, .inl ⟨_, m, bs, bv, rfl, hf, hp, Nat.le_refl _⟩⟩
    clear hb hf hp
    go_wp2_with fail
    go_ret2
    exact HR.out
  · have HR : Hid (OpPost w B p fr sz D (.returned (.tuple #[.pointer none, .int .i64 50])) w9) := Lib.hid ⟨hb, .inr ⟨rfl, hf⟩⟩
    clear hb hf
    go_wp2_with fail
    go_ret2
    exact HR.out
end Go.Proofs.Ytdbpnfceabklkaa
