/-
  What the ledger's Sync, Replace and Append leave. Conditions: not too many writes wait; no more than 100000 records are given.
-/
import Derived.Test.YtdbpnfceabklkaaSettle2
import Derived.StillTailTactics
namespace Go.Proofs.Ytdbpnfceabklkaa
set_option maxRecDepth 100000
open Go.ChangeShapes Go.WideShapes Go.ChangeAt Go.RowKit

/-- A Sync's givens; a Replace's. -/
def sgS (B q p : Nat) (G : Lg) (bv : Value) (D : Dk) : SG := ⟨B, q, p, G, bv, G.m.half, G.m.used, bv, G.bs, D⟩
def sgR (B q p : Nat) (G : Lg) (bv bb : Value) (D : Dk) (b : List Int) : SG := ⟨B, q, p, G, bv, 1 - G.m.half, 0, bb, b, D⟩
theorem sync_led (B q p : Nat) (G : Lg) (bv : Value) (D : Dk) (w : World) (h : PL w B q p G bv D) (hwt : D.wait.length ≤ 30000) :
    Calls Try.prog 20 #[.pointer (some ⟨q, 0, none⟩)] w (SePost (sgS B q p G bv D) w) := by
  have hg := h.gok
  obtain ⟨A, c, rfl, hnc, -, -⟩ := own_form h.row
  have hlc := h.cells
  have hd : Below w.heap.size w w.drew := (Below.refl _ _).drew
  have hse := settle_any (sgS B q p G (.slice A G.bs.length c) D) A c w.drew (h.kept hd) rfl hnc (own_below h.row hd) hg.half hg.used hg.room hg.bys hwt
  have HSE : Hid (Calls Try.prog 35 #[.pointer (some ⟨q, 0, none⟩), .int .i64 (G.m.half : Int), .int .i64 (G.m.used : Int), .slice A G.bs.length c] w.drew (SePost (sgS B q p G (.slice A G.bs.length c) D) w)) := Lib.hid (hse.mono fun e w' hp => ⟨hp.ret, (Kl.of_below hd h.size).trans hp.kl, hp.pl⟩)
  have HLC : Hid (∀ W, W.heap[q]? = w.heap[q]? → LCells W q p G (.slice A G.bs.length c)) := Lib.hid (fun W e => LCells.of (e.trans h.here) hg.num)
  have HS0 : Hid (w.drew.heap[q]? = w.heap[q]?) := Lib.hid rfl
  clear h hg hlc hse hd
  go_enter Try.func20, Try.ntmps20
  go_wp2_with fail
  obtain ⟨hc12, hc13, hc14⟩ : (LCells w q p G (.slice A G.bs.length c)) ∧ True ∧ True := ⟨HLC.out w rfl, trivial, trivial⟩
  have hf12 := hc12.c12
  have hf13 := hc12.c13
  have hf14 := hc12.c14
  clear hc12 hc13 hc14
  go_still_tail 15, (by kernel_rfl)
  change wpList _ _ _ _ _ w.drew
  clear hf12 hf13 hf14
  generalize w.drew = w1 at HSE ⊢
  go_wp2_with fail
  refine HSE.out.mono ?_
  intro e w2 hp
  have HP := Lib.hid hp
  obtain ⟨r, hr⟩ : ∃ r, r = (runW D (sgS B q p G (.slice A G.bs.length c) D).ws).2 := ⟨_, rfl⟩
  have he : e = .returned (.int .i64 r) := by rw [hr]; exact hp.ret
  subst he
  clear hp hr
  go_wp2_with fail

  go_ret
  exact HP.out
end Go.Proofs.Ytdbpnfceabklkaa
