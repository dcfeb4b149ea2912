/-
  A script of calls on a disk in memory; writes on a disk that lives. No condition.
-/
import Derived.Test.YtdbpnfceabklkaaBox
namespace Go.Proofs.Ytdbpnfceabklkaa
set_option maxRecDepth 100000
open Go.ChangeShapes Go.WideShapes Go.ChangeAt Go.RowKit

/-- A call of a script. -/
structure Opr where
  k : Int
  n : Int
  t : Int
  b : List Int
def op0 : Opr := ⟨0, 0, 0, []⟩
/-- Memory below a block holds a script. -/
def PReads (w : World) (B : Nat) (ad : Option Addr) (len : Nat) (os : List Opr) : Prop :=
  os.length = len ∧ (0 < len → ∃ b off, ad = some ⟨b, off, none⟩ ∧ b < B ∧ ∀ i, i < len →
    w.cell? ⟨b, off + i * 4, none⟩ = some (.int .i64 (os.getD i op0).k) ∧ w.cell? ⟨b, off + i * 4 + 1, none⟩ = some (.int .i64 (os.getD i op0).n) ∧ w.cell? ⟨b, off + i * 4 + 2, none⟩ = some (.int .i64 (os.getD i op0).t) ∧
    (∃ A l c, w.cell? ⟨b, off + i * 4 + 3, none⟩ = some (.slice A l c) ∧ Reads w A l (os.getD i op0).b ∧ Under B A l) ∧ (os.getD i op0).n ≤ 9223372036854775807)
theorem PReads.kept {w w' : World} {B : Nat} {ad : Option Addr} {len : Nat} {os : List Opr} (h : PReads w B ad len os) (hb : Below B w w') : PReads w' B ad len os := by
  refine ⟨h.1, fun hl => ?_⟩
  obtain ⟨b, off, e, hlt, hc⟩ := h.2 hl
  refine ⟨b, off, e, hlt, fun i hi => ?_⟩
  obtain ⟨h0, h1, h2, ⟨A, l, c, h3, h4, h5⟩, h6⟩ := hc i hi
  have k : ∀ o u, w.cell? ⟨b, o, none⟩ = some u → w'.cell? ⟨b, o, none⟩ = some u := fun o u hx => (hb.cell (p := ⟨b, o, none⟩) hlt).trans hx
  exact ⟨k _ _ h0, k _ _ h1, k _ _ h2, ⟨A, l, c, k _ _ h3, h4.keptAt h5 hb, h5⟩, h6⟩

/-- A disk that lives, behind some writes. -/
structure Lives (n k : Nat) (D : Dk) : Prop where
  dead : D.dead = false
  arm : D.armed = 0
  len : D.firm.length = n
  wait : D.wait.length ≤ k
theorem lives_new (n : Nat) : Lives n 0 (newD n) := ⟨rfl, rfl, newD_len n, Nat.zero_le _⟩
theorem lives_write {n k : Nat} {D : Dk} (h : Lives n k D) (x : Int) (b : List Int) : Lives n (k + 1) (doD D 0 x 0 b).1 := by
  have h1 := do_len D 0 x 0 b
  have h2 := do_wait D 0 x 0 b
  have h3 := h.len
  have h4 := h.wait
  refine ⟨?_, ?_, by omega, by omega⟩
  all_goals
    unfold doD
    rw [if_neg (by decide), if_neg (by decide), if_neg (by decide), if_neg (by simp [h.dead]), if_neg (by decide)]
    split
    · first | exact h.dead | exact h.arm
    · have ha : (putD D x.toNat b).armed = 0 := h.arm
      rw [if_neg (by decide)]
      have e : dies (putD D x.toNat b) = putD D x.toNat b := by unfold dies; rw [if_neg (by rw [ha]; decide)]
      simp only [e]
      first | exact h.dead | exact h.arm
theorem Lives.more {n k k' : Nat} {D : Dk} (h : Lives n k D) (hk : k ≤ k') : Lives n k' D := ⟨h.dead, h.arm, h.len, Nat.le_trans h.wait hk⟩
end Go.Proofs.Ytdbpnfceabklkaa
