/-
  What the small methods of the program's disk return: Many, Pending, Dead, Arm, amiss, spend. No condition.
-/
import Derived.Test.YtdbpnfceabklkaaMem
namespace Go.Proofs.Ytdbpnfceabklkaa
open Go.ChangeShapes Go.WideShapes Go.ChangeAt Go.RowKit

theorem many_any (B p : Nat) (D : Dk) (w : World) (h : PDisk w B p D) :
    Calls Try.prog 37 #[.pointer (some ⟨p, 0, none⟩)] w fun e w' => e = .returned (.int .i64 (D.firm.length : Int)) ∧ w = w' := by
  obtain ⟨sv, wv, left, h⟩ := h
  obtain ⟨h0, h1, h2, h3⟩ := h.cell
  obtain ⟨A, c, rfl, -, -, -⟩ := own_form h.secs
  clear h
  go_enter Try.func37, Try.ntmps37
  go_wp2
  go_ret
  exact ⟨rfl, rfl⟩
theorem dead_any (B p : Nat) (D : Dk) (w : World) (h : PDisk w B p D) :
    Calls Try.prog 36 #[.pointer (some ⟨p, 0, none⟩)] w fun e w' => e = .returned (.bool D.dead) ∧ w = w' := by
  obtain ⟨sv, wv, left, h⟩ := h
  obtain ⟨h0, h1, h2, h3⟩ := h.cell
  clear h
  go_enter Try.func36, Try.ntmps36
  go_wp2
  go_ret
  exact ⟨rfl, rfl⟩
/-- A number of the struct is set. -/
theorem struct_set {w : World} {p : Nat} {sv wv : Value} {left : Int} {dd : Bool} (h : w.heap[p]? = some (.cells #[sv, wv, .int .i64 left, .bool dd] 84 (0, 0))) (x : Int) :
    (w.setCell ⟨p, 2, none⟩ (.int .i64 x)).heap[p]? = some (.cells #[sv, wv, .int .i64 x, .bool dd] 84 (0, 0)) := heap_setCell_same w p 2 _ 84 _ h
theorem struct_dead {w : World} {p : Nat} {sv wv : Value} {left : Int} {dd : Bool} (h : w.heap[p]? = some (.cells #[sv, wv, .int .i64 left, .bool dd] 84 (0, 0))) (x : Bool) :
    (w.setCell ⟨p, 3, none⟩ (.bool x)).heap[p]? = some (.cells #[sv, wv, .int .i64 left, .bool x] 84 (0, 0)) := heap_setCell_same w p 3 _ 84 _ h
theorem struct_wait {w : World} {p : Nat} {sv wv : Value} {left : Int} {dd : Bool} (h : w.heap[p]? = some (.cells #[sv, wv, .int .i64 left, .bool dd] 84 (0, 0))) (x : Value) :
    (w.setCell ⟨p, 1, none⟩ x).heap[p]? = some (.cells #[sv, x, .int .i64 left, .bool dd] 84 (0, 0)) := heap_setCell_same w p 1 _ 84 _ h
theorem struct_secs {w : World} {p : Nat} {sv wv : Value} {left : Int} {dd : Bool} (h : w.heap[p]? = some (.cells #[sv, wv, .int .i64 left, .bool dd] 84 (0, 0))) (x : Value) :
    (w.setCell ⟨p, 0, none⟩ x).heap[p]? = some (.cells #[x, wv, .int .i64 left, .bool dd] 84 (0, 0)) := heap_setCell_same w p 0 _ 84 _ h
/-- A cell of the struct is set: what is left of the rest. -/
theorem struct_kp {w : World} {B p : Nat} {cs : Array Value} (hB : B ≤ p) (h : w.heap[p]? = some (.cells cs 84 (0, 0))) (j : Nat) (v : Value) : Kp B w (w.setCell ⟨p, j, none⟩ v) :=
  ⟨(Below.refl _ _).setCell hB v, fun k o hk h1 => by
    rw [heap_setCell_other w _ k v]
    · exact hk
    · rintro rfl
      rw [h] at hk
      injection hk with hk
      exact absurd rfl (h1 _ _ _ hk.symm).1⟩
theorem struct_row {w : World} {B base e size n p : Nat} {v : Value} {xs : List Value} {cs : Array Value} (h : w.ownsRow B e size v n xs) (hp : w.heap[p]? = some (.cells cs 84 (0, 0))) (he : 84 ≠ e) (_ : base = B) (j : Nat) (x : Value) : (w.setCell ⟨p, j, none⟩ x).ownsRow B e size v n xs :=
  ownsRow_setCell_other h (own_ne h hp he) x
theorem cell_of {w : World} {p j : Nat} {cs : Array Value} {t : TypeId} {v : Value} (h : w.heap[p]? = some (.cells cs t (0, 0))) (hv : cs[j]? = some v) : w.cell? ⟨p, j, none⟩ = some v := by
  rw [cell_of_row w p j cs t _ h]; exact hv

theorem arm_any (B p : Nat) (D : Dk) (k : Int) (w : World) (h : PDisk w B p D) (hk : k ≤ 9223372036854775807) :
    Calls Try.prog 24 #[.pointer (some ⟨p, 0, none⟩), .int .i64 k] w fun e w' => e = .returned (.tuple #[]) ∧ PDisk w' B p { D with armed := max k 0 } ∧ Kp B w w' := by
  obtain ⟨sv, wv, left, h⟩ := h
  obtain ⟨h0, h1, h2, h3⟩ := h.cell
  have f2 := h.free 2
  have H := Lib.hid h
  clear h
  go_enter Try.func24, Try.ntmps24
  go_wp2
  go_end0
  refine ⟨rfl, ⟨sv, wv, k, ⟨?_, H.out.base, struct_set H.out.here k, struct_row H.out.secs H.out.here (by decide) rfl _ _, struct_row H.out.wrs H.out.here (by decide) rfl _ _, hk, fun _ => rfl⟩⟩, struct_kp H.out.base H.out.here _ _⟩
  exact ⟨H.out.ok.1, H.out.ok.2.1, by simp only; omega, by simp only; omega⟩
theorem ret_i {k : IntKind} {a b : Int} (h : a = b) : Ending.returned (.int k a) = .returned (.int k b) := by rw [h]
/-- What is amiss with a sector. -/
def amiss (D : Dk) (n : Int) : Int := if D.dead = true then 40 else if n < 0 ∨ (D.firm.length : Int) ≤ n then 41 else 0
theorem amiss_any (B p : Nat) (D : Dk) (n : Int) (w : World) (h : PDisk w B p D) :
    Calls Try.prog 43 #[.pointer (some ⟨p, 0, none⟩), .int .i64 n] w fun e w' => e = .returned (.int .i64 (amiss D n)) ∧ w = w' := by
  obtain ⟨sv, wv, left, h⟩ := h
  obtain ⟨h0, h1, h2, h3⟩ := h.cell
  obtain ⟨A, c, rfl, -, -, -⟩ := own_form h.secs
  clear h
  obtain ⟨a, ha⟩ : ∃ a, a = amiss D n := ⟨_, rfl⟩
  rw [← ha]
  have HA : Hid (a = if D.dead = true then 40 else if n < 0 ∨ (D.firm.length : Int) ≤ n then 41 else 0) := Lib.hid ha
  clear ha
  cases hd : D.dead with
  | true =>
    rw [hd] at h3
    have HA2 := Lib.hid (HA.out.trans (by rw [if_pos hd]))
    clear hd
    go_enter Try.func43, Try.ntmps43
    go_wp2
    go_ret
    exact ⟨ret_i HA2.out.symm, rfl⟩
  | false =>
    rw [hd] at h3
    have HA2 : Hid (a = if n < 0 ∨ (D.firm.length : Int) ≤ n then 41 else 0) := Lib.hid (HA.out.trans (by rw [if_neg (by simp [hd])]))
    clear hd
    by_cases hn : n < 0
    · go_enter Try.func43, Try.ntmps43
      go_wp2
      go_ret
      exact ⟨ret_i (by rw [HA2.out, if_pos (.inl hn)]), rfl⟩
    by_cases hm : (D.firm.length : Int) ≤ n
    · go_enter Try.func43, Try.ntmps43
      go_wp2
      go_ret
      exact ⟨ret_i (by rw [HA2.out, if_pos (.inr hm)]), rfl⟩
    · go_enter Try.func43, Try.ntmps43
      go_wp2
      go_ret
      exact ⟨ret_i (by rw [HA2.out, if_neg (by omega)]), rfl⟩
/-- What spend leaves. -/
def SpendPost (w : World) (p : Nat) (sv wv : Value) (left : Int) (dd : Bool) (e : Ending) (w' : World) : Prop :=
  e = .returned (.int .i64 (if left = 1 then 40 else 0)) ∧ (∃ v j, w' = w.setCell ⟨p, j, none⟩ v ∨ w' = w) ∧ w'.heap[p]? = some (.cells #[sv, wv, .int .i64 (if 1 < left then left - 1 else left), .bool (if left = 1 then true else dd)] 84 (0, 0))
theorem spend_any (p : Nat) (sv wv : Value) (left : Int) (dd : Bool) (w : World) (h : w.heap[p]? = some (.cells #[sv, wv, .int .i64 left, .bool dd] 84 (0, 0))) (hl : left ≤ 9223372036854775807) :
    Calls Try.prog 44 #[.pointer (some ⟨p, 0, none⟩)] w (SpendPost w p sv wv left dd) := by
  have c2 : w.cell? ⟨p, 2, none⟩ = some (.int .i64 left) := cell_of h rfl
  have c3 : w.cell? ⟨p, 3, none⟩ = some (.bool dd) := cell_of h rfl
  have f2 := frozen_of_row w p 2 _ _ h
  have f3 := frozen_of_row w p 3 _ _ h
  have H := Lib.hid h
  clear h
  by_cases h1 : left = 1
  · subst h1
    go_enter Try.func44, Try.ntmps44
    go_wp2
    go_ret
    exact ⟨rfl, ⟨_, _, .inl rfl⟩, struct_dead H.out true⟩
  have h1' : (left == 1) = false := by simpa using h1
  have H1 := Lib.hid h1
  clear h1
  by_cases h2 : 1 < left
  · go_enter Try.func44, Try.ntmps44
    go_wp2
    go_ret
    refine ⟨ret_i (by rw [if_neg H1.out]), ⟨_, _, .inl rfl⟩, ?_⟩
    rw [if_pos h2, if_neg H1.out]
    exact struct_set H.out _
  · go_enter Try.func44, Try.ntmps44
    go_wp2
    go_ret
    refine ⟨ret_i (by rw [if_neg H1.out]), ⟨.bool true, 0, .inr rfl⟩, ?_⟩
    rw [if_neg (by omega), if_neg H1.out]
    exact H.out
end Go.Proofs.Ytdbpnfceabklkaa
