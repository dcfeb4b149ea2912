/-
  What bytes.Clone returns of a slice of bytes that is not nil: a row of the call's own with these bytes; what crate.sealed returns. Conditions: the slice has no more than 2^47 bytes; the table's cells hold what its initialiser lays.
-/
import Derived.Test.YtkellgofdfpjpaaDoorRPut
import Derived.Lib.LazyBuf
namespace Go.Proofs.YtkellgofdfpjpaaDoor
open Go.ChangeShapes Go.WideShapes Go.ChangeAt Go.RowKit Go.Proofs.Crc

theorem Reads.drewN {w : World} {ad : Option Addr} {len : Nat} {zs : List Int} (hR : Reads w ad len zs) (k : Nat) : Reads (w.drewN k) ad len zs := hR.kept (below_drewN (Below.refl _ _) k)
theorem Table.drewN {w : World} (hT : Table w) (k : Nat) : Table (w.drewN k) := hT.kept (below_drewN (Below.refl _ _) k)
theorem first_row {w w1 : World} {v1 : Value} {m : Nat} {zs : List Int} (h1 : w1.ownsRow w.heap.size 5 1 v1 (0 + m) ([] ++ zs.map (Value.int .u8))) (h2 : (w.alloc (.cells #[] 5)).grownBy w1 (Value.slice (some ⟨w.heap.size, 0, none⟩) 0 0).ownBlock) :
    w1.ownsRow w.heap.size 5 1 v1 m (zs.map (Value.int .u8)) ∧ Below w.heap.size w w1 := by
  rw [Nat.zero_add, List.nil_append] at h1
  exact ⟨h1, (box_below w _).grown h2 (by simp) (fun k hk => by simp [Value.ownBlock] at hk; omega)⟩
theorem clone_any (a : Addr) (m c : Nat) (zs : List Int) (w : World) (hR : Reads w (some a) m zs) (hm : m ≤ 140737488355328) :
    Calls Tryd.prog 20 #[.slice (some a) m c] w fun e w' => ∃ v, e = .returned v ∧ w'.ownsRow w.heap.size 5 1 v m (zs.map (Value.int .u8)) ∧ Below w.heap.size w w' := by
  obtain ⟨i0, hi, hz0, hz1, hz2⟩ := info_parts info5
  have HO : Hid ((w.alloc (.cells #[] 5)).ownsRow w.heap.size 5 1 (.slice (some ⟨w.heap.size, 0, none⟩) 0 0) 0 []) := Lib.hid (World.ownsRow_lit (base := w.heap.size) (e := 5) (size := 1) w #[] 0 (Nat.le_refl _) (by unfold maxLen; omega) rfl)
  have HR := Lib.hid (hR.kept (box_below w (.cells #[] 5)))
  have hsz : w.heap.size ≤ (w.alloc (.cells #[] 5)).heap.size := by simp
  have hn : (0 : Nat) ≤ 1048576 := by omega
  clear hR
  have q : ∀ w : World, (binOp .eql 22 (.slice (some a) m c) (.slice none 0 0)).run Tryd.prog w = .ok (.bool false) w := fun w => run_eql_slice_nil w 22 5 (some a) m c Tryd.underlying22
  go_enter Tryd.func20, Tryd.ntmps20
  go_wp2_with (at_builtin; refine wpList_append_wide rfl (.tmp 5) (.tmp 6) rfl w.heap.size i0 hi hz0 hz1 hz2 (.slice (some ⟨w.heap.size, 0, none⟩) 0 0) 0 [] rfl HO.out (some a) m c zs rfl HR.out hn hm hsz ?_; intro v1 w1 h5 h6; have HX := Lib.hid (first_row h5 h6); clear h5 h6)
  go_ret
  exact ⟨v1, rfl, HX.out⟩
theorem sealed_any (A B : Option Addr) (n m c d : Nat) (xs ys : List Int) (w : World) (hA : Reads w A n xs) (hB : Reads w B m ys) (hT : Table w) (hn : n ≤ 9223372036854775807) (hm4 : 4 ≤ m) (hm : m ≤ 9223372036854775807) :
    Calls Tryd.prog 18 #[.slice A n c, .slice B m d] w fun e w' => e = .returned (.bool (n4 ys == sm xs)) ∧ ∃ k, w' = w.drewN k := by
  have HA := Lib.hid hA
  have HB := Lib.hid hB
  have HT := Lib.hid hT
  clear hA hB hT
  go_enter Tryd.func18, Tryd.ntmps18
  go_wp2_with fail
  refine (number_any B m d ys w HB.out hm4 hm).mono ?_
  rintro e w1 ⟨rfl, k, rfl⟩
  go_wp2_with fail
  refine (sum_any A n c xs (w.drewN k) (HA.out.drewN k) (HT.out.drewN k) hn).mono ?_
  rintro e w2 ⟨rfl, rfl⟩
  go_wp2
  go_ret
  exact ⟨rfl, k, rfl⟩
end Go.Proofs.YtkellgofdfpjpaaDoor
