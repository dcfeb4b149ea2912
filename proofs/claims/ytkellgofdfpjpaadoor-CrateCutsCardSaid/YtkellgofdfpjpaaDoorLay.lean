/-
  What crate.lay returns of a row of the call's own and a number: the row with the number's four bytes behind it, the lowest first. Condition: the row has no more than 2^20 bytes.
-/
import Derived.Test.YtkellgofdfpjpaaDoorNum
namespace Go.Proofs.YtkellgofdfpjpaaDoor
open Go.ChangeShapes Go.WideShapes Go.ChangeAt Go.RowKit Go.Proofs.Crc

/-- A new block of bytes reads as they. -/
theorem reads_lit (w : World) (l : List Int) (C : Array Value) (hC : C = (l.map (Value.int .u8)).toArray) (t : TypeId) (fr : Nat × Nat) (hB : Bys l) : Reads (w.alloc (.cells C t fr)) (some ⟨w.heap.size, 0, none⟩) l.length l := by
  refine reads_mk rfl (fun _ => ⟨_, _, rfl, fun i hi => ?_⟩) hB
  have : (w.alloc (.cells C t fr)).heap[w.heap.size]? = some (.cells C t fr) := by
    show (w.heap.push (.cells C t fr))[w.heap.size]? = _
    simp
  subst hC
  simp only [World.cell?, this]
  rw [Nat.zero_add, List.getElem?_toArray, List.getElem?_map, List.getElem?_eq_getElem hi, List.getD_eq_getElem?_getD, List.getElem?_eq_getElem hi]
  rfl
theorem grown_alloc {w w' : World} {o : Obj} {row : Option Nat} (h : (w.alloc o).grownBy w' row) : w.grownBy w' row := (World.grownBy_alloc w o _).trans h
theorem lay_any (base len : Nat) (v : Value) (zs : List Int) (n : Int) (w : World) (hown : w.ownsRow base 5 1 v len (zs.map (Value.int .u8))) (h0 : 0 ≤ n) (h1 : n ≤ 4294967295) (hbase : base ≤ w.heap.size) (hm : len ≤ 1048576) :
    Calls Tryd.prog 14 #[v, .int .u32 n] w fun e w' => ∃ v', e = .returned v' ∧ w'.ownsRow base 5 1 v' (len + 4) ((zs ++ le4 n).map (Value.int .u8)) ∧ w.grownBy w' v.ownBlock := by
  obtain ⟨i0, hi, hz0, hz1, hz2⟩ := info_parts info5
  have HO : Hid ((w.alloc (.cells #[.int .u8 (n % 256), .int .u8 (n / 256 % 256), .int .u8 (n / 65536 % 256), .int .u8 (n / 16777216)] 5)).ownsRow base 5 1 v len (zs.map (Value.int .u8))) := Lib.hid (hown.alloc _)
  have HR : Hid (Reads (w.alloc (.cells #[.int .u8 (n % 256), .int .u8 (n / 256 % 256), .int .u8 (n / 65536 % 256), .int .u8 (n / 16777216)] 5)) (some ⟨w.heap.size, 0, none⟩) 4 (le4 n)) := Lib.hid (reads_lit w (le4 n) _ (by
    have e : n / 16777216 % 256 = n / 16777216 := by omega
    simp only [le4, e]; rfl) _ _ (le4_bys n))
  have hsz : base ≤ (w.alloc (.cells #[.int .u8 (n % 256), .int .u8 (n / 256 % 256), .int .u8 (n / 65536 % 256), .int .u8 (n / 16777216)] 5)).heap.size := by simp; omega
  have hm4 : (4 : Nat) ≤ 140737488355328 := by omega
  clear hown
  go_enter Tryd.func14, Tryd.ntmps14
  go_wp2_with (at_builtin; refine wpList_append_wide rfl (.tmp 5) (.tmp 17) rfl base i0 hi hz0 hz1 hz2 v len (zs.map (Value.int .u8)) rfl HO.out (some ⟨w.heap.size, 0, none⟩) 4 4 (le4 n) rfl HR.out hm hm4 hsz ?_; intro v1 w1 h2 h3; have HX := Lib.hid (And.intro h2 (grown_alloc h3)); clear h2 h3)
  go_ret
  exact ⟨v1, rfl, by rw [List.map_append]; exact HX.out.1, HX.out.2⟩
end Go.Proofs.YtkellgofdfpjpaaDoor
