/-
  What the document's own functions for a number's four bytes, and for the sum of bytes as it stands in a crate, return. No condition.
-/
import Derived.Test.YtkellgofdfpjpaaDoorPut
namespace Go.Proofs.YtkellgofdfpjpaaDoor
open Go.ChangeShapes Go.WideShapes Go.ChangeAt Go.RowKit Go.Proofs.Crc

def dv : Nat → Int → Int
  | 0, x => x
  | k + 1, x => dv k x / 256
theorem le4_next (x : Int) (k : Nat) (hk : k < 4) : (le4 x).take (k + 1) = (le4 x).take k ++ [dv k x % 256] := by
  have e2 : x / 256 / 256 = x / 65536 := by omega
  have e3 : x / 65536 / 256 = x / 16777216 := by omega
  match k, hk with
  | 0, _ => rfl
  | 1, _ => rfl
  | 2, _ => simp [le4, dv, e2]
  | 3, _ => simp [le4, dv, e2, e3]
theorem dv_lo {x : Int} (h : 0 ≤ x) (k : Nat) : 0 ≤ dv k x := by
  induction k with
  | zero => exact h
  | succ k ih => simp only [dv]; omega
theorem dv_hi {x : Int} (h0 : 0 ≤ x) (h : x ≤ 4294967295) (k : Nat) : dv k x ≤ 4294967295 := by
  induction k with
  | zero => exact h
  | succ k ih => have := dv_lo h0 k; simp only [dv]; omega
/-- What the loop keeps. -/
def FourRel (w : World) (x : Int) (n v i : Value) (wr : World) : Prop :=
  ∃ (k : Nat) (y : Int), k ≤ 4 ∧ i = .int .i64 k ∧ n = .int .u32 y ∧ y = dv k x ∧ 0 ≤ y ∧ y ≤ 4294967295 ∧ wr.ownsRow w.heap.size 5 1 v k (((le4 x).take k).map (Value.int .u8)) ∧ Below w.heap.size w wr
theorem four_round {w wr w1 : World} {x y : Int} {k : Nat} {v v1 : Value} {o : Obj} (hx0 : 0 ≤ x) (hx1 : x ≤ 4294967295) (hk : k < 4) (hy : y = dv k x) (ho : wr.ownsRow w.heap.size 5 1 v k (((le4 x).take k).map (Value.int .u8))) (hb : Below w.heap.size w wr)
    (h1 : w1.ownsRow w.heap.size 5 1 v1 (k + 1) (((le4 x).take k).map (Value.int .u8) ++ ([y % 256]).map (Value.int .u8))) (h2 : (wr.alloc o).grownBy w1 v.ownBlock) : FourRel w x (.int .u32 (y / 256)) v1 (.int .i64 ((k : Int) + 1)) w1 := by
  refine ⟨k + 1, y / 256, by omega, by go_num, rfl, by rw [hy]; rfl, ?_, ?_, ?_, row_on hb ho (grown_alloc h2)⟩
  · have := dv_lo hx0 k; omega
  · have := dv_lo hx0 k; have := dv_hi hx0 hx1 k; omega
  · rw [le4_next x k hk, List.map_append, ← hy]; exact h1
theorem four_any (x : Int) (w : World) (h0 : 0 ≤ x) (h1 : x ≤ 4294967295) :
    Calls Tryd.prog 16 #[.int .u32 x] w fun e w' => ∃ v, e = .returned v ∧ w'.ownsRow w.heap.size 5 1 v 4 ((le4 x).map (Value.int .u8)) ∧ Below w.heap.size w w' := by
  obtain ⟨i0, hi, hz0, hz1, hz2⟩ := info_parts info5
  go_enter Tryd.func16, Tryd.ntmps16
  go_wp2
  go_loopw [0, 3, 4] (fun n v i wr => FourRel w x n v i wr) (fun _ _ i _ => 4 - (intOf i).toNat)
  case atStart => exact ⟨0, x, by omega, rfl, rfl, rfl, h0, h1, World.ownsRow_nil _ _ _ _, Below.refl _ _⟩
  case round =>
    obtain ⟨k, y, hk, rfl, rfl, hy, hy0, hy1, hown, hb⟩ := hrel
    have HY := Lib.hid hy
    have HO := Lib.hid hown
    have HB := Lib.hid hb
    clear hy hown hb
    by_cases hlt : k < 4
    · have HO1 : Hid ((wr.alloc (.cells #[.int .u8 (y % 256)] 5)).ownsRow w.heap.size 5 1 u3 k (((le4 x).take k).map (Value.int .u8))) := Lib.hid (HO.out.alloc _)
      have HN : Hid (Reads (wr.alloc (.cells #[.int .u8 (y % 256)] 5)) (some ⟨wr.heap.size, 0, none⟩) 1 [y % 256]) := Lib.hid (reads_lit wr [y % 256] _ rfl _ _ (fun z hz => by simp only [List.mem_cons, List.not_mem_nil, or_false] at hz; subst hz; omega))
      have hsz : w.heap.size ≤ (wr.alloc (.cells #[.int .u8 (y % 256)] 5)).heap.size := by have := HB.out.size; simp; omega
      have hk20 : k ≤ 1048576 := by omega
      have h147 : (1 : Nat) ≤ 140737488355328 := by omega
      go_wp2_with (at_builtin; refine wpList_append_wide rfl (.tmp 9) (.tmp 13) rfl w.heap.size i0 hi hz0 hz1 hz2 u3 k (((le4 x).take k).map (Value.int .u8)) rfl HO1.out (some ⟨wr.heap.size, 0, none⟩) 1 1 [y % 256] rfl HN.out hk20 h147 hsz ?_; intro v1 w1 h5 h6; have HX := Lib.hid (four_round h0 h1 hlt HY.out HO.out HB.out h5 h6); clear h5 h6)
      go_roundw
      case rel => exact HX.out
      case measure => simp [intOf]; omega
    · obtain rfl : k = 4 := by omega
      go_wp2
      go_ret
      exact ⟨u3, rfl, HO.out, HB.out⟩
theorem rsum_any2 (ad : Option Addr) (len cap : Nat) (zs : List Int) (w : World) (hR : Reads w ad len zs) (hm : len ≤ 9223372036854775807) :
    Calls Tryd.prog 17 #[.slice ad len cap] w fun e w' => e = .returned (.string (strOfNums (le4 (sm zs)))) ∧ Below w.heap.size w w' := by
  have HR := Lib.hid hR
  clear hR
  go_enter Tryd.func17, Tryd.ntmps17
  go_wp2_with fail
  refine (rsum_any ad len cap zs w HR.out hm).mono ?_
  rintro e w1 ⟨rfl, rfl⟩
  go_wp2_with fail
  refine (four_any (sm zs) w (sm_lo _) (sm_hi _)).mono ?_
  rintro e w1 ⟨v, rfl, ho, hb⟩
  obtain ⟨A, c, rfl, h1, -, -⟩ := own_reads ho (le4_bys _)
  have hcv := conv_reads (c := c) h1
  have HB := Lib.hid hb
  obtain ⟨S, hS⟩ : ∃ S, S = strOfNums (le4 (sm zs)) := ⟨_, rfl⟩
  rw [← hS] at hcv
  have HS := Lib.hid hS
  clear ho h1 hb hS
  go_wp2
  go_ret
  exact ⟨by rw [HS.out]; rfl, HB.out⟩
end Go.Proofs.YtkellgofdfpjpaaDoor
