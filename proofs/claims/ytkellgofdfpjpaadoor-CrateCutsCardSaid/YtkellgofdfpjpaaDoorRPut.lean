/-
  What the document's own Put returns of a slice of bytes that reads: the body's crate, or none and ErrCrateForm. No condition.
-/
import Derived.Test.YtkellgofdfpjpaaDoorFour
namespace Go.Proofs.YtkellgofdfpjpaaDoor
open Go.ChangeShapes Go.WideShapes Go.ChangeAt Go.RowKit Go.Proofs.Crc

theorem row_below {w w1 w2 : World} {v : Value} {n : Nat} {xs : List Value} (hb : Below w.heap.size w w1) (ho : w1.ownsRow w.heap.size 5 1 v n xs) (h2 : Below w1.heap.size w1 w2) : w2.ownsRow w.heap.size 5 1 v n xs ∧ Below w.heap.size w w2 :=
  ⟨own_below ho h2, hb.trans (h2.mono hb.size)⟩
theorem row_string {w w3 w4 : World} {v1 v4 : Value} {n m : Nat} {S : ByteArray} {xs l : List Int} (hb : Below w.heap.size w w3) (ho : w3.ownsRow w.heap.size 5 1 v1 n (xs.map (Value.int .u8))) (hS : Lib.strCells S = l.map (Value.int .u8)) (hm : S.size = m)
    (h5 : w4.ownsRow w.heap.size 5 1 v4 (n + S.size) (xs.map (Value.int .u8) ++ Lib.strCells S)) (h6 : w3.grownBy w4 v1.ownBlock) : w4.ownsRow w.heap.size 5 1 v4 (n + m) ((xs ++ l).map (Value.int .u8)) ∧ Below w.heap.size w w4 := by
  rw [hS, hm, ← List.map_append] at h5
  exact ⟨h5, row_on hb ho h6⟩
theorem row_bytes {w w3 w4 : World} {v1 v4 : Value} {n m : Nat} {xs l : List Int} (hb : Below w.heap.size w w3) (ho : w3.ownsRow w.heap.size 5 1 v1 n (xs.map (Value.int .u8)))
    (h5 : w4.ownsRow w.heap.size 5 1 v4 (n + m) (xs.map (Value.int .u8) ++ l.map (Value.int .u8))) (h6 : w3.grownBy w4 v1.ownBlock) : w4.ownsRow w.heap.size 5 1 v4 (n + m) ((xs ++ l).map (Value.int .u8)) ∧ Below w.heap.size w w4 := by
  rw [← List.map_append] at h5
  exact ⟨h5, row_on hb ho h6⟩
set_option maxHeartbeats 1000000 in
theorem rput_any (ad : Option Addr) (len cap : Nat) (zs : List Int) (w : World) (hR : Reads w ad len zs) (hm : len ≤ 9223372036854775807) :
    Calls Tryd.prog 9 #[.slice ad len cap] w (PutPost w zs) := by
  have HR := Lib.hid hR
  have HL := Lib.hid hR.1
  have HB := Lib.hid hR.bys
  clear hR
  by_cases hlong : 4096 < len
  · have h1 : (4096 : Int) < (len : Int) := by omega
    go_enter Tryd.func9, Tryd.ntmps9
    go_wp2
    go_ret2
    exact put_long (by rw [HL.out]; exact hlong) (Below.refl _ _)
  · have h1 : ¬ (4096 : Int) < (len : Int) := by omega
    have h2 : (len : Int) ≤ 4096 := by omega
    have h3 : (0 : Int) ≤ (len : Int) := by omega
    have h4 : (len : Int) ≤ 4294967295 := by omega
    obtain ⟨i0, hi, hz0, hz1, hz2⟩ := info_parts info5
    go_enter Tryd.func9, Tryd.ntmps9
    go_wp2_with fail
    refine (four_any (len : Int) w h3 h4).mono ?_
    rintro e w1 ⟨v1, rfl, ho1, hb1⟩
    have HB1 := Lib.hid hb1
    have HO1 := Lib.hid ho1
    clear ho1 hb1
    go_wp2_with fail
    refine (four_any (len : Int) w1 h3 h4).mono ?_
    rintro e w2 ⟨v2, rfl, ho2, hb2⟩
    have HX2 := Lib.hid (row_below HB1.out HO1.out hb2)
    obtain ⟨A2, c2, rfl, hr2, -, -⟩ := own_reads ho2 (le4_bys _)
    have HR2 := Lib.hid hr2
    clear ho2 hb2 hr2
    go_wp2_with fail
    refine (rsum_any2 A2 4 c2 (le4 (len : Int)) w2 HR2.out (by omega)).mono ?_
    rintro e w3 ⟨rfl, hb3⟩
    have HX3 := Lib.hid (row_below HX2.out.2 HX2.out.1 hb3)
    have HS : Hid (Lib.strCells (strOfNums (le4 (sm (le4 (len : Int))))) = (le4 (sm (le4 (len : Int)))).map (Value.int .u8)) := Lib.hid (by rw [strCells_sb, sb_str (le4_bys _)])
    obtain ⟨S, hS⟩ : ∃ S, S = strOfNums (le4 (sm (le4 (len : Int)))) := ⟨_, rfl⟩
    have HSz : Hid (S.size = 4) := Lib.hid (by rw [hS, str_size]; rfl)
    rw [← hS] at HS ⊢
    clear hb3 hS
    have h63 : 4 + S.size ≤ maxLen := by rw [HSz.out]; unfold maxLen; omega
    have h47 : 4 + S.size ≤ 140737488355328 := by rw [HSz.out]; omega
    have hsz3 := HX3.out.2.size
    have hl47 : len ≤ 140737488355328 := by omega
    have hn8 : 4 + 4 ≤ 1048576 := by omega
    go_wp2_with (first
      | (at_builtin; refine Lib.wpList_append_own_string _ rfl (.tmp 12) (.tmp 17) 22 9 rfl w.heap.size 5 i0 Tryd.underlying22 Tryd.underlying9 hi hz0 hz1 hz2 v1 4 ((le4 (len : Int)).map (Value.int .u8)) rfl HX3.out.1 S rfl h63 h47 hsz3 ?_; intro v4 w4 h5 h6 _; have HX4 := Lib.hid (row_string HX3.out.2 HX3.out.1 HS.out HSz.out h5 h6); have HR4 := Lib.hid (HR.out.kept HX4.out.2); have hsz4 := HX4.out.2.size; clear h5 h6)
      | (at_builtin; refine wpList_append_wide rfl (.tmp 19) (.tmp 20) rfl w.heap.size i0 hi hz0 hz1 hz2 v4 (4 + 4) ((le4 (len : Int) ++ le4 (sm (le4 (len : Int)))).map (Value.int .u8)) rfl HX4.out.1 ad len cap zs rfl HR4.out hn8 hl47 hsz4 ?_; intro v5 w5 h7 h8; have HX5 := Lib.hid (row_bytes HX4.out.2 HX4.out.1 h7 h8); clear h7 h8))
    refine (rsum_any2 ad len cap zs w5 (HR.out.kept HX5.out.2) hm).mono ?_
    rintro e w6 ⟨rfl, hb6⟩
    have HX6 := Lib.hid (row_below HX5.out.2 HX5.out.1 hb6)
    have HT : Hid (Lib.strCells (strOfNums (le4 (sm zs))) = (le4 (sm zs)).map (Value.int .u8)) := Lib.hid (by rw [strCells_sb, sb_str (le4_bys _)])
    obtain ⟨T, hT⟩ : ∃ T, T = strOfNums (le4 (sm zs)) := ⟨_, rfl⟩
    have HTz : Hid (T.size = 4) := Lib.hid (by rw [hT, str_size]; rfl)
    rw [← hT] at HT ⊢
    clear hb6 hT
    have g63 : 4 + 4 + len + T.size ≤ maxLen := by rw [HTz.out]; unfold maxLen; omega
    have g47 : 4 + 4 + len + T.size ≤ 140737488355328 := by rw [HTz.out]; omega
    have hsz6 := HX6.out.2.size
    go_wp2_with (at_builtin; refine Lib.wpList_append_own_string _ rfl (.tmp 22) (.tmp 24) 22 9 rfl w.heap.size 5 i0 Tryd.underlying22 Tryd.underlying9 hi hz0 hz1 hz2 v5 (4 + 4 + len) ((le4 (len : Int) ++ le4 (sm (le4 (len : Int))) ++ zs).map (Value.int .u8)) rfl HX6.out.1 T rfl g63 g47 hsz6 ?_; intro v7 w7 h5 h6 _; have HX7 := Lib.hid (row_string HX6.out.2 HX6.out.1 HT.out HTz.out h5 h6); clear h5 h6)
    go_ret2
    refine put_good (by rw [HL.out]; omega) HB.out (n := 4 + 4 + len + 4) ?_ HX7.out.2
    have e : crt zs = le4 (len : Int) ++ le4 (sm (le4 (len : Int))) ++ zs ++ le4 (sm zs) := by
      unfold crt; rw [HL.out]; simp only [List.append_assoc]
    rw [e]
    exact HX7.out.1
end Go.Proofs.YtkellgofdfpjpaaDoor
