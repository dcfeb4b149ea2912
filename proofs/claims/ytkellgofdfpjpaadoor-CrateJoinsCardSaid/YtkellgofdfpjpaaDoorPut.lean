/-
  What crate.Put returns of a slice of bytes that reads: the body's crate, or none and ErrCrateForm. Condition: the table's cells hold what its initialiser lays.
-/
import Derived.Test.YtkellgofdfpjpaaDoorLay
namespace Go.Proofs.YtkellgofdfpjpaaDoor
open Go.ChangeShapes Go.WideShapes Go.ChangeAt Go.RowKit Go.Proofs.Crc

/-- What Put leaves, the program's and the document's. -/
def PutPost (w : World) (zs : List Int) (e : Ending) (w' : World) : Prop :=
  ∃ (A : Option Addr) (n c : Nat), e = .returned (.tuple #[.slice A n c, .int .i64 (putE zs)]) ∧ Reads w' A n (putB zs) ∧ n ≤ c ∧ c ≤ maxLen ∧ Below w.heap.size w w'
theorem put_long {w w' : World} {zs : List Int} (h : 4096 < zs.length) (hb : Below w.heap.size w w') : PutPost w zs (.returned (.tuple #[.slice none 0 0, .int .i64 31])) w' := by
  have e1 : putE zs = 31 := by unfold putE; rw [if_neg (by omega)]
  have e2 : putB zs = [] := by unfold putB; rw [if_neg (by omega)]
  refine ⟨none, 0, 0, by rw [e1], ?_, by omega, by unfold maxLen; omega, hb⟩
  rw [e2]; exact reads_none w'
theorem put_good {w w' : World} {zs : List Int} {v : Value} {n : Nat} (h : zs.length ≤ 4096) (hB : Bys zs) (ho : w'.ownsRow w.heap.size 5 1 v n ((crt zs).map (Value.int .u8))) (hb : Below w.heap.size w w') : PutPost w zs (.returned (.tuple #[v, .int .i64 0])) w' := by
  have e1 : putE zs = 0 := by unfold putE; rw [if_pos h]
  have e2 : putB zs = crt zs := by unfold putB; rw [if_pos h]
  obtain ⟨A, c, rfl, h1, h2, h3⟩ := own_reads ho (crt_bys hB)
  exact ⟨A, n, c, by rw [e1], by rw [e2]; exact h1, h2, h3, hb⟩
theorem sum_own {w : World} {base n : Nat} {v : Value} {zs : List Int} (h : w.ownsRow base 5 1 v n (zs.map (Value.int .u8))) (hB : Bys zs) (hT : Table w) :
    Calls Tryd.prog 15 #[v] w fun e w' => e = .returned (.int .u32 (sm zs)) ∧ w = w' := by
  obtain ⟨A, c, rfl, h1, h2, h3⟩ := own_reads h hB
  exact sum_any A n c zs w h1 hT (by unfold maxLen at h3; omega)
theorem row_on {w w1 w2 : World} {v1 : Value} {n : Nat} {xs : List Value} (hb : Below w.heap.size w w1) (ho : w1.ownsRow w.heap.size 5 1 v1 n xs) (hg : w1.grownBy w2 v1.ownBlock) : Below w.heap.size w w2 := hb.grown hg hb.size (own_ge ho)
set_option maxHeartbeats 400000 in
theorem put_any (ad : Option Addr) (len cap : Nat) (zs : List Int) (w : World) (hR : Reads w ad len zs) (hT : Table w) :
    Calls Tryd.prog 8 #[.slice ad len cap] w (PutPost w zs) := by
  have HR := Lib.hid hR
  have HL := Lib.hid hR.1
  have HB := Lib.hid hR.bys
  have HT := Lib.hid hT
  clear hR hT
  by_cases hlong : 4096 < len
  · have h1 : (4096 : Int) < (len : Int) := by omega
    go_enter Tryd.func8, Tryd.ntmps8
    go_wp2
    go_ret2
    exact put_long (by rw [HL.out]; exact hlong) (Below.refl _ _)
  · have h1 : ¬ (4096 : Int) < (len : Int) := by omega
    have h2 : (len : Int) ≤ 4096 := by omega
    have h3 : (0 : Int) ≤ (len : Int) := by omega
    have h4 : (len : Int) ≤ 4294967295 := by omega
    obtain ⟨i0, hi, hz0, hz1, hz2⟩ := info_parts info5
    have HO0 : Hid (w.ownsRow w.heap.size 5 1 (.slice none 0 0) 0 (([] : List Int).map (Value.int .u8))) := Lib.hid (World.ownsRow_nil _ _ _ _)
    go_enter Tryd.func8, Tryd.ntmps8
    go_wp2_with fail
    refine (lay_any w.heap.size 0 (.slice none 0 0) [] (len : Int) w HO0.out h3 h4 (Nat.le_refl _) (by omega)).mono ?_
    rintro e w1 ⟨v1, rfl, ho1, hg1⟩
    have HB1 := Lib.hid (row_on (Below.refl _ _) HO0.out hg1)
    have HO1 := Lib.hid ho1
    clear ho1 hg1
    go_wp2_with fail
    refine (sum_own HO1.out (le4_bys _) (HT.out.kept HB1.out)).mono ?_
    rintro e w1' ⟨rfl, rfl⟩
    go_wp2_with fail
    refine (lay_any w.heap.size 4 v1 (le4 (len : Int)) (sm (le4 (len : Int))) w1 HO1.out (sm_lo _) (sm_hi _) HB1.out.size (by omega)).mono ?_
    rintro e w2 ⟨v2, rfl, ho2, hg2⟩
    have HB2 := Lib.hid (row_on HB1.out HO1.out hg2)
    have HO2 := Lib.hid ho2
    have HR2 := Lib.hid (HR.out.kept HB2.out)
    have hsz2 := HB2.out.size
    have hl47 : len ≤ 140737488355328 := by omega
    clear ho2 hg2
    go_wp2_with (at_builtin; refine wpList_append_wide rfl (.tmp 16) (.tmp 17) rfl w.heap.size i0 hi hz0 hz1 hz2 v2 8 ((le4 (len : Int) ++ le4 (sm (le4 (len : Int)))).map (Value.int .u8)) rfl HO2.out ad len cap zs rfl HR2.out (by omega) hl47 hsz2 ?_; intro v3 w3 h5 h6; have HB3 := Lib.hid (row_on HB2.out HO2.out h6); have HO3 := Lib.hid h5; clear h5 h6)
    refine (sum_any ad len cap zs w3 (HR.out.kept HB3.out) (HT.out.kept HB3.out) (by omega)).mono ?_
    rintro e w3' ⟨rfl, rfl⟩
    have HO3' : Hid (w3.ownsRow w.heap.size 5 1 v3 (8 + len) ((le4 (len : Int) ++ le4 (sm (le4 (len : Int))) ++ zs).map (Value.int .u8))) := Lib.hid (by rw [List.map_append]; exact HO3.out)
    go_wp2_with fail
    refine (lay_any w.heap.size (8 + len) v3 _ (sm zs) w3 HO3'.out (sm_lo _) (sm_hi _) HB3.out.size (by omega)).mono ?_
    rintro e w4 ⟨v4, rfl, ho4, hg4⟩
    have HB4 := Lib.hid (row_on HB3.out HO3.out hg4)
    have HO4 : Hid (w4.ownsRow w.heap.size 5 1 v4 (8 + len + 4) ((crt zs).map (Value.int .u8))) := Lib.hid (by
      have e : crt zs = le4 (len : Int) ++ le4 (sm (le4 (len : Int))) ++ zs ++ le4 (sm zs) := by
        unfold crt; rw [HL.out]; simp only [List.append_assoc]
      rw [e]; exact ho4)
    clear ho4 hg4
    go_wp2
    go_ret2
    exact put_good (by rw [HL.out]; omega) HB.out HO4.out HB4.out
end Go.Proofs.YtkellgofdfpjpaaDoor
