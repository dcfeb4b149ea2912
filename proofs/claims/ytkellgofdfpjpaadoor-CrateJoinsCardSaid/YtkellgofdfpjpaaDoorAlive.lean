/-
  What the laws' own test of life returns: true. Condition: the table's cells hold what its initialiser lays.
-/
import Derived.Test.YtkellgofdfpjpaaDoorRGet
import Derived.Lib.SlBytesConst
namespace Go.Proofs.YtkellgofdfpjpaaDoor
open Go.ChangeShapes Go.WideShapes Go.ChangeAt Go.RowKit Go.Proofs.Crc

theorem bys_ab : Bys [97, 98] := fun z h => by
  simp only [List.mem_cons, List.not_mem_nil, or_false] at h
  omega
theorem life_put (w : World) (C : Array Value) (hC : C = #[.int .u8 97, .int .u8 98]) (fr : Nat × Nat) (hT : Table w) :
    Calls Tryd.prog 8 #[.slice (some ⟨w.heap.size, 0, none⟩) 2 2] (w.alloc (.cells C 5 fr)) fun e w' => ∃ (A : Option Addr) (c : Nat), e = .returned (.tuple #[.slice A 14 c, .int .i64 0]) ∧ Reads w' A 14 (crt [97, 98]) ∧ Below w.heap.size w w' := by
  refine (put_any (some ⟨w.heap.size, 0, none⟩) 2 2 [97, 98] (w.alloc (.cells C 5 fr)) (reads_lit w [97, 98] C hC 5 fr bys_ab) (hT.kept (box_below w _))).mono ?_
  rintro e w' ⟨A, n, c, rfl, h1, -, -, h2⟩
  have e1 : putE [97, 98] = 0 := rfl
  have e2 : putB [97, 98] = crt [97, 98] := rfl
  rw [e1]
  rw [e2] at h1
  obtain rfl : n = 14 := by rw [← h1.1, crt_length]; rfl
  exact ⟨A, c, rfl, h1, (box_below w _).trans (h2.mono (by simp))⟩
theorem second_row {w w1 w2 : World} {v1 v2 : Value} {n m : Nat} {zs ys : List Int} {o : Obj} (h1 : w1.ownsRow w.heap.size 5 1 v1 n (zs.map (Value.int .u8))) (hb : Below w.heap.size w w1) (h2 : w2.ownsRow w.heap.size 5 1 v2 (n + m) (zs.map (Value.int .u8) ++ ys.map (Value.int .u8))) (hg : (w1.alloc o).grownBy w2 v1.ownBlock) :
    w2.ownsRow w.heap.size 5 1 v2 (n + m) ((zs ++ ys).map (Value.int .u8)) ∧ Below w.heap.size w w2 := by
  rw [← List.map_append] at h2
  exact ⟨h2, row_on hb h1 (grown_alloc hg)⟩
/-- Get of a row of the call's own. -/
theorem get_own {w : World} {base n m : Nat} {v : Value} {zs : List Int} (h : w.ownsRow base 5 1 v n (zs.map (Value.int .u8))) (hB : Bys zs) (hT : Table w) (hg : gt zs = .good m) :
    Calls Tryd.prog 11 #[v] w fun e w' => ∃ (A : Option Addr) (c : Nat), e = .returned (.tuple #[.slice A m c, .int .i64 ((m : Int) + 12), .int .i64 0]) ∧ Reads w' A m (bod zs m) ∧ Below w.heap.size w w' := by
  obtain ⟨A, c, rfl, h1, h2, h3⟩ := own_reads h hB
  unfold maxLen at h3
  refine (get_any A n c zs w h1 hT h2 (by omega)).mono ?_
  rintro e w' ⟨-, hgood⟩
  obtain ⟨v, rfl, ho, hb⟩ := hgood m hg
  obtain ⟨A', c', rfl, h4, -, -⟩ := own_reads ho (bod_bys m hB)
  exact ⟨A', c', rfl, h4, hb⟩
set_option maxHeartbeats 1000000 in
theorem alive_any (w : World) (hT : Table w) : Calls Tryd.prog 10 #[] w fun e w' => e = .returned (.bool true) ∧ Below w.heap.size w w' := by
  have kc := fun (w : World) (C : Array Value) (n c : Nat) => Lib.run_convert_bytes_const (P := Tryd.prog) w 22 5 C n c Tryd.underlying22 Tryd.underlying5
  obtain ⟨i0, hi, hz0, hz1, hz2⟩ := info_parts info5
  have HT := Lib.hid hT
  clear hT
  go_enter Tryd.func10, Tryd.ntmps10
  go_wp2_with fail
  refine (life_put w _ rfl _ HT.out).mono ?_
  rintro e w1 ⟨A, c, rfl, h1, hb1⟩
  have HB1 := Lib.hid hb1
  have H1 := Lib.hid h1
  have HO : Hid ((w1.alloc (.cells #[] 5)).ownsRow w1.heap.size 5 1 (.slice (some ⟨w1.heap.size, 0, none⟩) 0 0) 0 []) := Lib.hid (World.ownsRow_lit (base := w1.heap.size) (e := 5) (size := 1) w1 #[] 0 (Nat.le_refl _) (by unfold maxLen; omega) rfl)
  have HR := Lib.hid (h1.kept (box_below w1 (.cells #[] 5)))
  have hsz : w1.heap.size ≤ (w1.alloc (.cells #[] 5)).heap.size := by simp
  have hn : (0 : Nat) ≤ 1048576 := by omega
  have hn14 : (14 : Nat) ≤ 1048576 := by omega
  have h14 : (14 : Nat) ≤ 140737488355328 := by omega
  have h147 : (1 : Nat) ≤ 140737488355328 := by omega
  clear h1 hb1
  go_wp2_with (first
    | (at_builtin; refine wpList_append_wide rfl (.tmp 13) (.tmp 14) rfl w1.heap.size i0 hi hz0 hz1 hz2 (.slice (some ⟨w1.heap.size, 0, none⟩) 0 0) 0 [] rfl HO.out A 14 c (crt [97, 98]) rfl HR.out hn h14 hsz ?_; intro v2 w2 h5 h6; have HX := Lib.hid (first_row h5 h6); clear h5 h6; have HO2 : Hid ((w2.alloc (.cells #[.int .u8 9] 5)).ownsRow w1.heap.size 5 1 v2 14 ((crt [97, 98]).map (Value.int .u8))) := Lib.hid (HX.out.1.alloc _); have HN2 : Hid (Reads (w2.alloc (.cells #[.int .u8 9] 5)) (some ⟨w2.heap.size, 0, none⟩) 1 [9]) := Lib.hid (reads_lit w2 [9] _ rfl _ _ (fun z hz => by simp only [List.mem_cons, List.not_mem_nil, or_false] at hz; subst hz; omega)); have hsz2 : w1.heap.size ≤ (w2.alloc (.cells #[.int .u8 9] 5)).heap.size := by (have := HX.out.2.size; simp; omega))
    | (at_builtin; refine wpList_append_wide rfl (.tmp 15) (.tmp 16) rfl w1.heap.size i0 hi hz0 hz1 hz2 v2 14 ((crt [97, 98]).map (Value.int .u8)) rfl HO2.out (some ⟨w2.heap.size, 0, none⟩) 1 1 [9] rfl HN2.out hn14 h147 hsz2 ?_; intro v3 w3 h7 h8; have HY := Lib.hid (second_row HX.out.1 HX.out.2 h7 h8); clear h7 h8))
  have hB9 : Bys (crt [97, 98] ++ [9]) := bys_append (crt_bys bys_ab) (fun z hz => by simp only [List.mem_cons, List.not_mem_nil, or_false] at hz; subst hz; omega)
  have hg := gt_crt_more bys_ab (by decide) [9]
  have HB3 := Lib.hid (HB1.out.trans (HY.out.2.mono HB1.out.size))
  refine (get_own HY.out.1 hB9 (HT.out.kept HB3.out) hg.1).mono ?_
  rintro e w4 ⟨A4, c4, rfl, h4, hb4⟩
  rw [hg.2.1] at h4
  have el : ([97, 98] : List Int).length = 2 := rfl
  rw [el] at h4 ⊢
  have hcv := conv_reads (c := c4) h4
  have es : strOfNums [97, 98] = ⟨#[97, 98]⟩ := rfl
  rw [es] at hcv
  have HB4 := Lib.hid (HB3.out.trans (hb4.mono HB3.out.size))
  clear h4 hb4 hg hB9 el es
  go_wp2
  go_ret
  exact ⟨rfl, HB4.out⟩
end Go.Proofs.YtkellgofdfpjpaaDoor
