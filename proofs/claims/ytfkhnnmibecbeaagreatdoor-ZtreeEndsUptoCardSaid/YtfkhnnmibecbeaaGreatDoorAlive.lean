/-
  What alive returns: true. No condition.
-/
import Derived.Test.YtfkhnnmibecbeaaGreatDoorAllP
import Derived.Test.YtfkhnnmibecbeaaGreatDoorEndP
namespace Go.Proofs.YtfkhnnmibecbeaaGreatDoor
set_option maxRecDepth 100000
open Go.ChangeShapes Go.WideShapes Go.ChangeAt Go.RowKit Go.Proofs.Zn Go.Proofs.Zt

def c1 : Chg := ⟨1, [47, 97], [], 0, false, false⟩
def c2 : Chg := ⟨1, [47, 97, 47, 110, 45], [], 0, true, true⟩
def t1 : Tr := (doL Zt.new 1 0 [c1]).T
def t2 : Tr := (doL t1 2 5 [c2]).T
theorem t1_e : (doL Zt.new 1 0 [c1]).e = 0 := by decide
theorem t2_e : (doL t1 2 5 [c2]).e = 0 ∧ (doL t1 2 5 [c2]).ps = [[47, 97, 47, 110, 45, 48, 48, 48, 48, 48, 48, 48, 48, 48, 48]] := by decide
theorem t3_e : (endL t2 3 5).2.length = 2 ∧ (endL t2 3 5).1.length = 2 := by decide
theorem t1_good : Zt.Good t1 := doL_good new_good 1 0 [c1]
theorem t2_good : Zt.Good t2 := doL_good t1_good 2 5 [c2]
theorem rd_one {w : World} {g : Nat} (c : Chg) (h : w.heap[g]? = some (.cells #[.int .i64 c.kind, .string (B c.path), .string (B c.data), .int .i64 c.ver, .bool c.eph, .bool c.sq] 59 (0, 0))) : Rd ccell 6 w (some ⟨g, 0, none⟩) 1 [c] :=
  Rd.of_own (base := 0) (own_new (n := 1) (sz := 6) h (Nat.zero_le _) (by unfold maxLen; omega) rfl) (fun _ _ => rfl) (by omega)
set_option maxHeartbeats 2000000 in
theorem alive_any (w : World) : Calls Tryz.prog 11 #[] w fun e w' => e = .returned (.bool true) ∧ Below w.heap.size w w' := by
  have HN := Lib.hid (new_any w)
  have H1 := Lib.hid t1_e
  have H2 := Lib.hid t2_e
  have H3 := Lib.hid t3_e
  go_enter Tryz.func11, Tryz.ntmps11
  go_wp2_with fail
  refine HN.out.mono ?_
  rintro e w1 ⟨tp, mb, rfl, ht1, hb1, hu1, -⟩
  have HT1 := Lib.hid ht1
  have HB1 := Lib.hid hb1
  have HU1 := Lib.hid hu1
  obtain ⟨w2, hw2⟩ : ∃ w2, w2 = w1.alloc (.cells #[.int .i64 1, .string ⟨#[47, 97]⟩, .string ⟨#[]⟩, .int .i64 0, .bool false, .bool false] 59) := ⟨_, rfl⟩
  have hb2 : Below w1.heap.size w1 w2 := by rw [hw2]; exact box_below w1 _
  have HD := Lib.hid (do_any (cp := 1) (ht1.below hb2) new_good 1 0 (l := [c1]) (rd_one (w := w2) (g := w1.heap.size) c1 (by rw [hw2]; exact new_block w1 _)) (by omega) (fun c hc => by rcases List.mem_singleton.1 hc with rfl; show (2 : Nat) ≤ _; omega))
  have HW2 := Lib.hid hw2
  have HB2 := Lib.hid (hb1.trans (hb2.mono hb1.size))
  clear ht1 hb1 hu1 hb2 hw2
  go_wp2_with fail
  rw [← HW2.out]
  refine HD.out.mono ?_
  rintro e w3 ⟨v1, v2, mb3, rfl, ht3, hg3, -, -⟩
  rw [H1.out]
  have HB3 := Lib.hid (HB2.out.trans (gb_to hg3 HU1.out HB2.out.size))
  have ht3 : TreeW w3 tp mb3 t1 := ht3
  obtain ⟨w4, hw4⟩ : ∃ w4, w4 = w3.alloc (.cells #[.int .i64 1, .string ⟨#[47, 97, 47, 110, 45]⟩, .string ⟨#[]⟩, .int .i64 0, .bool true, .bool true] 59) := ⟨_, rfl⟩
  have hb4 : Below w3.heap.size w3 w4 := by rw [hw4]; exact box_below w3 _
  have HD4 := Lib.hid (do_any (cp := 1) (ht3.below hb4) t1_good 2 5 (l := [c2]) (rd_one (w := w4) (g := w3.heap.size) c2 (by rw [hw4]; exact new_block w3 _)) (by omega) (fun c hc => by rcases List.mem_singleton.1 hc with rfl; show (5 : Nat) ≤ _; omega))
  have HW4 := Lib.hid hw4
  have HB4 := Lib.hid (HB3.out.trans (hb4.mono HB3.out.size))
  clear ht3 hg3 hb4 hw4
  go_wp2_with fail
  rw [← HW4.out]
  refine HD4.out.mono ?_
  rintro e w5 ⟨v3, v4, mb5, rfl, ht5, hg5, hr5, -⟩
  rw [H2.out.1]
  rw [H2.out.2] at hr5
  have HB5 := Lib.hid (HB4.out.trans (gb_to hg5 HU1.out HB4.out.size))
  have ht5 : TreeW w5 tp mb5 t2 := ht5
  have HT5 := Lib.hid ht5
  have HEN := Lib.hid (end_any ht5 t2_good 3 5)
  obtain ⟨A, cp, rfl, -, -, hA⟩ := own_form hr5
  obtain ⟨g, rfl⟩ := hA (by decide)
  have c0 := own_cell hr5 0 _ rfl
  have HS : Hid (([[47, 97, 47, 110, 45, 48, 48, 48, 48, 48, 48, 48, 48, 48, 48]] : List Txt).length = 1) := Lib.hid rfl
  rw [HS.out]
  clear hg5 hr5 ht5 hA
  go_wp2_with fail
  refine HEN.out.mono ?_
  rintro e w6 ⟨v6, mb6, rfl, ht6, hg6, hr6⟩
  rw [H3.out.1] at hr6
  obtain ⟨A6, cp6, rfl, -, -, -⟩ := own_form hr6
  have HB6 := Lib.hid (HB5.out.trans (gb_to hg6 HU1.out HB5.out.size))
  have HAL := Lib.hid (all_any ht6 (endL_good t2_good 3 5))
  rw [H3.out.2] at HAL
  clear ht6 hg6 hr6 c0
  go_wp2_with fail
  refine HAL.out.mono ?_
  rintro e w7 ⟨v7, rfl, hr7, hb7⟩
  obtain ⟨A7, cp7, rfl, -, -, -⟩ := own_form hr7
  have HB7 := Lib.hid (HB6.out.trans (hb7.mono HB6.out.size))
  clear hr7 hb7
  go_wp2_with fail
  go_ret
  exact ⟨rfl, HB7.out⟩
end Go.Proofs.YtfkhnnmibecbeaaGreatDoor
