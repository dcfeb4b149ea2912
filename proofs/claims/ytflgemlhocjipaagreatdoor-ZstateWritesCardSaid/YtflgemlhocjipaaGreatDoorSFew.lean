/-
  What alive and few answer. Condition: memory holds the script.
  Scripts in memory; what few returns. Condition: memory holds the script.
-/
import Derived.Test.YtflgemlhocjipaaGreatDoorSApp
namespace Go.Proofs.YtflgemlhocjipaaGreatDoor
set_option maxRecDepth 100000
open Go.ChangeShapes Go.WideShapes Go.ChangeAt Go.RowKit Go.Proofs.Zn Go.Proofs.Zt
open Go.Proofs.Zs (St Lst Rep Tx)

def cA : Chg := ⟨1, [47, 97], [], 0, false, false⟩
def tA : Tx := ⟨1, 0, 0, 10, 0, []⟩
def tB : Tx := ⟨4, 1, 1, 0, 0, [cA]⟩
def sA : St := (Zs.app Zs.new 1 tA).1
def sB : St := (Zs.app sA 2 tB).1
theorem sA_r : (Zs.app Zs.new 1 tA).2.1.c = 0 ∧ (Zs.app Zs.new 1 tA).2.1.s = 1 ∧ (Zs.app Zs.new 1 tA).2.1.ps.length = 0 := by decide
theorem sB_r : (Zs.app sA 2 tB).2.1.c = 0 ∧ (Zs.app sA 2 tB).2.1.ps.length = 1 ∧ (Zs.app sA 2 tB).2.2.length = 2 ∧ sB.z = 2 := by decide
theorem sA_gd : Zs.Gd sA := Zs.app_gd Zs.new_gd _ _
set_option maxHeartbeats 2000000 in
theorem alive_any (w : World) : Calls Tryz.prog 12 #[] w fun e w' => e = .returned (.bool true) ∧ Below w.heap.size w w' := by
  have HN := Lib.hid (snew_any w)
  go_enter Tryz.func12, Tryz.ntmps12
  go_wp2_with fail
  refine HN.out.mono ?_
  rintro e w1 ⟨sp, rfl, hst, hb1⟩
  have HA := Lib.hid (sapply_any (At := none) (nt := 0) (ct := 0) hst Zs.new_gd 1 tA (Rd.nil _ _ _ _) (fun h => absurd h (by omega)) (fun c hc => (by cases hc)))
  have HB1 := Lib.hid hb1
  clear hst hb1
  go_upto_region 4 with fail
  go_wp2_with fail
  refine HA.out.mono ?_
  rintro e w2 ⟨vp, ve, rfl, hst2, hsk2, ho1, ho2⟩
  obtain ⟨a1, a2, a3⟩ := sA_r
  obtain ⟨Ap, cp, rfl, -, -, -⟩ := own_form ho1
  rw [a1, a2, a3]
  have HB2 : Hid (Below w.heap.size w w2) := Lib.hid (HB1.out.trans (hsk2.below HB1.out.size))
  obtain ⟨w3, hw3⟩ : ∃ xx, xx = w2.alloc (.cells #[.int .i64 0, .int .i64 1, .slice Ap 0 cp] 42) := ⟨_, rfl⟩
  obtain ⟨ra, era⟩ : ∃ xx, xx = w2.heap.size := ⟨_, rfl⟩
  have hbw3 : Below w2.heap.size w2 w3 := by rw [hw3]; exact box_below w2 _
  have hkra : w3.heap[ra]? = some (.cells #[.int .i64 0, .int .i64 1, .slice Ap 0 cp] 42 (0, 0)) := by rw [hw3, era]; exact new_block w2 _
  obtain ⟨w4, hw4⟩ : ∃ xx, xx = w3.alloc (.cells #[.int .i64 1, .string ⟨#[47, 97]⟩, .string ⟨#[]⟩, .int .i64 0, .bool false, .bool false] 79) := ⟨_, rfl⟩
  obtain ⟨cb, ecb⟩ : ∃ xx, xx = w3.heap.size := ⟨_, rfl⟩
  have hbw4 : Below w3.heap.size w3 w4 := by rw [hw4]; exact box_below w3 _
  have hkcb : w4.heap[cb]? = some (.cells #[.int .i64 1, .string ⟨#[47, 97]⟩, .string ⟨#[]⟩, .int .i64 0, .bool false, .bool false] 79 (0, 0)) := by rw [hw4, ecb]; exact new_block w3 _
  have hb24 : Below w2.heap.size w2 w4 := hbw3.trans (hbw4.mono hbw3.size)
  have hst4 := hst2.below hb24
  have hrd : Rd ccell 6 w4 (some ⟨cb, 0, none⟩) 1 [cA] := ⟨rfl, fun _ => ⟨cb, 0, rfl, fun i hi j v hv => by
    obtain rfl : i = 0 := by simp at hi; omega
    rw [cell_of_row w4 cb _ _ _ _ hkcb]
    rw [show 0 + 0 * 6 + j = j by omega]
    match j, hv with
    | 0, hv => simpa [ccell, cA] using hv
    | 1, hv => simpa [ccell, cA] using hv
    | 2, hv => simpa [ccell, cA] using hv
    | 3, hv => simpa [ccell, cA] using hv
    | 4, hv => simpa [ccell, cA] using hv
    | 5, hv => simpa [ccell, cA] using hv
    | (m + 6), hv => simp [ccell] at hv⟩⟩
  have htg : Tg w4 w.heap.size (some ⟨cb, 0, none⟩) 1 := fun _ a e => by
    injection e with e
    subst e
    exact .inr ⟨_, _, _, hkcb, by decide⟩
  have hab := (sapply_any (S := sA) (ct := 1) hst4 sA_gd 2 tB hrd htg (fun c hc => by
    rw [List.mem_singleton.1 hc]; unfold ChOk cA; decide))
  obtain ⟨g1, g2, g3, g4⟩ := sB_r
  unfold sB at g4
  obtain ⟨R, hR⟩ : ∃ R, Zs.app sA 2 tB = R := ⟨_, rfl⟩
  rw [hR] at hab g1 g2 g3 g4
  have HAB := Lib.hid hab
  have HG := Lib.hid (And.intro g1 (And.intro g2 (And.intro g3 g4)))
  have HB4 : Hid (Below w.heap.size w w4) := Lib.hid (HB2.out.trans (hb24.mono HB2.out.size))
  have HK4 := Lib.hid (blk_below hkra hbw4)
  have HW3 := Lib.hid hw3
  have HW4 := Lib.hid hw4
  have ERA := Lib.hid era
  have ECB := Lib.hid ecb
  clear hab g1 g2 g3 g4 hR a1 a2 a3 hst2 hsk2 ho1 ho2 hw3 hw4 era ecb hbw3 hbw4 hkra hkcb hb24 hst4 hrd htg
  go_upto_region 5 with fail
  rw [← HW3.out, ← ERA.out]
  go_wp2_with (rw [← HW4.out, ← ECB.out])
  refine HAB.out.mono ?_
  rintro e w5 ⟨vp2, ve2, rfl, hst5, hsk5, ho3, ho4⟩
  obtain ⟨A3, c3, rfl, -, -, -⟩ := own_form ho3
  obtain ⟨A4, c4, rfl, -, -, -⟩ := own_form ho4
  rw [HG.out.1, HG.out.2.1, HG.out.2.2.1]
  obtain ⟨w6, hw6⟩ : ∃ xx, xx = w5.alloc (.cells #[.int .i64 0, .int .i64 R.2.1.s, .slice A3 1 c3] 42) := ⟨_, rfl⟩
  obtain ⟨rb, erb⟩ : ∃ xx, xx = w5.heap.size := ⟨_, rfl⟩
  have hbw6 : Below w5.heap.size w5 w6 := by rw [hw6]; exact box_below w5 _
  have hkrb : w6.heap[rb]? = some (.cells #[.int .i64 0, .int .i64 R.2.1.s, .slice A3 1 c3] 42 (0, 0)) := by rw [hw6, erb]; exact new_block w5 _
  have hra6 := blk_below (hsk5.blk HK4.out (by decide)) hbw6
  have HZ : Hid (Calls Tryz.prog 37 #[.pointer (some ⟨sp, 0, none⟩)] w6 fun e w' => e = .returned (.int .i64 2) ∧ w6 = w') := Lib.hid (by
    have := szxid_any (hst5.below hbw6)
    rw [HG.out.2.2.2] at this; exact this)
  have HB6 : Hid (Below w.heap.size w w6) := Lib.hid ((HB4.out.trans (hsk5.below HB4.out.size)).trans (hbw6.mono (Nat.le_trans HB4.out.size hsk5.size)))
  have HW6 := Lib.hid hw6
  have ERB := Lib.hid erb
  have a0 := cell_of hra6 (j := 0) rfl
  have a1 := cell_of hra6 (j := 1) rfl
  have a2 := cell_of hra6 (j := 2) rfl
  have b0 := cell_of hkrb (j := 0) rfl
  have b1 := cell_of hkrb (j := 1) rfl
  have b2 := cell_of hkrb (j := 2) rfl
  clear hst5 hsk5 ho3 ho4 hra6 hkrb hbw6 hw6 erb
  go_upto_region 6 with fail
  rw [← HW6.out, ← ERB.out]
  go_wp2_with fail
  refine HZ.out.mono ?_
  rintro e w7 ⟨rfl, rfl⟩
  go_wp2_with fail
  go_ret
  exact ⟨rfl, HB6.out⟩
end Go.Proofs.YtflgemlhocjipaaGreatDoor
namespace Go.Proofs.YtflgemlhocjipaaGreatDoor
set_option maxRecDepth 100000
open Go.ChangeShapes Go.WideShapes Go.ChangeAt Go.RowKit Go.Proofs.Zn Go.Proofs.Zt
open Go.Proofs.Zs (St Lst Rep Tx)

/-- A transaction of a script, with its number and the place of its changes. -/
structure Opc where
  zx : Int
  k : Int
  s : Int
  n : Int
  sp : Int
  now : Int
  A : Option Addr
  m : Nat
  c : Nat
  l : List Chg
def occell (o : Opc) : List Value := [.int .i64 o.zx, .int .i64 o.k, .int .i64 o.s, .int .i64 o.n, .int .i64 o.sp, .int .i64 o.now, .slice o.A o.m o.c]
structure OpcOk (w : World) (o : Opc) : Prop where
  rd : Rd ccell 6 w o.A o.m o.l
  ok : ∀ c ∈ o.l, ChOk c
structure Scr (w : World) (A : Option Addr) (n : Nat) (l : List Opc) : Prop where
  rd : Rd occell 7 w A n l
  ok : ∀ o ∈ l, OpcOk w o
theorem OpcOk.below {w w' : World} {o : Opc} (h : OpcOk w o) (hb : Below w.heap.size w w') : OpcOk w' o := ⟨h.rd.below hb, h.ok⟩
theorem Scr.below {w w' : World} {A : Option Addr} {n : Nat} {l : List Opc} (h : Scr w A n l) (hb : Below w.heap.size w w') : Scr w' A n l := ⟨h.rd.below hb, fun o ho => (h.ok o ho).below hb⟩
end Go.Proofs.YtflgemlhocjipaaGreatDoor
