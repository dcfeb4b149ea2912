/-
  What alive and few answer. Condition: memory holds the script.
  Scripts in memory; what few returns. Condition: memory holds the script.
-/
import Derived.Test.YtflgemlhocjipaaGreatDoorSApp
namespace Go.Proofs.YtflgemlhocjipaaGreatDoor
set_option maxRecDepth 100000
open Go.ChangeShapes Go.WideShapes Go.ChangeAt Go.RowKit Go.Proofs.Zn Go.Proofs.Zt
open Go.Proofs.Zs (St Lst Rep Tx)

def cA : Chg := ⟨1, [47, 97], [], 0, false, false⟩
def tA : Tx := ⟨1, 0, 0, 10, 0, []⟩
def tB : Tx := ⟨4, 1, 1, 0, 0, [cA]⟩
def sA : St := (Zs.app Zs.new 1 tA).1
def sB : St := (Zs.app sA 2 tB).1
theorem sA_r : (Zs.app Zs.new 1 tA).2.1.c = 0 ∧ (Zs.app Zs.new 1 tA).2.1.s = 1 ∧ (Zs.app Zs.new 1 tA).2.1.ps.length = 0 := by decide
theorem sB_r : (Zs.app sA 2 tB).2.1.c = 0 ∧ (Zs.app sA 2 tB).2.1.ps.length = 1 ∧ (Zs.app sA 2 tB).2.2.length = 2 ∧ sB.z = 2 := by decide
theorem sA_gd : Zs.Gd sA := Zs.app_gd Zs.new_gd _ _
set_option maxHeartbeats 2000000 in
theorem alive_any (w : World) : Calls Tryz.prog 12 #[] w fun e w' => e = .returned (.bool true) ∧ Below w.heap.size w w' := by
  have HN := Lib.hid (snew_any w)
  go_enter Tryz.func12, Tryz.ntmps12
  go_wp2_with fail
  refine HN.out.mono ?_
  rintro e w1 ⟨sp, rfl, hst, hb1⟩
  have HA := Lib.hid (sapply_any (At := none) (nt := 0) (ct := 0) hst Zs.new_gd 1 tA (Rd.nil _ _ _ _) (fun h => absurd h (by omega)) (fun c hc => (by cases hc)))
  have HB1 := Lib.hid hb1
  clear hst hb1
  go_upto_region 4 with fail
  go_wp2_with fail
  refine HA.out.mono ?_
  rintro e w2 ⟨vp, ve, rfl, hst2, hsk2, ho1, ho2⟩
  obtain ⟨a1, a2, a3⟩ := sA_r
  obtain ⟨Ap, cp, rfl, -, -, -⟩ := own_form ho1
  rw [a1, a2, a3]
  have HB2 : Hid (Below w.heap.size w w2) := Lib.hid (HB1.out.trans (hsk2.below HB1.out.size))
  obtain ⟨w3, hw3⟩ : ∃ xx, xx = w2.alloc (.cells #[.int .i64 0, .int .i64 1, .slice Ap 0 cp] 42) := ⟨_, rfl⟩
  obtain ⟨ra, era⟩ : ∃ xx, xx = w2.heap.size := ⟨_, rfl⟩
  have hbw3 : Below w2.heap.size w2 w3 := by rw [hw3]; exact box_below w2 _
  have hkra : w3.heap[ra]? = some (.cells #[.int .i64 0, .int .i64 1, .slice Ap 0 cp] 42 (0, 0)) := by rw [hw3, era]; exact new_block w2 _
  obtain ⟨w4, hw4⟩ : ∃ xx, xx = w3.alloc (.cells #[.int .i64 1, .string ⟨#[47, 97]⟩, .string ⟨#[]⟩, .int .i64 0, .bool false, .bool false] 79) := ⟨_, rfl⟩
  obtain ⟨cb, ecb⟩ : ∃ xx, xx = w3.heap.size := ⟨_, rfl⟩
  have hbw4 : Below w3.heap.size w3 w4 := by rw [hw4]; exact box_below w3 _
  have hkcb : w4.heap[cb]? = some (.cells #[.int .i64 1, .string ⟨#[47, 97]⟩, .string ⟨#[]⟩, .int .i64 0, .bool false, .bool false] 79 (0, 0)) := by rw [hw4, ecb]; exact new_block w3 _
  have hb24 : Below w2.heap.size w2 w4 := hbw3.trans (hbw4.mono hbw3.size)
  have hst4 := hst2.below hb24
  have hrd : Rd ccell 6 w4 (some ⟨cb, 0, none⟩) 1 [cA] := ⟨rfl, fun _ => ⟨cb, 0, rfl, fun i hi j v hv => by
    obtain rfl : i = 0 := by simp at hi; omega
    rw [cell_of_row w4 cb _ _ _ _ hkcb]
    rw [show 0 + 0 * 6 + j = j by omega]
    match j, hv with
    | 0, hv => simpa [ccell, cA] using hv
    | 1, hv => simpa [ccell, cA] using hv
    | 2, hv => simpa [ccell, cA] using hv
    | 3, hv => simpa [ccell, cA] using hv
    | 4, hv => simpa [ccell, cA] using hv
    | 5, hv => simpa [ccell, cA] using hv
    | (m + 6), hv => simp [ccell] at hv⟩⟩
  have htg : Tg w4 w.heap.size (some ⟨cb, 0, none⟩) 1 := fun _ a e => by
    injection e with e
    subst e
    exact .inr ⟨_, _, _, hkcb, by decide⟩
  have hab := (sapply_any (S := sA) (ct := 1) hst4 sA_gd 2 tB hrd htg (fun c hc => by
    rw [List.mem_singleton.1 hc]; unfold ChOk cA; decide))
  obtain ⟨g1, g2, g3, g4⟩ := sB_r
  unfold sB at g4
  obtain ⟨R, hR⟩ : ∃ R, Zs.app sA 2 tB = R := ⟨_, rfl⟩
  rw [hR] at hab g1 g2 g3 g4
  have HAB := Lib.hid hab
  have HG := Lib.hid (And.intro g1 (And.intro g2 (And.intro g3 g4)))
  have HB4 : Hid (Below w.heap.size w w4) := Lib.hid (HB2.out.trans (hb24.mono HB2.out.size))
  have HK4 := Lib.hid (blk_below hkra hbw4)
  have HW3 := Lib.hid hw3
  have HW4 := Lib.hid hw4
  have ERA := Lib.hid era
  have ECB := Lib.hid ecb
  clear hab g1 g2 g3 g4 hR a1 a2 a3 hst2 hsk2 ho1 ho2 hw3 hw4 era ecb hbw3 hbw4 hkra hkcb hb24 hst4 hrd htg
  go_upto_region 5 with fail
  rw [← HW3.out, ← ERA.out]
  go_wp2_with (rw [← HW4.out, ← ECB.out])
  refine HAB.out.mono ?_
  rintro e w5 ⟨vp2, ve2, rfl, hst5, hsk5, ho3, ho4⟩
  obtain ⟨A3, c3, rfl, -, -, -⟩ := own_form ho3
  obtain ⟨A4, c4, rfl, -, -, -⟩ := own_form ho4
  rw [HG.out.1, HG.out.2.1, HG.out.2.2.1]
  obtain ⟨w6, hw6⟩ : ∃ xx, xx = w5.alloc (.cells #[.int .i64 0, .int .i64 R.2.1.s, .slice A3 1 c3] 42) := ⟨_, rfl⟩
  obtain ⟨rb, erb⟩ : ∃ xx, xx = w5.heap.size := ⟨_, rfl⟩
  have hbw6 : Below w5.heap.size w5 w6 := by rw [hw6]; exact box_below w5 _
  have hkrb : w6.heap[rb]? = some (.cells #[.int .i64 0, .int .i64 R.2.1.s, .slice A3 1 c3] 42 (0, 0)) := by rw [hw6, erb]; exact new_block w5 _
  have hra6 := blk_below (hsk5.blk HK4.out (by decide)) hbw6
  have HZ : Hid (Calls Tryz.prog 37 #[.pointer (some ⟨sp, 0, none⟩)] w6 fun e w' => e = .returned (.int .i64 2) ∧ w6 = w') := Lib.hid (by
    have := szxid_any (hst5.below hbw6)
    rw [HG.out.2.2.2] at this; exact this)
  have HB6 : Hid (Below w.heap.size w w6) := Lib.hid ((HB4.out.trans (hsk5.below HB4.out.size)).trans (hbw6.mono (Nat.le_trans HB4.out.size hsk5.size)))
  have HW6 := Lib.hid hw6
  have ERB := Lib.hid erb
  have a0 := cell_of hra6 (j := 0) rfl
  have a1 := cell_of hra6 (j := 1) rfl
  have a2 := cell_of hra6 (j := 2) rfl
  have b0 := cell_of hkrb (j := 0) rfl
  have b1 := cell_of hkrb (j := 1) rfl
  have b2 := cell_of hkrb (j := 2) rfl
  clear hst5 hsk5 ho3 ho4 hra6 hkrb hbw6 hw6 erb
  go_upto_region 6 with fail
  rw [← HW6.out, ← ERB.out]
  go_wp2_with fail
  refine HZ.out.mono ?_
  rintro e w7 ⟨rfl, rfl⟩
  go_wp2_with fail
  go_ret
  exact ⟨rfl, HB6.out⟩
end Go.Proofs.YtflgemlhocjipaaGreatDoor
namespace Go.Proofs.YtflgemlhocjipaaGreatDoor
set_option maxRecDepth 100000
open Go.ChangeShapes Go.WideShapes Go.ChangeAt Go.RowKit Go.Proofs.Zn Go.Proofs.Zt
open Go.Proofs.Zs (St Lst Rep Tx)

/-- A transaction of a script, with its number and the place of its changes. -/
structure Opc where
  zx : Int
  k : Int
  s : Int
  n : Int
  sp : Int
  now : Int
  A : Option Addr
  m : Nat
  c : Nat
  l : List Chg
def occell (o : Opc) : List Value := [.int .i64 o.zx, .int .i64 o.k, .int .i64 o.s, .int .i64 o.n, .int .i64 o.sp, .int .i64 o.now, .slice o.A o.m o.c]
def txO (o : Opc) : Tx := ⟨o.k, o.s, o.n, o.sp, o.now, o.l⟩
def clO (o : Opc) : Zs.Cl := ⟨o.zx, txO o⟩
structure OpcOk (w : World) (o : Opc) : Prop where
  rd : Rd ccell 6 w o.A o.m o.l
  ok : ∀ c ∈ o.l, ChOk c
structure Scr (w : World) (A : Option Addr) (n : Nat) (l : List Opc) : Prop where
  rd : Rd occell 7 w A n l
  ok : ∀ o ∈ l, OpcOk w o
theorem OpcOk.below {w w' : World} {o : Opc} (h : OpcOk w o) (hb : Below w.heap.size w w') : OpcOk w' o := ⟨h.rd.below hb, h.ok⟩
theorem Scr.below {w w' : World} {A : Option Addr} {n : Nat} {l : List Opc} (h : Scr w A n l) (hb : Below w.heap.size w w') : Scr w' A n l := ⟨h.rd.below hb, fun o ho => (h.ok o ho).below hb⟩
def fewP (l : List Opc) : Prop := (∀ o ∈ l, o.m ≤ 20) ∧ l.length ≤ 150
def FwPost (l : List Opc) (w : World) (e : Ending) (w' : World) : Prop := ∃ b, e = .returned (.bool b) ∧ (b = true → fewP l) ∧ Below w.heap.size w w'
set_option maxHeartbeats 2000000 in
theorem few_any {w : World} {A : Option Addr} {n c : Nat} {l : List Opc} (h : Scr w A n l) (hn : n ≤ 9223372036854775807) :
    Calls Tryz.prog 11 #[.slice A n c] w (FwPost l w) := by
  have HR := Lib.hid h.rd
  clear h
  go_enter Tryz.func11, Tryz.ntmps11
  go_wp2_with fail
  go_loopw [7] (fun i wr => ∃ (k : Nat), k ≤ n ∧ i = .int .i64 k ∧ Hid (∀ o ∈ l.take k, o.m ≤ 20) ∧ Hid (Below w.heap.size w wr)) (fun i _ => n - (intOf i).toNat)
  case atStart => exact ⟨0, Nat.zero_le _, rfl, Lib.hid (fun o ho => (by cases ho)), Lib.hid (Below.refl _ _)⟩
  case round =>
    obtain ⟨k, hk, rfl, HM, HX⟩ := hrel
    by_cases hlt : k < n
    · obtain ⟨b, off, o, rfl, ho, hc⟩ := (HR.out.below HX.out).at hlt
      have a0 : wr.cell? ⟨b, off + k * 7, none⟩ = some (.int .i64 o.zx) := hc 0 _ rfl
      have a1 : wr.cell? ⟨b, off + k * 7 + 1, none⟩ = some (.int .i64 o.k) := hc 1 _ rfl
      have a2 : wr.cell? ⟨b, off + k * 7 + 2, none⟩ = some (.int .i64 o.s) := hc 2 _ rfl
      have a3 : wr.cell? ⟨b, off + k * 7 + 3, none⟩ = some (.int .i64 o.n) := hc 3 _ rfl
      have a4 : wr.cell? ⟨b, off + k * 7 + 4, none⟩ = some (.int .i64 o.sp) := hc 4 _ rfl
      have a5 : wr.cell? ⟨b, off + k * 7 + 5, none⟩ = some (.int .i64 o.now) := hc 5 _ rfl
      have a6 : wr.cell? ⟨b, off + k * 7 + 6, none⟩ = some (.slice o.A o.m o.c) := hc 6 _ rfl
      obtain ⟨w3, hw3⟩ : ∃ xx, xx = wr.alloc (.cells #[.int .i64 o.zx, .int .i64 o.k, .int .i64 o.s, .int .i64 o.n, .int .i64 o.sp, .int .i64 o.now, .slice o.A o.m o.c] 87) := ⟨_, rfl⟩
      obtain ⟨q, eq⟩ : ∃ xx, xx = wr.heap.size := ⟨_, rfl⟩
      have hbw3 : Below wr.heap.size wr w3 := by rw [hw3]; exact box_below wr _
      have hkq : w3.heap[q]? = some (.cells #[.int .i64 o.zx, .int .i64 o.k, .int .i64 o.s, .int .i64 o.n, .int .i64 o.sp, .int .i64 o.now, .slice o.A o.m o.c] 87 (0, 0)) := by rw [hw3, eq]; exact new_block wr _
      have HB3 := Lib.hid (HX.out.trans (hbw3.mono HX.out.size))
      have HTK : Hid (∀ y ∈ l.take (k + 1), y ∈ l.take k ∨ y = o) := Lib.hid (by
        obtain ⟨hk', e⟩ := List.getElem?_eq_some_iff.1 ho
        rw [List.take_succ_eq_append_getElem hk', e]
        intro y hy
        rcases List.mem_append.1 hy with h | h
        · exact .inl h
        · exact .inr (List.mem_singleton.1 h))
      have HW3 := Lib.hid hw3
      have EQ := Lib.hid eq
      obtain ⟨t, ht⟩ : ∃ t, decide ((20 : Int) < (o.m : Int)) = t := ⟨_, rfl⟩
      have HT := Lib.hid ht
      have q0 := cell_of hkq (j := 0) rfl
      have q1 := cell_of hkq (j := 1) rfl
      have q2 := cell_of hkq (j := 2) rfl
      have q3 := cell_of hkq (j := 3) rfl
      have q4 := cell_of hkq (j := 4) rfl
      have q5 := cell_of hkq (j := 5) rfl
      have q6 := cell_of hkq (j := 6) rfl
      clear ho hc hw3 eq hbw3 hkq
      go_upto_region 4 with fail
      rw [← HW3.out, ← EQ.out]
      clear a0 a1 a2 a3 a4 a5 a6
      cases t with
      | true =>
        go_wp2_with fail
        go_ret
        exact ⟨false, rfl, fun h => (by cases h), HB3.out⟩
      | false =>
        go_wp2_with fail
        go_roundw
        case rel => exact ⟨k + 1, hlt, by go_num, Lib.hid (fun y hy => by
          rcases HTK.out y hy with h | h
          · exact HM.out y h
          · rw [h]; have := of_decide_eq_false HT.out; omega), HB3⟩
        case measure => simp [intOf]; omega
    · obtain rfl : k = n := by omega
      obtain ⟨t, ht⟩ : ∃ t, decide ((k : Int) ≤ 150) = t := ⟨_, rfl⟩
      have HT := Lib.hid ht
      have hki : ¬ (k : Int) < (k : Int) := by omega
      go_wp2_with fail
      go_ret
      refine ⟨t, rfl, fun h => ⟨fun o ho => ?_, ?_⟩, HX.out⟩
      · exact HM.out o (by rw [List.take_of_length_le (by rw [HR.out.len]; exact Nat.le_refl _)]; exact ho)
      · subst h; have := of_decide_eq_true HT.out; rw [HR.out.len]; omega
end Go.Proofs.YtflgemlhocjipaaGreatDoor
