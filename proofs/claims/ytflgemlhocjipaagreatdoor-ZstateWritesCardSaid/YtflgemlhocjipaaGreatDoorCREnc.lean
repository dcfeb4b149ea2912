/-
  What Encode returns of any transaction. Condition: memory holds its changes.
  What the document's Encode returns of any transaction. Conditions: memory holds its changes; versions fit.
-/
import Derived.Test.YtflgemlhocjipaaGreatDoorCMath
import Derived.Test.YtflgemlhocjipaaGreatDoorQKinds
import Derived.Test.YtflgemlhocjipaaGreatDoorQJoin
import Derived.Test.YtflgemlhocjipaaGreatDoorSSeen
namespace Go.Proofs.YtflgemlhocjipaaGreatDoor
set_option maxRecDepth 100000
open Go.ChangeShapes Go.WideShapes Go.ChangeAt Go.RowKit Go.Proofs.Zn Go.Proofs.Zt
open Go.Proofs.Zs (St Lst Rep Tx)
open Pq (Fld FReads Reads fcs errL bytL)

theorem fcs_one (l : List Fld) : ∀ u ∈ fcs l, u.oneCell' = true := fun u hu => by
  obtain ⟨x, _, hx⟩ := List.mem_flatMap.1 hu
  simp only [List.mem_cons, List.not_mem_nil, or_false] at hx
  rcases hx with rfl | rfl | rfl <;> rfl
theorem fcs_append (a b : List Fld) : fcs (a ++ b) = fcs a ++ fcs b := by simp [fcs]
/-- What is written: a transaction's bytes, or none. -/
def CePost (w : World) (r : Option (List Int)) (e : Ending) (w' : World) : Prop := ∃ A c, e = .returned (.tuple #[.slice A (r.getD []).length c, .int .i64 (if r.isSome then 0 else 110)]) ∧ Reads .u8 w' A (r.getD []).length (r.getD []) ∧ (r.getD []).length ≤ c ∧ c ≤ maxLen ∧ Below w.heap.size w w'
theorem ce_none {w w' : World} {r : Option (List Int)} (h : r = none) (hb : Below w.heap.size w w') : CePost w r (.returned (.tuple #[.slice none 0 0, .int .i64 110])) w' := by
  subst h
  exact ⟨none, 0, rfl, ⟨rfl, fun h => absurd h (by simp)⟩, Nat.le_refl _, Nat.zero_le _, hb⟩
theorem ce_some {w w' : World} {r : Option (List Int)} {b : List Int} {A : Option Addr} {n c : Nat} (h : r = some b) (hn : n = b.length) (hr : Reads .u8 w' A n b) (hc : n ≤ c) (hm : c ≤ maxLen) (hb : Below w.heap.size w w') : CePost w r (.returned (.tuple #[.slice A n c, .int .i64 0])) w' := by
  subst h; subst hn
  exact ⟨A, c, rfl, hr, hc, hm, hb⟩
theorem enc_long {t : Tx} (h : 6 < t.l.length) : encS t = none := by unfold encS; rw [if_neg (by omega)]
theorem enc_err {t : Tx} (h : errL (flds t) ≠ 0) : encS t = none := by unfold encS; rw [if_neg (fun e => h e.2.1)]
theorem enc_big {t : Tx} (h : 4096 < (bytL (flds t)).length) : encS t = none := by unfold encS; rw [if_neg (by omega)]
theorem enc_good {t : Tx} (h1 : t.l.length ≤ 6) (h2 : errL (flds t) = 0) (h3 : (bytL (flds t)).length ≤ 4096) : encS t = some (bytL (flds t)) := by unfold encS; rw [if_pos ⟨h1, h2, h3⟩]
theorem encB_good {l : List Fld} (h : errL l = 0) : Pq.encB l = bytL l := by unfold Pq.encB; rw [if_pos h]
theorem ch_len (l : List Chg) : (l.flatMap chF).length = l.length * 6 := by
  induction l with
  | nil => rfl
  | cons x l ih => rw [List.flatMap_cons, List.length_append, ih, List.length_cons, Nat.succ_mul]; show 6 + l.length * 6 = _; omega
theorem enc_join {w1 w4 w6 : World} {B0 N : Nat} {v v' : Value} {G G' : List Fld} {x : Chg} (hG : G' = G ++ chF x) (hN : G.length = N) (hown : w6.ownsRow B0 112 3 v' (N + 6) (fcs G ++ fcs (chF x))) (hg : w4.grownBy w6 v.ownBlock) (ho : w4.ownsRow B0 112 3 v N (fcs G)) (hx : Below B0 w1 w4) (hB : B0 ≤ w4.heap.size := by omega) :
    Hid (Below B0 w1 w6) ∧ Hid (w6.ownsRow B0 112 3 v' G'.length (fcs G')) := by
  refine ⟨Lib.hid (hx.trans (Lq.gb_own ho hg (Nat.le_refl _) hB)), Lib.hid ?_⟩
  have e : G'.length = N + 6 := by rw [hG, List.length_append, hN]; rfl
  rw [e, hG, fcs_append]
  exact hown
set_option maxHeartbeats 8000000 in
theorem sencode_any {w : World} {A : Option Addr} {m c : Nat} {l : List Chg} (h : Rd ccell 6 w A m l) (hm : m ≤ 1000000) (k s n sp now : Int) : Calls Tryz.prog 22 #[.agg #[.int .i64 k, .int .i64 s, .int .i64 n, .int .i64 sp, .int .i64 now, .slice A m c]] w (CePost w (encS ⟨k, s, n, sp, now, l⟩)) := by
  obtain ⟨w1, hw1⟩ : ∃ w1, w1 = w.alloc (.cells #[.int .i64 k, .int .i64 s, .int .i64 n, .int .i64 sp, .int .i64 now, .slice A m c] 46) := ⟨_, rfl⟩
  obtain ⟨q, eq⟩ : ∃ q, q = w.heap.size := ⟨_, rfl⟩
  have hb1 : Below w.heap.size w w1 := by rw [hw1]; exact box_below w _
  have hq : w1.heap[q]? = some (.cells #[.int .i64 k, .int .i64 s, .int .i64 n, .int .i64 sp, .int .i64 now, .slice A m c] 46 (0, 0)) := by rw [hw1, eq]; exact new_block w _
  have HL := Lib.hid h.len
  have HR := Lib.hid (h.below hb1)
  have HQ := Lib.hid hq
  have HB1 := Lib.hid hb1
  have HW1 := Lib.hid hw1
  have EQ := Lib.hid eq
  have HO := Lib.hid (oftxn_any k s n sp now A m c w1)
  obtain ⟨R, hR⟩ : ∃ r, encS ⟨k, s, n, sp, now, l⟩ = r := ⟨_, rfl⟩
  have HRR := Lib.hid hR
  rw [hR]
  have q0 := cell_of hq (j := 0) rfl
  have q1 := cell_of hq (j := 1) rfl
  have q2 := cell_of hq (j := 2) rfl
  have q3 := cell_of hq (j := 3) rfl
  have q4 := cell_of hq (j := 4) rfl
  have q5 := cell_of hq (j := 5) rfl
  clear h hw1 eq hb1 hq hR
  by_cases h6 : 6 < m
  · have h6i : (6 : Int) < (m : Int) := by omega
    have HE : Hid (CePost w R (.returned (.tuple #[.slice none 0 0, .int .i64 110])) w1) := Lib.hid (ce_none (by rw [← HRR.out]; exact enc_long (by show 6 < l.length; rw [HL.out]; exact h6)) HB1.out)
    go_enter Tryz.func22, Tryz.ntmps22
    go_upto_region 1 with fail
    rw [← HW1.out, ← EQ.out]
    go_wp2_with fail
    exact bodyPost_ret (v := .tuple #[.slice none 0 0, .int .i64 110]) (by simp [results, Tryz.results22, go_sem]) rfl HE.out
  have h6i : ¬ (6 : Int) < (m : Int) := by omega
  obtain ⟨i0, hi, hz0, hz1, hz2⟩ := info_parts infoF
  go_enter Tryz.func22, Tryz.ntmps22
  go_upto_region 1 with fail
  rw [← HW1.out, ← EQ.out]
  go_wp2_with fail
  refine HO.out.mono ?_
  rintro e w2 ⟨b, rfl, hb2, hge2, hbw2⟩
  have HOW : Hid (w2.ownsRow w1.heap.size 112 3 (.slice (some ⟨b, 0, none⟩) 6 6) (hdF k s n sp now m ++ (l.take 0).flatMap chF).length (fcs (hdF k s n sp now m ++ (l.take 0).flatMap chF))) := Lib.hid (Lq.own_new hb2 hge2 (by unfold maxLen; omega) rfl)
  have hq2 := blk_below HQ.out hbw2
  have HB2 := Lib.hid hbw2
  clear hb2 hge2 hbw2 q0 q1 q2 q3 q4 q5
  have q0 := cell_of hq2 (j := 0) rfl
  have q1 := cell_of hq2 (j := 1) rfl
  have q2 := cell_of hq2 (j := 2) rfl
  have q3 := cell_of hq2 (j := 3) rfl
  have q4 := cell_of hq2 (j := 4) rfl
  have q5 := cell_of hq2 (j := 5) rfl
  clear hq2
  go_wp2_with fail
  go_loopw [4, 18] (fun u i wr => ∃ (j : Nat), j ≤ m ∧ i = .int .i64 j ∧ Hid (wr.ownsRow w1.heap.size 112 3 u (hdF k s n sp now m ++ (l.take j).flatMap chF).length (fcs (hdF k s n sp now m ++ (l.take j).flatMap chF))) ∧ Hid (Below w1.heap.size w1 wr)) (fun _ i _ => m - (intOf i).toNat)
  case atStart => exact ⟨0, Nat.zero_le _, rfl, HOW, HB2⟩
  case round =>
    obtain ⟨j, hj, rfl, HOJ, HX⟩ := hrel
    by_cases hlt : j < m
    · obtain ⟨b0, off, x, hA, hx, hcc⟩ := (HR.out.below HX.out).at hlt
      subst hA
      have c0 : wr.cell? ⟨b0, off + j * 6, none⟩ = some (.int .i64 x.kind) := hcc 0 _ rfl
      have c1 : wr.cell? ⟨b0, off + j * 6 + 1, none⟩ = some (.string (B x.path)) := hcc 1 _ rfl
      have c2 : wr.cell? ⟨b0, off + j * 6 + 2, none⟩ = some (.string (B x.data)) := hcc 2 _ rfl
      have c3 : wr.cell? ⟨b0, off + j * 6 + 3, none⟩ = some (.int .i64 x.ver) := hcc 3 _ rfl
      have c4 : wr.cell? ⟨b0, off + j * 6 + 4, none⟩ = some (.bool x.eph) := hcc 4 _ rfl
      have c5 : wr.cell? ⟨b0, off + j * 6 + 5, none⟩ = some (.bool x.sq) := hcc 5 _ rfl
      have hjl : j < l.length := by rw [HL.out]; exact hlt
      have HTK : Hid (hdF k s n sp now m ++ (l.take (j + 1)).flatMap chF = (hdF k s n sp now m ++ (l.take j).flatMap chF) ++ chF x) := Lib.hid (by
        have e : l[j] = x := by rw [List.getElem?_eq_getElem hjl] at hx; injection hx
        rw [List.take_succ_eq_append_getElem hjl, e, List.flatMap_append, List.append_assoc]
        simp)
      have HLN : Hid ((hdF k s n sp now m ++ (l.take j).flatMap chF).length ≤ 42) := Lib.hid (by
        rw [List.length_append, ch_len, List.length_take]
        show 6 + _ ≤ 42
        omega)
      obtain ⟨w3, hw3⟩ : ∃ w3, w3 = wr.alloc (.cells #[.int .i64 x.kind, .string (B x.path), .string (B x.data), .int .i64 x.ver, .bool x.eph, .bool x.sq] 79) := ⟨_, rfl⟩
      obtain ⟨r, er⟩ : ∃ r, r = wr.heap.size := ⟨_, rfl⟩
      have hb3 : Below wr.heap.size wr w3 := by rw [hw3]; exact box_below wr _
      have hr : w3.heap[r]? = some (.cells #[.int .i64 x.kind, .string (B x.path), .string (B x.data), .int .i64 x.ver, .bool x.eph, .bool x.sq] 79 (0, 0)) := by rw [hw3, er]; exact new_block wr _
      have HX3 := Lib.hid (HX.out.trans (hb3.mono HX.out.size))
      have HO3 := Lib.hid (own_below HOJ.out hb3)
      have HOC := Lib.hid (ofchange_any x w3)
      have r0 := cell_of hr (j := 0) rfl
      have r1 := cell_of hr (j := 1) rfl
      have r2 := cell_of hr (j := 2) rfl
      have r3 := cell_of hr (j := 3) rfl
      have r4 := cell_of hr (j := 4) rfl
      have r5 := cell_of hr (j := 5) rfl
      have hj0 : (0 : Int) ≤ (j : Int) := by omega
      have hji : (j : Int) < (m : Int) := by omega
      have hwj : IntKind.i64.wrap ((j : Int) + 1) = (j : Int) + 1 := by rw [IntKind.wrap_i64]; omega
      have HW3 := Lib.hid hw3
      have ER := Lib.hid er
      obtain ⟨N, hN⟩ : ∃ N, (hdF k s n sp now m ++ (l.take j).flatMap chF).length = N := ⟨_, rfl⟩
      obtain ⟨G, hG⟩ : ∃ G, hdF k s n sp now m ++ (l.take j).flatMap chF = G := ⟨_, rfl⟩
      rw [hN] at HO3 HLN
      rw [hG] at HO3 HTK hN
      have HN := Lib.hid hN
      have HG := Lib.hid hG
      clear hx hcc hw3 er hb3 hr hN hG
      go_upto_region 7 with fail
      rw [← HW3.out, ← ER.out]
      clear c0 c1 c2 c3 c4 c5
      go_wp2_with (first
        | (refine HOC.out.mono ?_; rintro e w4 ⟨b4, rfl, hb4, hge4, hbw4⟩; have ho4 := own_below HO3.out hbw4; have hx4 := HX3.out.trans (hbw4.mono HX3.out.size); have hs4 := hx4.size; have hln := HLN.out)
        | (at_builtin; refine wpList_append_own _ rfl _ _ 107 rfl w1.heap.size 112 i0 _ 3 32 Tryz.underlying107 hi hz0 hz1 hz2 rfl (by decide) _ _ _ rfl ho4 ⟨b4, 0, none⟩ 6 6 (fcs (chF x)) rfl rfl (World.news_of_block hb4) (fcs_one _) (by unfold maxLen at *; omega) (by omega) (by omega) ?_; intro v' w6 hown' hg6 hnil6; obtain ⟨HX6, HO6⟩ := enc_join HTK.out HN.out hown' hg6 ho4 hx4; clear hown' hg6 hnil6 ho4 hb4 hge4 hbw4 hx4 hs4 hln))
      go_wp2_with fail
      go_roundw
      case rel => exact ⟨j + 1, by omega, by go_num, HO6, HX6⟩
      case measure => simp [intOf]; omega
    · obtain rfl : j = m := by omega
      have hji : ¬ (j : Int) < (j : Int) := by omega
      have HFL : Hid (hdF k s n sp now j ++ (l.take j).flatMap chF = flds ⟨k, s, n, sp, now, l⟩) := Lib.hid (by
        unfold flds
        rw [← HL.out, List.take_length])
      have hown := HOJ.out
      rw [HFL.out] at hown
      obtain ⟨A5, c5, rfl, hfr⟩ := Pq.fields_own hown
      have HLL : Hid ((flds ⟨k, s, n, sp, now, l⟩).length ≤ 42) := Lib.hid (by
        unfold flds
        rw [List.length_append, ch_len]
        show 6 + l.length * 6 ≤ 42
        rw [HL.out]
        omega)
      obtain ⟨N, hN⟩ : ∃ N, (flds ⟨k, s, n, sp, now, l⟩).length = N := ⟨_, rfl⟩
      have HLF : Hid ((hdF k s n sp now j ++ (l.take j).flatMap chF).length = N) := Lib.hid (by rw [HFL.out]; exact hN)
      rw [hN] at hfr HLL ⊢
      have HPE := Lib.hid (Pq.encode_any A5 N c5 _ wr hfr (by have := HLL.out; omega))
      clear hown hfr hN
      go_wp2_with fail
      refine HPE.out.mono ?_
      rintro e w7 ⟨A7, n7, c7, rfl, hn7, hr7, hc7, hm7, hb7⟩
      have HB7 : Hid (Below w.heap.size w w7) := Lib.hid (HB1.out.trans ((HX.out.trans (hb7.mono HX.out.size)).mono HB1.out.size))
      obtain ⟨er, her⟩ : ∃ er, errL (flds ⟨k, s, n, sp, now, l⟩) = er := ⟨_, rfl⟩
      rw [her]
      by_cases he0 : er = 0
      · have hbb := encB_good (her.trans he0)
        rw [hbb] at hn7 hr7
        by_cases hbig : 4096 < n7
        · have HE : Hid (CePost w R (.returned (.tuple #[.slice none 0 0, .int .i64 110])) w7) := Lib.hid (ce_none (by rw [← HRR.out]; exact enc_big (by rw [← hn7]; exact hbig)) HB7.out)
          have hbi : (4096 : Int) < (n7 : Int) := by omega
          have hbi' : decide ((4096 : Int) < (n7 : Int)) = true := by simpa using hbi
          subst he0
          clear hn7 hr7 hc7 hm7 hb7 her hbb hbig
          go_wp2_with fail
          exact bodyPost_ret (v := .tuple #[.slice none 0 0, .int .i64 110]) (by simp [results, Tryz.results22, go_sem]) rfl HE.out
        · have HE : Hid (CePost w R (.returned (.tuple #[.slice A7 n7 c7, .int .i64 0])) w7) := Lib.hid (ce_some (by rw [← HRR.out]; exact enc_good (by show l.length ≤ 6; rw [HL.out]; omega) (her.trans he0) (by rw [← hn7]; omega)) hn7 hr7 hc7 hm7 HB7.out)
          have hbi : ¬ (4096 : Int) < (n7 : Int) := by omega
          have hbi' : decide ((4096 : Int) < (n7 : Int)) = false := by simpa using hbi
          subst he0
          clear hn7 hr7 hc7 hm7 hb7 her hbb hbig
          go_wp2_with fail
          exact bodyPost_ret (v := .tuple #[.slice A7 n7 c7, .int .i64 0]) (by simp [results, Tryz.results22, go_sem]) rfl HE.out
      · have HE : Hid (CePost w R (.returned (.tuple #[.slice none 0 0, .int .i64 110])) w7) := Lib.hid (ce_none (by rw [← HRR.out]; exact enc_err (by rw [her]; exact he0)) HB7.out)
        have he1 : (er == 0) = false := by simpa using he0
        clear hn7 hr7 hc7 hm7 hb7 her
        go_wp2_with fail
        exact bodyPost_ret (v := .tuple #[.slice none 0 0, .int .i64 110]) (by simp [results, Tryz.results22, go_sem]) rfl HE.out
end Go.Proofs.YtflgemlhocjipaaGreatDoor
namespace Go.Proofs.YtflgemlhocjipaaGreatDoor
set_option maxRecDepth 100000
open Go.ChangeShapes Go.WideShapes Go.ChangeAt Go.RowKit Go.Proofs.Zn Go.Proofs.Zt
open Go.Proofs.Zs (St Lst Rep Tx)
open Pq (Fld FReads Reads fcs errL bytL)

set_option maxHeartbeats 16000000 in
theorem rencode_txn {w : World} {A : Option Addr} {m c : Nat} {l : List Chg} (h : Rd ccell 6 w A m l) (hm : m ≤ 1000) (hv : VerOk l) (k s n sp now : Int) : Calls Tryz.prog 23 #[.agg #[.int .i64 k, .int .i64 s, .int .i64 n, .int .i64 sp, .int .i64 now, .slice A m c]] w (CePost w (encS ⟨k, s, n, sp, now, l⟩)) := by
  obtain ⟨w1, hw1⟩ : ∃ w1, w1 = w.alloc (.cells #[.int .i64 k, .int .i64 s, .int .i64 n, .int .i64 sp, .int .i64 now, .slice A m c] 38) := ⟨_, rfl⟩
  obtain ⟨q, eq⟩ : ∃ q, q = w.heap.size := ⟨_, rfl⟩
  have hb1 : Below w.heap.size w w1 := by rw [hw1]; exact box_below w _
  have hq : w1.heap[q]? = some (.cells #[.int .i64 k, .int .i64 s, .int .i64 n, .int .i64 sp, .int .i64 now, .slice A m c] 38 (0, 0)) := by rw [hw1, eq]; exact new_block w _
  have HL := Lib.hid h.len
  have HR := Lib.hid (h.below hb1)
  have HQ := Lib.hid hq
  have HB1 := Lib.hid hb1
  have HW1 := Lib.hid hw1
  have EQ := Lib.hid eq
  have HVV := Lib.hid hv
  obtain ⟨R, hR⟩ : ∃ r, encS ⟨k, s, n, sp, now, l⟩ = r := ⟨_, rfl⟩
  have HRR := Lib.hid hR
  rw [hR]
  have HS : Hid (∀ W, Below w1.heap.size w1 W → W.cell? ⟨q, 0, none⟩ = some (.int .i64 k) ∧ W.cell? ⟨q, 1, none⟩ = some (.int .i64 s) ∧ W.cell? ⟨q, 2, none⟩ = some (.int .i64 n) ∧ W.cell? ⟨q, 3, none⟩ = some (.int .i64 sp) ∧ W.cell? ⟨q, 4, none⟩ = some (.int .i64 now) ∧ W.cell? ⟨q, 5, none⟩ = some (.slice A m c) ∧ Below w1.heap.size w1 W) := Lib.hid (fun W hW => by
    have h := blk_below hq hW
    exact ⟨cell_of h (j := 0) rfl, cell_of h (j := 1) rfl, cell_of h (j := 2) rfl, cell_of h (j := 3) rfl, cell_of h (j := 4) rfl, cell_of h (j := 5) rfl, hW⟩)
  have HSA : Hid (∀ W o, (W.cell? ⟨q, 0, none⟩ = some (.int .i64 k) ∧ W.cell? ⟨q, 1, none⟩ = some (.int .i64 s) ∧ W.cell? ⟨q, 2, none⟩ = some (.int .i64 n) ∧ W.cell? ⟨q, 3, none⟩ = some (.int .i64 sp) ∧ W.cell? ⟨q, 4, none⟩ = some (.int .i64 now) ∧ W.cell? ⟨q, 5, none⟩ = some (.slice A m c) ∧ Below w1.heap.size w1 W) → (W.alloc o).cell? ⟨q, 0, none⟩ = some (.int .i64 k) ∧ (W.alloc o).cell? ⟨q, 1, none⟩ = some (.int .i64 s) ∧ (W.alloc o).cell? ⟨q, 2, none⟩ = some (.int .i64 n) ∧ (W.alloc o).cell? ⟨q, 3, none⟩ = some (.int .i64 sp) ∧ (W.alloc o).cell? ⟨q, 4, none⟩ = some (.int .i64 now) ∧ (W.alloc o).cell? ⟨q, 5, none⟩ = some (.slice A m c) ∧ Below w1.heap.size w1 (W.alloc o)) := Lib.hid (fun W o hS => by
    obtain ⟨-, -, -, -, -, -, hW⟩ := hS
    exact HS.out _ (hW.trans ((box_below W o).mono hW.size)))
  have HC : Hid (∀ (y z : Int) (u : ByteArray) W, (W.cell? ⟨q, 0, none⟩ = some (.int .i64 k) ∧ W.cell? ⟨q, 1, none⟩ = some (.int .i64 s) ∧ W.cell? ⟨q, 2, none⟩ = some (.int .i64 n) ∧ W.cell? ⟨q, 3, none⟩ = some (.int .i64 sp) ∧ W.cell? ⟨q, 4, none⟩ = some (.int .i64 now) ∧ W.cell? ⟨q, 5, none⟩ = some (.slice A m c) ∧ Below w1.heap.size w1 W) → Calls Tryz.prog 54 #[.int .i64 y, .int .i64 z, .string u] W fun e w' => e = .returned (.agg #[.int .i64 y, .int .i64 z, .string u]) ∧ (w'.cell? ⟨q, 0, none⟩ = some (.int .i64 k) ∧ w'.cell? ⟨q, 1, none⟩ = some (.int .i64 s) ∧ w'.cell? ⟨q, 2, none⟩ = some (.int .i64 n) ∧ w'.cell? ⟨q, 3, none⟩ = some (.int .i64 sp) ∧ w'.cell? ⟨q, 4, none⟩ = some (.int .i64 now) ∧ w'.cell? ⟨q, 5, none⟩ = some (.slice A m c) ∧ Below w1.heap.size w1 w')) := Lib.hid (fun y z u W hS => by
    obtain ⟨-, -, -, -, -, -, hW⟩ := hS
    refine (field_any y z u W).mono ?_
    rintro e w' ⟨rfl, hb⟩
    exact ⟨rfl, HS.out _ (hW.trans (hb.mono hW.size))⟩)
  obtain ⟨q0, q1, q2, q3, q4, q5, -⟩ := HS.out w1 (Below.refl _ _)
  obtain ⟨i0, hi, hz0, hz1, hz2⟩ := info_parts infoF
  clear h hw1 eq hb1 hq hR hv
  go_enter Tryz.func23, Tryz.ntmps23
  go_upto_region 1 with fail
  rw [← HW1.out, ← EQ.out]
  go_region_held3 (fun W => W.cell? ⟨q, 0, none⟩ = some (.int .i64 k) ∧ W.cell? ⟨q, 1, none⟩ = some (.int .i64 s) ∧ W.cell? ⟨q, 2, none⟩ = some (.int .i64 n) ∧ W.cell? ⟨q, 3, none⟩ = some (.int .i64 sp) ∧ W.cell? ⟨q, 4, none⟩ = some (.int .i64 now) ∧ W.cell? ⟨q, 5, none⟩ = some (.slice A m c) ∧ Below w1.heap.size w1 W)
    (first
      | exact HS.out _ (Below.refl _ _).drew
      | (with_reducible assumption)
      | (with_reducible exact HSA.out _ _ (by with_reducible assumption)))
    (first
      | (go_at_call 54; (with_reducible refine (HC.out _ _ _ _ (by with_reducible assumption)).mono ?_); rintro e w3 ⟨rfl, hS3⟩))
  obtain ⟨-, -, -, -, -, -, hW3⟩ := hS3
  obtain ⟨b, eb⟩ : ∃ b, b = w3.heap.size := ⟨_, rfl⟩
  obtain ⟨w2, hw2⟩ : ∃ w2, w2 = w3.alloc (.cells #[.int .i64 1, .int .i64 k, .string ⟨#[]⟩, .int .i64 2, .int .i64 s, .string ⟨#[]⟩, .int .i64 2, .int .i64 n, .string ⟨#[]⟩, .int .i64 2, .int .i64 sp, .string ⟨#[]⟩, .int .i64 2, .int .i64 now, .string ⟨#[]⟩, .int .i64 1, .int .i64 (m : Int), .string ⟨#[]⟩] 112) := ⟨_, rfl⟩
  have hbk : w2.heap[b]? = some (.cells (fcs (hdF k s n sp now m)).toArray 112 (0, 0)) := by rw [hw2, eb]; exact new_block w3 _
  have hge2 : w1.heap.size ≤ b := by rw [eb]; exact hW3.size
  have hbw2 : Below w1.heap.size w1 w2 := by rw [hw2]; exact hW3.trans ((box_below w3 _).mono hW3.size)
  have HOW : Hid (w2.ownsRow w1.heap.size 112 3 (.slice (some ⟨b, 0, none⟩) 6 6) (hdF k s n sp now m ++ (l.take 0).flatMap chF).length (fcs (hdF k s n sp now m ++ (l.take 0).flatMap chF))) := Lib.hid (Lq.own_new hbk hge2 (by unfold maxLen; omega) rfl)
  have hq2 := blk_below HQ.out hbw2
  have HB2 := Lib.hid hbw2
  have HW2 := Lib.hid hw2
  have EB := Lib.hid eb
  rw [← EB.out, ← HW2.out]
  clear hW3 hw2 eb hbk hge2 hbw2 q0 q1 q2 q3 q4 q5
  go_wp2_with fail
  clear hq2
  go_loopw [4, 5] (fun u i wr => ∃ (j : Nat), j ≤ m ∧ i = .int .i64 j ∧ Hid (wr.ownsRow w1.heap.size 112 3 u (hdF k s n sp now m ++ (l.take j).flatMap chF).length (fcs (hdF k s n sp now m ++ (l.take j).flatMap chF))) ∧ Hid (Below w1.heap.size w1 wr)) (fun _ i _ => m - (intOf i).toNat)
  case atStart => exact ⟨0, Nat.zero_le _, rfl, HOW, HB2⟩
  case round =>
    obtain ⟨j, hj, rfl, HOJ, HX⟩ := hrel
    have hqr := blk_below HQ.out HX.out
    have q5 := cell_of hqr (j := 5) rfl
    clear hqr
    by_cases hlt : j < m
    · obtain ⟨b0, off, x, hA, hx, hcc⟩ := (HR.out.below HX.out).at hlt
      subst hA
      have c0 : wr.cell? ⟨b0, off + j * 6, none⟩ = some (.int .i64 x.kind) := hcc 0 _ rfl
      have c1 : wr.cell? ⟨b0, off + j * 6 + 1, none⟩ = some (.string (B x.path)) := hcc 1 _ rfl
      have c2 : wr.cell? ⟨b0, off + j * 6 + 2, none⟩ = some (.string (B x.data)) := hcc 2 _ rfl
      have c3 : wr.cell? ⟨b0, off + j * 6 + 3, none⟩ = some (.int .i64 x.ver) := hcc 3 _ rfl
      have c4 : wr.cell? ⟨b0, off + j * 6 + 4, none⟩ = some (.bool x.eph) := hcc 4 _ rfl
      have c5 : wr.cell? ⟨b0, off + j * 6 + 5, none⟩ = some (.bool x.sq) := hcc 5 _ rfl
      have hjl : j < l.length := by rw [HL.out]; exact hlt
      have HMX : Hid (x ∈ l) := Lib.hid (List.mem_of_getElem? hx)
      have HTK : Hid (hdF k s n sp now m ++ (l.take (j + 1)).flatMap chF = (hdF k s n sp now m ++ (l.take j).flatMap chF) ++ chF x) := Lib.hid (by
        have e : l[j] = x := by rw [List.getElem?_eq_getElem hjl] at hx; injection hx
        rw [List.take_succ_eq_append_getElem hjl, e, List.flatMap_append, List.append_assoc]
        simp)
      have HLN : Hid ((hdF k s n sp now m ++ (l.take j).flatMap chF).length ≤ 6006) := Lib.hid (by
        rw [List.length_append, ch_len, List.length_take]
        show 6 + _ ≤ 6006
        omega)
      obtain ⟨w3, hw3⟩ : ∃ w3, w3 = wr.alloc (.cells #[.int .i64 x.kind, .string (B x.path), .string (B x.data), .int .i64 x.ver, .bool x.eph, .bool x.sq] 79) := ⟨_, rfl⟩
      obtain ⟨r, er⟩ : ∃ r, r = wr.heap.size := ⟨_, rfl⟩
      have hb3 : Below wr.heap.size wr w3 := by rw [hw3]; exact box_below wr _
      have hr : w3.heap[r]? = some (.cells #[.int .i64 x.kind, .string (B x.path), .string (B x.data), .int .i64 x.ver, .bool x.eph, .bool x.sq] 79 (0, 0)) := by rw [hw3, er]; exact new_block wr _
      have hX3 := HX.out.trans (hb3.mono HX.out.size)
      have HX3 := Lib.hid hX3
      have HO3 := Lib.hid (own_below HOJ.out hb3)
      have r0 := cell_of hr (j := 0) rfl
      have r1 := cell_of hr (j := 1) rfl
      have r2 := cell_of hr (j := 2) rfl
      have r3 := cell_of hr (j := 3) rfl
      have r4 := cell_of hr (j := 4) rfl
      have r5 := cell_of hr (j := 5) rfl
      have hj0 : (0 : Int) ≤ (j : Int) := by omega
      have hji : (j : Int) < (m : Int) := by omega
      have hwj : IntKind.i64.wrap ((j : Int) + 1) = (j : Int) + 1 := by rw [IntKind.wrap_i64]; omega
      have HW3 := Lib.hid hw3
      have ER := Lib.hid er
      have HRB := Lib.hid hr
      obtain ⟨N, hN⟩ : ∃ N, (hdF k s n sp now m ++ (l.take j).flatMap chF).length = N := ⟨_, rfl⟩
      obtain ⟨G, hG⟩ : ∃ G, hdF k s n sp now m ++ (l.take j).flatMap chF = G := ⟨_, rfl⟩
      rw [hN] at HO3 HLN
      rw [hG] at HO3 HTK hN
      have HN := Lib.hid hN
      have ho3 := HO3.out
      obtain ⟨A3, e3, rfl, -, -, -⟩ := own_form ho3
      obtain ⟨t1, h1⟩ : ∃ t, decide (x.ver < -1) = t := ⟨_, rfl⟩
      obtain ⟨t2, h2⟩ : ∃ t, decide (4611686018427387904 ≤ x.ver) = t := ⟨_, rfl⟩
      have HV1 : Hid ((t1 || t2) = true → encS ⟨k, s, n, sp, now, l⟩ = none) := Lib.hid (fun hh => by
        refine enc_ver (c := x) HVV.out HMX.out ?_
        rw [← h1, ← h2] at hh
        simpa using hh)
      have HSW : Hid (∀ W, W.heap[r]? = some (.cells #[.int .i64 x.kind, .string (B x.path), .string (B x.data), .int .i64 x.ver, .bool x.eph, .bool x.sq] 79 (0, 0)) → Below w1.heap.size w1 W → W.cell? ⟨r, 0, none⟩ = some (.int .i64 x.kind) ∧ W.cell? ⟨r, 1, none⟩ = some (.string (B x.path)) ∧ W.cell? ⟨r, 2, none⟩ = some (.string (B x.data)) ∧ W.cell? ⟨r, 3, none⟩ = some (.int .i64 x.ver) ∧ W.cell? ⟨r, 4, none⟩ = some (.bool x.eph) ∧ W.cell? ⟨r, 5, none⟩ = some (.bool x.sq) ∧ Below w1.heap.size w1 W) := Lib.hid (fun W h hW => ⟨cell_of h (j := 0) rfl, cell_of h (j := 1) rfl, cell_of h (j := 2) rfl, cell_of h (j := 3) rfl, cell_of h (j := 4) rfl, cell_of h (j := 5) rfl, hW⟩)
      have HQW : Hid (∀ W, Below w3.heap.size w3 W → W.cell? ⟨r, 0, none⟩ = some (.int .i64 x.kind) ∧ W.cell? ⟨r, 1, none⟩ = some (.string (B x.path)) ∧ W.cell? ⟨r, 2, none⟩ = some (.string (B x.data)) ∧ W.cell? ⟨r, 3, none⟩ = some (.int .i64 x.ver) ∧ W.cell? ⟨r, 4, none⟩ = some (.bool x.eph) ∧ W.cell? ⟨r, 5, none⟩ = some (.bool x.sq) ∧ Below w1.heap.size w1 W) := Lib.hid (fun W hW => HSW.out W (blk_below hr hW) (hX3.trans (hW.mono hX3.size)))
      have HOQ : Hid (∀ W, Below w3.heap.size w3 W → W.ownsRow w1.heap.size 112 3 (.slice A3 N e3) N (fcs G)) := Lib.hid (fun W hW => own_below ho3 hW)
      have HQA : Hid (∀ W o, Below w3.heap.size w3 W → Below w3.heap.size w3 (W.alloc o)) := Lib.hid (fun W o hW => hW.trans ((box_below W o).mono hW.size))
      have HFC : Hid (∀ (y z : Int) (u : ByteArray) W, Below w3.heap.size w3 W → Calls Tryz.prog 54 #[.int .i64 y, .int .i64 z, .string u] W fun e w' => e = .returned (.agg #[.int .i64 y, .int .i64 z, .string u]) ∧ Below w3.heap.size w3 w') := Lib.hid (fun y z u W hW => by
        refine (field_any y z u W).mono ?_
        rintro e w' ⟨rfl, hb⟩
        exact ⟨rfl, hW.trans (hb.mono hW.size)⟩)
      have HNB := Lib.hid (fun b W => vnum_any b W)
      have HSG : Hid (∀ W o w6, Below w3.heap.size w3 W → (W.alloc o).grownBy w6 (Value.slice A3 N e3).ownBlock → w6.cell? ⟨r, 0, none⟩ = some (.int .i64 x.kind) ∧ w6.cell? ⟨r, 1, none⟩ = some (.string (B x.path)) ∧ w6.cell? ⟨r, 2, none⟩ = some (.string (B x.data)) ∧ w6.cell? ⟨r, 3, none⟩ = some (.int .i64 x.ver) ∧ w6.cell? ⟨r, 4, none⟩ = some (.bool x.eph) ∧ w6.cell? ⟨r, 5, none⟩ = some (.bool x.sq) ∧ Below w1.heap.size w1 w6) := Lib.hid (fun W o w6 hW hg => by
        have hWo := hW.trans ((box_below W o).mono hW.size)
        have hoo := own_below ho3 hWo
        refine HSW.out w6 (gbo_blk hoo hg (blk_below hr hWo) (by decide)) ?_
        exact (hX3.trans (hWo.mono hX3.size)).trans (Lq.gb_own hoo hg (Nat.le_refl _) (Nat.le_trans hX3.size hWo.size)))
      have hsz3 := hX3.size
      have hln := HLN.out
      clear hx hcc hw3 er hb3 hr hN hG ho3 hX3
      go_upto_region 6 with fail
      rw [← HW3.out, ← ER.out]
      clear c0 c1 c2 c3 c4 c5 q5
      cases t1 with
      | true =>
        have HE : Hid (CePost w R (.returned (.tuple #[.slice none 0 0, .int .i64 110])) w3) := Lib.hid (ce_none (by rw [← HRR.out]; exact HV1.out (by simp)) (HB1.out.trans (HX3.out.mono HB1.out.size)))
        go_wp2_with fail
        exact bodyPost_ret (v := .tuple #[.slice none 0 0, .int .i64 110]) (by simp [results, Tryz.results23, go_sem]) rfl HE.out
      | false =>
        cases t2 with
        | true =>
          have HE : Hid (CePost w R (.returned (.tuple #[.slice none 0 0, .int .i64 110])) w3) := Lib.hid (ce_none (by rw [← HRR.out]; exact HV1.out (by simp)) (HB1.out.trans (HX3.out.mono HB1.out.size)))
          go_wp2_with fail
          exact bodyPost_ret (v := .tuple #[.slice none 0 0, .int .i64 110]) (by simp [results, Tryz.results23, go_sem]) rfl HE.out
        | false =>
          go_upto_region 8 with fail
          have hD : Below w3.heap.size w3 w3.drew := (Below.refl _ _).drew
          go_region_held3 (fun W => W.cell? ⟨r, 0, none⟩ = some (.int .i64 x.kind) ∧ W.cell? ⟨r, 1, none⟩ = some (.string (B x.path)) ∧ W.cell? ⟨r, 2, none⟩ = some (.string (B x.data)) ∧ W.cell? ⟨r, 3, none⟩ = some (.int .i64 x.ver) ∧ W.cell? ⟨r, 4, none⟩ = some (.bool x.eph) ∧ W.cell? ⟨r, 5, none⟩ = some (.bool x.sq) ∧ Below w1.heap.size w1 W)
            (first
              | exact HQW.out _ (Below.refl _ _).drew
              | (with_reducible assumption)
              | (with_reducible exact HQW.out _ (HQA.out _ _ (by with_reducible assumption)))
              | (with_reducible exact HSG.out _ _ _ (by with_reducible assumption) hgrow))
            (first
              | (go_at_call 54; (with_reducible refine (HFC.out _ _ _ _ (by with_reducible assumption)).mono ?_); rintro e w5 ⟨rfl, hQ5⟩; have hS5 := HQW.out _ hQ5)
              | (go_at_call 55; (with_reducible refine (HNB.out _ _).mono ?_); rintro e w5 ⟨rfl, rfl⟩)
              | (refine step_append_lies _ (by rfl) _ _ _ (by rfl) w1.heap.size 112 i0 _ 3 32 Tryz.underlying107 hi hz0 hz1 hz2 rfl (by decide) (.slice A3 N e3) N (fcs G) (by rfl) (HOQ.out _ (HQA.out _ _ (by with_reducible assumption))) _ 6 6 (fcs (chF x)) (by rfl) rfl (World.news_of_block (new_block _ _)) (fcs_one _) (by decide) (by unfold maxLen; omega) (by omega) (by have := hQ5.size; simp; omega) _ rfl ?_; intro g cap w6 hown hgrow hat hlt6; have hWLAST := hQ5))
          have hs6 := HSG.out _ _ _ hWLAST hgrow
          obtain ⟨-, -, -, -, -, -, hX6⟩ := hs6
          have HX6 := Lib.hid hX6
          have HO6 : Hid (w6.ownsRow w1.heap.size 112 3 (.slice (some ⟨g, 0, none⟩) (N + 6) cap) (hdF k s n sp now m ++ (l.take (j + 1)).flatMap chF).length (fcs (hdF k s n sp now m ++ (l.take (j + 1)).flatMap chF))) := Lib.hid (by
            rw [HTK.out, List.length_append, HN.out, fcs_append]
            exact hown)
          clear hown hgrow hat hlt6 hWLAST hX6
          go_wp2_with fail
          go_roundw
          case rel => exact ⟨j + 1, by omega, by go_num, HO6, HX6⟩
          case measure => simp [intOf]; omega
    · obtain rfl : j = m := by omega
      have hji : ¬ (j : Int) < (j : Int) := by omega
      have HFL : Hid (hdF k s n sp now j ++ (l.take j).flatMap chF = flds ⟨k, s, n, sp, now, l⟩) := Lib.hid (by
        unfold flds
        rw [← HL.out, List.take_length])
      have hown := HOJ.out
      rw [HFL.out] at hown
      obtain ⟨A5, c5, rfl, hfr⟩ := Pq.fields_own hown
      have HLL : Hid ((flds ⟨k, s, n, sp, now, l⟩).length ≤ 6006) := Lib.hid (by
        unfold flds
        rw [List.length_append, ch_len]
        show 6 + l.length * 6 ≤ 6006
        rw [HL.out]
        omega)
      obtain ⟨N, hN⟩ : ∃ N, (flds ⟨k, s, n, sp, now, l⟩).length = N := ⟨_, rfl⟩
      rw [hN] at hfr HLL ⊢
      have HPE := Lib.hid (Pq.rencode_any A5 N c5 _ wr hfr (by have := HLL.out; omega))
      clear hown hfr hN
      go_wp2_with fail
      refine HPE.out.mono ?_
      rintro e w7 ⟨A7, n7, c7, rfl, hn7, hr7, hc7, hm7, hb7⟩
      have HB7 : Hid (Below w.heap.size w w7) := Lib.hid (HB1.out.trans ((HX.out.trans (hb7.mono HX.out.size)).mono HB1.out.size))
      have hq7 := blk_below HQ.out (HX.out.trans (hb7.mono HX.out.size))
      have y5 := cell_of hq7 (j := 5) rfl
      clear q5 hq7
      obtain ⟨er, her⟩ : ∃ er, errL (flds ⟨k, s, n, sp, now, l⟩) = er := ⟨_, rfl⟩
      rw [her]
      by_cases he0 : er = 0
      · have hbb := encB_good (her.trans he0)
        rw [hbb] at hn7 hr7
        by_cases h6 : 6 < j
        · have HE : Hid (CePost w R (.returned (.tuple #[.slice none 0 0, .int .i64 110])) w7) := Lib.hid (ce_none (by rw [← HRR.out]; exact enc_long (by show 6 < l.length; rw [HL.out]; exact h6)) HB7.out)
          have h6i : decide ((6 : Int) < (j : Int)) = true := by simpa using (by omega : (6 : Int) < (j : Int))
          have h6n : decide (6 < j) = true := by simpa using h6
          subst he0
          clear hn7 hr7 hc7 hm7 hb7 her hbb
          go_wp2_with fail
          exact bodyPost_ret (v := .tuple #[.slice none 0 0, .int .i64 110]) (by simp [results, Tryz.results23, go_sem]) rfl HE.out
        · have h6i : decide ((6 : Int) < (j : Int)) = false := by simpa using (by omega : ¬ (6 : Int) < (j : Int))
          have h6n : decide (6 < j) = false := by simpa using h6
          by_cases hbig : 4096 < n7
          · have HE : Hid (CePost w R (.returned (.tuple #[.slice none 0 0, .int .i64 110])) w7) := Lib.hid (ce_none (by rw [← HRR.out]; exact enc_big (by rw [← hn7]; exact hbig)) HB7.out)
            have hbi' : decide ((4096 : Int) < (n7 : Int)) = true := by simpa using (by omega : (4096 : Int) < (n7 : Int))
            have hbn : decide (4096 < n7) = true := by simpa using hbig
            subst he0
            clear hn7 hr7 hc7 hm7 hb7 her hbb
            go_wp2_with fail
            exact bodyPost_ret (v := .tuple #[.slice none 0 0, .int .i64 110]) (by simp [results, Tryz.results23, go_sem]) rfl HE.out
          · have HE : Hid (CePost w R (.returned (.tuple #[.slice A7 n7 c7, .int .i64 0])) w7) := Lib.hid (ce_some (by rw [← HRR.out]; exact enc_good (by show l.length ≤ 6; rw [HL.out]; omega) (her.trans he0) (by rw [← hn7]; omega)) hn7 hr7 hc7 hm7 HB7.out)
            have hbi' : decide ((4096 : Int) < (n7 : Int)) = false := by simpa using (by omega : ¬ (4096 : Int) < (n7 : Int))
            have hbn : decide (4096 < n7) = false := by simpa using hbig
            subst he0
            clear hn7 hr7 hc7 hm7 hb7 her hbb
            go_wp2_with fail
            exact bodyPost_ret (v := .tuple #[.slice A7 n7 c7, .int .i64 0]) (by simp [results, Tryz.results23, go_sem]) rfl HE.out
      · have HE : Hid (CePost w R (.returned (.tuple #[.slice none 0 0, .int .i64 110])) w7) := Lib.hid (ce_none (by rw [← HRR.out]; exact enc_err (by rw [her]; exact he0)) HB7.out)
        have he1 : (er == 0) = false := by simpa using he0
        clear hn7 hr7 hc7 hm7 hb7 her
        go_wp2_with fail
        exact bodyPost_ret (v := .tuple #[.slice none 0 0, .int .i64 110]) (by simp [results, Tryz.results23, go_sem]) rfl HE.out
end Go.Proofs.YtflgemlhocjipaaGreatDoor
