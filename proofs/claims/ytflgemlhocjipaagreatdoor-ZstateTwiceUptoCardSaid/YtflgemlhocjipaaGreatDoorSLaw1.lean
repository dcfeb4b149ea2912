/-
  What the law's stands returns of a state and a document's state that are alike: true. Condition: the state is good.
  What the law's plays returns: the document's state goes as the program's, and every reply and all events are the document's. Condition: memory holds both states and the script; no path is very long.
  What ZstateAll answers. Condition: memory holds the script; no path is very long.
-/
import Derived.Test.YtflgemlhocjipaaGreatDoorSSame
import Derived.Test.YtflgemlhocjipaaGreatDoorSSeen
import Derived.Test.YtflgemlhocjipaaGreatDoorSShare
import Derived.Test.YtflgemlhocjipaaGreatDoorSDoc4
import Derived.Test.YtflgemlhocjipaaGreatDoorRef6
namespace Go.Proofs.YtflgemlhocjipaaGreatDoor
set_option maxRecDepth 100000
open Go.ChangeShapes Go.WideShapes Go.ChangeAt Go.RowKit Go.Proofs.Zn Go.Proofs.Zt
open Go.Proofs.Zs (St Lst Rep Tx)

theorem alk_seen {S : St} (hg : Zs.Gd S) : Alk ⟨S.z, S.T, S.L, seenD S.D S.L⟩ S := ⟨rfl, rfl, rfl, fun x hx => by
  dsimp only at hx ⊢
  rw [seen_fd hg hx]
  exact ⟨rfl, rfl⟩⟩
theorem seen_like {w : World} {B B2 : Nat} {S : St} {vT vL vD vT2 vL2 vD2 : Value} (hg : Zs.Gd S) (hD : S.D.length ≤ 100000) (h : RW w B vT vL vD ⟨S.z, S.T, S.L, seenD S.D S.L⟩) (h2 : RW w B2 vT2 vL2 vD2 S) :
    Calls Tryz.prog 21 #[.agg #[.int .i64 S.z, vT, vL, vD], .agg #[.int .i64 S.z, vT2, vL2, vD2]] w fun e w' => e = .returned (.bool true) ∧ Below w.heap.size w w' :=
  vsame_any (S := ⟨S.z, S.T, S.L, seenD S.D S.L⟩) (S2 := S) h h2 (alk_seen hg) (Nat.le_trans hg.T.len (by decide)) (Nat.le_trans hg.L.len (by decide)) (Nat.le_trans (seen_len _ _) (Nat.le_trans hg.L.len (by decide))) hD (fun x hx => by
    dsimp only
    rw [seen_fd hg hx]
    have h9 := (fd_ps hg x.i).1
    omega)
theorem seen_like' {w : World} {B B2 : Nat} {S : St} {vT vL vD vT2 vL2 vD2 : Value} (hg : Zs.Gd S) (hD : S.D.length ≤ 100000) (h : RW w B vT vL vD ⟨S.z, S.T, S.L, seenD S.D S.L⟩) (h2 : RW w B2 vT2 vL2 vD2 S) :
    Calls Tryz.prog 21 #[.agg #[.int .i64 S.z, vT2, vL2, vD2], .agg #[.int .i64 S.z, vT, vL, vD]] w fun e w' => e = .returned (.bool true) ∧ Below w.heap.size w w' :=
  vsame_any (S := S) (S2 := ⟨S.z, S.T, S.L, seenD S.D S.L⟩) h2 h (alk_seen hg).symm (Nat.le_trans hg.T.len (by decide)) (Nat.le_trans hg.L.len (by decide)) hD (Nat.le_trans (seen_len _ _) (Nat.le_trans hg.L.len (by decide))) (fun x hx => by
    have h9 := (fd_ps hg x.i).1
    omega)
set_option maxHeartbeats 4000000 in
theorem stands_any {w : World} {B B2 sp : Nat} {S : St} {vT vL vD : Value} (h : StW w B sp S) (hg : Zs.Gd S) (hD : S.D.length ≤ 100000) (h2 : RW w B2 vT vL vD S) :
    Calls Tryz.prog 15 #[.pointer (some ⟨sp, 0, none⟩), .agg #[.int .i64 S.z, vT, vL, vD]] w fun e w' => e = .returned (.bool true) ∧ Below w.heap.size w w' := by
  obtain ⟨⟨A1, c1, rfl, -, -⟩, ⟨A2, c2, rfl, -⟩, ⟨A3, c3, l3, rfl, -, -⟩⟩ := id h2
  obtain ⟨nT, hnT⟩ : ∃ n, S.T.length = n := ⟨_, rfl⟩
  obtain ⟨nL, hnL⟩ : ∃ n, S.L.length = n := ⟨_, rfl⟩
  obtain ⟨nD, hnD⟩ : ∃ n, l3.length = n := ⟨_, rfl⟩
  rw [hnT, hnL, hnD] at h2 ⊢
  obtain ⟨w1, hw1⟩ : ∃ xx, xx = w.alloc (.cells #[.int .i64 S.z, .slice A1 nT c1, .slice A2 nL c2, .slice A3 nD c3] 31) := ⟨_, rfl⟩
  obtain ⟨q, eq⟩ : ∃ xx, xx = w.heap.size := ⟨_, rfl⟩
  have hbw1 : Below w.heap.size w w1 := by rw [hw1]; exact box_below w _
  have hkq : w1.heap[q]? = some (.cells #[.int .i64 S.z, .slice A1 nT c1, .slice A2 nL c2, .slice A3 nD c3] 31 (0, 0)) := by rw [hw1, eq]; exact new_block w _
  have HSE := Lib.hid (seen_any (h.below hbw1) hg)
  have HG := Lib.hid hg
  have HDL := Lib.hid hD
  have HB1 := Lib.hid hbw1
  have HQ1 := Lib.hid hkq
  have HD1 := Lib.hid (h2.below hbw1)
  have HW1 := Lib.hid hw1
  have EQ := Lib.hid eq
  clear h hg hD h2 hbw1 hkq hw1 eq hnT hnL hnD
  go_enter Tryz.func15, Tryz.ntmps15
  go_upto_region 1 with fail
  rw [← HW1.out, ← EQ.out]
  go_wp2_with fail
  refine HSE.out.mono ?_
  rintro e w2 ⟨vT2, vL2, vD2, rfl, hr2, hb2⟩
  obtain ⟨⟨A4, c4, rfl, -, -⟩, ⟨A5, c5, rfl, -⟩, ⟨A6, c6, l6, rfl, -, -⟩⟩ := id hr2
  dsimp only at *
  obtain ⟨mT, hmT⟩ : ∃ n, S.T.length = n := ⟨_, rfl⟩
  obtain ⟨mL, hmL⟩ : ∃ n, S.L.length = n := ⟨_, rfl⟩
  obtain ⟨mD, hmD⟩ : ∃ n, l6.length = n := ⟨_, rfl⟩
  rw [hmT, hmL, hmD] at hr2 ⊢
  obtain ⟨w3, hw3⟩ : ∃ xx, xx = w2.alloc (.cells #[.int .i64 S.z, .slice A4 mT c4, .slice A5 mL c5, .slice A6 mD c6] 31) := ⟨_, rfl⟩
  obtain ⟨r, er⟩ : ∃ xx, xx = w2.heap.size := ⟨_, rfl⟩
  have hbw3 : Below w2.heap.size w2 w3 := by rw [hw3]; exact box_below w2 _
  have hkr : w3.heap[r]? = some (.cells #[.int .i64 S.z, .slice A4 mT c4, .slice A5 mL c5, .slice A6 mD c6] 31 (0, 0)) := by rw [hw3, er]; exact new_block w2 _
  have hb13 := hb2.trans (hbw3.mono hb2.size)
  have HB3 : Hid (Below w.heap.size w w3) := Lib.hid (HB1.out.trans (hb13.mono HB1.out.size))
  have hq3 := blk_below HQ1.out hb13
  have HA := Lib.hid (hr2.below hbw3)
  have HD3 := Lib.hid (HD1.out.below hb13)
  have HS1 := Lib.hid (seen_like HG.out HDL.out HA.out HD3.out)
  have HQ3 := Lib.hid hq3
  have HR3 := Lib.hid hkr
  have HW3 := Lib.hid hw3
  have ER := Lib.hid er
  have s0 := cell_of hq3 (j := 0) rfl
  have s1 := cell_of hq3 (j := 1) rfl
  have s2 := cell_of hq3 (j := 2) rfl
  have s3 := cell_of hq3 (j := 3) rfl
  have t0 := cell_of hkr (j := 0) rfl
  have t1 := cell_of hkr (j := 1) rfl
  have t2 := cell_of hkr (j := 2) rfl
  have t3 := cell_of hkr (j := 3) rfl
  clear hr2 hb2 hbw3 hb13 hq3 hkr hw3 er hmT hmL hmD
  go_upto_region 2 with fail
  rw [← HW3.out, ← ER.out]
  go_wp2_with fail
  refine HS1.out.mono ?_
  rintro e w4 ⟨rfl, hb4⟩
  have hq4 := blk_below HQ3.out hb4
  have hr4 := blk_below HR3.out hb4
  have HS2 := Lib.hid (seen_like' HG.out HDL.out (HA.out.below hb4) (HD3.out.below hb4))
  have HB4 := Lib.hid (HB3.out.trans (hb4.mono HB3.out.size))
  have x0 := cell_of hq4 (j := 0) rfl
  have x1 := cell_of hq4 (j := 1) rfl
  have x2 := cell_of hq4 (j := 2) rfl
  have x3 := cell_of hq4 (j := 3) rfl
  have y0 := cell_of hr4 (j := 0) rfl
  have y1 := cell_of hr4 (j := 1) rfl
  have y2 := cell_of hr4 (j := 2) rfl
  have y3 := cell_of hr4 (j := 3) rfl
  clear hb4 hq4 hr4
  go_wp2_with fail
  refine HS2.out.mono ?_
  rintro e w5 ⟨rfl, hb5⟩
  have HE := Lib.hid (HB4.out.trans (hb5.mono HB4.out.size))
  clear hb5
  go_wp2_with fail
  go_ret
  exact ⟨rfl, HE.out⟩
end Go.Proofs.YtflgemlhocjipaaGreatDoor
namespace Go.Proofs.YtflgemlhocjipaaGreatDoor
set_option maxRecDepth 100000
open Go.ChangeShapes Go.WideShapes Go.ChangeAt Go.RowKit Go.Proofs.Zn Go.Proofs.Zt
open Go.Proofs.Zs (St Lst Rep Tx)

theorem do_lens {T : Tr} {zx se : Int} {l : List Chg} : (doL T zx se l).ps.length ≤ l.length ∧ (doL T zx se l).es.length ≤ 2 * l.length := by
  have key : ∀ (l : List Chg) (T0 T : Tr) (ps : List Txt) (es : List Evt), (doGo T0 zx se T ps es l).ps.length ≤ ps.length + l.length ∧ (doGo T0 zx se T ps es l).es.length ≤ es.length + 2 * l.length := by
    intro l
    induction l with
    | nil => intro T0 T ps es; simp [doGo]
    | cons c l ih =>
      intro T0 T ps es
      unfold doGo
      split
      · simp
      · obtain ⟨a, b⟩ := ih T0 (Zt.one T zx se c).T (ps ++ [(Zt.one T zx se c).path]) (es ++ (Zt.one T zx se c).evs)
        have := one_evs T zx se c
        simp only [List.length_append, List.length_cons, List.length_nil] at a b ⊢
        omega
  unfold doL
  split
  · simp
  · have := key l T T [] []
    simpa using this
theorem end_lens {T : Tr} (hg : Zt.Good T) (zx se : Int) : (endL T zx se).2.length ≤ 400 := by
  have h1 := (end_do hg zx se).2
  have h2 := (do_lens (T := T) (zx := zx) (se := se) (l := (owned T se).map delC)).2
  have h3 : (owned T se).length ≤ T.length := by unfold owned; rw [List.length_map]; exact List.length_filter_le _ _
  have := hg.len
  rw [h1, List.length_map] at h2
  omega
theorem chg_lens {S : St} (hg : Zs.Gd S) (t : Tx) : (Zs.chg S t).2.1.ps.length ≤ 6 ∧ (Zs.chg S t).2.2.length ≤ 400 := by
  unfold Zs.chg
  split
  · exact ⟨by simp [Zs.er], by simp⟩
  · rename_i h
    split
    · exact ⟨(fd_ps hg t.s).1, by simp⟩
    · have h1 := (do_lens (T := S.T) (zx := S.z) (se := t.s) (l := t.l))
      dsimp only
      omega
theorem app_lens {S : St} (hg : Zs.Gd S) (zx : Int) (t : Tx) : (Zs.app S zx t).2.1.ps.length ≤ 6 ∧ (Zs.app S zx t).2.2.length ≤ 400 := by
  unfold Zs.app
  split
  · exact ⟨by simp [Zs.er], by simp⟩
  · rename_i h
    have hz := Zs.badZ_false (by simpa using h)
    have hg' : Zs.Gd ⟨zx, S.T, S.L, S.D⟩ := Zs.set_gd hg (by have := hg.z0; omega) hz.2
    unfold Zs.doS
    split
    · unfold Zs.opnS; dsimp only; split <;> exact ⟨by simp [Zs.er], by simp⟩
    · split
      · unfold Zs.renS; exact ⟨by simp [Zs.er], by simp⟩
      · split
        · exact ⟨by simp [Zs.er], by simp⟩
        · unfold Zs.forS
          split
          · exact ⟨by simp [Zs.er], by simp⟩
          · split
            · exact chg_lens hg' t
            · split
              · exact ⟨by simp [Zs.er], by simp⟩
              · unfold Zs.fin
                exact ⟨by simp [Zs.er], end_lens hg'.T _ _⟩
/-- What stands between two steps. -/
structure Sy (B sp q r : Nat) (w : World) (S : St) (wr : World) : Prop where
  sk : SK B w wr
  st : StW wr B sp S
  row : ∃ A1 n1 c1 A2 n2 c2 A3 n3 c3, wr.heap[q]? = some (.cells #[.int .i64 S.z, .slice A1 n1 c1, .slice A2 n2 c2, .slice A3 n3 c3] 31 (0, 0)) ∧ RW wr B (.slice A1 n1 c1) (.slice A2 n2 c2) (.slice A3 n3 c3) S
  res : wr.heap[r]? = some (.cells #[.int .i64 0, .slice none 0 0, .slice none 0 0, .slice none 0 0] 31 (0, 0))
def SyPost (B sp : Nat) (S : St) (w : World) (e : Ending) (w' : World) : Prop := ∃ vT vL vD, e = .returned (.tuple #[.agg #[.int .i64 S.z, vT, vL, vD], .bool true]) ∧ StW w' B sp S ∧ RW w' B vT vL vD S ∧ SK B w w'
theorem Sy.below {B sp q r : Nat} {w wr w' : World} {S : St} (h : Sy B sp q r w S wr) (hb : Below wr.heap.size wr w') : Sy B sp q r w S w' := by
  obtain ⟨h1, h2, ⟨A1, n1, c1, A2, n2, c2, A3, n3, c3, h3, h4⟩, h5⟩ := h
  exact ⟨h1.trans (.of_below hb), h2.below hb, ⟨A1, n1, c1, A2, n2, c2, A3, n3, c3, blk_below h3 hb, h4.below hb⟩, blk_below h5 hb⟩
set_option maxHeartbeats 8000000 in
theorem plays_any {w : World} {B sp : Nat} {S : St} {vT vL vD : Value} (h : StW w B sp S) (hg : Zs.Gd S) (hB : B ≤ w.heap.size) (hr : RW w B vT vL vD S) {A : Option Addr} {n c : Nat} {l : List Opc} (hln : l.length = n) (hsc : ∀ W, SK B w W → Scr W A n l ∧ ∀ o ∈ l, Tg W B o.A o.m) (hP : ∀ o ∈ l, ∀ ch ∈ o.l, ch.path.length ≤ 2097152) (hD : S.D.length + n ≤ 10000) :
    Calls Tryz.prog 13 #[.pointer (some ⟨sp, 0, none⟩), .agg #[.int .i64 S.z, vT, vL, vD], .slice A n c] w (SyPost B sp (Zs.run S (l.map clO)) w) := by
  obtain ⟨⟨A1, c1, rfl, -, -⟩, ⟨A2, c2, rfl, -⟩, ⟨A3, c3, l3, rfl, -, -⟩⟩ := id hr
  obtain ⟨nT, hnT⟩ : ∃ n, S.T.length = n := ⟨_, rfl⟩
  obtain ⟨nL, hnL⟩ : ∃ n, S.L.length = n := ⟨_, rfl⟩
  obtain ⟨nD, hnD⟩ : ∃ n, l3.length = n := ⟨_, rfl⟩
  rw [hnT, hnL, hnD] at hr ⊢
  obtain ⟨w1, hw1, hbw1, hkq, hkr, hsw1⟩ := two_box w (.cells #[.int .i64 S.z, .slice A1 nT c1, .slice A2 nL c2, .slice A3 nD c3] 31) (.cells #[.int .i64 0, .slice none 0 0, .slice none 0 0, .slice none 0 0] 31)
  obtain ⟨q, eq⟩ : ∃ xx, xx = w.heap.size := ⟨_, rfl⟩
  obtain ⟨r, er⟩ : ∃ xx, xx = w.heap.size + 1 := ⟨_, rfl⟩
  rw [← eq] at hkq
  rw [← er] at hkr
  have HBQ : Hid (B ≤ q ∧ B ≤ r ∧ q ≠ r) := Lib.hid (by omega)
  have HPL : Hid (Sy B sp q r w (Zs.run S ((l.map clO).take 0)) w1) := Lib.hid ⟨.of_below hbw1, h.below hbw1, ⟨A1, nT, c1, A2, nL, c2, A3, nD, c3, hkq, hr.below hbw1⟩, hkr⟩
  have HG := Lib.hid hg
  have HSC := Lib.hid hsc
  have HP := Lib.hid hP
  have HDN := Lib.hid hD
  have HLN := Lib.hid hln
  have HW1 := Lib.hid hw1
  have EQ := Lib.hid eq
  have ER := Lib.hid er
  have HBW := Lib.hid hB
  clear h hg hB hr hln hsc hP hD hbw1 hkq hkr hsw1 hw1 eq er hnT hnL hnD
  go_enter Tryz.func13, Tryz.ntmps13
  go_upto_region 1 with fail
  rw [← HW1.out, ← ER.out, ← EQ.out]
  go_wp2_with fail
  go_loopw [17] (fun i wr => ∃ k : Nat, k ≤ n ∧ i = .int .i64 k ∧ Hid (Sy B sp q r w (Zs.run S ((l.map clO).take k)) wr)) (fun i _ => n - (intOf i).toNat)
  case atStart => exact ⟨0, Nat.zero_le _, rfl, HPL⟩
  case round =>
    obtain ⟨k, hk, rfl, HPL⟩ := hrel
    have hnn : n ≤ 10000 := by have := HDN.out; omega
    by_cases hlt : k < n
    · obtain ⟨b, off, x, rfl, hx, hc⟩ := (HSC.out wr HPL.out.sk).1.rd.at hlt
      have HGS : Hid (Zs.Gd (Zs.run S ((l.map clO).take k))) := Lib.hid (Zs.run_gd HG.out _)
      have HDK : Hid ((Zs.run S ((l.map clO).take k)).D.length ≤ 10000) := Lib.hid (by
        have h1 := Zs.run_D S ((l.map clO).take k)
        have h2 : ((l.map clO).take k).length ≤ k := by rw [List.length_take]; omega
        have := HDN.out
        omega)
      have HRS := Lib.hid (Zs.run_step (S := S) (l := l.map clO) (k := k) (o := clO x) (by rw [List.getElem?_map, hx]; rfl))
      obtain ⟨Sk, hSk⟩ : ∃ s, Zs.run S ((l.map clO).take k) = s := ⟨_, rfl⟩
      rw [hSk] at HPL HGS HRS HDK
      have hxm := List.mem_of_getElem? hx
      have a0 : wr.cell? ⟨b, off + k * 7, none⟩ = some (.int .i64 x.zx) := hc 0 _ rfl
      have a1 : wr.cell? ⟨b, off + k * 7 + 1, none⟩ = some (.int .i64 x.k) := hc 1 _ rfl
      have a2 : wr.cell? ⟨b, off + k * 7 + 2, none⟩ = some (.int .i64 x.s) := hc 2 _ rfl
      have a3 : wr.cell? ⟨b, off + k * 7 + 3, none⟩ = some (.int .i64 x.n) := hc 3 _ rfl
      have a4 : wr.cell? ⟨b, off + k * 7 + 4, none⟩ = some (.int .i64 x.sp) := hc 4 _ rfl
      have a5 : wr.cell? ⟨b, off + k * 7 + 5, none⟩ = some (.int .i64 x.now) := hc 5 _ rfl
      have a6 : wr.cell? ⟨b, off + k * 7 + 6, none⟩ = some (.slice x.A x.m x.c) := hc 6 _ rfl
      obtain ⟨w3, hw3⟩ : ∃ xx, xx = wr.alloc (.cells #[.int .i64 x.zx, .int .i64 x.k, .int .i64 x.s, .int .i64 x.n, .int .i64 x.sp, .int .i64 x.now, .slice x.A x.m x.c] 87) := ⟨_, rfl⟩
      obtain ⟨xb, exb⟩ : ∃ xx, xx = wr.heap.size := ⟨_, rfl⟩
      have hbw3 : Below wr.heap.size wr w3 := by rw [hw3]; exact box_below wr _
      have hkxb : w3.heap[xb]? = some (.cells #[.int .i64 x.zx, .int .i64 x.k, .int .i64 x.s, .int .i64 x.n, .int .i64 x.sp, .int .i64 x.now, .slice x.A x.m x.c] 87 (0, 0)) := by rw [hw3, exb]; exact new_block wr _
      have HPL3 := Lib.hid (HPL.out.below hbw3)
      have HX3 := Lib.hid hkxb
      obtain ⟨A4, n4, c4', A5, n5, c5', A6, n6, c6', hq3, hrw3⟩ := HPL3.out.row
      have hB3 : B ≤ w3.heap.size := Nat.le_trans HBW.out HPL3.out.sk.size
      obtain ⟨a, ha⟩ : ∃ a, Zs.app Sk x.zx (txO x) = a := ⟨_, rfl⟩
      have HVA := Lib.hid (vapply_any hrw3 hB3 HGS.out HDK.out x.zx (txO x) (ct := x.c) ((HSC.out w3 HPL3.out.sk).1.ok x hxm).rd (HP.out x hxm))
      rw [ha] at HVA
      have HAL : Hid (a.2.1.ps.length ≤ 6 ∧ a.2.2.length ≤ 400) := Lib.hid (by rw [← ha]; exact app_lens HGS.out _ _)
      have HAPP : Hid (∀ (W : World), SK B w W → StW W B sp Sk → Calls Tryz.prog 16 #[.pointer (some ⟨sp, 0, none⟩), .int .i64 x.zx, .agg #[.int .i64 x.k, .int .i64 x.s, .int .i64 x.n, .int .i64 x.sp, .int .i64 x.now, .slice x.A x.m x.c]] W (ApPost B sp a W)) := Lib.hid (fun W hW hS => by
        rw [← ha]
        exact apply_own hS HGS.out x.zx ((HSC.out W hW).1.ok x hxm) ((HSC.out W hW).2 x hxm))
      have HRN : Hid (Zs.run S ((l.map clO).take (k + 1)) = a.1) := Lib.hid (by rw [HRS.out, ← ha]; rfl)
      have HOWN : Hid (∀ (W : World), Calls Tryz.prog 17 #[.agg #[.int .i64 x.k, .int .i64 x.s, .int .i64 x.n, .int .i64 x.sp, .int .i64 x.now, .slice x.A x.m x.c]] W fun e w' => e = .returned (.agg #[.int .i64 x.k, .int .i64 x.s, .int .i64 x.n, .int .i64 x.sp, .int .i64 x.now, .slice x.A x.m x.c]) ∧ Below W.heap.size W w') := Lib.hid (fun W => own_any W _ _ _ _ _ _ _ _)
      have HW3 := Lib.hid hw3
      have EXB := Lib.hid exb
      have HQ3 := Lib.hid hq3
      have HNX : Hid (xb ≠ q) := Lib.hid (fun e => by have h1 := HX3.out; rw [e, hq3] at h1; injection h1 with h1; injection h1 with _ h1 _; exact absurd h1 (by decide))
      have HLT := Lib.hid hlt
      have e0 := cell_of hkxb (j := 0) rfl
      have e1 := cell_of hkxb (j := 1) rfl
      have e2 := cell_of hkxb (j := 2) rfl
      have e3 := cell_of hkxb (j := 3) rfl
      have e4 := cell_of hkxb (j := 4) rfl
      have e5 := cell_of hkxb (j := 5) rfl
      have e6 := cell_of hkxb (j := 6) rfl
      have f0 := cell_of hq3 (j := 0) rfl
      have f1 := cell_of hq3 (j := 1) rfl
      have f2 := cell_of hq3 (j := 2) rfl
      have f3 := cell_of hq3 (j := 3) rfl
      clear hx hc hxm hSk ha hw3 exb hbw3 hkxb hq3 hrw3 hB3 hlt
      go_upto_region 4 with fail
      rw [← HW3.out, ← EXB.out]
      clear a0 a1 a2 a3 a4 a5 a6
      go_wp2_with fail
      refine HVA.out.mono ?_
      rintro e w4 ⟨v1, v2, v3, v4, v5, rfl, hrw, hps, hev, hb4⟩
      obtain ⟨⟨B1, d1, rfl, -, -⟩, ⟨B2, d2, rfl, -⟩, ⟨B3, d3, l5, rfl, -, -⟩⟩ := id hrw
      obtain ⟨A4, c4, rfl, -, -⟩ := id hps
      obtain ⟨A7, c7, rfl, -, -⟩ := id hev
      obtain ⟨w5, hw5, hbw5, hkg, hky, hsw5⟩ := two_box w4 (.cells #[.int .i64 a.1.z, .slice B1 a.1.T.length d1, .slice B2 a.1.L.length d2, .slice B3 l5.length d3] 31) (.cells #[.int .i64 a.2.1.c, .int .i64 a.2.1.s, .slice A4 a.2.1.ps.length c4] 50)
      obtain ⟨g, eg⟩ : ∃ xx, xx = w4.heap.size := ⟨_, rfl⟩
      obtain ⟨y, ey⟩ : ∃ xx, xx = w4.heap.size + 1 := ⟨_, rfl⟩
      rw [← eg] at hkg
      rw [← ey] at hky
      have hb35 : Below w3.heap.size w3 w5 := hb4.trans (hbw5.mono hb4.size)
      have hq5 := blk_below HQ3.out hb35
      have hyq : y ≠ q := by have h1 := blk_lt (blk_below HQ3.out hb4); omega
      have hgq : g ≠ q := by have h1 := blk_lt (blk_below HQ3.out hb4); omega
      obtain ⟨w6, hw6⟩ : ∃ xx, xx = ((((w5.setCell ⟨q, 0, none⟩ (.int .i64 a.1.z)).setCell ⟨q, 1, none⟩ (.slice B1 a.1.T.length d1)).setCell ⟨q, 2, none⟩ (.slice B2 a.1.L.length d2)).setCell ⟨q, 3, none⟩ (.slice B3 l5.length d3)) := ⟨_, rfl⟩
      obtain ⟨hwrw6, hkw6⟩ := set4 hq5 (.int .i64 a.1.z) (.slice B1 a.1.T.length d1) (.slice B2 a.1.L.length d2) (.slice B3 l5.length d3)
      rw [← hw6] at hwrw6 hkw6
      have HST6 := Lib.hid ((HPL3.out.st.below hb35).wr hwrw6 hq5 (by decide) (by decide))
      have HRW6 := Lib.hid ((hrw.below hbw5).wr hwrw6 HBQ.out.1 hq5 (by decide))
      have HPS6 := Lib.hid ((hps.sk (.of_below hbw5)).wr hwrw6 HBQ.out.1 hq5 (by decide))
      have HEV6 := Lib.hid ((hev.sk (.of_below hbw5)).wr hwrw6 HBQ.out.1 hq5 (by decide))
      have HQ6 := Lib.hid hkw6
      have HY6 := Lib.hid (hwrw6.blk hyq hky)
      have HX6 := Lib.hid (hwrw6.blk HNX.out (blk_below HX3.out hb35))
      have HR6 := Lib.hid (hwrw6.blk (Ne.symm HBQ.out.2.2) (blk_below HPL3.out.res hb35))
      have HSK6 : Hid (SK B w w6) := Lib.hid (Wr.fresh (HPL3.out.sk.trans (.of_below hb35)) (Nat.le_of_eq EQ.out.symm) hwrw6)
      have HW5 := Lib.hid hw5
      have HW6 := Lib.hid hw6
      have EG := Lib.hid eg
      have EY := Lib.hid ey
      clear e0 e1 e2 e3 e4 e5 e6 f0 f1 f2 f3
      have e0 := cell_of hkg (j := 0) rfl
      have e1 := cell_of hkg (j := 1) rfl
      have e2 := cell_of hkg (j := 2) rfl
      have e3 := cell_of hkg (j := 3) rfl
      have f0 := cell_of hq5 (j := 0) rfl
      have f1 := cell_of hq5 (j := 1) rfl
      have f2 := cell_of hq5 (j := 2) rfl
      have f3 := cell_of hq5 (j := 3) rfl
      have ff0 := frozen_of_row w5 _ 0 _ _ hq5
      have ff1 := frozen_of_row w5 _ 1 _ _ hq5
      have ff2 := frozen_of_row w5 _ 2 _ _ hq5
      have ff3 := frozen_of_row w5 _ 3 _ _ hq5
      clear hrw hps hev hb4 hbw5 hkg hky hsw5 hb35 hq5 hyq hwrw6 hkw6 hw5 hw6 eg ey
      go_upto_region 5 with fail
      rw [← HW5.out, ← EY.out, ← EG.out]
      go_upto_region 6 with fail
      rw [← HW6.out]
      clear e0 e1 e2 e3 f0 f1 f2 f3 ff0 ff1 ff2 ff3 hgq
      have HAP2 : Hid (∀ (W : World), Below w6.heap.size w6 W → Calls Tryz.prog 16 #[.pointer (some ⟨sp, 0, none⟩), .int .i64 x.zx, .agg #[.int .i64 x.k, .int .i64 x.s, .int .i64 x.n, .int .i64 x.sp, .int .i64 x.now, .slice x.A x.m x.c]] W (fun e w' => ∃ A8 c8 A9 c9, e = .returned (.tuple #[.agg #[.int .i64 a.2.1.c, .int .i64 a.2.1.s, .slice A8 a.2.1.ps.length c8], .slice A9 a.2.2.length c9]) ∧ StW w' B sp a.1 ∧ SK B W w' ∧ w'.ownsRow W.heap.size 9 1 (.slice A8 a.2.1.ps.length c8) a.2.1.ps.length (scells a.2.1.ps) ∧ w'.ownsRow W.heap.size 165 3 (.slice A9 a.2.2.length c9) a.2.2.length (ecells a.2.2))) := Lib.hid (fun W hW => by
        refine (HAPP.out W (HSK6.out.trans (.of_below hW)) (HST6.out.below hW)).mono ?_
        rintro e w' ⟨vp, ve, rfl, h1, h2, h3, h4⟩
        obtain ⟨A8, c8, rfl, -, -, -⟩ := own_form h3
        obtain ⟨A9, c9, rfl, -, -, -⟩ := own_form h4
        exact ⟨A8, c8, A9, c9, rfl, h1, h2, h3, h4⟩)
      have HSS : Hid (∀ (W : World), Below w6.heap.size w6 W → W.cell? ⟨xb, 0, none⟩ = some (.int .i64 x.zx) ∧ W.cell? ⟨xb, 1, none⟩ = some (.int .i64 x.k) ∧ W.cell? ⟨xb, 2, none⟩ = some (.int .i64 x.s) ∧ W.cell? ⟨xb, 3, none⟩ = some (.int .i64 x.n) ∧ W.cell? ⟨xb, 4, none⟩ = some (.int .i64 x.sp) ∧ W.cell? ⟨xb, 5, none⟩ = some (.int .i64 x.now) ∧ W.cell? ⟨xb, 6, none⟩ = some (.slice x.A x.m x.c)) := Lib.hid (fun W hW => ⟨cell_of (blk_below HX6.out hW) (j := 0) rfl, cell_of (blk_below HX6.out hW) (j := 1) rfl, cell_of (blk_below HX6.out hW) (j := 2) rfl, cell_of (blk_below HX6.out hW) (j := 3) rfl, cell_of (blk_below HX6.out hW) (j := 4) rfl, cell_of (blk_below HX6.out hW) (j := 5) rfl, cell_of (blk_below HX6.out hW) (j := 6) rfl⟩)
      have HSK : Hid (∀ (U W : World), Below w6.heap.size w6 U → SK B U W → W.cell? ⟨xb, 0, none⟩ = some (.int .i64 x.zx) ∧ W.cell? ⟨xb, 1, none⟩ = some (.int .i64 x.k) ∧ W.cell? ⟨xb, 2, none⟩ = some (.int .i64 x.s) ∧ W.cell? ⟨xb, 3, none⟩ = some (.int .i64 x.n) ∧ W.cell? ⟨xb, 4, none⟩ = some (.int .i64 x.sp) ∧ W.cell? ⟨xb, 5, none⟩ = some (.int .i64 x.now) ∧ W.cell? ⟨xb, 6, none⟩ = some (.slice x.A x.m x.c)) := Lib.hid (fun U W hU hW => ⟨cell_of (hW.blk (blk_below HX6.out hU) (by decide)) (j := 0) rfl, cell_of (hW.blk (blk_below HX6.out hU) (by decide)) (j := 1) rfl, cell_of (hW.blk (blk_below HX6.out hU) (by decide)) (j := 2) rfl, cell_of (hW.blk (blk_below HX6.out hU) (by decide)) (j := 3) rfl, cell_of (hW.blk (blk_below HX6.out hU) (by decide)) (j := 4) rfl, cell_of (hW.blk (blk_below HX6.out hU) (by decide)) (j := 5) rfl, cell_of (hW.blk (blk_below HX6.out hU) (by decide)) (j := 6) rfl⟩)
      have HSA : Hid (∀ (W : World) (x' : Obj), (W.cell? ⟨xb, 0, none⟩ = some (.int .i64 x.zx) ∧ W.cell? ⟨xb, 1, none⟩ = some (.int .i64 x.k) ∧ W.cell? ⟨xb, 2, none⟩ = some (.int .i64 x.s) ∧ W.cell? ⟨xb, 3, none⟩ = some (.int .i64 x.n) ∧ W.cell? ⟨xb, 4, none⟩ = some (.int .i64 x.sp) ∧ W.cell? ⟨xb, 5, none⟩ = some (.int .i64 x.now) ∧ W.cell? ⟨xb, 6, none⟩ = some (.slice x.A x.m x.c)) → (fun W => W.cell? ⟨xb, 0, none⟩ = some (.int .i64 x.zx) ∧ W.cell? ⟨xb, 1, none⟩ = some (.int .i64 x.k) ∧ W.cell? ⟨xb, 2, none⟩ = some (.int .i64 x.s) ∧ W.cell? ⟨xb, 3, none⟩ = some (.int .i64 x.n) ∧ W.cell? ⟨xb, 4, none⟩ = some (.int .i64 x.sp) ∧ W.cell? ⟨xb, 5, none⟩ = some (.int .i64 x.now) ∧ W.cell? ⟨xb, 6, none⟩ = some (.slice x.A x.m x.c)) (W.alloc x')) := Lib.hid (fun W x' h => ⟨cell_alloc h.1 x', cell_alloc h.2.1 x', cell_alloc h.2.2.1 x', cell_alloc h.2.2.2.1 x', cell_alloc h.2.2.2.2.1 x', cell_alloc h.2.2.2.2.2.1 x', cell_alloc h.2.2.2.2.2.2 x'⟩)
      have HSD : Hid (∀ (W : World) (u j : Nat) (v : Value), u ≠ xb → (W.cell? ⟨xb, 0, none⟩ = some (.int .i64 x.zx) ∧ W.cell? ⟨xb, 1, none⟩ = some (.int .i64 x.k) ∧ W.cell? ⟨xb, 2, none⟩ = some (.int .i64 x.s) ∧ W.cell? ⟨xb, 3, none⟩ = some (.int .i64 x.n) ∧ W.cell? ⟨xb, 4, none⟩ = some (.int .i64 x.sp) ∧ W.cell? ⟨xb, 5, none⟩ = some (.int .i64 x.now) ∧ W.cell? ⟨xb, 6, none⟩ = some (.slice x.A x.m x.c)) → (fun W => W.cell? ⟨xb, 0, none⟩ = some (.int .i64 x.zx) ∧ W.cell? ⟨xb, 1, none⟩ = some (.int .i64 x.k) ∧ W.cell? ⟨xb, 2, none⟩ = some (.int .i64 x.s) ∧ W.cell? ⟨xb, 3, none⟩ = some (.int .i64 x.n) ∧ W.cell? ⟨xb, 4, none⟩ = some (.int .i64 x.sp) ∧ W.cell? ⟨xb, 5, none⟩ = some (.int .i64 x.now) ∧ W.cell? ⟨xb, 6, none⟩ = some (.slice x.A x.m x.c)) (W.setCell ⟨u, j, none⟩ v)) := Lib.hid (fun W u j v hu h => by
        have kk : ∀ o' u', W.cell? ⟨xb, o', none⟩ = some u' → (W.setCell ⟨u, j, none⟩ v).cell? ⟨xb, o', none⟩ = some u' := fun o' u' hx => by rw [World.cell?_setCell_far _ _ _ _ hu]; exact hx
        exact ⟨kk _ _ h.1, kk _ _ h.2.1, kk _ _ h.2.2.1, kk _ _ h.2.2.2.1, kk _ _ h.2.2.2.2.1, kk _ _ h.2.2.2.2.2.1, kk _ _ h.2.2.2.2.2.2⟩)
      have hne7 : w6.heap.size ≠ xb := by have := blk_lt HX6.out; omega
      obtain ⟨e0, e1, e2, e3, e4, e5, e6⟩ := HSS.out w6 (Below.refl _ _)
      go_cut [13, 14] from 18 to 61 (fun p v wx => ∃ u A8 c8 A9 c9 w8, p = .pointer (some ⟨u, 0, none⟩) ∧ v = .slice A9 a.2.2.length c9 ∧ wx = w8 ∧ Hid (StW w8 B sp a.1) ∧ Hid (SK B w6 w8) ∧ Hid (w8.heap[u]? = some (.cells #[.int .i64 a.2.1.c, .int .i64 a.2.1.s, .slice A8 a.2.1.ps.length c8] 42 (0, 0))) ∧ Hid (PsW w8 B (.slice A8 a.2.1.ps.length c8) a.2.1.ps) ∧ Hid (EvW w8 B (.slice A9 a.2.2.length c9) a.2.2))
      case first =>
        go_region_held3 (fun W => W.cell? ⟨xb, 0, none⟩ = some (.int .i64 x.zx) ∧ W.cell? ⟨xb, 1, none⟩ = some (.int .i64 x.k) ∧ W.cell? ⟨xb, 2, none⟩ = some (.int .i64 x.s) ∧ W.cell? ⟨xb, 3, none⟩ = some (.int .i64 x.n) ∧ W.cell? ⟨xb, 4, none⟩ = some (.int .i64 x.sp) ∧ W.cell? ⟨xb, 5, none⟩ = some (.int .i64 x.now) ∧ W.cell? ⟨xb, 6, none⟩ = some (.slice x.A x.m x.c))
          (first
            | (with_reducible assumption)
            | (with_reducible exact HSS.out _ (Below.refl _ _).drew)
            | (with_reducible exact HSS.out _ (box_below _ _).drew)
            | (with_reducible exact HSS.out _ (by assumption))
            | (with_reducible exact HSA.out _ _ (by assumption))
            | (with_reducible exact HSD.out _ _ _ _ (by assumption) (HSD.out _ _ _ _ (by assumption) (HSD.out _ _ _ _ (by assumption) (by assumption)))))
          (first
            | (go_at_call 17; (with_reducible refine (HOWN.out _).mono ?_); rintro e u2 ⟨rfl, hu2⟩; have hU2 : Below w6.heap.size w6 u2 := (by first | exact (Below.refl w6.heap.size w6).drew.trans (hu2.mono (Nat.le_refl _)) | exact (box_below w6 _).drew.trans (hu2.mono ((box_below w6 _).drew.size))); have hS2 := HSS.out u2 hU2; have hne2 : u2.heap.size ≠ xb := (by have h8 := blk_lt HX6.out; have h9 := hU2.size; omega); try have hz2 := blk_below (w := (w6.alloc (.cells #[.int .i64 0, .int .i64 0, .slice none 0 0] 42)).drew) (new_block w6 _) hu2)
            | (go_at_call 16; (with_reducible refine (HAP2.out _ (by first | exact hU2 | exact hU2.trans ((box_below u2 _).mono hU2.size))).mono ?_); rintro e u3 ⟨A8, c8, A9, c9, rfl, hst3, hsk3, hp3, hv3⟩; have hS3 := HSK.out _ u3 (by first | exact hU2 | exact hU2.trans ((box_below u2 _).mono hU2.size)) hsk3; first | (have hz3 := hsk3.blk hz2 (by decide); have y0 := cell_of hz3 (j := 0) rfl; have y1 := cell_of hz3 (j := 1) rfl; have y2 := cell_of hz3 (j := 2) rfl; have g0 := frozen_of_row u3 _ 0 _ _ hz3; have g1 := frozen_of_row u3 _ 1 _ _ hz3; have g2 := frozen_of_row u3 _ 2 _ _ hz3) | (have hz3 := hsk3.blk (new_block u2 (.cells #[.int .i64 0, .int .i64 0, .slice none 0 0] 42)) (by decide); have y0 := cell_of hz3 (j := 0) rfl; have y1 := cell_of hz3 (j := 1) rfl; have y2 := cell_of hz3 (j := 2) rfl; have g0 := frozen_of_row u3 _ 0 _ _ hz3; have g1 := frozen_of_row u3 _ 1 _ _ hz3; have g2 := frozen_of_row u3 _ 2 _ _ hz3) | (have hxx : Below w6.heap.size w6.drew u2 := hu2)))
        all_goals rename_i hHeld
        all_goals
          first
            | (obtain ⟨w8, hw8⟩ : ∃ xx, xx = u3.alloc (.cells #[.int .i64 a.2.1.c, .int .i64 a.2.1.s, .slice A8 a.2.1.ps.length c8] 42) := ⟨_, rfl⟩
               obtain ⟨u, eu⟩ : ∃ xx, xx = u3.heap.size := ⟨_, rfl⟩
               have hb8 : Below u3.heap.size u3 w8 := by rw [hw8]; exact box_below _ _
               have hk8 : w8.heap[u]? = some (.cells #[.int .i64 a.2.1.c, .int .i64 a.2.1.s, .slice A8 a.2.1.ps.length c8] 42 (0, 0)) := by rw [hw8, eu]; exact new_block _ _
               have HS8 := Lib.hid (hst3.below hb8)
               have HSK8 : Hid (SK B w6 w8) := Lib.hid (((SK.of_below hU2).trans hsk3).trans (.of_below hb8))
               have HK8 := Lib.hid hk8
               have HP8 := Lib.hid (PsW.of_own (B := B) (own_below hp3 hb8))
               have HV8 := Lib.hid (EvW.of_own (B := B) (own_below hv3 hb8))
               rw [← hw8, ← eu]
               clear hw8 eu hb8 hk8)
            | (obtain ⟨u, eu⟩ : ∃ xx, xx = w6.heap.size := ⟨_, rfl⟩
               rw [← eu] at hz3
               obtain ⟨w8, hw8⟩ : ∃ xx, xx = (((u3.setCell ⟨u, 0, none⟩ (.int .i64 a.2.1.c)).setCell ⟨u, 1, none⟩ (.int .i64 a.2.1.s)).setCell ⟨u, 2, none⟩ (.slice A8 a.2.1.ps.length c8)) := ⟨_, rfl⟩
               obtain ⟨hwr8, hk8⟩ := set3 hz3 (.int .i64 a.2.1.c) (.int .i64 a.2.1.s) (.slice A8 a.2.1.ps.length c8)
               rw [← hw8] at hwr8 hk8
               have HS8 := Lib.hid (hst3.wr hwr8 hz3 (by decide) (by decide))
               have HSK8 : Hid (SK B w6 w8) := Lib.hid (Wr.fresh ((SK.of_below hU2).trans hsk3) (Nat.le_of_eq eu.symm) hwr8)
               have HK8 := Lib.hid hk8
               have HP8 := Lib.hid (PsW.of_own (B := B) (Wr.own hwr8 hz3 hp3 (by decide)))
               have HV8 := Lib.hid (EvW.of_own (B := B) (Wr.own hwr8 hz3 hv3 (by decide)))
               rw [← eu, ← hw8]
               clear hw8 hwr8 hk8 y0 y1 y2 g0 g1 g2)
            | (obtain ⟨u, eu⟩ : ∃ xx, xx = u2.heap.size := ⟨_, rfl⟩
               rw [← eu] at hz3
               obtain ⟨w8, hw8⟩ : ∃ xx, xx = (((u3.setCell ⟨u, 0, none⟩ (.int .i64 a.2.1.c)).setCell ⟨u, 1, none⟩ (.int .i64 a.2.1.s)).setCell ⟨u, 2, none⟩ (.slice A8 a.2.1.ps.length c8)) := ⟨_, rfl⟩
               obtain ⟨hwr8, hk8⟩ := set3 hz3 (.int .i64 a.2.1.c) (.int .i64 a.2.1.s) (.slice A8 a.2.1.ps.length c8)
               rw [← hw8] at hwr8 hk8
               have HS8 := Lib.hid (hst3.wr hwr8 hz3 (by decide) (by decide))
               have HSK8 : Hid (SK B w6 w8) := Lib.hid (Wr.fresh ((SK.of_below (hU2.trans ((box_below u2 _).mono hU2.size))).trans hsk3) (by rw [eu]; exact hU2.size) hwr8)
               have HK8 := Lib.hid hk8
               have HP8 := Lib.hid (PsW.of_own (B := B) (Wr.own hwr8 hz3 hp3 (by decide)))
               have HV8 := Lib.hid (EvW.of_own (B := B) (Wr.own hwr8 hz3 hv3 (by decide)))
               rw [← eu, ← hw8]
               clear hw8 hwr8 hk8 y0 y1 y2 g0 g1 g2)
        all_goals
          clear hHeld
          go_wp2_with fail
          go_meet
          exact ⟨u, A8, c8, A9, c9, w8, rfl, rfl, rfl, HS8, HSK8, HK8, HP8, HV8⟩
      case rest =>
        obtain ⟨u, A8, c8, A9, c9, w8, rfl, rfl, hwc, HS8, HSK8, HK8, HP8, HV8⟩ := hcut
        obtain rfl : w8 = wc := hwc.symm
        have HQ8 := Lib.hid (HSK8.out.blk HQ6.out (by decide))
        have HY8 := Lib.hid (HSK8.out.blk HY6.out (by decide))
        have HR8 := Lib.hid (HSK8.out.blk HR6.out (by decide))
        have HRW8 := Lib.hid (HRW6.out.sk HSK8.out)
        have HPD8 := Lib.hid (HPS6.out.sk HSK8.out)
        have HED8 := Lib.hid (HEV6.out.sk HSK8.out)
        have HSS7 : Hid (∀ (W : World), Below w8.heap.size w8 W → W.cell? ⟨u, 0, none⟩ = some (.int .i64 a.2.1.c) ∧ W.cell? ⟨u, 1, none⟩ = some (.int .i64 a.2.1.s) ∧ W.cell? ⟨u, 2, none⟩ = some (.slice A8 a.2.1.ps.length c8) ∧ W.cell? ⟨y, 0, none⟩ = some (.int .i64 a.2.1.c) ∧ W.cell? ⟨y, 1, none⟩ = some (.int .i64 a.2.1.s) ∧ W.cell? ⟨y, 2, none⟩ = some (.slice A4 a.2.1.ps.length c4) ∧ W.cell? ⟨q, 0, none⟩ = some (.int .i64 a.1.z)) := Lib.hid (fun W hW => ⟨cell_of (blk_below HK8.out hW) (j := 0) rfl, cell_of (blk_below HK8.out hW) (j := 1) rfl, cell_of (blk_below HK8.out hW) (j := 2) rfl, cell_of (blk_below HY8.out hW) (j := 0) rfl, cell_of (blk_below HY8.out hW) (j := 1) rfl, cell_of (blk_below HY8.out hW) (j := 2) rfl, cell_of (blk_below HQ8.out hW) (j := 0) rfl⟩)
        have HPLA : Hid (∀ (W : World), Calls Tryz.prog 20 #[.agg #[.int .i64 a.2.1.c, .int .i64 a.2.1.s, .slice A8 a.2.1.ps.length c8]] W fun e w' => e = .returned (.agg #[.int .i64 a.2.1.c, .int .i64 a.2.1.s, .slice A8 a.2.1.ps.length c8]) ∧ Below W.heap.size W w') := Lib.hid (fun W => plain_any W _ _ _ _ _)
        have HSR : Hid (∀ (W : World), Below w8.heap.size w8 W → Calls Tryz.prog 19 #[.agg #[.int .i64 a.2.1.c, .int .i64 a.2.1.s, .slice A8 a.2.1.ps.length c8], .agg #[.int .i64 a.2.1.c, .int .i64 a.2.1.s, .slice A4 a.2.1.ps.length c4]] W fun e w' => e = .returned (.bool true) ∧ Below W.heap.size W w') := Lib.hid (fun W hW => by
          obtain ⟨P1, q1, e1, hr1, -⟩ := HP8.out
          obtain ⟨P2, q2, e2, hr2, -⟩ := HPD8.out
          injection e1 with e1; injection e2 with e2
          subst e1 e2
          exact samereply_any (hr1.below hW) (hr2.below hW) (Nat.le_trans HAL.out.1 (by decide)) _ _)
        have HSV : Hid (∀ (W : World), Below w8.heap.size w8 W → Calls Tryz.prog 40 #[.slice A9 a.2.2.length c9, .slice A7 a.2.2.length c7] W fun e w' => e = .returned (.bool true) ∧ Below W.heap.size W w') := Lib.hid (fun W hW => by
          obtain ⟨P1, q1, e1, hr1, -⟩ := HV8.out
          obtain ⟨P2, q2, e2, hr2, -⟩ := HED8.out
          injection e1 with e1; injection e2 with e2
          subst e1 e2
          exact rsameevents_any (hr1.below hW) (hr2.below hW) (Nat.le_trans HAL.out.2 (by decide)))
        have HZX : Hid (∀ (W : World), Below w8.heap.size w8 W → Calls Tryz.prog 37 #[.pointer (some ⟨sp, 0, none⟩)] W fun e w' => e = .returned (.int .i64 a.1.z) ∧ W = w') := Lib.hid (fun W hW => szxid_any (HS8.out.below hW))
        have hzz : (a.1.z != a.1.z) = false := bne_self_eq_false _
        clear hwc
        obtain ⟨e0, e1, e2, e3, e4, e5, e6⟩ := HSS7.out w8 (Below.refl _ _)
        go_upto_region 7 with fail
        go_region_held3 (fun W => W.cell? ⟨u, 0, none⟩ = some (.int .i64 a.2.1.c) ∧ W.cell? ⟨u, 1, none⟩ = some (.int .i64 a.2.1.s) ∧ W.cell? ⟨u, 2, none⟩ = some (.slice A8 a.2.1.ps.length c8) ∧ W.cell? ⟨y, 0, none⟩ = some (.int .i64 a.2.1.c) ∧ W.cell? ⟨y, 1, none⟩ = some (.int .i64 a.2.1.s) ∧ W.cell? ⟨y, 2, none⟩ = some (.slice A4 a.2.1.ps.length c4) ∧ W.cell? ⟨q, 0, none⟩ = some (.int .i64 a.1.z))
          (first
            | (with_reducible assumption)
            | (with_reducible exact HSS7.out _ (Below.refl _ _).drew)
            | (with_reducible exact HSS7.out _ (by assumption)))
          (first
            | (go_at_call 20; (with_reducible refine (HPLA.out _).mono ?_); rintro e u2 ⟨rfl, hu2⟩; have hU2 : Below w8.heap.size w8 u2 := (Below.refl w8.heap.size w8).drew.trans (hu2.mono (Nat.le_refl _)); have hS2 := HSS7.out u2 hU2)
            | (go_at_call 19; (with_reducible refine (HSR.out _ (by assumption)).mono ?_); rintro e u3 ⟨rfl, hu3⟩; have hU3 := hU2.trans (hu3.mono hU2.size); have hS3 := HSS7.out u3 hU3)
            | (go_at_call 40; (with_reducible refine (HSV.out _ (by assumption)).mono ?_); rintro e u4 ⟨rfl, hu4⟩; have hU4 := hU3.trans (hu4.mono hU3.size); have hS4 := HSS7.out u4 hU4)
            | (go_at_call 37; (with_reducible refine (HZX.out _ (by assumption)).mono ?_); rintro e _ ⟨rfl, rfl⟩))
        rename_i hHeld
        have HPLN : Hid (Sy B sp q r w a.1 u4) := Lib.hid ⟨(HSK6.out.trans HSK8.out).trans (.of_below hU4), HS8.out.below hU4, ⟨B1, a.1.T.length, d1, B2, a.1.L.length, d2, B3, l5.length, d3, blk_below HQ8.out hU4, HRW8.out.below hU4⟩, blk_below HR8.out hU4⟩
        clear hHeld hS2 hS3 hS4 hu2 hu3 hu4 hU2 hU3 hU4 e0 e1 e2 e3 e4 e5 e6
        go_wp2_with fail
        go_roundw
        case rel => exact ⟨k + 1, HLT.out, by go_num, by rw [HRN.out]; exact HPLN⟩
        case measure => simp [intOf]; omega
    · obtain rfl : k = n := by omega
      have hfull : (l.map clO).take k = l.map clO := List.take_of_length_le (by rw [List.length_map, HLN.out]; exact Nat.le_refl _)
      rw [hfull] at HPL
      obtain ⟨Sn, hSn⟩ : ∃ s, Zs.run S (l.map clO) = s := ⟨_, rfl⟩
      rw [hSn] at HPL
      have HSN := Lib.hid hSn
      obtain ⟨B1, n1, d1, B2, n2, d2, B3, n3, d3, hq, hrw⟩ := HPL.out.row
      have hr := HPL.out.res
      obtain ⟨w9, hw9⟩ : ∃ xx, xx = ((((wr.setCell ⟨r, 0, none⟩ (.int .i64 Sn.z)).setCell ⟨r, 1, none⟩ (.slice B1 n1 d1)).setCell ⟨r, 2, none⟩ (.slice B2 n2 d2)).setCell ⟨r, 3, none⟩ (.slice B3 n3 d3)) := ⟨_, rfl⟩
      obtain ⟨hwrw9, hkw9⟩ := set4 hr (.int .i64 Sn.z) (.slice B1 n1 d1) (.slice B2 n2 d2) (.slice B3 n3 d3)
      rw [← hw9] at hwrw9 hkw9
      have HE : Hid (SyPost B sp (Zs.run S (l.map clO)) w (.returned (.tuple #[.agg #[.int .i64 Sn.z, .slice B1 n1 d1, .slice B2 n2 d2, .slice B3 n3 d3], .bool true])) w9) := Lib.hid (by
        rw [HSN.out]
        exact ⟨_, _, _, rfl, HPL.out.st.wr hwrw9 hr (by decide) (by decide), hrw.wr hwrw9 HBQ.out.2.1 hr (by decide), Wr.fresh HPL.out.sk (by rw [ER.out]; omega) hwrw9⟩)
      have x0 := cell_of hq (j := 0) rfl
      have x1 := cell_of hq (j := 1) rfl
      have x2 := cell_of hq (j := 2) rfl
      have x3 := cell_of hq (j := 3) rfl
      have y0 := cell_of hr (j := 0) rfl
      have y1 := cell_of hr (j := 1) rfl
      have y2 := cell_of hr (j := 2) rfl
      have y3 := cell_of hr (j := 3) rfl
      have gg0 := frozen_of_row wr _ 0 _ _ hr
      have gg1 := frozen_of_row wr _ 1 _ _ hr
      have gg2 := frozen_of_row wr _ 2 _ _ hr
      have gg3 := frozen_of_row wr _ 3 _ _ hr
      have dd0 := cell_of hkw9 (j := 0) rfl
      have dd1 := cell_of hkw9 (j := 1) rfl
      have dd2 := cell_of hkw9 (j := 2) rfl
      have dd3 := cell_of hkw9 (j := 3) rfl
      have HW9 := Lib.hid hw9
      clear hfull hSn hq hrw hr hw9 hwrw9 hkw9
      go_wp2_with fail
      rw [← HW9.out]
      exact bodyPost_ret (v := .tuple #[.agg #[.int .i64 Sn.z, .slice B1 n1 d1, .slice B2 n2 d2, .slice B3 n3 d3], .bool true]) (by simp [results, Tryz.results13, go_sem, dd0, dd1, dd2, dd3]) rfl HE.out
end Go.Proofs.YtflgemlhocjipaaGreatDoor
namespace Go.Proofs.YtflgemlhocjipaaGreatDoor
set_option maxRecDepth 100000
open Go.ChangeShapes Go.WideShapes Go.ChangeAt Go.RowKit Go.Proofs.Zn Go.Proofs.Zt
open Go.Proofs.Zs (St Lst Rep Tx)

end Go.Proofs.YtflgemlhocjipaaGreatDoor
