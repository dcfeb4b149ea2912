/-
  What ZstateRises answers. Condition: memory holds the script and the transaction.
-/
import Derived.Test.YtflgemlhocjipaaGreatDoorSFew
import Derived.Test.YtflgemlhocjipaaGreatDoorSSame
import Derived.Test.YtflgemlhocjipaaGreatDoorSSeen
namespace Go.Proofs.YtflgemlhocjipaaGreatDoor
set_option maxRecDepth 100000
open Go.ChangeShapes Go.WideShapes Go.ChangeAt Go.RowKit Go.Proofs.Zn Go.Proofs.Zt
open Go.Proofs.Zs (St Lst Rep Tx)

/-- An own transaction, then Apply of it. -/
theorem apply_own {w : World} {B sp : Nat} {S : St} (h : StW w B sp S) (hg : Zs.Gd S) (zx : Int) {o : Opc} (ho : OpcOk w o) (ht : Tg w B o.A o.m) : Calls Tryz.prog 16 #[.pointer (some ⟨sp, 0, none⟩), .int .i64 zx, .agg #[.int .i64 o.k, .int .i64 o.s, .int .i64 o.n, .int .i64 o.sp, .int .i64 o.now, .slice o.A o.m o.c]] w (ApPost B sp (Zs.app S zx (txO o)) w) :=
  sapply_any h hg zx (txO o) ho.rd ht ho.ok
theorem cell_alloc {w : World} {b o : Nat} {v : Value} (h : w.cell? ⟨b, o, none⟩ = some v) (x : Obj) : (w.alloc x).cell? ⟨b, o, none⟩ = some v := by
  have hb := cell_lt h
  rw [← h]
  unfold World.cell?
  rw [(box_below w x).block b hb]
theorem StW.wr {w w' : World} {B sp r : Nat} {S : St} (h : StW w B sp S) (hw : Wr r w w') {cs : Array Value} {t : TypeId} {fr : Nat × Nat} (hr : w.heap[r]? = some (.cells cs t fr)) (ht : okTy t = true) (ht2 : t ≠ 9) : StW w' B sp S := by
  obtain ⟨tp, tmb, lp, lv, mb, h⟩ := h
  exact ⟨tp, tmb, lp, lv, mb, h.wr hw hr ht ht2⟩
/-- A seen state is like itself. -/
theorem seen_same {w : World} {B : Nat} {S : St} {vT vL vD vT2 vL2 vD2 : Value} (hg : Zs.Gd S) (h : RW w B vT vL vD ⟨S.z, S.T, S.L, seenD S.D S.L⟩) (h2 : RW w B vT2 vL2 vD2 ⟨S.z, S.T, S.L, seenD S.D S.L⟩) :
    Calls Tryz.prog 21 #[.agg #[.int .i64 S.z, vT, vL, vD], .agg #[.int .i64 S.z, vT2, vL2, vD2]] w fun e w' => e = .returned (.bool true) ∧ Below w.heap.size w w' :=
  vsame_any (S := ⟨S.z, S.T, S.L, seenD S.D S.L⟩) (S2 := ⟨S.z, S.T, S.L, seenD S.D S.L⟩) h h2 (Alk.refl _) (Nat.le_trans hg.T.len (by decide)) (Nat.le_trans hg.L.len (by decide)) (Nat.le_trans (seen_len _ _) (Nat.le_trans hg.L.len (by decide))) (Nat.le_trans (seen_len _ _) (Nat.le_trans hg.L.len (by decide))) (fun x hx => by
    dsimp only
    rw [seen_fd hg hx]
    have h9 := (fd_ps hg x.i).1
    omega)
theorem ap_back {S : St} {zx : Int} {t : Tx} (h : zx ≤ S.z) : Zs.app S zx t = (S, Zs.er 1, []) := by unfold Zs.app Zs.badZ; rw [if_pos (by simp [h])]
theorem app_z (S : St) (zx : Int) (t : Tx) : S.z ≤ (Zs.app S zx t).1.z := by
  unfold Zs.app
  split
  · exact Int.le_refl _
  · rename_i h
    rw [Zs.doS_z]
    have := (Zs.badZ_false (by simpa using h)).1
    exact Int.le_of_lt this
set_option maxHeartbeats 8000000 in
theorem rises_any {w : World} {A : Option Addr} {n c : Nat} {l : List Opc} (h : Scr w A n l) (hn : n ≤ 9223372036854775807) {o : Opc} (ho : OpcOk w o) :
    Calls Tryz.prog 9 #[.slice A n c, .agg #[.int .i64 o.zx, .int .i64 o.k, .int .i64 o.s, .int .i64 o.n, .int .i64 o.sp, .int .i64 o.now, .slice o.A o.m o.c]] w fun e w' => e = .returned (.bool true) ∧ Below w.heap.size w w' := by
  obtain ⟨w1, hw1⟩ : ∃ xx, xx = w.alloc (.cells #[.int .i64 o.zx, .int .i64 o.k, .int .i64 o.s, .int .i64 o.n, .int .i64 o.sp, .int .i64 o.now, .slice o.A o.m o.c] 87) := ⟨_, rfl⟩
  obtain ⟨ob, eob⟩ : ∃ xx, xx = w.heap.size := ⟨_, rfl⟩
  have hbw1 : Below w.heap.size w w1 := by rw [hw1]; exact box_below w _
  have hkob : w1.heap[ob]? = some (.cells #[.int .i64 o.zx, .int .i64 o.k, .int .i64 o.s, .int .i64 o.n, .int .i64 o.sp, .int .i64 o.now, .slice o.A o.m o.c] 87 (0, 0)) := by rw [hw1, eob]; exact new_block w _
  have HN := Lib.hid (snew_any w1)
  have HF1 : Hid (∀ (W : World), Below w1.heap.size w1 W → Calls Tryz.prog 11 #[.slice A n c] W (FwPost l W)) := Lib.hid (fun W hW => few_any ((h.below hbw1).below hW) hn)
  have HAL := Lib.hid (fun W => alive_any W)
  have HSC := Lib.hid (h.below hbw1)
  have HOK := Lib.hid (ho.below hbw1)
  have HSZ0 : Hid (Scr w A n l ∧ OpcOk w o) := Lib.hid ⟨h, ho⟩
  have HB1 := Lib.hid hbw1
  have HKO := Lib.hid hkob
  have HW1 := Lib.hid hw1
  have EOB := Lib.hid eob
  clear h hw1 eob hbw1 hkob ho
  go_enter Tryz.func9, Tryz.ntmps9
  go_upto_region 1 with fail
  rw [← HW1.out, ← EOB.out]
  go_wp2_with fail
  refine HN.out.mono ?_
  rintro e w2 ⟨sp, rfl, hst2, hb2⟩
  have HST2 := Lib.hid hst2
  have HB2 := Lib.hid hb2
  clear hst2 hb2
  go_wp2_with fail
  refine (HF1.out w2 HB2.out).mono ?_
  rintro e w3 ⟨b1, rfl, hf1, hb3⟩
  have HB3 : Hid (Below w1.heap.size w1 w3) := Lib.hid (HB2.out.trans (hb3.mono HB2.out.size))
  have HST3 := Lib.hid (HST2.out.below hb3)
  have HFW := Lib.hid hf1
  clear hf1 hb3
  cases b1 with
  | false =>
    go_wp2_with fail
    refine (HAL.out w3).mono ?_
    rintro e w4 ⟨rfl, hb4⟩
    have HB4 := Lib.hid ((HB1.out.trans (HB3.out.mono HB1.out.size)).trans (hb4.mono (Nat.le_trans HB1.out.size HB3.out.size)))
    clear hb4
    go_wp2_with fail
    go_ret
    exact ⟨rfl, HB4.out⟩
  | true =>
    have HFP := Lib.hid (HFW.out rfl)
    have hko3 := blk_below HKO.out HB3.out
    have hok3 := HOK.out.below HB3.out
    have s0 := cell_of hko3 (j := 0) rfl
    have s1 := cell_of hko3 (j := 1) rfl
    have s2 := cell_of hko3 (j := 2) rfl
    have s3 := cell_of hko3 (j := 3) rfl
    have s4 := cell_of hko3 (j := 4) rfl
    have s5 := cell_of hko3 (j := 5) rfl
    have s6 := cell_of hko3 (j := 6) rfl
    obtain ⟨w4, hw4⟩ : ∃ xx, xx = w3.alloc (.cells #[.int .i64 o.zx, .int .i64 o.k, .int .i64 o.s, .int .i64 o.n, .int .i64 o.sp, .int .i64 o.now, .slice o.A o.m o.c] 87) := ⟨_, rfl⟩
    obtain ⟨cb, ecb⟩ : ∃ xx, xx = w3.heap.size := ⟨_, rfl⟩
    have hbw4 : Below w3.heap.size w3 w4 := by rw [hw4]; exact box_below w3 _
    have hkcb : w4.heap[cb]? = some (.cells #[.int .i64 o.zx, .int .i64 o.k, .int .i64 o.s, .int .i64 o.n, .int .i64 o.sp, .int .i64 o.now, .slice o.A o.m o.c] 87 (0, 0)) := by rw [hw4, ecb]; exact new_block w3 _
    have hsc4 : Scr w4 (some ⟨cb, 0, none⟩) 1 [o] := ⟨⟨rfl, fun _ => ⟨cb, 0, rfl, fun i hi j v hv => by
      obtain rfl : i = 0 := by simp at hi; omega
      rw [cell_of_row w4 cb _ _ _ _ hkcb]
      rw [show 0 + 0 * 7 + j = j by omega]
      match j, hv with
      | 0, hv => simpa [occell] using hv
      | 1, hv => simpa [occell] using hv
      | 2, hv => simpa [occell] using hv
      | 3, hv => simpa [occell] using hv
      | 4, hv => simpa [occell] using hv
      | 5, hv => simpa [occell] using hv
      | 6, hv => simpa [occell] using hv
      | (m + 7), hv => simp [occell] at hv⟩⟩, fun y hy => by rw [List.mem_singleton.1 hy]; exact hok3.below hbw4⟩
    have HF4 := Lib.hid (few_any (c := 1) hsc4 (by omega))
    have HB4 : Hid (Below w1.heap.size w1 w4) := Lib.hid (HB3.out.trans (hbw4.mono HB3.out.size))
    have HST4 := Lib.hid (HST3.out.below hbw4)
    have HW4 := Lib.hid hw4
    have ECB := Lib.hid ecb
    clear hko3 hok3 hsc4 hw4 ecb hbw4 hkcb
    go_wp2_with (rw [← HW4.out, ← ECB.out])
    refine HF4.out.mono ?_
    rintro e w5 ⟨b2, rfl, hf2, hb5⟩
    have HB5 : Hid (Below w1.heap.size w1 w5) := Lib.hid (HB4.out.trans (hb5.mono HB4.out.size))
    have HST5 := Lib.hid (HST4.out.below hb5)
    clear hf2 hb5 s0 s1 s2 s3 s4 s5 s6
    cases b2 with
    | false =>
      go_wp2_with fail
      refine (HAL.out w5).mono ?_
      rintro e w6 ⟨rfl, hb6⟩
      have HB6 := Lib.hid ((HB1.out.trans (HB5.out.mono HB1.out.size)).trans (hb6.mono (Nat.le_trans HB1.out.size HB5.out.size)))
      clear hb6
      go_wp2_with fail
      go_ret
      exact ⟨rfl, HB6.out⟩
    | true =>
      go_wp2_with fail
      go_loopw [6, 36] (fun z i wr => ∃ (k : Nat), k ≤ n ∧ i = .int .i64 k ∧ z = .int .i64 (Zs.run Zs.new ((l.map clO).take k)).z ∧ Hid (StW wr w1.heap.size sp (Zs.run Zs.new ((l.map clO).take k))) ∧ Hid (Below w1.heap.size w1 wr)) (fun _ i _ => n - (intOf i).toNat)
      case atStart => exact ⟨0, Nat.zero_le _, rfl, rfl, HST5, HB5⟩
      case round =>
        obtain ⟨k, hk, rfl, rfl, HST, HX⟩ := hrel
        by_cases hlt : k < n
        · obtain ⟨b, off, x, rfl, hx, hc⟩ := (HSC.out.rd.below HX.out).at hlt
          have HGS : Hid (Zs.Gd (Zs.run Zs.new ((l.map clO).take k))) := Lib.hid (Zs.run_gd Zs.new_gd _)
          have HRS := Lib.hid (Zs.run_step (S := Zs.new) (l := l.map clO) (k := k) (o := clO x) (by rw [List.getElem?_map, hx]; rfl))
          obtain ⟨Sk, hSk⟩ : ∃ s, Zs.run Zs.new ((l.map clO).take k) = s := ⟨_, rfl⟩
          rw [hSk] at HST HGS HRS ⊢
          have hxm := List.mem_of_getElem? hx
          have a0 : wr.cell? ⟨b, off + k * 7, none⟩ = some (.int .i64 x.zx) := hc 0 _ rfl
          have a1 : wr.cell? ⟨b, off + k * 7 + 1, none⟩ = some (.int .i64 x.k) := hc 1 _ rfl
          have a2 : wr.cell? ⟨b, off + k * 7 + 2, none⟩ = some (.int .i64 x.s) := hc 2 _ rfl
          have a3 : wr.cell? ⟨b, off + k * 7 + 3, none⟩ = some (.int .i64 x.n) := hc 3 _ rfl
          have a4 : wr.cell? ⟨b, off + k * 7 + 4, none⟩ = some (.int .i64 x.sp) := hc 4 _ rfl
          have a5 : wr.cell? ⟨b, off + k * 7 + 5, none⟩ = some (.int .i64 x.now) := hc 5 _ rfl
          have a6 : wr.cell? ⟨b, off + k * 7 + 6, none⟩ = some (.slice x.A x.m x.c) := hc 6 _ rfl
          obtain ⟨y1, hy1⟩ : ∃ xx, xx = wr.alloc (.cells #[.int .i64 x.zx, .int .i64 x.k, .int .i64 x.s, .int .i64 x.n, .int .i64 x.sp, .int .i64 x.now, .slice x.A x.m x.c] 87) := ⟨_, rfl⟩
          obtain ⟨q, eq⟩ : ∃ xx, xx = wr.heap.size := ⟨_, rfl⟩
          have hby1 : Below wr.heap.size wr y1 := by rw [hy1]; exact box_below wr _
          have hkq : y1.heap[q]? = some (.cells #[.int .i64 x.zx, .int .i64 x.k, .int .i64 x.s, .int .i64 x.n, .int .i64 x.sp, .int .i64 x.now, .slice x.A x.m x.c] 87 (0, 0)) := by rw [hy1, eq]; exact new_block wr _
          have hB1 : Below w1.heap.size w1 y1 := HX.out.trans (hby1.mono HX.out.size)
          have HST1 := Lib.hid (HST.out.below hby1)
          have HKQ := Lib.hid hkq
          have HOWN : Hid (∀ (W : World), Calls Tryz.prog 17 #[.agg #[.int .i64 x.k, .int .i64 x.s, .int .i64 x.n, .int .i64 x.sp, .int .i64 x.now, .slice x.A x.m x.c]] W fun e w' => e = .returned (.agg #[.int .i64 x.k, .int .i64 x.s, .int .i64 x.n, .int .i64 x.sp, .int .i64 x.now, .slice x.A x.m x.c]) ∧ Below W.heap.size W w') := Lib.hid (fun W => own_any W _ _ _ _ _ _ _ _)
          have HAPP : Hid (∀ (W : World), Below y1.heap.size y1 W → Calls Tryz.prog 16 #[.pointer (some ⟨sp, 0, none⟩), .int .i64 x.zx, .agg #[.int .i64 x.k, .int .i64 x.s, .int .i64 x.n, .int .i64 x.sp, .int .i64 x.now, .slice x.A x.m x.c]] W (ApPost w1.heap.size sp (Zs.app Sk x.zx (txO x)) W)) := Lib.hid (fun W hW => apply_own (HST1.out.below hW) HGS.out x.zx (((HSC.out.ok x hxm).below hB1).below hW) (((Tg.old (HSC.out.ok x hxm).rd (fun c => ⟨_, rfl⟩) (Nat.le_refl w1.heap.size)).below hB1).below hW))
          have HSS : Hid (∀ (W : World), Below y1.heap.size y1 W → W.cell? ⟨q, 0, none⟩ = some (.int .i64 x.zx) ∧ W.cell? ⟨q, 1, none⟩ = some (.int .i64 x.k) ∧ W.cell? ⟨q, 2, none⟩ = some (.int .i64 x.s) ∧ W.cell? ⟨q, 3, none⟩ = some (.int .i64 x.n) ∧ W.cell? ⟨q, 4, none⟩ = some (.int .i64 x.sp) ∧ W.cell? ⟨q, 5, none⟩ = some (.int .i64 x.now) ∧ W.cell? ⟨q, 6, none⟩ = some (.slice x.A x.m x.c)) := Lib.hid (fun W hW => ⟨cell_of (blk_below HKQ.out hW) (j := 0) rfl, cell_of (blk_below HKQ.out hW) (j := 1) rfl, cell_of (blk_below HKQ.out hW) (j := 2) rfl, cell_of (blk_below HKQ.out hW) (j := 3) rfl, cell_of (blk_below HKQ.out hW) (j := 4) rfl, cell_of (blk_below HKQ.out hW) (j := 5) rfl, cell_of (blk_below HKQ.out hW) (j := 6) rfl⟩)
          have HSK : Hid (∀ (U W : World), Below y1.heap.size y1 U → SK w1.heap.size U W → W.cell? ⟨q, 0, none⟩ = some (.int .i64 x.zx) ∧ W.cell? ⟨q, 1, none⟩ = some (.int .i64 x.k) ∧ W.cell? ⟨q, 2, none⟩ = some (.int .i64 x.s) ∧ W.cell? ⟨q, 3, none⟩ = some (.int .i64 x.n) ∧ W.cell? ⟨q, 4, none⟩ = some (.int .i64 x.sp) ∧ W.cell? ⟨q, 5, none⟩ = some (.int .i64 x.now) ∧ W.cell? ⟨q, 6, none⟩ = some (.slice x.A x.m x.c)) := Lib.hid (fun U W hU hW => ⟨cell_of (hW.blk (blk_below HKQ.out hU) (by decide)) (j := 0) rfl, cell_of (hW.blk (blk_below HKQ.out hU) (by decide)) (j := 1) rfl, cell_of (hW.blk (blk_below HKQ.out hU) (by decide)) (j := 2) rfl, cell_of (hW.blk (blk_below HKQ.out hU) (by decide)) (j := 3) rfl, cell_of (hW.blk (blk_below HKQ.out hU) (by decide)) (j := 4) rfl, cell_of (hW.blk (blk_below HKQ.out hU) (by decide)) (j := 5) rfl, cell_of (hW.blk (blk_below HKQ.out hU) (by decide)) (j := 6) rfl⟩)
          have HB1y := Lib.hid hB1
          have HY1 := Lib.hid hy1
          have EQ1 := Lib.hid eq
          have HLT := Lib.hid hlt
          have hZ := app_z Sk x.zx (txO x)
          obtain ⟨Sn, hSn⟩ : ∃ s, (Zs.app Sk x.zx (txO x)).1 = s := ⟨_, rfl⟩
          have HSN := Lib.hid hSn
          rw [hSn] at hZ
          have hzl : decide (Sn.z < Sk.z) = false := by simpa using hZ
          have hzl2 : ¬ Sn.z < Sk.z := by omega
          clear hby1 hkq hx hc hxm hy1 eq hB1 hSk hSn hZ
          go_upto_region 8 with fail
          rw [← HY1.out, ← EQ1.out]
          clear a0 a1 a2 a3 a4 a5 a6
          obtain ⟨c0, c1, c2, c3, c4, c5, c6⟩ := HSS.out y1 (Below.refl _ _)
          go_region_held3 (fun W => W.cell? ⟨q, 0, none⟩ = some (.int .i64 x.zx) ∧ W.cell? ⟨q, 1, none⟩ = some (.int .i64 x.k) ∧ W.cell? ⟨q, 2, none⟩ = some (.int .i64 x.s) ∧ W.cell? ⟨q, 3, none⟩ = some (.int .i64 x.n) ∧ W.cell? ⟨q, 4, none⟩ = some (.int .i64 x.sp) ∧ W.cell? ⟨q, 5, none⟩ = some (.int .i64 x.now) ∧ W.cell? ⟨q, 6, none⟩ = some (.slice x.A x.m x.c))
            (first
              | (with_reducible assumption)
              | (with_reducible exact HSS.out _ (Below.refl _ _).drew)
              | (with_reducible exact HSS.out _ (by assumption)))
            (first
              | (go_at_call 17; (with_reducible refine (HOWN.out _).mono ?_); rintro e u2 ⟨rfl, hu2⟩; have hU2 : Below y1.heap.size y1 u2 := (Below.refl y1.heap.size y1).drew.trans (hu2.mono (Nat.le_refl _)); have hS2 := HSS.out u2 hU2)
              | (go_at_call 16; (with_reducible refine (HAPP.out _ (by assumption)).mono ?_); rintro e u3 ⟨vp, ve, rfl, hst3, hsk3, -, -⟩; have hS3 := HSK.out _ u3 (by assumption) hsk3))
          rename_i hHeld
          rw [HSN.out] at hst3
          have HS3 := Lib.hid hst3
          have HZX := Lib.hid (szxid_any hst3)
          have HB3u : Hid (Below w1.heap.size w1 u3) := Lib.hid ((HB1y.out.trans (hU2.mono HB1y.out.size)).trans (hsk3.below (Nat.le_trans HB1y.out.size hU2.size)))
          clear hHeld hS2 hS3 hu2 hU2 hst3 hsk3 c0 c1 c2 c3 c4 c5 c6
          go_wp2_with fail
          refine HZX.out.mono ?_
          rintro e _ ⟨rfl, rfl⟩
          go_wp2_with fail
          refine HZX.out.mono ?_
          rintro e _ ⟨rfl, rfl⟩
          go_wp2_with fail
          go_roundw
          case rel => exact ⟨k + 1, HLT.out, by go_num, by rw [HRS.out]; show _ = Value.int .i64 (Zs.app Sk x.zx (txO x)).1.z; rw [HSN.out], by rw [HRS.out]; show Hid (StW _ _ _ (Zs.app Sk x.zx (txO x)).1); rw [HSN.out]; exact HS3, HB3u⟩
          case measure => simp [intOf]; omega
        · obtain rfl : k = n := by omega
          have hfull : (l.map clO).take k = l.map clO := List.take_of_length_le (by rw [List.length_map, HSC.out.rd.len]; exact Nat.le_refl _)
          rw [hfull] at HST ⊢
          have HGS : Hid (Zs.Gd (Zs.run Zs.new (l.map clO))) := Lib.hid (Zs.run_gd Zs.new_gd _)
          obtain ⟨S, hS⟩ : ∃ s, Zs.run Zs.new (l.map clO) = s := ⟨_, rfl⟩
          rw [hS] at HST HGS ⊢
          have HSE := Lib.hid (seen_any HST.out HGS.out)
          clear hfull hS hlt
          go_wp2_with fail
          refine HSE.out.mono ?_
          rintro e w6 ⟨vT, vL, vD, rfl, hr6, hb6⟩
          obtain ⟨⟨A1, c1, rfl, -, -⟩, ⟨A2, c2, rfl, -⟩, ⟨A3, c3, l3, rfl, -, -⟩⟩ := id hr6
          dsimp only at *
          obtain ⟨nT, hnT⟩ : ∃ n, S.T.length = n := ⟨_, rfl⟩
          obtain ⟨nL, hnL⟩ : ∃ n, S.L.length = n := ⟨_, rfl⟩
          obtain ⟨nD, hnD⟩ : ∃ n, l3.length = n := ⟨_, rfl⟩
          rw [hnT, hnL, hnD] at hr6 ⊢
          obtain ⟨w7, hw7⟩ : ∃ xx, xx = w6.alloc (.cells #[.int .i64 S.z, .slice A1 nT c1, .slice A2 nL c2, .slice A3 nD c3] 31) := ⟨_, rfl⟩
          obtain ⟨rb, erb⟩ : ∃ xx, xx = w6.heap.size := ⟨_, rfl⟩
          have hbw7 : Below w6.heap.size w6 w7 := by rw [hw7]; exact box_below w6 _
          have hkrb : w7.heap[rb]? = some (.cells #[.int .i64 S.z, .slice A1 nT c1, .slice A2 nL c2, .slice A3 nD c3] 31 (0, 0)) := by rw [hw7, erb]; exact new_block w6 _
          have hbr7 := hb6.trans (hbw7.mono hb6.size)
          have HST7 := Lib.hid (HST.out.below hbr7)
          have hB7 : Below w1.heap.size w1 w7 := HX.out.trans (hbr7.mono HX.out.size)
          have HB7 := Lib.hid hB7
          have HRB7 := Lib.hid hkrb
          have HRW7 := Lib.hid (hr6.below hbw7)
          have HW7 := Lib.hid hw7
          have ERB := Lib.hid erb
          have HOB7 : Hid (w7.heap[ob]? = some (.cells #[.int .i64 o.zx, .int .i64 o.k, .int .i64 o.s, .int .i64 o.n, .int .i64 o.sp, .int .i64 o.now, .slice o.A o.m o.c] 87 (0, 0))) := Lib.hid (blk_below HKO.out hB7)
          have HOWN : Hid (∀ (W : World), Calls Tryz.prog 17 #[.agg #[.int .i64 o.k, .int .i64 o.s, .int .i64 o.n, .int .i64 o.sp, .int .i64 o.now, .slice o.A o.m o.c]] W fun e w' => e = .returned (.agg #[.int .i64 o.k, .int .i64 o.s, .int .i64 o.n, .int .i64 o.sp, .int .i64 o.now, .slice o.A o.m o.c]) ∧ Below W.heap.size W w') := Lib.hid (fun W => own_any W _ _ _ _ _ _ _ _)
          have HAPP : Hid (∀ (W : World), Below w7.heap.size w7 W → Calls Tryz.prog 16 #[.pointer (some ⟨sp, 0, none⟩), .int .i64 (min o.zx S.z), .agg #[.int .i64 o.k, .int .i64 o.s, .int .i64 o.n, .int .i64 o.sp, .int .i64 o.now, .slice o.A o.m o.c]] W (fun e w' => ∃ A4 c4 A5 c5, e = .returned (.tuple #[.agg #[.int .i64 1, .int .i64 0, .slice A4 0 c4], .slice A5 0 c5]) ∧ StW w' w1.heap.size sp S ∧ SK w1.heap.size W w')) := Lib.hid (fun W hW => by
            have h9 := apply_own (HST7.out.below hW) HGS.out (min o.zx S.z) ((HOK.out.below hB7).below hW) (((Tg.old HOK.out.rd (fun c => ⟨_, rfl⟩) (Nat.le_refl w1.heap.size)).below hB7).below hW)
            rw [ap_back (Int.min_le_right _ _)] at h9
            refine h9.mono ?_
            rintro e w' ⟨vp, ve, rfl, h1, h2, h3, h4⟩
            obtain ⟨A4, c4, rfl, -, -, -⟩ := own_form h3
            obtain ⟨A5, c5, rfl, -, -, -⟩ := own_form h4
            exact ⟨A4, c4, A5, c5, rfl, h1, h2⟩)
          have HSS : Hid (∀ (W : World), Below w7.heap.size w7 W → W.cell? ⟨ob, 0, none⟩ = some (.int .i64 o.zx) ∧ W.cell? ⟨ob, 1, none⟩ = some (.int .i64 o.k) ∧ W.cell? ⟨ob, 2, none⟩ = some (.int .i64 o.s) ∧ W.cell? ⟨ob, 3, none⟩ = some (.int .i64 o.n) ∧ W.cell? ⟨ob, 4, none⟩ = some (.int .i64 o.sp) ∧ W.cell? ⟨ob, 5, none⟩ = some (.int .i64 o.now) ∧ W.cell? ⟨ob, 6, none⟩ = some (.slice o.A o.m o.c)) := Lib.hid (fun W hW => ⟨cell_of (blk_below HOB7.out hW) (j := 0) rfl, cell_of (blk_below HOB7.out hW) (j := 1) rfl, cell_of (blk_below HOB7.out hW) (j := 2) rfl, cell_of (blk_below HOB7.out hW) (j := 3) rfl, cell_of (blk_below HOB7.out hW) (j := 4) rfl, cell_of (blk_below HOB7.out hW) (j := 5) rfl, cell_of (blk_below HOB7.out hW) (j := 6) rfl⟩)
          have HSK : Hid (∀ (U W : World), Below w7.heap.size w7 U → SK w1.heap.size U W → W.cell? ⟨ob, 0, none⟩ = some (.int .i64 o.zx) ∧ W.cell? ⟨ob, 1, none⟩ = some (.int .i64 o.k) ∧ W.cell? ⟨ob, 2, none⟩ = some (.int .i64 o.s) ∧ W.cell? ⟨ob, 3, none⟩ = some (.int .i64 o.n) ∧ W.cell? ⟨ob, 4, none⟩ = some (.int .i64 o.sp) ∧ W.cell? ⟨ob, 5, none⟩ = some (.int .i64 o.now) ∧ W.cell? ⟨ob, 6, none⟩ = some (.slice o.A o.m o.c)) := Lib.hid (fun U W hU hW => ⟨cell_of (hW.blk (blk_below HOB7.out hU) (by decide)) (j := 0) rfl, cell_of (hW.blk (blk_below HOB7.out hU) (by decide)) (j := 1) rfl, cell_of (hW.blk (blk_below HOB7.out hU) (by decide)) (j := 2) rfl, cell_of (hW.blk (blk_below HOB7.out hU) (by decide)) (j := 3) rfl, cell_of (hW.blk (blk_below HOB7.out hU) (by decide)) (j := 4) rfl, cell_of (hW.blk (blk_below HOB7.out hU) (by decide)) (j := 5) rfl, cell_of (hW.blk (blk_below HOB7.out hU) (by decide)) (j := 6) rfl⟩)
          clear hr6 hb6 hbw7 hkrb hbr7 hB7 hw7 erb hnT hnL hnD
          go_upto_region 14 with fail
          rw [← HW7.out, ← ERB.out]
          obtain ⟨e0, e1, e2, e3, e4, e5, e6⟩ := HSS.out w7 (Below.refl _ _)
          have HSA : Hid (∀ (W : World) (x : Obj), (W.cell? ⟨ob, 0, none⟩ = some (.int .i64 o.zx) ∧ W.cell? ⟨ob, 1, none⟩ = some (.int .i64 o.k) ∧ W.cell? ⟨ob, 2, none⟩ = some (.int .i64 o.s) ∧ W.cell? ⟨ob, 3, none⟩ = some (.int .i64 o.n) ∧ W.cell? ⟨ob, 4, none⟩ = some (.int .i64 o.sp) ∧ W.cell? ⟨ob, 5, none⟩ = some (.int .i64 o.now) ∧ W.cell? ⟨ob, 6, none⟩ = some (.slice o.A o.m o.c)) → (fun W => W.cell? ⟨ob, 0, none⟩ = some (.int .i64 o.zx) ∧ W.cell? ⟨ob, 1, none⟩ = some (.int .i64 o.k) ∧ W.cell? ⟨ob, 2, none⟩ = some (.int .i64 o.s) ∧ W.cell? ⟨ob, 3, none⟩ = some (.int .i64 o.n) ∧ W.cell? ⟨ob, 4, none⟩ = some (.int .i64 o.sp) ∧ W.cell? ⟨ob, 5, none⟩ = some (.int .i64 o.now) ∧ W.cell? ⟨ob, 6, none⟩ = some (.slice o.A o.m o.c)) (W.alloc x)) := Lib.hid (fun W x h => ⟨cell_alloc h.1 x, cell_alloc h.2.1 x, cell_alloc h.2.2.1 x, cell_alloc h.2.2.2.1 x, cell_alloc h.2.2.2.2.1 x, cell_alloc h.2.2.2.2.2.1 x, cell_alloc h.2.2.2.2.2.2 x⟩)
          have HSD : Hid (∀ (W : World) (u j : Nat) (v : Value), u ≠ ob → (W.cell? ⟨ob, 0, none⟩ = some (.int .i64 o.zx) ∧ W.cell? ⟨ob, 1, none⟩ = some (.int .i64 o.k) ∧ W.cell? ⟨ob, 2, none⟩ = some (.int .i64 o.s) ∧ W.cell? ⟨ob, 3, none⟩ = some (.int .i64 o.n) ∧ W.cell? ⟨ob, 4, none⟩ = some (.int .i64 o.sp) ∧ W.cell? ⟨ob, 5, none⟩ = some (.int .i64 o.now) ∧ W.cell? ⟨ob, 6, none⟩ = some (.slice o.A o.m o.c)) → (fun W => W.cell? ⟨ob, 0, none⟩ = some (.int .i64 o.zx) ∧ W.cell? ⟨ob, 1, none⟩ = some (.int .i64 o.k) ∧ W.cell? ⟨ob, 2, none⟩ = some (.int .i64 o.s) ∧ W.cell? ⟨ob, 3, none⟩ = some (.int .i64 o.n) ∧ W.cell? ⟨ob, 4, none⟩ = some (.int .i64 o.sp) ∧ W.cell? ⟨ob, 5, none⟩ = some (.int .i64 o.now) ∧ W.cell? ⟨ob, 6, none⟩ = some (.slice o.A o.m o.c)) (W.setCell ⟨u, j, none⟩ v)) := Lib.hid (fun W u j v hu h => by
            have kk : ∀ o' u', W.cell? ⟨ob, o', none⟩ = some u' → (W.setCell ⟨u, j, none⟩ v).cell? ⟨ob, o', none⟩ = some u' := fun o' u' hx => by rw [World.cell?_setCell_far _ _ _ _ hu]; exact hx
            exact ⟨kk _ _ h.1, kk _ _ h.2.1, kk _ _ h.2.2.1, kk _ _ h.2.2.2.1, kk _ _ h.2.2.2.2.1, kk _ _ h.2.2.2.2.2.1, kk _ _ h.2.2.2.2.2.2⟩)
          have hne7 : w7.heap.size ≠ ob := by have := blk_lt HOB7.out; omega
          go_cut [11, 12] from 15 (fun p v wx => ∃ u A4 c4 A5 c5 w8, p = .pointer (some ⟨u, 0, none⟩) ∧ v = .slice A5 0 c5 ∧ wx = w8 ∧ Hid (StW w8 w1.heap.size sp S) ∧ Hid (SK w1.heap.size w7 w8) ∧ Hid (w8.heap[u]? = some (.cells #[.int .i64 1, .int .i64 0, .slice A4 0 c4] 42 (0, 0))))
          case first =>
            go_region_held3 (fun W => W.cell? ⟨ob, 0, none⟩ = some (.int .i64 o.zx) ∧ W.cell? ⟨ob, 1, none⟩ = some (.int .i64 o.k) ∧ W.cell? ⟨ob, 2, none⟩ = some (.int .i64 o.s) ∧ W.cell? ⟨ob, 3, none⟩ = some (.int .i64 o.n) ∧ W.cell? ⟨ob, 4, none⟩ = some (.int .i64 o.sp) ∧ W.cell? ⟨ob, 5, none⟩ = some (.int .i64 o.now) ∧ W.cell? ⟨ob, 6, none⟩ = some (.slice o.A o.m o.c))
              (first
                | (with_reducible assumption)
                | (with_reducible exact HSS.out _ (Below.refl _ _).drew)
                | (with_reducible exact HSS.out _ (box_below _ _).drew)
                | (with_reducible exact HSS.out _ (by assumption))
                | (with_reducible exact HSA.out _ _ (by assumption))
                | (with_reducible exact HSD.out _ _ _ _ (by assumption) (HSD.out _ _ _ _ (by assumption) (HSD.out _ _ _ _ (by assumption) (by assumption)))))
              (first
                | (go_at_call 17; (with_reducible refine (HOWN.out _).mono ?_); rintro e u2 ⟨rfl, hu2⟩; have hU2 : Below w7.heap.size w7 u2 := (by first | exact (Below.refl w7.heap.size w7).drew.trans (hu2.mono (Nat.le_refl _)) | exact (box_below w7 _).drew.trans (hu2.mono ((box_below w7 _).drew.size))); have hS2 := HSS.out u2 hU2; have hne2 : u2.heap.size ≠ ob := (by have h8 := blk_lt HOB7.out; have h9 := hU2.size; omega); try have hz2 := blk_below (w := (w7.alloc (.cells #[.int .i64 0, .int .i64 0, .slice none 0 0] 42)).drew) (new_block w7 _) hu2)
                | (go_at_call 16; (with_reducible refine (HAPP.out _ (by first | exact hU2 | exact hU2.trans ((box_below u2 _).mono hU2.size))).mono ?_); rintro e u3 ⟨A4, c4, A5, c5, rfl, hst3, hsk3⟩; have hS3 := HSK.out _ u3 (by first | exact hU2 | exact hU2.trans ((box_below u2 _).mono hU2.size)) hsk3; first | (have hz3 := hsk3.blk hz2 (by decide); have y0 := cell_of hz3 (j := 0) rfl; have y1 := cell_of hz3 (j := 1) rfl; have y2 := cell_of hz3 (j := 2) rfl; have g0 := frozen_of_row u3 _ 0 _ _ hz3; have g1 := frozen_of_row u3 _ 1 _ _ hz3; have g2 := frozen_of_row u3 _ 2 _ _ hz3) | (have hz3 := hsk3.blk (new_block u2 (.cells #[.int .i64 0, .int .i64 0, .slice none 0 0] 42)) (by decide); have y0 := cell_of hz3 (j := 0) rfl; have y1 := cell_of hz3 (j := 1) rfl; have y2 := cell_of hz3 (j := 2) rfl; have g0 := frozen_of_row u3 _ 0 _ _ hz3; have g1 := frozen_of_row u3 _ 1 _ _ hz3; have g2 := frozen_of_row u3 _ 2 _ _ hz3) | (have hxx : Below w7.heap.size w7.drew u2 := hu2)))
            all_goals rename_i hHeld
            all_goals
              first
                | (obtain ⟨w8, hw8⟩ : ∃ xx, xx = u3.alloc (.cells #[.int .i64 1, .int .i64 0, .slice A4 0 c4] 42) := ⟨_, rfl⟩
                   obtain ⟨u, eu⟩ : ∃ xx, xx = u3.heap.size := ⟨_, rfl⟩
                   have hb8 : Below u3.heap.size u3 w8 := by rw [hw8]; exact box_below _ _
                   have hk8 : w8.heap[u]? = some (.cells #[.int .i64 1, .int .i64 0, .slice A4 0 c4] 42 (0, 0)) := by rw [hw8, eu]; exact new_block _ _
                   have HS8 := Lib.hid (hst3.below hb8)
                   have HSK8 : Hid (SK w1.heap.size w7 w8) := Lib.hid (((SK.of_below hU2).trans hsk3).trans (.of_below hb8))
                   have HK8 := Lib.hid hk8
                   rw [← hw8, ← eu]
                   clear hw8 eu hb8 hk8)
                | (obtain ⟨u, eu⟩ : ∃ xx, xx = w7.heap.size := ⟨_, rfl⟩
                   rw [← eu] at hz3
                   obtain ⟨w8, hw8⟩ : ∃ xx, xx = (((u3.setCell ⟨u, 0, none⟩ (.int .i64 1)).setCell ⟨u, 1, none⟩ (.int .i64 0)).setCell ⟨u, 2, none⟩ (.slice A4 0 c4)) := ⟨_, rfl⟩
                   obtain ⟨hwr8, hk8⟩ := set3 hz3 (.int .i64 1) (.int .i64 0) (.slice A4 0 c4)
                   rw [← hw8] at hwr8 hk8
                   have HS8 := Lib.hid (hst3.wr hwr8 hz3 (by decide) (by decide))
                   have HSK8 : Hid (SK w1.heap.size w7 w8) := Lib.hid (Wr.fresh ((SK.of_below hU2).trans hsk3) (Nat.le_of_eq eu.symm) hwr8)
                   have HK8 := Lib.hid hk8
                   rw [← eu, ← hw8]
                   clear hw8 hwr8 hk8 y0 y1 y2 g0 g1 g2)
                | (obtain ⟨u, eu⟩ : ∃ xx, xx = u2.heap.size := ⟨_, rfl⟩
                   rw [← eu] at hz3
                   obtain ⟨w8, hw8⟩ : ∃ xx, xx = (((u3.setCell ⟨u, 0, none⟩ (.int .i64 1)).setCell ⟨u, 1, none⟩ (.int .i64 0)).setCell ⟨u, 2, none⟩ (.slice A4 0 c4)) := ⟨_, rfl⟩
                   obtain ⟨hwr8, hk8⟩ := set3 hz3 (.int .i64 1) (.int .i64 0) (.slice A4 0 c4)
                   rw [← hw8] at hwr8 hk8
                   have HS8 := Lib.hid (hst3.wr hwr8 hz3 (by decide) (by decide))
                   have HSK8 : Hid (SK w1.heap.size w7 w8) := Lib.hid (Wr.fresh ((SK.of_below (hU2.trans ((box_below u2 _).mono hU2.size))).trans hsk3) (by rw [eu]; exact hU2.size) hwr8)
                   have HK8 := Lib.hid hk8
                   rw [← eu, ← hw8]
                   clear hw8 hwr8 hk8 y0 y1 y2 g0 g1 g2)
            all_goals
              clear hHeld
              go_wp2_with fail
              go_meet
              exact ⟨u, A4, c4, A5, c5, w8, rfl, rfl, rfl, HS8, HSK8, HK8⟩
          case rest =>
            obtain ⟨u, A4, c4, A5, c5, w8, rfl, rfl, hwc, HST8, HSK8, HK8⟩ := hcut
            obtain rfl : w8 = wc := hwc.symm
            clear hwc
            have hB8 : Below w1.heap.size w1 w8 := HB7.out.trans (HSK8.out.below HB7.out.size)
            have HRB8 := Lib.hid (HSK8.out.blk HRB7.out (by decide))
            have HRW8 := Lib.hid (HRW7.out.sk HSK8.out)
            have HSE8 := Lib.hid (seen_any HST8.out HGS.out)
            have HB8 := Lib.hid hB8
            clear hB8
            go_wp2_with fail
            refine HSE8.out.mono ?_
            rintro e w9 ⟨vT9, vL9, vD9, rfl, hr9, hb9⟩
            obtain ⟨⟨A6, c6, rfl, -, -⟩, ⟨A7, c7, rfl, -⟩, ⟨A8, c8, l8, rfl, -, -⟩⟩ := id hr9
            dsimp only at *
            obtain ⟨mT, hmT⟩ : ∃ n, S.T.length = n := ⟨_, rfl⟩
            obtain ⟨mL, hmL⟩ : ∃ n, S.L.length = n := ⟨_, rfl⟩
            obtain ⟨mD, hmD⟩ : ∃ n, l8.length = n := ⟨_, rfl⟩
            rw [hmT, hmL, hmD] at hr9 ⊢
            obtain ⟨w10, hw10⟩ : ∃ xx, xx = w9.alloc (.cells #[.int .i64 S.z, .slice A6 mT c6, .slice A7 mL c7, .slice A8 mD c8] 31) := ⟨_, rfl⟩
            obtain ⟨rc, erc⟩ : ∃ xx, xx = w9.heap.size := ⟨_, rfl⟩
            have hbw10 : Below w9.heap.size w9 w10 := by rw [hw10]; exact box_below w9 _
            have hkrc : w10.heap[rc]? = some (.cells #[.int .i64 S.z, .slice A6 mT c6, .slice A7 mL c7, .slice A8 mD c8] 31 (0, 0)) := by rw [hw10, erc]; exact new_block w9 _
            have hb810 := hb9.trans (hbw10.mono hb9.size)
            have HB10 : Hid (Below w1.heap.size w1 w10) := Lib.hid (HB8.out.trans (hb810.mono HB8.out.size))
            have HRA := Lib.hid (HRW8.out.below hb810)
            have HRC := Lib.hid (hr9.below hbw10)
            have HKA := Lib.hid (blk_below HRB8.out hb810)
            have HKC := Lib.hid hkrc
            have HKU := Lib.hid (blk_below HK8.out hb810)
            have HW10 := Lib.hid hw10
            have ERC := Lib.hid erc
            clear hr9 hb9 hbw10 hkrc hb810 hw10 erc hmT hmL hmD
            go_upto_region 16 with fail
            rw [← HW10.out, ← ERC.out]
            go_wp2_with fail
            refine (HAL.out w10).mono ?_
            rintro e w11 ⟨rfl, hb11⟩
            have hu11 := blk_below HKU.out hb11
            have ha11 := blk_below HKA.out hb11
            have hc11 := blk_below HKC.out hb11
            have HS1 := Lib.hid (seen_same HGS.out (HRA.out.below hb11) (HRC.out.below hb11))
            have s0 := cell_of hu11 (j := 0) rfl
            have s1 := cell_of hu11 (j := 1) rfl
            have s2 := cell_of hu11 (j := 2) rfl
            have t0 := cell_of ha11 (j := 0) rfl
            have t1 := cell_of ha11 (j := 1) rfl
            have t2 := cell_of ha11 (j := 2) rfl
            have t3 := cell_of ha11 (j := 3) rfl
            have v0 := cell_of hc11 (j := 0) rfl
            have v1 := cell_of hc11 (j := 1) rfl
            have v2 := cell_of hc11 (j := 2) rfl
            have v3 := cell_of hc11 (j := 3) rfl
            go_wp2_with fail
            refine HS1.out.mono ?_
            rintro e w12 ⟨rfl, hb12⟩
            have ha12 := blk_below ha11 hb12
            have hc12 := blk_below hc11 hb12
            have HS2 := Lib.hid (seen_same HGS.out ((HRC.out.below hb11).below hb12) ((HRA.out.below hb11).below hb12))
            have x0 := cell_of ha12 (j := 0) rfl
            have x1 := cell_of ha12 (j := 1) rfl
            have x2 := cell_of ha12 (j := 2) rfl
            have x3 := cell_of ha12 (j := 3) rfl
            have y0 := cell_of hc12 (j := 0) rfl
            have y1 := cell_of hc12 (j := 1) rfl
            have y2 := cell_of hc12 (j := 2) rfl
            have y3 := cell_of hc12 (j := 3) rfl
            go_wp2_with fail
            refine HS2.out.mono ?_
            rintro e w13 ⟨rfl, hb13⟩
            have HE : Hid (Below w.heap.size w w13) := Lib.hid (by
              have h1 := HB10.out.trans (hb11.mono HB10.out.size)
              have h2 := h1.trans (hb12.mono h1.size)
              have h3 := h2.trans (hb13.mono h2.size)
              exact HB1.out.trans (h3.mono HB1.out.size))
            go_wp2_with fail
            go_ret
            exact ⟨rfl, HE.out⟩
end Go.Proofs.YtflgemlhocjipaaGreatDoor
