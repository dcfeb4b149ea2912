/-
  What add returns and leaves. Condition: how much was done; a text's length.
-/
import Derived.Test.YtoaahhgngelnaaaFAddM
import Derived.Test.YtoaahhgngelnaaaTNeed
namespace Go.Proofs.Ytoaahhgngelnaaa
set_option maxRecDepth 100000
open Go.ChangeShapes Go.WideShapes Go.ChangeAt Go.RowKit Go.Proofs.Sg Go.Proofs.Fz

theorem pnil2 : ∀ W, (binOp .neq 66 (.pointer none) (.pointer none)).run Try.prog W = .ok (.bool false) W := fun W => by kernel_rfl
theorem pnn2 (n : Nat) : ∀ W, (binOp .neq 66 (pA n) (.pointer none)).run Try.prog W = .ok (.bool true) W := fun W => by kernel_rfl
/-- What add leaves. -/
def AdPost (w : World) (bs : Nat) (Y : Lay) (f : Fst) (d : Nat) (m : Mk) (e : Ending) (w' : World) : Prop := ∃ p hb mb, e = .returned (pA p) ∧ FM w' bs (Y.up (adN f d m).id p hb mb) (adS f d m) ∧ FK Y f.I w w' ∧ Fresh Y f.I w (Y.up (adN f d m).id p hb mb) (adS f d m).I
theorem mi_ne2 {w : World} {mb : Nat} {I : List Nod} {ip : Nat → Nat} (h : IMap w mb I ip) {b : Nat} {cs : Array Value} {t : TypeId} {fr : Nat × Nat} (hb : w.heap[b]? = some (.cells cs t fr)) : b ≠ mb := fun e => by
  obtain ⟨es, clock, h1⟩ := h.is_map
  rw [← e, hb] at h1
  cases h1
theorem sk_new {w a b : World} {x y p : Nat} (h : SK w a x y) (hg : a.grownBy b (some p)) (hp : w.heap.size ≤ p) : SK w b x y :=
  ⟨hg.os.trans h.os, hg.tape.trans h.tape, hg.output.trans h.output, Nat.le_trans h.size hg.size, fun k hk h1 h2 => (hg.block k (Nat.lt_of_lt_of_le hk h.size) (by simp; omega)).trans (h.block k hk h1 h2)⟩
theorem add_end {w W : World} {bs : Nat} {Y : Lay} {f : Fst} (h : FM w bs Y f) (hbs : bs ≤ w.heap.size) {d : Nat} {m : Mk} {i : Nat} (hi : (adN f d m).id = i) (hw : Nw f i) (hir : i ≤ 1000) (hc : f.I.length < 200) {p hb mb : Nat} (hp : w.heap.size ≤ p) (hhb : (adN f d m).kind ≠ 3 → w.heap.size ≤ hb ∧ w.heap.size ≤ mb)
    (hfs : W.heap[Y.fp]? = some (.cells (fsCells f.room Y.mi (bump f.G i)).toArray 65 (0, 0))) (him : IMap W Y.mi f.I Y.ip) (hsk : SK w W Y.fp Y.mi)
    (hn : NdW W bs (Y.up i p hb mb) (setI f.I (adN f d m)) f.N (adN f d m)) :
    ∃ W', (Instr.mapUpdate 62 (.map (some Y.mi)) (.int .i64 (i : Int)) (pA p)).run Try.prog W = .ok () W' ∧ AdPost w bs Y f d m (.returned (pA p)) W' := by
  subst hi
  have hmi := h.map.lt
  obtain ⟨W', e1, e2, e3⟩ := him.store hw.no hir (by omega) p
  have hn2 : NdW W' bs (Y.up (adN f d m).id p hb mb) (setI f.I (adN f d m)) f.N (adN f d m) := by
    have e5 : (Y.up (adN f d m).id p hb mb).ip (adN f d m).id = p := upd_same _ _ _
    have e6 : (Y.up (adN f d m).id p hb mb).hp (adN f d m).id = hb := upd_same _ _ _
    have e7 : (Y.up (adN f d m).id p hb mb).mp (adN f d m).id = mb := upd_same _ _ _
    refine hn.keep (e3.block _ hn.lts.1 ?_) (fun hk => ⟨e3.block _ (hn.lts.2 hk).1 ?_, e3.block _ (hn.lts.2 hk).2 ?_⟩)
    · rw [e5]; simp; omega
    · rw [e6]; have := hhb (by omega); simp; omega
    · rw [e7]; have := hhb (by omega); simp; omega
  have hsk2 : SK w W' Y.fp Y.mi := hsk.trans (SK.gb_mb e3)
  obtain ⟨g1, g2⟩ := h.add hbs (W := W') (G := bump f.G (adN f d m).id) hw hp hhb (gb_cells e3 (mi_ne2 him hfs) hfs) e2 (fun k hk k1 k2 => hsk2.block k (h.foot_lt hw.kind k hk) k1 k2) hn2
  exact ⟨W', e1, p, hb, mb, rfl, g1, ⟨hsk2.os, hsk2.tape, hsk2.output, hsk2.size, fun k hk hf => hsk2.block k hk (fun e => hf (.inl e)) (fun e => hf (.inr (.inl e)))⟩, g2⟩
set_option maxHeartbeats 4000000 in
theorem add_any {w : World} {bs : Nat} {Y : Lay} {f : Fst} {T : Nat} (h : FM w bs Y f) (hbs : bs ≤ w.heap.size) (hw : Nw f (least f.I 201 1)) (hG : ∀ i, f.G.getD i 0 ≤ T + 1) (hT : T ≤ 1000000000) (hc : f.I.length < 200) (d : Nat) (m : Mk) (hm : badM m = false) (s : ByteArray) (hs : L s = m.tg) :
    Calls Try.prog 22 #[pA Y.fp, .agg #[.int .i64 m.kind, .int .i64 m.mode, .int .i64 m.time, .string s]] w (AdPost w bs Y f d m) := by
  obtain ⟨w1, hw1⟩ : ∃ w1, w1 = w.alloc (.cells #[.int .i64 m.kind, .int .i64 m.mode, .int .i64 m.time, .string s] 52) := ⟨_, rfl⟩
  obtain ⟨q, hq⟩ : ∃ g, g = w.heap.size := ⟨_, rfl⟩
  have hb1 : Below w.heap.size w w1 := by rw [hw1]; exact box_below w _
  have hbx : w1.heap[q]? = some (.cells #[.int .i64 m.kind, .int .i64 m.mode, .int .i64 m.time, .string s] 52 (0, 0)) := by rw [hw1, hq]; exact new_block w _
  have h1 := h.below hw.kind hb1
  obtain ⟨f1, f2, f3, f4⟩ := free_spec hc
  obtain ⟨i, hi⟩ : ∃ i, least f.I 201 1 = i := ⟨_, rfl⟩
  rw [hi] at f1 f2 f3 f4 hw
  have c1 := h1.cells.2
  have HW1 := Lib.hid hw1
  have HQ := Lib.hid hq
  have HB1 := Lib.hid hb1
  have HBX := Lib.hid hbx
  have HM := Lib.hid h
  have HM1 := Lib.hid h1
  have HNW := Lib.hid hw
  have HI := Lib.hid hi
  have HFR := Lib.hid f1
  have HFL := Lib.hid f4
  have HIB : Hid (1 ≤ i ∧ i ≤ 200) := Lib.hid ⟨f2, f3⟩
  have HMK := Lib.hid hm
  have HS := Lib.hid hs
  have HTT : Hid (f.G.getD i 0 ≤ 1000000001) := Lib.hid (by have := hG i; omega)
  have HC := Lib.hid hc
  have HBS := Lib.hid hbs
  have HLK : Hid (∀ (j : Nat), j ≤ 1000 → (Instr.lookup 62 (.map (some Y.mi)) (.int .i64 (j : Int)) false).run Try.prog w1 = .ok (iP f.I Y.ip (j : Int)) w1) := Lib.hid (fun j hj => h1.map.look (by omega) (by omega))
  clear h hbs hw hG hT hc hm hs hw1 hq hb1 hbx h1 f1 f2 f3 f4 hi
  go_enter Try.func22, Try.ntmps22
  go_upto_region 1 with fail
  rw [← HW1.out, ← HQ.out]
  go_wp2_with fail
  go_loopw [5] (fun v wr => ∃ j : Nat, 1 ≤ j ∧ j ≤ i ∧ v = .int .i64 (j : Int) ∧ Hid (w1 = wr)) (fun v _ => i - (intOf v).toNat)
  case atStart => exact ⟨1, Nat.le_refl _, HIB.out.1, rfl, Lib.hid rfl⟩
  case round =>
    obtain ⟨j, hj1, hji, rfl, HWR⟩ := hrel
    have ew := HWR.out
    subst ew
    have hlk := HLK.out j (by have := HIB.out; omega)
    by_cases hlt : j < i
    · obtain ⟨x, hx⟩ := Option.isSome_iff_exists.1 (HFL.out j hj1 hlt)
      have hip : iP f.I Y.ip (j : Int) = pA (Y.ip x.id) := by unfold iP; rw [hx]
      rw [hip] at hlk
      have hpn := pnn2 (Y.ip x.id)
      obtain ⟨j1, hj⟩ : ∃ j1, j + 1 = j1 := ⟨_, rfl⟩
      have hwj : IntKind.i64.wrap ((j : Int) + 1) = (j1 : Int) := by rw [IntKind.wrap_i64]; have := HIB.out; omega
      have HJ : Hid (j < i ∧ j + 1 = j1 ∧ 1 ≤ j) := Lib.hid ⟨hlt, hj, hj1⟩
      clear hx hip hlt hj hj1 hji
      go_wp2_with fail
      go_roundw
      case rel => exact ⟨j1, by have := HJ.out; omega, by have := HJ.out; omega, rfl, by first | trivial | exact Lib.hid rfl⟩
      case measure => simp [intOf]; have := HJ.out; omega
    · obtain rfl : i = j := by omega
      have hip : iP f.I Y.ip (i : Int) = .pointer none := by unfold iP; rw [HFR.out]
      rw [hip] at hlk
      have hpn := pnil2
      clear hip hlt hj1 hji
      go_upto_region 4 with fail
      obtain ⟨gv, hgv⟩ : ∃ g : Nat, f.G.getD i 0 = g := ⟨_, rfl⟩
      have b2 := cell_of HM1.out.here (j := 2 + i) (fs_get (by have := HIB.out; omega))
      have z2 := frozen_of_row w1 Y.fp (2 + i) _ _ HM1.out.here
      rw [hgv] at b2
      have hwg : IntKind.i64.wrap ((gv : Int) + 1) = ((gv + 1 : Nat) : Int) := by rw [IntKind.wrap_i64]; have := HTT.out; rw [hgv] at this; omega
      have hi0 : (0 : Int) ≤ (i : Int) := by omega
      have hi1 : (i : Int) < 201 := by have := HIB.out; omega
      go_region
      obtain ⟨w2, hw2⟩ : ∃ W, W = (w1.setCell ⟨Y.fp, 2 + i, none⟩ (.int .i64 ((gv : Int) + 1))).drew := ⟨_, rfl⟩
      rw [← hw2]
      have hfp1 := HM1.out.here
      have hlt1 := HM1.out.foot_lt HNW.out.kind
      have hqf : Y.fp ≠ q := by have := blk_lt HM.out.here; have := HQ.out; omega
      have hg2 : w1.grownBy w2 (some Y.fp) := by rw [hw2]; exact gb_trans (gb_set _) gb_drew
      have hfs2 : w2.heap[Y.fp]? = some (.cells (fsCells f.room Y.mi (bump f.G i)).toArray 65 (0, 0)) := by
        rw [← fs_set (by have := HIB.out; omega), hgv, hw2]
        exact heap_setCell_same w1 Y.fp (2 + i) _ _ (.int .i64 ((gv : Int) + 1)) hfp1
      have hbx2 := gb_cells hg2 (Ne.symm hqf) HBX.out
      have hi2 : IMap w2 Y.mi f.I Y.ip := HM1.out.map.keep (hg2.block _ HM1.out.map.lt (by simpa using mi_ne HM1.out hfp1))
      have HSK2 : Hid (SK w w2 Y.fp Y.mi) := Lib.hid ((SK.of_below HB1.out).trans (SK.gb_sp hg2))
      have HFS2 := Lib.hid hfs2
      have HI2 := Lib.hid hi2
      have HBX2 := Lib.hid hbx2
      have HW2 := Lib.hid hw2
      have d2 := cell_of hfs2 (j := 2 + i) (fs_get (by have := HIB.out; omega))
      rw [getD_bump, if_pos rfl, hgv] at d2
      obtain ⟨gw, hgw⟩ : ∃ g : Int, ((gv + 1 : Nat) : Int) = g := ⟨_, rfl⟩
      rw [hgw] at d2
      have HGW : Hid (gw = ((f.G.getD i 0 + 1 : Nat) : Int)) := Lib.hid (by rw [← hgw, hgv])
      have e1 := cell_of hbx2 (j := 1) rfl
      have e2 := cell_of hbx2 (j := 2) rfl
      clear hw2 hfp1 hlt1 hg2 hfs2 hbx2 hi2 b2 z2 hwg hgv hgw hlk hqf c1
      go_upto_region 5 with fail
      go_region
      obtain ⟨w3, hw3⟩ : ∃ W, W = (w2.alloc (.cells #[.int .i64 (i : Int), .int .i64 gw, .int .i64 m.mode, .int .i64 0, .int .i64 m.time, .nilIface] 75)).drew := ⟨_, rfl⟩
      obtain ⟨p, hp⟩ : ∃ p, p = w2.heap.size := ⟨_, rfl⟩
      rw [← hw3, ← hp]
      have hb3 : Below w2.heap.size w2 w3 := by rw [hw3]; exact (box_below w2 _).drew
      have hp3 : w3.heap[p]? = some (.cells #[.int .i64 (i : Int), .int .i64 gw, .int .i64 m.mode, .int .i64 0, .int .i64 m.time, .nilIface] 75 (0, 0)) := by rw [hw3, hp]; exact new_block w2 _
      have HP3 := Lib.hid hp3
      have HFS3 := Lib.hid (blk_below HFS2.out hb3)
      have HI3 := Lib.hid (HI2.out.keep (hb3.block _ HI2.out.lt))
      have HBX3 := Lib.hid (blk_below HBX2.out hb3)
      have HSK3 : Hid (SK w w3 Y.fp Y.mi) := Lib.hid (HSK2.out.trans (SK.of_below hb3))
      have HPW : Hid (w.heap.size ≤ p) := Lib.hid (by rw [hp]; exact HSK2.out.size)
      have HPF : Hid (p ≠ Y.fp ∧ p ≠ Y.mi ∧ p ≠ q) := Lib.hid (by
        have h1 := blk_lt HFS2.out
        have h2 := HI2.out.lt
        have h3 := blk_lt HBX2.out
        omega)
      have b0 := cell_of HBX3.out (j := 0) rfl
      have b3 := cell_of HBX3.out (j := 3) rfl
      have HPP := Lib.hid hp
      rename_i xx1
      clear hb3 hp3 hw3 hp e1 e2 d2
      obtain ⟨hkk, -⟩ := badM_of HMK.out
      rcases hkk with hk | hk | hk
      · rw [hk] at b0
        have HNE := Lib.hid (new_any w3)
        have HK := Lib.hid hk
        clear hk
        go_wp2_with fail
        refine HNE.out.mono ?_
        rintro e w4 ⟨sp, mb, rfl, hs4, hb4⟩
        have hp4 := blk_below HP3.out hb4
        have z5 := frozen_of_row w4 p 5 _ _ hp4
        have c5 := cell_of hp4 (j := 5) rfl
        obtain ⟨w5, hw5⟩ : ∃ W5, W5 = w4.setCell ⟨p, 5, none⟩ (.iface 76 (pA sp)) := ⟨_, rfl⟩
        have hp5 := heap_setCell_same w4 p 5 _ _ (.iface 76 (pA sp)) hp4
        rw [← hw5] at hp5
        have hg5 : w4.grownBy w5 (some p) := by rw [hw5]; exact gb_set _
        have hs5 : SW w5 w3.heap.size sp mb S0 := ⟨gb_cells hg5 (by have := hs4.gsp; have := blk_lt HP3.out; omega) hs4.here, hs4.map.gb hg5 (by have := hs4.gmb; have := blk_lt HP3.out; omega), hs4.good, hs4.gsp, hs4.gmb⟩
        have HKN : (adN f d m).kind = 1 := by show m.kind.toNat = 1; rw [HK.out]; rfl
        have hfs5 := gb_cells hg5 (Ne.symm HPF.out.1) (blk_below HFS3.out hb4)
        have him4 : IMap w4 Y.mi f.I Y.ip := HI3.out.keep (hb4.block _ HI3.out.lt)
        have him5 : IMap w5 Y.mi f.I Y.ip := him4.keep (hg5.block _ him4.lt (by simpa using Ne.symm HPF.out.2.1))
        have hsk5 : SK w w5 Y.fp Y.mi := sk_new (HSK3.out.trans (SK.of_below hb4)) hg5 HPW.out
        have hnd : NdW w5 bs (Y.up i p sp mb) (setI f.I (adN f d m)) f.N (adN f d m) := by
          have hid : (adN f d m).id = i := HI.out
          refine ⟨?_, fun hk2 => ?_, fun hk2 => by omega⟩
          · rw [links_new (by rw [hid]; exact HNW.out), if_neg (by omega)]
            unfold holdV
            rw [if_pos HKN, hid]
            show w5.heap[upd Y.ip i p i]? = some (.cells #[_, .int .i64 ((f.G.getD (least f.I 201 1) 0 + 1 : Nat) : Int), _, _, _, .iface _ (pA (upd Y.hp i sp i))] _ _)
            rw [upd_same, upd_same, HI.out, ← HGW.out]
            exact hp5
          · rw [hid]
            show SW w5 bs (upd Y.hp i sp i) (upd Y.mp i mb i) sh0
            rw [upd_same, upd_same]
            exact ⟨hs5.here, hs5.map, hs5.good, Nat.le_trans HBS.out (Nat.le_trans HSK3.out.size hs5.gsp), Nat.le_trans HBS.out (Nat.le_trans HSK3.out.size hs5.gmb)⟩
        obtain ⟨W9, hrun, hpost⟩ := add_end HM.out HBS.out (d := d) (m := m) HI.out HNW.out (by have := HIB.out; omega) HC.out (p := p) (hb := sp) (mb := mb) HPW.out (fun hk3 => ⟨Nat.le_trans HSK3.out.size hs5.gsp, Nat.le_trans HSK3.out.size hs5.gmb⟩) hfs5 him5 hsk5 hnd
        have c1 : w5.cell? ⟨Y.fp, 1, none⟩ = some (.map (some Y.mi)) := cell_of hfs5 (j := 1) rfl
        have HE := Lib.hid hpost
        rw [hw5] at c1 hrun
        clear hpost hnd hsk5 him5 hfs5 hw5 hs4 hb4 hp4 hp5 hg5 hs5 him4
        go_wp2_with fail
        go_ret
        exact HE.out
      · have HK := Lib.hid hk
        rw [hk] at b0
        clear hk
        have z3 := frozen_of_row w3 p 3 _ _ HP3.out
        have c3 := cell_of HP3.out (j := 3) rfl
        obtain ⟨w4, hw4⟩ : ∃ W4, W4 = w3.setCell ⟨p, 3, none⟩ (.int .i64 2) := ⟨_, rfl⟩
        have hp4 := heap_setCell_same w3 p 3 _ _ (.int .i64 2) HP3.out
        rw [← hw4] at hp4
        have hg4 : w3.grownBy w4 (some p) := by rw [hw4]; exact gb_set _
        have a0 := cell_of hp4 (j := 0) rfl
        have a1 := cell_of hp4 (j := 1) rfl
        have hmm := @run_makeMap Try.prog
        obtain ⟨w5, hw5⟩ : ∃ W, W = (w4.alloc (.map #[] 0)).alloc (.cells #[.int .i64 (i : Int), .int .i64 gw, .map (some w4.heap.size)] 81) := ⟨_, rfl⟩
        have hb5 : Below w4.heap.size w4 w5 := by rw [hw5]; exact box2 w4 _ _
        have hp5 := blk_below hp4 hb5
        have c5 := cell_of hp5 (j := 5) rfl
        have z5 := frozen_of_row w5 p 5 _ _ hp5
        have hsz4 : w4.heap.size = w3.heap.size := by rw [hw4]; simp
        rw [hw5, hsz4, hw4] at c5 z5
        rw [hw4] at a0 a1
        obtain ⟨hb, hhbe⟩ : ∃ x, x = w3.heap.size + 1 := ⟨_, rfl⟩
        obtain ⟨mb, hmbe⟩ : ∃ x, x = w3.heap.size := ⟨_, rfl⟩
        obtain ⟨w6, hw6⟩ : ∃ W, W = w5.setCell ⟨p, 5, none⟩ (.iface 78 (pA hb)) := ⟨_, rfl⟩
        have HKN : (adN f d m).kind = 2 := by show m.kind.toNat = 2; rw [HK.out]; rfl
        have hg6 : w5.grownBy w6 (some p) := by rw [hw6]; exact gb_set _
        have hp6 := heap_setCell_same w5 p 5 _ _ (.iface 78 (pA hb)) hp5
        rw [← hw6] at hp6
        have hm5 : w5.heap[mb]? = some (.map #[] 0) := by rw [hw5, hmbe, ← hsz4]; exact blk_alloc (new_block w4 _) _
        have hf5 : w5.heap[hb]? = some (.cells #[.int .i64 (i : Int), .int .i64 gw, .map (some mb)] 81 (0, 0)) := by
          have h2 := new_block (w4.alloc (.map #[] 0)) (.cells #[.int .i64 (i : Int), .int .i64 gw, .map (some w4.heap.size)] 81)
          rw [hw5, hhbe, hmbe, ← hsz4]
          simpa using h2
        have hpl := blk_lt HP3.out
        have hmo : w6.ownsMap (H := Value) Try.prog 9 vR mb 0 (.map []) := by
          have h2 : (w4.alloc (.map #[] 0)).ownsMap (H := Value) Try.prog 9 vR w4.heap.size 0 (.map []) := World.ownsMap_made w4 Try.prog 9 vR
          rw [hsz4, ← hmbe] at h2
          obtain ⟨es, clock, g1, g2⟩ := h2
          have e3 : (w4.alloc (.map #[] 0)).heap[mb]? = some (.map #[] 0) := by rw [hmbe, ← hsz4]; exact new_block w4 _
          rw [e3] at g1
          exact ⟨es, clock, ((hg6.block mb (blk_lt hm5) (by simp; omega)).trans hm5).trans g1, g2⟩
        have hfs4 := gb_cells hg4 (Ne.symm HPF.out.1) HFS3.out
        have hfs5' := blk_below hfs4 hb5
        have hfs6 := gb_cells hg6 (Ne.symm HPF.out.1) hfs5'
        have him4 : IMap w4 Y.mi f.I Y.ip := HI3.out.keep (hg4.block _ HI3.out.lt (by simpa using Ne.symm HPF.out.2.1))
        have him5' : IMap w5 Y.mi f.I Y.ip := him4.keep (hb5.block _ him4.lt)
        have him6 : IMap w6 Y.mi f.I Y.ip := him5'.keep (hg6.block _ him5'.lt (by simpa using Ne.symm HPF.out.2.1))
        have hsk6 : SK w w6 Y.fp Y.mi := sk_new ((sk_new HSK3.out hg4 HPW.out).trans (SK.of_below hb5)) hg6 HPW.out
        have hnd : NdW w6 bs (Y.up i p hb mb) (setI f.I (adN f d m)) f.N (adN f d m) := by
          have hid : (adN f d m).id = i := HI.out
          have hgn : (adN f d m).gen = f.G.getD i 0 + 1 := by show f.G.getD (least f.I 201 1) 0 + 1 = _; rw [HI.out]
          have hpr : (adN f d m).par = i := by show (if m.kind = 2 then least f.I 201 1 else d) = i; rw [if_pos HK.out, HI.out]
          have hgo : genO (setI f.I (adN f d m)) i = (adN f d m).gen := by unfold genO; rw [nget_setI, if_pos (by rw [hid])]
          refine ⟨?_, fun hk2 => by omega, fun hk2 => ⟨?_, ?_⟩⟩
          · rw [links_new (by rw [hid]; exact HNW.out), if_pos HKN, hgn]
            unfold holdV
            rw [if_neg (by omega), if_pos HKN, hid]
            show w6.heap[upd Y.ip i p i]? = some (.cells #[_, _, _, _, _, .iface _ (pA (upd Y.hp i hb i))] _ _)
            rw [upd_same, upd_same, ← HGW.out]
            exact hp6
          · rw [hid, hpr, hgo, hgn, ← HGW.out]
            show w6.heap[upd Y.hp i hb i]? = some (.cells #[_, _, .map (some (upd Y.mp i mb i))] _ _)
            rw [upd_same, upd_same]
            exact gb_cells hg6 (by omega) hf5
          · rw [hid]
            show NMap w6 (upd Y.mp i mb i) _ _ _
            rw [upd_same]
            have hen : ∀ t, entN f.N i t = none := fun t => entN_none.2 (fun a ha e => (HNW.out.nms a ha).2 e.1)
            refine ⟨.map [], hmo, ?_, fun t => ?_, fun t => ?_⟩
            · rw [show many f.N i = 0 from many_zero.2 (fun a ha => (HNW.out.nms a ha).2)]; rfl
            · rw [entry_none (hen t)]; simp [Maps.has]
            · rw [entry_none (hen t)]; rfl
        obtain ⟨W9, hrun, hpost⟩ := add_end HM.out HBS.out (d := d) (m := m) HI.out HNW.out (by have := HIB.out; omega) HC.out (p := p) (hb := hb) (mb := mb) HPW.out (fun hk3 => by have := HSK3.out.size; omega) hfs6 him6 hsk6 hnd
        have c1 : w6.cell? ⟨Y.fp, 1, none⟩ = some (.map (some Y.mi)) := cell_of hfs6 (j := 1) rfl
        have HE := Lib.hid hpost
        rw [hw6, hw5, hsz4, hw4, hhbe] at c1 hrun
        clear hpost hnd hsk6 him6 hfs6 hw6 hw5 hw4 hmo hm5 hf5 hpl hfs4 him4 hg4 hg6 hp6 hp5 hp4 hb5 hhbe hmbe hsz4
        go_wp2_with fail
        go_ret
        exact HE.out
      · have HK := Lib.hid hk
        rw [hk] at b0
        clear hk
        have HCL := Lib.hid (sclone_any s w3 (by rw [← L_len, HS.out]; have := (badM_of HMK.out).2.2.2.2.1; omega))
        go_wp2_with fail
        refine HCL.out.mono ?_
        rintro e w4 ⟨rfl, hb4⟩
        have hp4 := blk_below HP3.out hb4
        have z5 := frozen_of_row w4 p 5 _ _ hp4
        have c5 := cell_of hp4 (j := 5) rfl
        obtain ⟨w5, hw5⟩ : ∃ W5, W5 = w4.setCell ⟨p, 5, none⟩ (.iface 82 (.string s)) := ⟨_, rfl⟩
        have hp5 := heap_setCell_same w4 p 5 _ _ (.iface 82 (.string s)) hp4
        rw [← hw5] at hp5
        have hg5 : w4.grownBy w5 (some p) := by rw [hw5]; exact gb_set _
        have HKN : (adN f d m).kind = 3 := by show m.kind.toNat = 3; rw [HK.out]; rfl
        have hfs5 := gb_cells hg5 (Ne.symm HPF.out.1) (blk_below HFS3.out hb4)
        have him4 : IMap w4 Y.mi f.I Y.ip := HI3.out.keep (hb4.block _ HI3.out.lt)
        have him5 : IMap w5 Y.mi f.I Y.ip := him4.keep (hg5.block _ him4.lt (by simpa using Ne.symm HPF.out.2.1))
        have hsk5 : SK w w5 Y.fp Y.mi := sk_new (HSK3.out.trans (SK.of_below hb4)) hg5 HPW.out
        have hnd : NdW w5 bs (Y.up i p 0 0) (setI f.I (adN f d m)) f.N (adN f d m) := by
          have hid : (adN f d m).id = i := HI.out
          have htg : B (adN f d m).tg = s := by show B m.tg = s; rw [← HS.out]
          refine ⟨?_, fun hk2 => by omega, fun hk2 => by omega⟩
          rw [links_new (by rw [hid]; exact HNW.out), if_neg (by omega)]
          unfold holdV
          rw [if_neg (by omega), if_neg (by omega), hid, htg]
          show w5.heap[upd Y.ip i p i]? = some (.cells #[_, .int .i64 ((f.G.getD (least f.I 201 1) 0 + 1 : Nat) : Int), _, _, _, _] _ _)
          rw [upd_same, HI.out, ← HGW.out]
          exact hp5
        obtain ⟨W9, hrun, hpost⟩ := add_end HM.out HBS.out (d := d) (m := m) HI.out HNW.out (by have := HIB.out; omega) HC.out (p := p) (hb := 0) (mb := 0) HPW.out (fun hk3 => absurd HKN hk3) hfs5 him5 hsk5 hnd
        have c1 : w5.cell? ⟨Y.fp, 1, none⟩ = some (.map (some Y.mi)) := cell_of hfs5 (j := 1) rfl
        have HE := Lib.hid hpost
        rw [hw5] at c1 hrun
        clear hpost hnd hsk5 him5 hfs5 hw5 hb4 hp4 hp5 hg5 him4
        go_wp2_with fail
        go_ret
        exact HE.out
end Go.Proofs.Ytoaahhgngelnaaa
