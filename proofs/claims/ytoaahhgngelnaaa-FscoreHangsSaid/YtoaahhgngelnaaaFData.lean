/-
  What Read, Cut and Write return and leave. Condition: a slice's length.
-/
import Derived.Test.YtoaahhgngelnaaaFStep
namespace Go.Proofs.Ytoaahhgngelnaaa
set_option maxRecDepth 100000
open Go.ChangeShapes Go.WideShapes Go.ChangeAt Go.RowKit Go.Proofs.Sg Go.Proofs.Fz

/-- A file's bytes, and its time, are others in memory. -/
theorem FM.data {w w1 : World} {bs : Nat} {Y : Lay} {f : Fst} (h : FM w bs Y f) (hu : (f.I.map (fun x => x.id)).Nodup) {x : Nod} (hx : x ∈ f.I) (hk : x.kind = 1) {S : Sh} (hS : SW w1 bs (Y.hp x.id) (Y.mp x.id) S) (hs : SK w w1 (Y.hp x.id) (Y.mp x.id)) (t : Int) :
    FM (w1.setCell ⟨Y.ip x.id, 4, none⟩ (.int .i64 t)) bs Y (daS f x S t) ∧ FK Y f.I w (w1.setCell ⟨Y.ip x.id, 4, none⟩ (.int .i64 t)) ∧ Fresh Y f.I w Y (daS f x S t).I ∧ w1.cell? ⟨Y.ip x.id, 4, none⟩ = some (.int .i64 x.time) ∧ w1.frozen? ⟨Y.ip x.id, 4, none⟩ = false := by
  obtain ⟨w2, hw2⟩ : ∃ W, W = w1.setCell ⟨Y.ip x.id, 4, none⟩ (.int .i64 t) := ⟨_, rfl⟩
  rw [← hw2]
  have hg2 : w1.grownBy w2 (some (Y.ip x.id)) := by rw [hw2]; exact gb_set _
  have hxn := h.nod x hx
  have hxs := hxn.fil hk
  have hip : Y.ip x.id ≠ Y.hp x.id := Ne.symm (hp_ip h hx hx (.inl hk))
  have him : Y.ip x.id ≠ Y.mp x.id := Ne.symm (mp_ne h hx (.inl hk) hxn.box)
  have hxb : w1.heap[Y.ip x.id]? = _ := (hs.block _ hxn.lts.1 hip him).trans hxn.box
  have hxb2 := heap_setCell_same w1 (Y.ip x.id) 4 _ _ (.int .i64 t) hxb
  rw [← hw2] at hxb2
  obtain ⟨y, hy⟩ : ∃ y : Nod, { x with d := S, time := t } = y := ⟨_, rfl⟩
  have hyi : y.id = x.id := by rw [← hy]
  have hyk : y.kind = x.kind := by rw [← hy]
  obtain ⟨J, hJ⟩ : ∃ J, setI f.I y = J := ⟨_, rfl⟩
  have hda : daS f x S t = ⟨f.room, J, f.N, f.G⟩ := by unfold daS; rw [hy, hJ]
  have hoth : ∀ k, k < w.heap.size → k ≠ Y.hp x.id → k ≠ Y.mp x.id → k ≠ Y.ip x.id → w2.heap[k]? = w.heap[k]? := fun k hk2 k1 k2 k3 =>
    (hg2.block k (Nat.lt_of_lt_of_le hk2 hs.size) (by simpa using k3)).trans (hs.block k hk2 k1 k2)
  have hmem : ∀ z, z ∈ J → (z ∈ f.I ∧ z.id ≠ x.id) ∨ z = y := fun z hz => by
    rw [← hJ] at hz
    rcases mem_setI.1 hz with ⟨hz, hne⟩ | e
    · exact .inl ⟨hz, by omega⟩
    · exact .inr e
  have hget : ∀ j : Int, nget J j = if (x.id : Int) = j then some y else nget f.I j := fun j => by rw [← hJ, nget_setI, hyi]
  have hD : ∀ j, isD J j = isD f.I j := fun j => by
    unfold isD
    rw [hget]
    by_cases e : (x.id : Int) = (j : Int)
    · rw [if_pos e, ← e, nget_of hu hx]; dsimp only; rw [hyk]
    · rw [if_neg e]
  have hgen : ∀ j, genO J j = genO f.I j := fun j => by
    unfold genO
    rw [hget]
    by_cases e : (x.id : Int) = (j : Int)
    · rw [if_pos e, ← e, nget_of hu hx, ← hy]
    · rw [if_neg e]
  have hhd : ∀ j, hdO J j = hdO f.I j := fun j => by unfold hdO; rw [hgen]
  have hlk : ∀ z, links J f.N z = links f.I f.N z := fun z => links_I (fun a _ => hD _) z
  have hz0 : ∀ z, z ∈ J → ∃ z0 ∈ f.I, z.id = z0.id ∧ z.kind = z0.kind := fun z hz => by
    rcases hmem z hz with ⟨h1, -⟩ | e
    · exact ⟨z, h1, rfl, rfl⟩
    · exact ⟨x, hx, by rw [e, hyi], by rw [e, hyk]⟩
  have hft : ∀ k, foot Y J k → foot Y f.I k := by
    rintro k (e | e | ⟨z, hz, e⟩)
    · exact .inl e
    · exact .inr (.inl e)
    · obtain ⟨z1, k1, k2, k3⟩ := hz0 z hz
      rw [k2, k3] at e
      exact .inr (.inr ⟨z1, k1, e⟩)
  rw [hda]
  refine ⟨⟨?_, ?_, ?_, ?_, ?_, ?_, ?_, fun k hk2 => h.ge k (hft k hk2)⟩, ⟨hg2.os.trans hs.os, hg2.tape.trans hs.tape, hg2.output.trans hs.output, Nat.le_trans hs.size hg2.size, fun k hk2 hn => hoth k hk2 (fun e => hn (e ▸ foot_hp hx (by omega))) (fun e => hn (e ▸ foot_mp hx (by omega))) (fun e => hn (e ▸ foot_ip hx))⟩, fun k hk2 => .inl (hft k hk2), cell_of hxb (j := 4) rfl, frozen_of_row w1 (Y.ip x.id) 4 _ _ hxb⟩
  · exact (hoth _ (blk_lt h.here) (fp_hp h hx (.inl hk)) (fun e => mp_ne h hx (.inl hk) h.here e.symm) (fp_ip h hx)).trans h.here
  · refine (h.map.keep (hoth _ h.map.lt (mi_ne h hxs.here) (fun e => h.mim x hx (by omega) e.symm) (mi_ne h hxn.box))).congr ?_ ?_ ?_
    · rw [← hJ]; exact len_setI hu hx hyi
    · intro a
      rw [hget]
      by_cases e : (x.id : Int) = a
      · rw [if_pos e, ← e, nget_of hu hx]; rfl
      · rw [if_neg e]
    · intro a
      unfold iP
      rw [hget]
      by_cases e : (x.id : Int) = a
      · rw [if_pos e, ← e, nget_of hu hx]; dsimp only; rw [hyi]
      · rw [if_neg e]
  · intro z hz
    rcases hmem z hz with ⟨z1, z2⟩ | rfl
    · have hn := h.nod z z1
      have hn2 := hn.keep (w' := w2) (hoth _ hn.lts.1 (fun e => hp_ip h hx z1 (.inl hk) e.symm) (fun e => mp_ne h hx (.inl hk) hn.box e.symm) (fun e => z2 (h.iinj z z1 x hx e))) (fun hzk => ⟨hoth _ (hn.lts.2 hzk).1 (fun e => z2 (h.hinj z z1 x hx (by omega) (by omega) e)) (fun e => by
          rcases hzk with hzk | hzk
          · exact mp_ne h hx (.inl hk) (hn.fil hzk).here e.symm
          · exact mp_ne h hx (.inl hk) (hn.fol hzk).1 e.symm) (hp_ip h z1 hx hzk), hoth _ (hn.lts.2 hzk).2 (mp_ne h z1 hzk hxs.here) (fun e => z2 (h.minj z z1 x hx (by omega) (by omega) e)) (mp_ne h z1 hzk hxn.box)⟩)
      refine ⟨?_, hn2.fil, fun hzk => ?_⟩
      · have := hn2.box
        rw [← hlk z] at this
        exact this
      · obtain ⟨g1, g2⟩ := hn2.fol hzk
        refine ⟨?_, g2.congr rfl (fun _ => rfl) (fun _ => hhd _)⟩
        show w2.heap[Y.hp z.id]? = some (.cells #[_, .int .i64 (genO J z.par : Int), _] _ _)
        rw [hgen]; exact g1
    · have hl : links J f.N z = links f.I f.N x := by rw [hlk, links_y hyi hyk]
      refine ⟨?_, fun hzk => ?_, fun hzk => by omega⟩
      · rw [hl]
        have hh : holdV Y z = holdV Y x := by rw [hold1 hk, hold1 (by omega), hyi]
        rw [hh, hyi, ← hy]
        exact hxb2
      · rw [hyi]
        have e1 : z.d = S := by rw [← hy]
        rw [e1]
        exact ⟨gb_cells hg2 (Ne.symm hip) hS.here, hS.map.gb hg2 him, hS.good, hS.gsp, hS.gmb⟩
  · intro a ha b hb e
    obtain ⟨a1, k1, k2, -⟩ := hz0 a ha
    obtain ⟨b1, k3, k4, -⟩ := hz0 b hb
    rw [k2, k4] at e ⊢
    exact h.iinj a1 k1 b1 k3 e
  · intro a ha b hb ka kb e
    obtain ⟨a1, k1, k2, k5⟩ := hz0 a ha
    obtain ⟨b1, k3, k4, k6⟩ := hz0 b hb
    rw [k2, k4] at e ⊢
    exact h.hinj a1 k1 b1 k3 (k5 ▸ ka) (k6 ▸ kb) e
  · intro a ha b hb ka kb e
    obtain ⟨a1, k1, k2, k5⟩ := hz0 a ha
    obtain ⟨b1, k3, k4, k6⟩ := hz0 b hb
    rw [k2, k4] at e ⊢
    exact h.minj a1 k1 b1 k3 (k5 ▸ ka) (k6 ▸ kb) e
  · intro a ha ka
    obtain ⟨a1, k1, k2, k5⟩ := hz0 a ha
    rw [k2]
    exact h.mim a1 k1 (k5 ▸ ka)
/-- A file was touched, and is as it was. -/
theorem FM.same_data {w w1 : World} {bs : Nat} {Y : Lay} {f : Fst} (h : FM w bs Y f) (hu : (f.I.map (fun x => x.id)).Nodup) {x : Nod} (hx : x ∈ f.I) (hk : x.kind = 1) (hS : SW w1 bs (Y.hp x.id) (Y.mp x.id) x.d) (hs : SK w w1 (Y.hp x.id) (Y.mp x.id)) : FM w1 bs Y f ∧ FK Y f.I w w1 := by
  have hxn := h.nod x hx
  have hxs := hxn.fil hk
  have hoth : ∀ k, k < w.heap.size → k ≠ Y.hp x.id → k ≠ Y.mp x.id → w1.heap[k]? = w.heap[k]? := hs.block
  refine ⟨⟨?_, ?_, ?_, h.iinj, h.hinj, h.minj, h.mim, h.ge⟩, ⟨hs.os, hs.tape, hs.output, hs.size, fun k hk2 hn => hoth k hk2 (fun e => hn (e ▸ foot_hp hx (by omega))) (fun e => hn (e ▸ foot_mp hx (by omega)))⟩⟩
  · exact (hoth _ (blk_lt h.here) (fp_hp h hx (.inl hk)) (fun e => mp_ne h hx (.inl hk) h.here e.symm)).trans h.here
  · exact h.map.keep (hoth _ h.map.lt (mi_ne h hxs.here) (fun e => h.mim x hx (by omega) e.symm))
  · intro z z1
    have hn := h.nod z z1
    by_cases z2 : z.id = x.id
    · refine ⟨(hoth _ hn.lts.1 (fun e => hp_ip h hx z1 (.inl hk) e.symm) (fun e => mp_ne h hx (.inl hk) hn.box e.symm)).trans hn.box, fun hzk => ?_, fun hzk => ?_⟩
      · have e1 := uid hu z1 hx z2
        subst e1
        exact hS
      · exfalso
        have e1 := (hn.fol hzk).1
        rw [z2, hxs.here] at e1
        injection e1 with e1
        injection e1 with _ e1 _
        revert e1; decide
    · exact hn.keep (hoth _ hn.lts.1 (fun e => hp_ip h hx z1 (.inl hk) e.symm) (fun e => mp_ne h hx (.inl hk) hn.box e.symm)) (fun hzk => ⟨hoth _ (hn.lts.2 hzk).1 (fun e => z2 (h.hinj z z1 x hx (by omega) (by omega) e)) (fun e => by
          rcases hzk with hzk | hzk
          · exact mp_ne h hx (.inl hk) (hn.fil hzk).here e.symm
          · exact mp_ne h hx (.inl hk) (hn.fol hzk).1 e.symm), hoth _ (hn.lts.2 hzk).2 (mp_ne h z1 hzk hxs.here) (fun e => z2 (h.minj z z1 x hx (by omega) (by omega) e))⟩)
theorem fil_inl {I : List Nod} {h : Hd} {c : Int} (e : Fz.fil I h = .inl c) : c = 175 ∨ c = 172 ∨ c = 1 := by
  unfold Fz.fil at e
  rcases hq : fnd I h with _ | y
  · rw [hq] at e; injection e with e; exact .inl e.symm
  · rw [hq] at e
    dsimp only at e
    split at e
    · injection e with e; exact .inr (.inl e.symm)
    · split at e
      · injection e with e; exact .inr (.inr e.symm)
      · cases e
theorem fiV_inl {Y : Lay} {I : List Nod} {h : Hd} {c : Int} (e : Fz.fil I h = .inl c) : fiV Y I h = .tuple #[.agg #[.pointer none, .pointer none], .int .i64 c] := by unfold fiV; rw [e]
theorem fiV_inr {Y : Lay} {I : List Nod} {h : Hd} {x : Nod} (e : Fz.fil I h = .inr x) : fiV Y I h = .tuple #[.agg #[pA (Y.ip x.id), pA (Y.hp x.id)], .int .i64 0] := by unfold fiV; rw [e]
/-- What Read returns. -/
def RfPost (w : World) (l : Txt) (c : Int) (e : Ending) (w' : World) : Prop := ∃ v, e = .returned (.tuple #[v, .int .i64 c]) ∧ w'.ownsRow w.heap.size 5 1 v l.length (bcells l) ∧ Below w.heap.size w w'
set_option maxHeartbeats 4000000 in
theorem fread_any {w : World} {bs : Nat} {Y : Lay} {f : Fst} (h : FM w bs Y f) (hg : Gd f) (d : Hd) (hd : HdOk d) (z m : Int) (hp : z ≤ 9223372036854775807) :
    Calls Try.prog 20 #[pA Y.fp, hV d, .int .i64 z, .int .i64 m] w (RfPost w (rdF f d z m).1 (rdF f d z m).2) := by
  obtain ⟨w2, hw2⟩ : ∃ w1, w1 = w.alloc (.cells #[.int .i64 d.id, .int .i64 d.gen] 40) := ⟨_, rfl⟩
  obtain ⟨q, hq⟩ : ∃ g, g = w.heap.size := ⟨_, rfl⟩
  have hb1 : Below w.heap.size w w2 := by rw [hw2]; exact box_below w _
  have hbx : w2.heap[q]? = some (.cells #[.int .i64 d.id, .int .i64 d.gen] 40 (0, 0)) := by rw [hw2, hq]; exact new_block w _
  have q0 := cell_of hbx (j := 0) rfl
  have q1 := cell_of hbx (j := 1) rfl
  have h2 := h.below hg.kind hb1
  have HB2 := Lib.hid hb1
  have HW2 := Lib.hid hw2
  have EQ := Lib.hid hq
  have HM := Lib.hid h
  have HM2 := Lib.hid h2
  have HG := Lib.hid hg
  have HNM := Lib.hid (file_any h2 hg d hd)
  have HPP := Lib.hid hp
  have HNIL : Hid (∀ (W : World) (c : Int), Below w.heap.size w W → RfPost w [] c (.returned (.tuple #[.slice none 0 0, .int .i64 c])) W) := Lib.hid (fun W c hW => ⟨_, rfl, World.ownsRow_nil _ _ _ _, hW⟩)
  clear hp
  clear h hg hd h2 hw2 hq hb1 hbx
  go_enter Try.func20, Try.ntmps20
  go_upto_region 1 with fail
  rw [← HW2.out, ← EQ.out]
  rcases hq2 : Fz.fil f.I d with c | x
  · have hc := fil_inl hq2
    rw [fiV_inl hq2] at HNM
    have HQ2 := Lib.hid hq2
    clear hq2
    rcases hc with rfl | rfl | rfl
    · have HV : Hid (rdF f d z m = ([], 175)) := Lib.hid (by unfold rdF; rw [HQ2.out])
      go_wp2_with fail
      refine HNM.out.mono ?_
      rintro e w4 ⟨rfl, hb4⟩
      obtain ⟨w5, hw5⟩ : ∃ W, W = w4.alloc (.cells #[.pointer none, .pointer none] 94) := ⟨_, rfl⟩
      obtain ⟨p, hp⟩ : ∃ k, k = w4.heap.size := ⟨_, rfl⟩
      have hb5 : Below w2.heap.size w2 w5 := by rw [hw5]; exact hb4.trans ((box_below w4 _).mono hb4.size)
      have hbx : w5.heap[p]? = some (.cells #[.pointer none, .pointer none] 94 (0, 0)) := by rw [hw5, hp]; exact new_block w4 _
      have HB5 : Hid (Below w.heap.size w w5) := Lib.hid (HB2.out.trans (hb5.mono HB2.out.size))
      have HM5 := Lib.hid (HM2.out.below HG.out.kind hb5)
      have p0 := cell_of hbx (j := 0) rfl
      have p1 := cell_of hbx (j := 1) rfl
      have HW5 := Lib.hid hw5
      have HP := Lib.hid hp
      clear hb4 hb5 hw5 hp hbx
      go_upto_region 2 with fail
      rw [← HW5.out, ← HP.out]
      go_wp2_with fail
      go_ret2
      rw [HV.out]
      exact HNIL.out w5 175 HB5.out
    · have HV : Hid (rdF f d z m = ([], 172)) := Lib.hid (by unfold rdF; rw [HQ2.out])
      go_wp2_with fail
      refine HNM.out.mono ?_
      rintro e w4 ⟨rfl, hb4⟩
      obtain ⟨w5, hw5⟩ : ∃ W, W = w4.alloc (.cells #[.pointer none, .pointer none] 94) := ⟨_, rfl⟩
      obtain ⟨p, hp⟩ : ∃ k, k = w4.heap.size := ⟨_, rfl⟩
      have hb5 : Below w2.heap.size w2 w5 := by rw [hw5]; exact hb4.trans ((box_below w4 _).mono hb4.size)
      have hbx : w5.heap[p]? = some (.cells #[.pointer none, .pointer none] 94 (0, 0)) := by rw [hw5, hp]; exact new_block w4 _
      have HB5 : Hid (Below w.heap.size w w5) := Lib.hid (HB2.out.trans (hb5.mono HB2.out.size))
      have HM5 := Lib.hid (HM2.out.below HG.out.kind hb5)
      have p0 := cell_of hbx (j := 0) rfl
      have p1 := cell_of hbx (j := 1) rfl
      have HW5 := Lib.hid hw5
      have HP := Lib.hid hp
      clear hb4 hb5 hw5 hp hbx
      go_upto_region 2 with fail
      rw [← HW5.out, ← HP.out]
      go_wp2_with fail
      go_ret2
      rw [HV.out]
      exact HNIL.out w5 172 HB5.out
    · have HV : Hid (rdF f d z m = ([], 1)) := Lib.hid (by unfold rdF; rw [HQ2.out])
      go_wp2_with fail
      refine HNM.out.mono ?_
      rintro e w4 ⟨rfl, hb4⟩
      obtain ⟨w5, hw5⟩ : ∃ W, W = w4.alloc (.cells #[.pointer none, .pointer none] 94) := ⟨_, rfl⟩
      obtain ⟨p, hp⟩ : ∃ k, k = w4.heap.size := ⟨_, rfl⟩
      have hb5 : Below w2.heap.size w2 w5 := by rw [hw5]; exact hb4.trans ((box_below w4 _).mono hb4.size)
      have hbx : w5.heap[p]? = some (.cells #[.pointer none, .pointer none] 94 (0, 0)) := by rw [hw5, hp]; exact new_block w4 _
      have HB5 : Hid (Below w.heap.size w w5) := Lib.hid (HB2.out.trans (hb5.mono HB2.out.size))
      have HM5 := Lib.hid (HM2.out.below HG.out.kind hb5)
      have p0 := cell_of hbx (j := 0) rfl
      have p1 := cell_of hbx (j := 1) rfl
      have HW5 := Lib.hid hw5
      have HP := Lib.hid hp
      clear hb4 hb5 hw5 hp hbx
      go_upto_region 2 with fail
      rw [← HW5.out, ← HP.out]
      go_wp2_with fail
      go_ret2
      rw [HV.out]
      exact HNIL.out w5 1 HB5.out
  · have HX := Lib.hid (fil_inr hq2)
    have HBASE : Hid (rdF f d z m = if z < 0 ∨ m < 0 then ([], 1) else (rd x.d z m, 0)) := Lib.hid (by unfold rdF; rw [hq2])
    rw [fiV_inr hq2] at HNM
    clear hq2
    go_wp2_with fail
    refine HNM.out.mono ?_
    rintro e w4 ⟨rfl, hb4⟩
    obtain ⟨w5, hw5⟩ : ∃ W, W = w4.alloc (.cells #[pA (Y.ip x.id), pA (Y.hp x.id)] 94) := ⟨_, rfl⟩
    obtain ⟨p, hp⟩ : ∃ k, k = w4.heap.size := ⟨_, rfl⟩
    have hb5 : Below w2.heap.size w2 w5 := by rw [hw5]; exact hb4.trans ((box_below w4 _).mono hb4.size)
    have hbx : w5.heap[p]? = some (.cells #[pA (Y.ip x.id), pA (Y.hp x.id)] 94 (0, 0)) := by rw [hw5, hp]; exact new_block w4 _
    have HB5 : Hid (Below w.heap.size w w5) := Lib.hid (HB2.out.trans (hb5.mono HB2.out.size))
    have HM5 := Lib.hid (HM2.out.below HG.out.kind hb5)
    have p0 := cell_of hbx (j := 0) rfl
    have p1 := cell_of hbx (j := 1) rfl
    have HW5 := Lib.hid hw5
    have HP := Lib.hid hp
    clear hb4 hb5 hw5 hp hbx
    go_upto_region 2 with fail
    rw [← HW5.out, ← HP.out]
    by_cases hp0 : z < 0
    · have k1 : decide (z < 0) = true := by simpa using hp0
      have HV : Hid (rdF f d z m = ([], 1)) := Lib.hid (by rw [HBASE.out, if_pos (.inl hp0)])
      clear hp0
      go_wp2_with fail
      go_ret2
      rw [HV.out]
      exact HNIL.out w5 1 HB5.out
    · have k1 : decide (z < 0) = false := by simpa using hp0
      by_cases hm0 : m < 0
      · have k2 : decide (m < 0) = true := by simpa using hm0
        have HV : Hid (rdF f d z m = ([], 1)) := Lib.hid (by rw [HBASE.out, if_pos (.inr hm0)])
        clear hp0 hm0
        go_wp2_with fail
        go_ret2
        rw [HV.out]
        exact HNIL.out w5 1 HB5.out
      · have k2 : decide (m < 0) = false := by simpa using hm0
        have HV : Hid (rdF f d z m = (rd x.d z m, 0)) := Lib.hid (by rw [HBASE.out, if_neg (fun e => e.elim hp0 hm0)])
        have HRD := Lib.hid (read_any ((HM5.out.nod x HX.out.1).fil (by have := HG.out.kind x HX.out.1; have := HX.out.2; omega)) z m HPP.out)
        clear hp0 hm0
        go_wp2_with fail
        refine HRD.out.mono ?_
        rintro e w6 ⟨v, rfl, hv, hb6⟩
        have HE : Hid (RfPost w (rd x.d z m) 0 (.returned (.tuple #[v, .int .i64 0])) w6) := Lib.hid ⟨v, rfl, own_base hv HB5.out.size, HB5.out.trans (hb6.mono HB5.out.size)⟩
        clear hv hb6
        go_wp2_with fail
        go_ret2
        rw [HV.out]
        exact HE.out
set_option maxHeartbeats 4000000 in
theorem fcut_any {w : World} {bs : Nat} {Y : Lay} {f : Fst} (h : FM w bs Y f) (hg : Gd f) (d : Hd) (hd : HdOk d) (n t : Int) :
    Calls Try.prog 24 #[pA Y.fp, hV d, .int .i64 n, .int .i64 t] w (ChF w bs Y f (ctF f d n t).1 (.int .i64 (ctF f d n t).2)) := by
  obtain ⟨w2, hw2⟩ : ∃ w1, w1 = w.alloc (.cells #[.int .i64 d.id, .int .i64 d.gen] 40) := ⟨_, rfl⟩
  obtain ⟨q, hq⟩ : ∃ g, g = w.heap.size := ⟨_, rfl⟩
  have hb1 : Below w.heap.size w w2 := by rw [hw2]; exact box_below w _
  have hbx : w2.heap[q]? = some (.cells #[.int .i64 d.id, .int .i64 d.gen] 40 (0, 0)) := by rw [hw2, hq]; exact new_block w _
  have q0 := cell_of hbx (j := 0) rfl
  have q1 := cell_of hbx (j := 1) rfl
  have h2 := h.below hg.kind hb1
  have HB2 := Lib.hid hb1
  have HW2 := Lib.hid hw2
  have EQ := Lib.hid hq
  have HM := Lib.hid h
  have HM2 := Lib.hid h2
  have HG := Lib.hid hg
  have HNM := Lib.hid (file_any h2 hg d hd)
  have HIT := Lib.hid (fun W => isTime_any t W)
  clear h hg hd h2 hw2 hq hb1 hbx
  go_enter Try.func24, Try.ntmps24
  go_upto_region 1 with fail
  rw [← HW2.out, ← EQ.out]
  rcases hq2 : Fz.fil f.I d with c | x
  · have hc := fil_inl hq2
    rw [fiV_inl hq2] at HNM
    have HQ2 := Lib.hid hq2
    clear hq2
    rcases hc with rfl | rfl | rfl
    · go_wp2_with fail
      refine HNM.out.mono ?_
      rintro e w4 ⟨rfl, hb4⟩
      obtain ⟨w5, hw5⟩ : ∃ W, W = w4.alloc (.cells #[.pointer none, .pointer none] 94) := ⟨_, rfl⟩
      obtain ⟨p, hp⟩ : ∃ k, k = w4.heap.size := ⟨_, rfl⟩
      have hb5 : Below w2.heap.size w2 w5 := by rw [hw5]; exact hb4.trans ((box_below w4 _).mono hb4.size)
      have hbx : w5.heap[p]? = some (.cells #[.pointer none, .pointer none] 94 (0, 0)) := by rw [hw5, hp]; exact new_block w4 _
      have HB5 : Hid (Below w.heap.size w w5) := Lib.hid (HB2.out.trans (hb5.mono HB2.out.size))
      have HM5 := Lib.hid (HM2.out.below HG.out.kind hb5)
      have p0 := cell_of hbx (j := 0) rfl
      have p1 := cell_of hbx (j := 1) rfl
      have HW5 := Lib.hid hw5
      have HP := Lib.hid hp
      clear hb4 hb5 hw5 hp hbx
      go_upto_region 2 with fail
      rw [← HW5.out, ← HP.out]
      have HV : Hid (ctF f d n t = (f, 175)) := Lib.hid (by unfold ctF; rw [HQ2.out])
      go_wp2_with fail
      go_ret
      rw [HV.out]
      exact ChF.same HM.out HG.out HB5.out _
    · go_wp2_with fail
      refine HNM.out.mono ?_
      rintro e w4 ⟨rfl, hb4⟩
      obtain ⟨w5, hw5⟩ : ∃ W, W = w4.alloc (.cells #[.pointer none, .pointer none] 94) := ⟨_, rfl⟩
      obtain ⟨p, hp⟩ : ∃ k, k = w4.heap.size := ⟨_, rfl⟩
      have hb5 : Below w2.heap.size w2 w5 := by rw [hw5]; exact hb4.trans ((box_below w4 _).mono hb4.size)
      have hbx : w5.heap[p]? = some (.cells #[.pointer none, .pointer none] 94 (0, 0)) := by rw [hw5, hp]; exact new_block w4 _
      have HB5 : Hid (Below w.heap.size w w5) := Lib.hid (HB2.out.trans (hb5.mono HB2.out.size))
      have HM5 := Lib.hid (HM2.out.below HG.out.kind hb5)
      have p0 := cell_of hbx (j := 0) rfl
      have p1 := cell_of hbx (j := 1) rfl
      have HW5 := Lib.hid hw5
      have HP := Lib.hid hp
      clear hb4 hb5 hw5 hp hbx
      go_upto_region 2 with fail
      rw [← HW5.out, ← HP.out]
      have HV : Hid (ctF f d n t = (f, 172)) := Lib.hid (by unfold ctF; rw [HQ2.out])
      go_wp2_with fail
      go_ret
      rw [HV.out]
      exact ChF.same HM.out HG.out HB5.out _
    · go_wp2_with fail
      refine HNM.out.mono ?_
      rintro e w4 ⟨rfl, hb4⟩
      obtain ⟨w5, hw5⟩ : ∃ W, W = w4.alloc (.cells #[.pointer none, .pointer none] 94) := ⟨_, rfl⟩
      obtain ⟨p, hp⟩ : ∃ k, k = w4.heap.size := ⟨_, rfl⟩
      have hb5 : Below w2.heap.size w2 w5 := by rw [hw5]; exact hb4.trans ((box_below w4 _).mono hb4.size)
      have hbx : w5.heap[p]? = some (.cells #[.pointer none, .pointer none] 94 (0, 0)) := by rw [hw5, hp]; exact new_block w4 _
      have HB5 : Hid (Below w.heap.size w w5) := Lib.hid (HB2.out.trans (hb5.mono HB2.out.size))
      have HM5 := Lib.hid (HM2.out.below HG.out.kind hb5)
      have p0 := cell_of hbx (j := 0) rfl
      have p1 := cell_of hbx (j := 1) rfl
      have HW5 := Lib.hid hw5
      have HP := Lib.hid hp
      clear hb4 hb5 hw5 hp hbx
      go_upto_region 2 with fail
      rw [← HW5.out, ← HP.out]
      have HV : Hid (ctF f d n t = (f, 1)) := Lib.hid (by unfold ctF; rw [HQ2.out])
      go_wp2_with fail
      go_ret
      rw [HV.out]
      exact ChF.same HM.out HG.out HB5.out _
  · have HX := Lib.hid (fil_inr hq2)
    have HBASE : Hid (ctF f d n t = if n < 0 ∨ isT t = false then (f, 1) else if ft 0 n = false then (f, 177) else (daS f x (cutI x.d n) t, 0)) := Lib.hid (by unfold ctF; rw [hq2])
    have HK1 : Hid (x.kind = 1) := Lib.hid (by have := HG.out.kind x HX.out.1; have := HX.out.2; omega)
    rw [fiV_inr hq2] at HNM
    clear hq2
    go_wp2_with fail
    refine HNM.out.mono ?_
    rintro e w4 ⟨rfl, hb4⟩
    obtain ⟨w5, hw5⟩ : ∃ W, W = w4.alloc (.cells #[pA (Y.ip x.id), pA (Y.hp x.id)] 94) := ⟨_, rfl⟩
    obtain ⟨p, hp⟩ : ∃ k, k = w4.heap.size := ⟨_, rfl⟩
    have hb5 : Below w2.heap.size w2 w5 := by rw [hw5]; exact hb4.trans ((box_below w4 _).mono hb4.size)
    have hbx : w5.heap[p]? = some (.cells #[pA (Y.ip x.id), pA (Y.hp x.id)] 94 (0, 0)) := by rw [hw5, hp]; exact new_block w4 _
    have HB5 : Hid (Below w.heap.size w w5) := Lib.hid (HB2.out.trans (hb5.mono HB2.out.size))
    have HM5 := Lib.hid (HM2.out.below HG.out.kind hb5)
    have p0 := cell_of hbx (j := 0) rfl
    have p1 := cell_of hbx (j := 1) rfl
    have HW5 := Lib.hid hw5
    have HP := Lib.hid hp
    have HPB := Lib.hid hbx
    clear hb4 hb5 hw5 hp hbx
    go_upto_region 2 with fail
    rw [← HW5.out, ← HP.out]
    obtain ⟨tb, htb⟩ : ∃ b, isT t = b := ⟨_, rfl⟩
    rw [htb] at HIT
    have HTB := Lib.hid htb
    clear htb
    by_cases hn0 : n < 0
    · have k1 : decide (n < 0) = true := by simpa using hn0
      have HV : Hid (ctF f d n t = (f, 1)) := Lib.hid (by rw [HBASE.out, if_pos (.inl hn0)])
      clear hn0
      go_wp2_with fail
      go_ret
      rw [HV.out]
      exact ChF.same HM.out HG.out HB5.out _
    · have k1 : decide (n < 0) = false := by simpa using hn0
      cases tb with
      | false =>
        have HV : Hid (ctF f d n t = (f, 1)) := Lib.hid (by rw [HBASE.out, if_pos (.inr HTB.out)])
        clear hn0
        go_wp2_with fail
        refine (HIT.out _).mono ?_
        rintro e w' ⟨rfl, rfl⟩
        go_wp2_with fail
        go_ret
        rw [HV.out]
        exact ChF.same HM.out HG.out HB5.out _
      | true =>
        have HB1 : Hid (ctF f d n t = if ft 0 n = false then (f, 177) else (daS f x (cutI x.d n) t, 0)) := Lib.hid (by rw [HBASE.out, if_neg (fun e => e.elim hn0 (by rw [HTB.out]; decide))])
        have HCU := Lib.hid (cut_any ((HM5.out.nod x HX.out.1).fil HK1.out) n)
        obtain ⟨fb, hfb⟩ : ∃ b, ft 0 n = b := ⟨_, rfl⟩
        rw [hfb] at HCU HB1
        have HFB := Lib.hid hfb
        clear hn0 hfb
        go_wp2_with fail
        refine (HIT.out _).mono ?_
        rintro e w' ⟨rfl, rfl⟩
        go_wp2_with fail
        refine HCU.out.mono ?_
        rintro e w6 ⟨rfl, hS6, hk6⟩
        cases fb with
        | false =>
          have HV : Hid (ctF f d n t = (f, 177)) := Lib.hid (by rw [HB1.out, if_pos rfl])
          have hsame : cutI x.d n = x.d := by unfold cutI; rw [HFB.out]; rfl
          rw [hsame] at hS6
          have HE : Hid (ChF w bs Y f f (.int .i64 177) (.returned (.int .i64 177)) w6) := Lib.hid (by
            have hxf := (HM5.out.nod x HX.out.1).fil HK1.out
            obtain ⟨g1, g2⟩ := HM5.out.same_data HG.out.ids HX.out.1 HK1.out hS6 hk6
            exact ⟨Y, rfl, g1, (FK.of_below HB5.out).trans Fresh.refl g2, Fresh.refl, rfl⟩)
          clear hS6 hk6 hsame
          go_wp2_with fail
          go_ret
          rw [HV.out]
          exact HE.out
        | true =>
          have HV : Hid (ctF f d n t = (daS f x (cutI x.d n) t, 0)) := Lib.hid (by rw [HB1.out, if_neg (by decide)])
          obtain ⟨w9, hw9⟩ : ∃ W, W = w6.setCell ⟨Y.ip x.id, 4, none⟩ (.int .i64 t) := ⟨_, rfl⟩
          obtain ⟨g1, g2, g3, g4, g5⟩ := HM5.out.data HG.out.ids HX.out.1 HK1.out hS6 hk6 t
          rw [← hw9] at g1 g2
          have n0 : w6.cell? ⟨p, 0, none⟩ = some (pA (Y.ip x.id)) := cell_of (hk6.blk ((HM5.out.nod x HX.out.1).fil HK1.out) HPB.out (by decide)) (j := 0) rfl
          have HE : Hid (ChF w bs Y f (daS f x (cutI x.d n) t) (.int .i64 0) (.returned (.int .i64 0)) w9) := Lib.hid ⟨Y, rfl, g1, (FK.of_below HB5.out).trans Fresh.refl g2, Fresh.trans Fresh.refl HB5.out.size g3, rfl⟩
          have HW9 := Lib.hid hw9
          clear g1 g2 g3 hS6 hk6 hw9 p0 p1
          go_wp2_with fail
          rw [← HW9.out]
          go_wp2_with fail
          go_ret
          rw [HV.out]
          exact HE.out
end Go.Proofs.Ytoaahhgngelnaaa
