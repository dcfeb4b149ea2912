/-
  What one name more or less, and another parent, do to a file system in memory. No condition.
-/
import Derived.Test.YtoaahhgngelnaaaFNamed
namespace Go.Proofs.Ytoaahhgngelnaaa
set_option maxRecDepth 100000
open Go.ChangeShapes Go.WideShapes Go.ChangeAt Go.RowKit Go.Proofs.Sg Go.Proofs.Fz

theorem gb_set {w : World} {b j : Nat} (v : Value) : w.grownBy (w.setCell ⟨b, j, none⟩ v) (some b) := setCells_grown (g := b) [v] j w
theorem hp_ip {w : World} {bs : Nat} {Y : Lay} {f : Fst} (h : FM w bs Y f) {x y : Nod} (hx : x ∈ f.I) (hy : y ∈ f.I) (hk : x.kind = 1 ∨ x.kind = 2) : Y.hp x.id ≠ Y.ip y.id := fun e => by
  have h1 := (h.nod y hy).box
  rcases hk with hk | hk
  · have h2 := ((h.nod x hx).fil hk).here
    rw [e, h1] at h2
    injection h2 with h2
    injection h2 with _ h2 _
    revert h2; decide
  · have h2 := ((h.nod x hx).fol hk).1
    rw [e, h1] at h2
    injection h2 with h2
    injection h2 with _ h2 _
    revert h2; decide
theorem mp_ne {w : World} {bs : Nat} {Y : Lay} {f : Fst} (h : FM w bs Y f) {x : Nod} (hx : x ∈ f.I) (hk : x.kind = 1 ∨ x.kind = 2) {b : Nat} {cs : Array Value} {t : TypeId} {fr : Nat × Nat} (hb : w.heap[b]? = some (.cells cs t fr)) : Y.mp x.id ≠ b := by
  rcases hk with hk | hk
  · exact Ne.symm (((h.nod x hx).fil hk).map.ne_cells hb)
  · obtain ⟨es, clock, h1⟩ := ((h.nod x hx).fol hk).2.is_map
    intro e
    rw [e, hb] at h1
    cases h1
theorem mi_ne {w : World} {bs : Nat} {Y : Lay} {f : Fst} (h : FM w bs Y f) {b : Nat} {cs : Array Value} {t : TypeId} {fr : Nat × Nat} (hb : w.heap[b]? = some (.cells cs t fr)) : Y.mi ≠ b := by
  obtain ⟨es, clock, h1⟩ := h.map.is_map
  intro e
  rw [e, hb] at h1
  cases h1
theorem fp_ip {w : World} {bs : Nat} {Y : Lay} {f : Fst} (h : FM w bs Y f) {x : Nod} (hx : x ∈ f.I) : Y.fp ≠ Y.ip x.id := fun e => by
  have h1 := (h.nod x hx).box
  have h2 := h.here
  rw [e, h1] at h2
  injection h2 with h2
  injection h2 with _ h2 _
  revert h2; decide
theorem fp_hp {w : World} {bs : Nat} {Y : Lay} {f : Fst} (h : FM w bs Y f) {x : Nod} (hx : x ∈ f.I) (hk : x.kind = 1 ∨ x.kind = 2) : Y.fp ≠ Y.hp x.id := fun e => by
  have h1 := h.here
  rcases hk with hk | hk
  · have h2 := ((h.nod x hx).fil hk).here
    rw [← e, h1] at h2
    injection h2 with h2
    injection h2 with _ h2 _
    revert h2; decide
  · have h2 := ((h.nod x hx).fol hk).1
    rw [← e, h1] at h2
    injection h2 with h2
    injection h2 with _ h2 _
    revert h2; decide
theorem foot_ip {Y : Lay} {I : List Nod} {x : Nod} (hx : x ∈ I) : foot Y I (Y.ip x.id) := .inr (.inr ⟨x, hx, .inl rfl⟩)
theorem foot_hp {Y : Lay} {I : List Nod} {x : Nod} (hx : x ∈ I) (hk : x.kind ≠ 3) : foot Y I (Y.hp x.id) := .inr (.inr ⟨x, hx, .inr ⟨hk, .inl rfl⟩⟩)
theorem foot_mp {Y : Lay} {I : List Nod} {x : Nod} (hx : x ∈ I) (hk : x.kind ≠ 3) : foot Y I (Y.mp x.id) := .inr (.inr ⟨x, hx, .inr ⟨hk, .inr rfl⟩⟩)

theorem uid {I : List Nod} (h : (I.map (fun x => x.id)).Nodup) {x y : Nod} (hx : x ∈ I) (hy : y ∈ I) (e : x.id = y.id) : x = y := by
  have h1 := nget_of h hx
  have h2 := nget_of h hy
  rw [e, h2] at h1
  exact (Option.some.inj h1).symm
/-- One folder's names are others, and one inode's count of links. -/
theorem FM.names {w w1 : World} {bs : Nat} {Y : Lay} {f : Fst} (h : FM w bs Y f) (hu : (f.I.map (fun x => x.id)).Nodup) {d z : Nod} {K : List Nm} (hd : d ∈ f.I) (hdk : d.kind = 2) (hz : z ∈ f.I) (hg : w.grownBy w1 (some (Y.mp d.id))) (hm : NMap w1 (Y.mp d.id) f.I K d.id)
    (hl : ∀ y ∈ f.I, y.id ≠ z.id → links f.I K y = links f.I f.N y) (hn : ∀ y ∈ f.I, y.id ≠ d.id → many K y.id = many f.N y.id ∧ ∀ s, entry K y.id s = entry f.N y.id s) :
    FM (w1.setCell ⟨Y.ip z.id, 3, none⟩ (.int .i64 (links f.I K z : Int))) bs Y ⟨f.room, f.I, K, f.G⟩ ∧ FK Y f.I w (w1.setCell ⟨Y.ip z.id, 3, none⟩ (.int .i64 (links f.I K z : Int))) ∧ w1.cell? ⟨Y.ip z.id, 3, none⟩ = some (.int .i64 (links f.I f.N z : Int)) ∧ w1.frozen? ⟨Y.ip z.id, 3, none⟩ = false := by
  obtain ⟨w2, hw2⟩ : ∃ W, W = w1.setCell ⟨Y.ip z.id, 3, none⟩ (.int .i64 (links f.I K z : Int)) := ⟨_, rfl⟩
  rw [← hw2]
  have hg2 : w1.grownBy w2 (some (Y.ip z.id)) := by rw [hw2]; exact gb_set _
  have hne : ∀ y ∈ f.I, Y.mp d.id ≠ Y.ip y.id := fun y hy => mp_ne h hd (.inr hdk) (h.nod y hy).box
  have hzb : w1.heap[Y.ip z.id]? = _ := gb_cells hg (Ne.symm (hne z hz)) (h.nod z hz).box
  have hzb2 := heap_setCell_same w1 (Y.ip z.id) 3 _ _ (.int .i64 (links f.I K z : Int)) hzb
  rw [← hw2] at hzb2
  have hoth : ∀ k, k < w.heap.size → k ≠ Y.mp d.id → k ≠ Y.ip z.id → w2.heap[k]? = w.heap[k]? := fun k hk h1 h2 =>
    (hg2.block k (Nat.lt_of_lt_of_le hk hg.size) (by simpa using h2)).trans (hg.block k hk (by simpa using h1))
  refine ⟨⟨?_, ?_, ?_, h.iinj, h.hinj, h.minj, h.mim, h.ge⟩, ?_, cell_of hzb (j := 3) rfl, frozen_of_row w1 (Y.ip z.id) 3 _ _ hzb⟩
  · exact (hoth _ (blk_lt h.here) (Ne.symm (mp_ne h hd (.inr hdk) h.here)) (fp_ip h hz)).trans h.here
  · exact h.map.keep (hoth _ h.map.lt (Ne.symm (h.mim d hd (by omega))) (mi_ne h (h.nod z hz).box))
  · intro y hy
    have hyn := h.nod y hy
    refine ⟨?_, fun hk => ?_, fun hk => ?_⟩
    · by_cases e : y.id = z.id
      · rw [e, hzb2]
        have he : y = z := uid hu hy hz e
        subst he
        rfl
      · have hb := hoth _ hyn.lts.1 (Ne.symm (hne y hy)) (fun e2 => e (h.iinj y hy z hz e2))
        show w2.heap[Y.ip y.id]? = some (.cells #[_, _, _, .int .i64 (links f.I K y : Int), _, _] _ _)
        rw [hl y hy e, hb, hyn.box]
    · have hs := hyn.fil hk
      have g1 := hoth _ hs.lts (fun e => mp_ne h hd (.inr hdk) hs.here e.symm) (hp_ip h hy hz (.inl hk))
      have g2 := hoth _ hs.map.lt (fun e => by have := uid hu hy hd (h.minj y hy d hd (by omega) (by omega) e); subst this; omega) (mp_ne h hy (.inl hk) (h.nod z hz).box)
      exact ⟨g1.trans hs.here, hs.map.keep g2, hs.good, hs.gsp, hs.gmb⟩
    · obtain ⟨hb, hq⟩ := hyn.fol hk
      have g1 := hoth _ (blk_lt hb) (fun e => mp_ne h hd (.inr hdk) hb e.symm) (hp_ip h hy hz (.inr hk))
      refine ⟨g1.trans hb, ?_⟩
      by_cases e : y.id = d.id
      · have := uid hu hy hd e
        subst this
        exact hm.keep (hg2.block _ hm.lt (by simpa using hne z hz))
      · obtain ⟨n1, n2⟩ := hn y hy e
        exact (hq.keep (hoth _ hq.lt (fun e2 => e (h.minj y hy d hd (by omega) (by omega) e2)) (mp_ne h hy (.inr hk) (h.nod z hz).box))).congr n1 n2 (fun _ => rfl)
  · exact (FK.of_gb hg (foot_mp hd (by omega))).trans Fresh.refl (FK.of_gb hg2 (foot_ip hz))

/-- A folder's parent is another one. -/
theorem FM.par {w : World} {bs : Nat} {Y : Lay} {f : Fst} (h : FM w bs Y f) (hu : (f.I.map (fun x => x.id)).Nodup) {d x : Nod} (hd : d ∈ f.I) (hx : x ∈ f.I) (hk : x.kind = 2) :
    FM ((w.setCell ⟨Y.hp x.id, 0, none⟩ (.int .i64 (d.id : Int))).setCell ⟨Y.hp x.id, 1, none⟩ (.int .i64 (d.gen : Int))) bs Y ⟨f.room, setI f.I { x with par := d.id }, f.N, f.G⟩ ∧ FK Y f.I w ((w.setCell ⟨Y.hp x.id, 0, none⟩ (.int .i64 (d.id : Int))).setCell ⟨Y.hp x.id, 1, none⟩ (.int .i64 (d.gen : Int))) ∧ ∀ k, foot Y (setI f.I { x with par := d.id }) k → foot Y f.I k := by
  obtain ⟨w2, hw2⟩ : ∃ W, W = ((w.setCell ⟨Y.hp x.id, 0, none⟩ (.int .i64 (d.id : Int))).setCell ⟨Y.hp x.id, 1, none⟩ (.int .i64 (d.gen : Int))) := ⟨_, rfl⟩
  rw [← hw2]
  have hxb := ((h.nod x hx).fol hk).1
  have hg2 : w.grownBy w2 (some (Y.hp x.id)) := by rw [hw2]; exact gb_trans (gb_set _) (gb_set _)
  have e1 := heap_setCell_same w (Y.hp x.id) 0 _ _ (.int .i64 (d.id : Int)) hxb
  have e2 := heap_setCell_same _ (Y.hp x.id) 1 _ _ (.int .i64 (d.gen : Int)) e1
  rw [← hw2] at e2
  obtain ⟨J, hJ⟩ : ∃ J, setI f.I { x with par := d.id } = J := ⟨_, rfl⟩
  rw [hJ]
  have hmem : ∀ z, z ∈ J → ∃ z0 ∈ f.I, z.id = z0.id ∧ z.gen = z0.gen ∧ z.kind = z0.kind ∧ z.d = z0.d ∧ z.tg = z0.tg ∧ z.mode = z0.mode ∧ z.time = z0.time ∧ (z.id ≠ x.id → z = z0) ∧ (z.id = x.id → z.par = d.id) := by
    intro z hz
    rw [← hJ] at hz
    rcases mem_setI.1 hz with ⟨hz, hne⟩ | rfl
    · exact ⟨z, hz, rfl, rfl, rfl, rfl, rfl, rfl, rfl, fun _ => rfl, fun e2 => absurd e2 hne⟩
    · exact ⟨x, hx, rfl, rfl, rfl, rfl, rfl, rfl, rfl, fun e2 => absurd rfl e2, fun _ => rfl⟩
  have hget : ∀ j : Int, nget J j = if (x.id : Int) = j then some { x with par := d.id } else nget f.I j := fun j => by rw [← hJ, nget_setI]
  have hsome : ∀ j : Int, (nget J j).isSome = (nget f.I j).isSome := fun j => by
    rw [hget]
    split
    · rename_i e; rw [← e, nget_of hu hx]; rfl
    · rfl
  have hD : ∀ j, isD J j = isD f.I j := fun j => by
    unfold isD
    rw [hget]
    by_cases e : (x.id : Int) = (j : Int)
    · rw [if_pos e, ← e, nget_of hu hx]
    · rw [if_neg e]
  have hgen : ∀ j, genO J j = genO f.I j := fun j => by
    unfold genO
    rw [hget]
    by_cases e : (x.id : Int) = (j : Int)
    · rw [if_pos e, ← e, nget_of hu hx]
    · rw [if_neg e]
  have hhd : ∀ j, hdO J j = hdO f.I j := fun j => by unfold hdO; rw [hgen]
  have hoth : ∀ k, k < w.heap.size → k ≠ Y.hp x.id → w2.heap[k]? = w.heap[k]? := fun k hk2 h1 => hg2.block k hk2 (by simpa using h1)
  have hft : ∀ k, foot Y J k → foot Y f.I k := by
    rintro k (e | e | ⟨z, hz, e⟩)
    · exact .inl e
    · exact .inr (.inl e)
    · obtain ⟨z0, h0, c1, -, c3, -⟩ := hmem z hz
      rw [c1, c3] at e
      exact .inr (.inr ⟨z0, h0, e⟩)
  refine ⟨⟨?_, ?_, ?_, ?_, ?_, ?_, ?_, fun k hk2 => h.ge k (hft k hk2)⟩, FK.of_gb hg2 (foot_hp hx (by omega)), hft⟩
  · exact (hoth _ (blk_lt h.here) (fp_hp h hx (.inr hk))).trans h.here
  · refine (h.map.keep (hoth _ h.map.lt (mi_ne h hxb))).congr ?_ hsome ?_
    · rw [← hJ]; exact len_setI hu hx rfl
    · intro a
      unfold iP
      rw [hget]
      by_cases e : (x.id : Int) = a
      · rw [if_pos e, ← e, nget_of hu hx]
      · rw [if_neg e]
  · intro z hz
    obtain ⟨z0, h0, c1, c2, c3, c4, c5, c6, c7, c8, c9⟩ := hmem z hz
    have hn := h.nod z0 h0
    have hlz : links J f.N z = links f.I f.N z0 := by rw [links_I (fun n _ => hD _), links_y c1 c3]
    refine ⟨?_, fun hk2 => ?_, fun hk2 => ?_⟩
    · have hb := hoth _ hn.lts.1 (fun e => hp_ip h hx h0 (.inr hk) e.symm)
      have hh : holdV Y z = holdV Y z0 := by unfold holdV; rw [c1, c3, c5]
      show w2.heap[Y.ip z.id]? = some (.cells #[.int .i64 (z.id : Int), .int .i64 (z.gen : Int), .int .i64 z.mode, .int .i64 (links J f.N z : Int), .int .i64 z.time, holdV Y z] _ _)
      rw [hh, hlz, c1, c2, c6, c7, hb, hn.box]
    · have hs := hn.fil (c3 ▸ hk2)
      have g1 := hoth _ hs.lts (fun e => by
        have := uid hu h0 hx (h.hinj z0 h0 x hx (by omega) (by omega) e)
        subst this
        omega)
      have g2 := hoth _ hs.map.lt (mp_ne h h0 (.inl (c3 ▸ hk2)) hxb)
      rw [c1, c4]
      exact ⟨g1.trans hs.here, hs.map.keep g2, hs.good, hs.gsp, hs.gmb⟩
    · obtain ⟨hb, hq⟩ := hn.fol (c3 ▸ hk2)
      have hq2 : NMap w2 (Y.mp z.id) J f.N z.id := by
        rw [c1]
        exact (hq.keep (hoth _ hq.lt (mp_ne h h0 (.inr (c3 ▸ hk2)) hxb))).congr rfl (fun _ => rfl) (fun _ => hhd _)
      refine ⟨?_, hq2⟩
      by_cases e : z.id = x.id
      · have hgd : genO f.I d.id = d.gen := by unfold genO; rw [nget_of hu hd]
        show w2.heap[Y.hp z.id]? = some (.cells #[.int .i64 (z.par : Int), .int .i64 (genO J z.par : Int), .map (some (Y.mp z.id))] _ _)
        rw [e, e2, hgen, c9 e, hgd]
        rfl
      · have := c8 e
        subst this
        have g1 := hoth _ (blk_lt hb) (fun e2 => e (h.hinj z h0 x hx (by omega) (by omega) e2))
        show w2.heap[Y.hp z.id]? = some (.cells #[_, .int .i64 (genO J z.par : Int), _] _ _)
        rw [hgen, g1, hb]
  · intro a ha b hb e
    obtain ⟨a0, h0, c1, -⟩ := hmem a ha
    obtain ⟨b0, h1, c2, -⟩ := hmem b hb
    rw [c1, c2] at e ⊢
    exact h.iinj a0 h0 b0 h1 e
  · intro a ha b hb ka kb e
    obtain ⟨a0, h0, c1, -, k1, -⟩ := hmem a ha
    obtain ⟨b0, h1, c2, -, k2, -⟩ := hmem b hb
    rw [c1, c2] at e ⊢
    exact h.hinj a0 h0 b0 h1 (k1 ▸ ka) (k2 ▸ kb) e
  · intro a ha b hb ka kb e
    obtain ⟨a0, h0, c1, -, k1, -⟩ := hmem a ha
    obtain ⟨b0, h1, c2, -, k2, -⟩ := hmem b hb
    rw [c1, c2] at e ⊢
    exact h.minj a0 h0 b0 h1 (k1 ▸ ka) (k2 ▸ kb) e
  · intro a ha ka
    obtain ⟨a0, h0, c1, -, k1, -⟩ := hmem a ha
    rw [c1]
    exact h.mim a0 h0 (k1 ▸ ka)
end Go.Proofs.Ytoaahhgngelnaaa
