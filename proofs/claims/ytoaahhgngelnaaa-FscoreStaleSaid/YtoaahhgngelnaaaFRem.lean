/-
  What remove leaves. Condition: a text's length; how much was done.
-/
import Derived.Test.YtoaahhgngelnaaaFNew
namespace Go.Proofs.Ytoaahhgngelnaaa
set_option maxRecDepth 100000
open Go.ChangeShapes Go.WideShapes Go.ChangeAt Go.RowKit Go.Proofs.Sg Go.Proofs.Fz

/-- What a call leaves of a file system that it may change. -/
def ChF (w : World) (bs : Nat) (Y : Lay) (f g : Fst) (v : Value) (e : Ending) (w' : World) : Prop := ∃ Z, e = .returned v ∧ FM w' bs Z g ∧ FK Y f.I w w' ∧ Fresh Y f.I w Z g.I ∧ Z.fp = Y.fp
theorem ChF.same {w w' : World} {bs : Nat} {Y : Lay} {f : Fst} (h : FM w bs Y f) (hg : Gd f) (hb : Below w.heap.size w w') (v : Value) : ChF w bs Y f f v (.returned v) w' := ⟨Y, rfl, h.below hg.kind hb, FK.of_below hb, Fresh.refl, rfl⟩
theorem par_in {f : Fst} (hg : Gd f) {y : Nod} (hy : y ∈ f.I) (hk : y.kind = 2) : isD f.I y.par = true := by
  obtain ⟨r, hr, r1, -, r3, r4⟩ := hg.root
  by_cases e : y.id = 1
  · have := hg.uid hy hr (by omega)
    subst this
    rw [r4, ← r1, isD_of hg.ids hy]; simpa using hk
  · obtain ⟨a, ha, e2⟩ := hg.has y hy e
    rw [hg.one a ha y hy e2.symm hk]; exact hg.nmd a ha
/-- An inode is no more in memory. -/
theorem FM.gone {w w' : World} {bs : Nat} {Y : Lay} {f : Fst} (h : FM w bs Y f) {y : Nod} (hg : w.grownBy w' (some Y.mi)) (hm : IMap w' Y.mi (gone f.I y.id) Y.ip) (hG : Gd ⟨f.room, Fz.gone f.I y.id, f.N, f.G⟩) :
    FM w' bs Y ⟨f.room, Fz.gone f.I y.id, f.N, f.G⟩ ∧ (∀ k, foot Y (Fz.gone f.I y.id) k → foot Y f.I k) := by
  have hget : ∀ j : Nat, (nget (Fz.gone f.I y.id) (j : Int)).isSome = true → nget (Fz.gone f.I y.id) (j : Int) = nget f.I (j : Int) ∧ j ≠ y.id := fun j hj => by
    rw [nget_gone] at hj ⊢
    split at hj
    · cases hj
    · rename_i e
      rw [if_neg e]
      exact ⟨rfl, by omega⟩
  have hft : ∀ k, foot Y (Fz.gone f.I y.id) k → foot Y f.I k := by
    rintro k (e | e | ⟨x, hx, e⟩)
    · exact .inl e
    · exact .inr (.inl e)
    · exact .inr (.inr ⟨x, (mem_gone.1 hx).1, e⟩)
  have hoth : ∀ k, k < w.heap.size → k ≠ Y.mi → w'.heap[k]? = w.heap[k]? := fun k hk hne => hg.block k hk (by simpa using hne)
  have hD : ∀ a ∈ f.N, isD (Fz.gone f.I y.id) a.id = isD f.I a.id := fun a ha => by
    unfold isD; rw [(hget a.id (hG.nmi a ha).1).1]
  have hhd : ∀ d s, hdO (Fz.gone f.I y.id) (entry f.N d s) = hdO f.I (entry f.N d s) := fun d s => by
    by_cases e : entry f.N d s = 0
    · rw [e]; rfl
    · obtain ⟨a, ha, -, -, e2⟩ := entry_some e
      unfold hdO genO
      rw [← e2, (hget a.id (hG.nmi a ha).1).1]
  refine ⟨⟨?_, hm, ?_, fun a ha b hb => h.iinj a (mem_gone.1 ha).1 b (mem_gone.1 hb).1, fun a ha b hb => h.hinj a (mem_gone.1 ha).1 b (mem_gone.1 hb).1, fun a ha b hb => h.minj a (mem_gone.1 ha).1 b (mem_gone.1 hb).1, fun a ha => h.mim a (mem_gone.1 ha).1, fun k hk => h.ge k (hft k hk)⟩, hft⟩
  · exact (hoth _ (blk_lt h.here) (Ne.symm (mi_ne h h.here))).trans h.here
  · intro x hx
    have hx1 := (mem_gone.1 hx).1
    have hn := h.nod x hx1
    have hn2 := hn.keep (w' := w') (hoth _ hn.lts.1 (Ne.symm (mi_ne h hn.box))) (fun hk => ⟨hoth _ (hn.lts.2 hk).1 (by
      rcases hk with hk | hk
      · exact Ne.symm (mi_ne h (hn.fil hk).here)
      · exact Ne.symm (mi_ne h (hn.fol hk).1)), hoth _ (hn.lts.2 hk).2 (h.mim x hx1 (by omega))⟩)
    refine ⟨?_, hn2.fil, fun hk => ?_⟩
    · have := hn2.box
      rw [← links_I hD x] at this
      exact this
    · obtain ⟨g1, g2⟩ := hn2.fol hk
      have hp := par_in hG hx hk
      have hp2 : genO (Fz.gone f.I y.id) x.par = genO f.I x.par := by
        unfold genO
        obtain ⟨z, hz, -⟩ := isD_iff.1 hp
        rw [(hget x.par (by show (nget (Fz.gone f.I y.id) (x.par : Int)).isSome = true; rw [show (⟨f.room, Fz.gone f.I y.id, f.N, f.G⟩ : Fst).I = Fz.gone f.I y.id from rfl] at hz; rw [hz]; rfl)).1]
      show w'.heap[Y.hp x.id]? = some (.cells #[_, .int .i64 (genO (Fz.gone f.I y.id) x.par : Int), _] _ _) ∧ _
      rw [hp2]
      exact ⟨g1, g2.congr rfl (fun _ => rfl) (fun s => hhd _ _)⟩
theorem no_loop {f : Fst} (hg : Gd f) {n : Nm} {x : Nod} (hn : n ∈ f.N) (hx : x ∈ f.I) (e : n.id = x.id) {d : Nod} (hd : d ∈ f.I) (e1 : n.dir = d.id) : x.id ≠ d.id := fun e2 => by
  have hxd := hg.uid hx hd e2
  subst hxd
  have hk := hg.nmd n hn
  rw [e1, isD_of hg.ids hx] at hk
  have hk2 : x.kind = 2 := by simpa using hk
  have h1 := hg.one n hn x hx e.symm hk2
  obtain ⟨r, hr⟩ := hg.rnk
  have := hr x hx hk2 (hg.not_root hn e)
  rw [h1, e1] at this
  omega
set_option maxHeartbeats 2000000 in
theorem remove_any {w : World} {bs : Nat} {Y : Lay} {f : Fst} {T : Nat} (h : FM w bs Y f) (hg : Gd f) (hb : Bd f T) (hT : T ≤ 1000000000) {d y : Nod} {n : Nm} (hd : d ∈ f.I) (hdk : d.kind = 2) (hy : y ∈ f.I) (hn : n ∈ f.N) (e1 : n.dir = d.id) (e2 : n.id = y.id) (hm : y.kind = 2 → many f.N y.id = 0) (s : ByteArray) (hs : L s = n.nm) (hsl : s.size ≤ maxLen) :
    Calls Try.prog 40 #[pA Y.fp, .agg #[pA (Y.ip d.id), pA (Y.hp d.id)], .string s, pA (Y.ip y.id)] w fun e w' => e = .returned (.tuple #[]) ∧ FM w' bs Y (drp f d.id (L s) y) ∧ FK Y f.I w w' ∧ Fresh Y f.I w Y (drp f d.id (L s) y).I := by
  obtain ⟨w1, hw1⟩ : ∃ w1, w1 = w.alloc (.cells #[pA (Y.ip d.id), pA (Y.hp d.id)] 84) := ⟨_, rfl⟩
  obtain ⟨q, hq⟩ : ∃ g, g = w.heap.size := ⟨_, rfl⟩
  have hb1 : Below w.heap.size w w1 := by rw [hw1]; exact box_below w _
  have hbx : w1.heap[q]? = some (.cells #[pA (Y.ip d.id), pA (Y.hp d.id)] 84 (0, 0)) := by rw [hw1, hq]; exact new_block w _
  have h1 := h.below hg.kind hb1
  have b0 := cell_of hbx (j := 0) rfl
  have b1 := cell_of hbx (j := 1) rfl
  have HL := Lib.hid (leave_any h1 hg.ids hg.kind hg.nmu hg.nz hd hdk hy (no_loop hg hn hy e2 hd e1) hn (by have := hb.nms; omega) e1 e2 s hs hsl)
  have HGD : Hid (Gd (drp f d.id (L s) y)) := Lib.hid (by rw [hs, ← e1]; exact hg.drop hn hy e2 hm)
  obtain ⟨l, hl⟩ : ∃ l, links f.I (unnm f.N d.id (L s)) y = l := ⟨_, rfl⟩
  have hdrp : drp f d.id (L s) y = if y.kind = 2 ∨ l = 0 then ⟨f.room, Fz.gone f.I y.id, unnm f.N d.id (L s), f.G⟩ else ⟨f.room, f.I, unnm f.N d.id (L s), f.G⟩ := by unfold drp; rw [hl]
  have HDR := Lib.hid hdrp
  have HB1 := Lib.hid hb1
  have HW1 := Lib.hid hw1
  have HQ := Lib.hid hq
  have HG := Lib.hid hg
  have HY := Lib.hid hy
  have HLE := Lib.hid hl
  clear h hg hb hT hd hdk hy hn e1 e2 hm hs hsl hw1 hq hb1 hbx h1 hl hdrp
  go_enter Try.func40, Try.ntmps40
  go_upto_region 1 with fail
  rw [← HW1.out, ← HQ.out]
  go_wp2_with fail
  refine HL.out.mono ?_
  rintro e w2 ⟨rfl, hF, hK, -⟩
  have hyn := hF.nod y HY.out
  obtain ⟨c0, c1, -, c3, -, -⟩ := hyn.cells
  have hc3 : w2.cell? ⟨Y.ip y.id, 3, none⟩ = some (.int .i64 (l : Int)) := by rw [← HLE.out]; exact c3
  have HIS := Lib.hid (isFolder_any hyn (HG.out.kind y HY.out))
  have HF := Lib.hid hF
  have HK : Hid (FK Y f.I w w2) := Lib.hid ((FK.of_below HB1.out).trans Fresh.refl hK)
  obtain ⟨kf, hkf⟩ : ∃ b, decide (y.kind = 2) = b := ⟨_, rfl⟩
  rw [hkf] at HIS
  have HKF : Hid ((y.kind = 2) = (kf = true)) := Lib.hid (by rw [← hkf]; simp)
  clear hF hK hyn c0 c1 c3 hkf
  by_cases hl0 : l = 0
  · have hl2 : decide ((l : Int) = 0) = true := by simp; omega
    have hl3 : decide (l = 0) = true := by simpa using hl0
    have HL0 := Lib.hid hl0
    rw [show (l : Int) = 0 by omega] at hc3
    clear hl0
    have hF := HF.out
    have HDE : Hid (drp f d.id (L s) y = ⟨f.room, Fz.gone f.I y.id, unnm f.N d.id (L s), f.G⟩) := Lib.hid (by rw [HDR.out, if_pos (by exact .inr HL0.out)])
    obtain ⟨w3, hrun, hm3, hg3⟩ := (hF.map.keep (w' := w2.drew) rfl).drop HG.out.ids HY.out (by have := HG.out.rng y HY.out; omega) 62
    have hdel : ∀ ty, (Builtin.delete_ #[62, 3] ty #[.map (some Y.mi), .int .i64 (y.id : Int)]).run Try.prog w2.drew = .ok (.tuple #[]) w3 := fun ty => hrun
    have hg23 : w2.grownBy w3 (some Y.mi) := gb_trans gb_drew hg3
    obtain ⟨hG, hft⟩ := hF.gone (y := y) hg23 hm3 (by have := HGD.out; rw [HDE.out] at this; exact this)
    have hyb := (hF.nod y HY.out).box
    have n0 : w2.drew.cell? ⟨Y.fp, 1, none⟩ = some (.map (some Y.mi)) := hF.cells.2
    have n1 : w2.drew.cell? ⟨Y.ip y.id, 0, none⟩ = some (.int .i64 (y.id : Int)) := cell_of (w := w2) hyb (j := 0) rfl
    have hS3 : w3.cell? ⟨Y.fp, 1, none⟩ = some (.map (some Y.mi)) ∧ w3.cell? ⟨Y.ip y.id, 0, none⟩ = some (.int .i64 (y.id : Int)) := ⟨cell_of (gb_cells hg23 (Ne.symm (mi_ne hF hF.here)) hF.here) (j := 1) rfl, cell_of (gb_cells hg23 (Ne.symm (mi_ne hF hyb)) hyb) (j := 0) rfl⟩
    have HE : Hid (FM w3 bs Y (drp f d.id (L s) y) ∧ FK Y f.I w w3 ∧ Fresh Y f.I w Y (drp f d.id (L s) y).I) := Lib.hid ⟨by rw [HDE.out]; exact hG, HK.out.trans Fresh.refl (FK.of_gb hg23 (.inr (.inl rfl))), fun k hk => .inl (by rw [HDE.out] at hk; exact hft k hk)⟩
    clear hrun hm3 hg3 hg23 hG hft hyb hF
    go_upto_region 3 with fail
    go_region_held3 (fun W => W.cell? ⟨Y.fp, 1, none⟩ = some (.map (some Y.mi)) ∧ W.cell? ⟨Y.ip y.id, 0, none⟩ = some (.int .i64 (y.id : Int)))
      (first
        | assumption
        | (with_reducible exact ⟨n0, n1⟩))
      (fail)
    all_goals
      go_wp2_with fail
      go_end0
      exact ⟨rfl, HE.out⟩
  · have hl2 : decide ((l : Int) = 0) = false := by simp; omega
    have hl3 : decide (l = 0) = false := by simpa using hl0
    have HL0 := Lib.hid hl0
    cases kf with
    | true =>
      go_wp2_with fail
      refine HIS.out.mono ?_
      rintro e w' ⟨rfl, rfl⟩
      have hF := HF.out
      have HDE : Hid (drp f d.id (L s) y = ⟨f.room, Fz.gone f.I y.id, unnm f.N d.id (L s), f.G⟩) := Lib.hid (by rw [HDR.out, if_pos (by exact .inl (by rw [HKF.out]; trivial))])
      obtain ⟨w3, hrun, hm3, hg3⟩ := (hF.map.keep (w' := w2.drew) rfl).drop HG.out.ids HY.out (by have := HG.out.rng y HY.out; omega) 62
      have hdel : ∀ ty, (Builtin.delete_ #[62, 3] ty #[.map (some Y.mi), .int .i64 (y.id : Int)]).run Try.prog w2.drew = .ok (.tuple #[]) w3 := fun ty => hrun
      have hg23 : w2.grownBy w3 (some Y.mi) := gb_trans gb_drew hg3
      obtain ⟨hG, hft⟩ := hF.gone (y := y) hg23 hm3 (by have := HGD.out; rw [HDE.out] at this; exact this)
      have hyb := (hF.nod y HY.out).box
      have n0 : w2.drew.cell? ⟨Y.fp, 1, none⟩ = some (.map (some Y.mi)) := hF.cells.2
      have n1 : w2.drew.cell? ⟨Y.ip y.id, 0, none⟩ = some (.int .i64 (y.id : Int)) := cell_of (w := w2) hyb (j := 0) rfl
      have hS3 : w3.cell? ⟨Y.fp, 1, none⟩ = some (.map (some Y.mi)) ∧ w3.cell? ⟨Y.ip y.id, 0, none⟩ = some (.int .i64 (y.id : Int)) := ⟨cell_of (gb_cells hg23 (Ne.symm (mi_ne hF hF.here)) hF.here) (j := 1) rfl, cell_of (gb_cells hg23 (Ne.symm (mi_ne hF hyb)) hyb) (j := 0) rfl⟩
      have HE : Hid (FM w3 bs Y (drp f d.id (L s) y) ∧ FK Y f.I w w3 ∧ Fresh Y f.I w Y (drp f d.id (L s) y).I) := Lib.hid ⟨by rw [HDE.out]; exact hG, HK.out.trans Fresh.refl (FK.of_gb hg23 (.inr (.inl rfl))), fun k hk => .inl (by rw [HDE.out] at hk; exact hft k hk)⟩
      clear hrun hm3 hg3 hg23 hG hft hyb hF
      go_upto_region 3 with fail
      go_region_held3 (fun W => W.cell? ⟨Y.fp, 1, none⟩ = some (.map (some Y.mi)) ∧ W.cell? ⟨Y.ip y.id, 0, none⟩ = some (.int .i64 (y.id : Int)))
        (first
          | assumption
          | (with_reducible exact ⟨n0, n1⟩))
        (fail)
      all_goals
        go_wp2_with fail
        go_end0
        exact ⟨rfl, HE.out⟩
    | false =>
      have HE : Hid (FM w2 bs Y (drp f d.id (L s) y) ∧ FK Y f.I w w2 ∧ Fresh Y f.I w Y (drp f d.id (L s) y).I) := Lib.hid (by
        rw [HDR.out, if_neg (by rw [HKF.out]; simpa using HL0.out)]
        exact ⟨HF.out, HK.out, Fresh.refl⟩)
      go_wp2_with fail
      refine HIS.out.mono ?_
      rintro e w' ⟨rfl, rfl⟩
      go_wp2_with fail
      go_end0
      exact ⟨rfl, HE.out⟩
end Go.Proofs.Ytoaahhgngelnaaa
