/-
  What leave and enter leave. Condition: a text's length.
-/
import Derived.Test.YtoaahhgngelnaaaFLinks
namespace Go.Proofs.Ytoaahhgngelnaaa
set_option maxRecDepth 100000
open Go.ChangeShapes Go.WideShapes Go.ChangeAt Go.RowKit Go.Proofs.Sg Go.Proofs.Fz

/-- What a call that tells nothing leaves of a file system. -/
def LvPost (w : World) (bs : Nat) (Y : Lay) (I : List Nod) (g : Fst) (e : Ending) (w' : World) : Prop := e = .returned (.tuple #[]) ∧ FM w' bs Y g ∧ FK Y I w w' ∧ Fresh Y I w Y g.I
theorem lk1_dir {I : List Nod} {d y : Nod} {i : Nat} (hy : y.kind = 2) (h : d.id ≠ y.id) : lk1 I y d.id i = 0 := by unfold lk1; rw [if_pos hy, if_neg (fun e => h e.1)]
theorem lk1_not {I : List Nod} {y : Nod} {k i : Nat} (hy : y.kind ≠ 2) (h : i ≠ y.id) : lk1 I y k i = 0 := by unfold lk1; rw [if_neg hy, if_neg h]
/-- Whose count of links a name of x in d changes. -/
def who (d x : Nod) : Nod := if x.kind = 2 then d else x
theorem links_le (I : List Nod) (N : List Nm) (y : Nod) : links I N y ≤ 2 + N.length := by
  unfold links
  split
  · have := List.countP_le_length (p := fun n => decide (n.dir = y.id) && isD I n.id) (l := N); omega
  · have := List.countP_le_length (p := fun n => decide (n.id = y.id)) (l := N); omega
theorem lk1_who {I : List Nod} (hu : (I.map (fun x => x.id)).Nodup) {d x : Nod} (hdk : d.kind = 2) (hx : x ∈ I) : lk1 I (who d x) d.id x.id = 1 := by
  unfold who
  by_cases hk : x.kind = 2
  · rw [if_pos hk]; unfold lk1; rw [if_pos hdk, if_pos ⟨rfl, by rw [isD_of hu hx]; simpa using hk⟩]
  · rw [if_neg hk]; unfold lk1; rw [if_neg hk, if_pos rfl]
theorem lk1_oth {I : List Nod} (hu : (I.map (fun x => x.id)).Nodup) {d x y : Nod} (hx : x ∈ I) (hy : y ∈ I) (hne : y.id ≠ (who d x).id) : lk1 I y d.id x.id = 0 := by
  unfold who at hne
  by_cases hk : x.kind = 2
  · rw [if_pos hk] at hne
    by_cases hyk : y.kind = 2
    · exact lk1_dir hyk (Ne.symm hne)
    · exact lk1_not hyk (fun e => hyk ((uid hu hx hy e) ▸ hk))
  · rw [if_neg hk] at hne
    by_cases hyk : y.kind = 2
    · unfold lk1; rw [if_pos hyk, if_neg (fun e => hk (by have := e.2; rw [isD_of hu hx] at this; simpa using this))]
    · exact lk1_not hyk (Ne.symm hne)
theorem who_mem {I : List Nod} {d x : Nod} (hd : d ∈ I) (hx : x ∈ I) : who d x ∈ I := by unfold who; split <;> assumption
set_option maxHeartbeats 2000000 in
theorem leave_any {w : World} {bs : Nat} {Y : Lay} {f : Fst} (h : FM w bs Y f) (hu : (f.I.map (fun x => x.id)).Nodup) (hkd : ∀ x ∈ f.I, x.kind = 1 ∨ x.kind = 2 ∨ x.kind = 3) (hmu : f.N.Pairwise (fun a b => ¬ (a.dir = b.dir ∧ a.nm = b.nm))) (hz : ∀ a ∈ f.N, a.id ≠ 0)
    {d x : Nod} {n : Nm} (hd : d ∈ f.I) (hdk : d.kind = 2) (hx : x ∈ f.I) (hxd : x.id ≠ d.id) (hn : n ∈ f.N) (hnl : f.N.length ≤ 1000000000) (e1 : n.dir = d.id) (e2 : n.id = x.id) (s : ByteArray) (hs : L s = n.nm) (hsl : s.size ≤ maxLen) :
    Calls Try.prog 45 #[.agg #[pA (Y.ip d.id), pA (Y.hp d.id)], .string s, pA (Y.ip x.id)] w (LvPost w bs Y f.I ⟨f.room, f.I, unnm f.N d.id (L s), f.G⟩) := by
  obtain ⟨w1, hw1⟩ : ∃ w1, w1 = w.alloc (.cells #[pA (Y.ip d.id), pA (Y.hp d.id)] 84) := ⟨_, rfl⟩
  obtain ⟨q, hq⟩ : ∃ g, g = w.heap.size := ⟨_, rfl⟩
  have hb1 : Below w.heap.size w w1 := by rw [hw1]; exact box_below w _
  have hbx : w1.heap[q]? = some (.cells #[pA (Y.ip d.id), pA (Y.hp d.id)] 84 (0, 0)) := by rw [hw1, hq]; exact new_block w _
  have h1 := h.below hkd hb1
  have hnm := ((h1.nod d hd).fol hdk).2
  rw [← e1] at hnm
  obtain ⟨w2, hrun, hm2, hg2⟩ := hnm.drop hsl hs hmu hz hn 79
  have hdel : ∀ ty, (Builtin.delete_ #[79, 9] ty #[.map (some (Y.mp d.id)), .string s]).run Try.prog w1 = .ok (.tuple #[]) w2 := fun ty => by
    rw [← e1]; exact (by exact hrun)
  rw [e1] at hm2 hg2
  rw [← hs] at hm2
  have hlu : ∀ y, links f.I f.N y = links f.I (unnm f.N d.id (L s)) y + lk1 f.I y d.id x.id := fun y => by
    have := links_unnm (I := f.I) hmu hn y
    rw [e1, e2, ← hs] at this; exact this
  have hw0 := who_mem hd hx
  obtain ⟨hF, hK, hc, hfz⟩ := h1.names hu hd hdk hw0 hg2 hm2 (fun y hy hne => by have := hlu y; rw [lk1_oth hu hx hy hne] at this; omega)
    (fun y hy hne => ⟨by have := many_unnm hmu hn y.id; rw [e1, ← hs, if_neg (Ne.symm hne)] at this; omega, fun t => by rw [entry_unnm, if_neg (fun e => hne e.1.symm)]⟩)
  have hln := hlu (who d x)
  rw [lk1_who hu hdk hx] at hln
  obtain ⟨l0, hl0⟩ : ∃ l, links f.I f.N (who d x) = l := ⟨_, rfl⟩
  obtain ⟨l1, hl1⟩ : ∃ l, links f.I (unnm f.N d.id (L s)) (who d x) = l := ⟨_, rfl⟩
  rw [hl0, hl1] at hln
  rw [hl1] at hF hK
  rw [hl0] at hc
  have hbnd : l0 ≤ 1000000000000 := by
    have h2 : links f.I f.N (who d x) ≤ 2 + f.N.length := links_le _ _ _
    omega
  have hwr : IntKind.i64.wrap ((l0 : Int) - 1) = (l1 : Int) := by rw [IntKind.wrap_i64]; omega
  have hnx := h1.nod x hx
  have hx2 : NdW w2 bs Y f.I f.N x := hnx.keep (hg2.block _ hnx.lts.1 (by simpa using fun e => mp_ne h1 hd (.inr hdk) hnx.box e.symm)) (fun hk => ⟨hg2.block _ (hnx.lts.2 hk).1 (by
      rcases hk with hk | hk
      · simpa using fun e => mp_ne h1 hd (.inr hdk) (hnx.fil hk).here e.symm
      · simpa using fun e => mp_ne h1 hd (.inr hdk) (hnx.fol hk).1 e.symm), hg2.block _ (hnx.lts.2 hk).2 (by simpa using fun e => hxd (h1.minj x hx d hd (by omega) (by omega) e))⟩)
  have hqd : Y.mp d.id ≠ q := mp_ne h1 hd (.inr hdk) hbx
  have hb2 := gb_cells hg2 (Ne.symm hqd) hbx
  have b0 := cell_of hbx (j := 0) rfl
  have b1 := cell_of hbx (j := 1) rfl
  have a0 := cell_of hb2 (j := 0) rfl
  have c2 := (h1.folder hd hdk).2.2
  have HIS := Lib.hid (isFolder_any hx2 (hkd x hx))
  have HW1 := Lib.hid hw1
  have HQ := Lib.hid hq
  have HE : Hid (LvPost w bs Y f.I ⟨f.room, f.I, unnm f.N d.id (L s), f.G⟩ (.returned (.tuple #[])) (w2.setCell ⟨Y.ip (who d x).id, 3, none⟩ (.int .i64 (l1 : Int)))) := Lib.hid ⟨rfl, hF, (FK.of_below hb1).trans Fresh.refl hK, Fresh.refl⟩
  obtain ⟨kf, hkf⟩ : ∃ b, decide (x.kind = 2) = b := ⟨_, rfl⟩
  rw [hkf] at HIS
  have hwho : who d x = if kf = true then d else x := by
    unfold who
    rw [← hkf]
    by_cases hk : x.kind = 2
    · rw [if_pos hk, if_pos (by simpa using hk)]
    · rw [if_neg hk, if_neg (by simpa using hk)]
  rw [hwho] at hc hfz HE
  obtain ⟨w9, hw9⟩ : ∃ W9, W9 = (w2.setCell ⟨Y.ip (if kf = true then d else x).id, 3, none⟩ (.int .i64 (l1 : Int))) := ⟨_, rfl⟩
  rw [← hw9] at HE
  have HW9 := Lib.hid hw9
  clear h hu hkd hmu hz hd hdk hx hxd hn hnl e1 e2 hs hsl hw1 hq hb1 hbx h1 hnm hrun hm2 hg2 hlu hw0 hF hK hln hl0 hl1 hbnd hnx hx2 hqd hb2 hkf hwho hw9
  go_enter Try.func45, Try.ntmps45
  go_upto_region 1 with fail
  rw [← HW1.out, ← HQ.out]
  go_wp2_with fail
  refine HIS.out.mono ?_
  rintro e w' ⟨rfl, rfl⟩
  cases kf with
  | false =>
    simp only [Bool.false_eq_true, if_false] at hc hfz HW9
    go_wp2_with fail
    rw [← HW9.out]
    go_end0
    exact HE.out
  | true =>
    simp only [if_true] at hc hfz HW9
    go_wp2_with fail
    rw [← HW9.out]
    go_end0
    exact HE.out
/-- A name more, and a folder's parent. -/
def enS (f : Fst) (d x : Nod) (s : Txt) : Fst := ⟨f.room, if x.kind = 2 then setI f.I { x with par := d.id } else f.I, addn f.N d.id s x.id, f.G⟩
set_option maxHeartbeats 4000000 in
theorem enter_any {w : World} {bs : Nat} {Y : Lay} {f : Fst} (h : FM w bs Y f) (hu : (f.I.map (fun x => x.id)).Nodup) (hkd : ∀ x ∈ f.I, x.kind = 1 ∨ x.kind = 2 ∨ x.kind = 3)
    {d x : Nod} (hd : d ∈ f.I) (hdk : d.kind = 2) (hx : x ∈ f.I) (hx0 : x.id ≠ 0) (hnl : f.N.length ≤ 1000000000) (s : ByteArray) (h0 : entN f.N d.id (L s) = none) (hsl : s.size ≤ 281474976710656) :
    Calls Try.prog 33 #[.agg #[pA (Y.ip d.id), pA (Y.hp d.id)], .string s, pA (Y.ip x.id)] w (LvPost w bs Y f.I (enS f d x (L s))) := by
  obtain ⟨w1, hw1⟩ : ∃ w1, w1 = w.alloc (.cells #[pA (Y.ip d.id), pA (Y.hp d.id)] 84) := ⟨_, rfl⟩
  obtain ⟨q, hq⟩ : ∃ g, g = w.heap.size := ⟨_, rfl⟩
  have hb1 : Below w.heap.size w w1 := by rw [hw1]; exact box_below w _
  have hbx : w1.heap[q]? = some (.cells #[pA (Y.ip d.id), pA (Y.hp d.id)] 84 (0, 0)) := by rw [hw1, hq]; exact new_block w _
  have h1 := h.below hkd hb1
  have hhd : hdO f.I x.id = ⟨(x.id : Int), (x.gen : Int)⟩ := by unfold hdO genO; rw [if_neg hx0, nget_of hu hx]
  have HUP : Hid (∀ W, Below w1.heap.size w1 W → ∃ W', (Instr.mapUpdate 79 (.map (some (Y.mp d.id))) (.string s) (.agg #[.int .i64 (x.id : Int), .int .i64 (x.gen : Int)])).run Try.prog W = .ok () W' ∧ NMap W' (Y.mp d.id) f.I (addn f.N d.id (L s) x.id) d.id ∧ W.grownBy W' (some (Y.mp d.id))) := Lib.hid (fun W hW => by
    have := (((h1.below hkd hW).nod d hd).fol hdk).2.store (s := s) (by unfold maxLen; omega) h0 hx0 (by omega)
    rw [hhd] at this
    exact this)
  have hqd : Y.mp d.id ≠ q := mp_ne h1 hd (.inr hdk) hbx
  have hfol := ((h1.nod d hd).fol hdk).1
  have hxbox := (h1.nod x hx).box
  have hdbox := (h1.nod d hd).box
  have HSS : Hid (∀ W, w1.grownBy W (some (Y.mp d.id)) → (W.cell? ⟨q, 1, none⟩ = some (pA (Y.hp d.id)) ∧ W.cell? ⟨Y.hp d.id, 2, none⟩ = some (.map (some (Y.mp d.id))) ∧ W.cell? ⟨Y.ip x.id, 0, none⟩ = some (.int .i64 (x.id : Int)) ∧ W.cell? ⟨Y.ip x.id, 1, none⟩ = some (.int .i64 (x.gen : Int)))) := Lib.hid (fun W hW => by
    have g1 := gb_cells hW (Ne.symm hqd) hbx
    have g2 := gb_cells hW (Ne.symm (mp_ne h1 hd (.inr hdk) hfol)) hfol
    have g3 := gb_cells hW (Ne.symm (mp_ne h1 hd (.inr hdk) hxbox)) hxbox
    exact ⟨cell_of g1 (j := 1) rfl, cell_of g2 (j := 2) rfl, cell_of g3 (j := 0) rfl, cell_of g3 (j := 1) rfl⟩)
  have hla : ∀ y, links f.I (addn f.N d.id (L s) x.id) y = links f.I f.N y + lk1 f.I y d.id x.id := fun y => links_addn _ _ _ _ _ _
  have hw0 := who_mem hd hx
  have hln := hla (who d x)
  rw [lk1_who hu hdk hx] at hln
  obtain ⟨l0, hl0⟩ : ∃ l, links f.I f.N (who d x) = l := ⟨_, rfl⟩
  obtain ⟨l1, hl1⟩ : ∃ l, links f.I (addn f.N d.id (L s) x.id) (who d x) = l := ⟨_, rfl⟩
  rw [hl0, hl1] at hln
  have hbnd : l0 ≤ 1000000000000 := by have := links_le f.I f.N (who d x); omega
  have hwr : IntKind.i64.wrap ((l0 : Int) + 1) = (l1 : Int) := by rw [IntKind.wrap_i64]; omega
  have HN : Hid (∀ W5 W6, Below w1.heap.size w1 W5 → NMap W6 (Y.mp d.id) f.I (addn f.N d.id (L s) x.id) d.id → W5.grownBy W6 (some (Y.mp d.id)) →
      FM (W6.setCell ⟨Y.ip (who d x).id, 3, none⟩ (.int .i64 (l1 : Int))) bs Y ⟨f.room, f.I, addn f.N d.id (L s) x.id, f.G⟩ ∧ FK Y f.I w (W6.setCell ⟨Y.ip (who d x).id, 3, none⟩ (.int .i64 (l1 : Int))) ∧ W6.cell? ⟨Y.ip (who d x).id, 3, none⟩ = some (.int .i64 (l0 : Int)) ∧ W6.frozen? ⟨Y.ip (who d x).id, 3, none⟩ = false ∧ W6.cell? ⟨Y.ip x.id, 5, none⟩ = some (holdV Y x)
      ∧ W6.cell? ⟨q, 0, none⟩ = some (pA (Y.ip d.id)) ∧ ∃ c2 c3 c4 c5, W6.heap[Y.ip d.id]? = some (.cells #[.int .i64 (d.id : Int), .int .i64 (d.gen : Int), c2, c3, c4, c5] 75 (0, 0))) := Lib.hid (fun W5 W6 hb5 hm6 hg6 => by
    have h5 := h1.below hkd hb5
    obtain ⟨hF, hK, hc, hfz⟩ := h5.names hu hd hdk hw0 hg6 hm6 (fun y hy hne => by have := hla y; rw [lk1_oth hu hx hy hne] at this; omega)
      (fun y hy hne => ⟨by have := count_addn f.N d.id (L s) x.id y.id; rw [if_neg (Ne.symm hne)] at this; omega, fun t => by rw [entry_addn h0, if_neg (fun e => hne e.1.symm)]⟩)
    rw [hl1] at hF hK
    rw [hl0] at hc
    have hW : w1.grownBy W6 (some (Y.mp d.id)) := gb_trans (gb_below hb5 _) hg6
    have g1 := gb_cells hW (Ne.symm hqd) hbx
    have g3 := gb_cells hW (Ne.symm (mp_ne h1 hd (.inr hdk) hxbox)) hxbox
    have g4 := gb_cells hW (Ne.symm (mp_ne h1 hd (.inr hdk) hdbox)) hdbox
    exact ⟨hF, (FK.of_below (hb1.trans (hb5.mono hb1.size))).trans Fresh.refl hK, hc, hfz, cell_of g3 (j := 5) rfl, cell_of g1 (j := 0) rfl, _, _, _, _, g4⟩)
  have HPAR : Hid (x.kind = 2 → ∀ W : World, FM W bs Y ⟨f.room, f.I, addn f.N d.id (L s) x.id, f.G⟩ → FK Y f.I w W → LvPost w bs Y f.I (enS f d x (L s)) (.returned (.tuple #[])) ((W.setCell ⟨Y.hp x.id, 0, none⟩ (.int .i64 (d.id : Int))).setCell ⟨Y.hp x.id, 1, none⟩ (.int .i64 (d.gen : Int))) ∧ W.heap[Y.hp x.id]? = some (.cells #[.int .i64 (x.par : Int), .int .i64 (genO f.I x.par : Int), .map (some (Y.mp x.id))] 81 (0, 0))) := Lib.hid (fun hk W hF hK => by
    obtain ⟨g1, g2, g3⟩ := hF.par hu hd hx hk
    refine ⟨⟨rfl, ?_, hK.trans Fresh.refl g2, fun k hk2 => ?_⟩, ((hF.nod x hx).fol hk).1⟩
    · unfold enS; rw [if_pos hk]; exact g1
    · have hk3 : foot Y (enS f d x (L s)).I k := hk2
      unfold enS at hk3
      rw [if_pos hk] at hk3
      exact .inl (g3 k hk3))
  have HCL := Lib.hid (fun W => sclone_any s W hsl)
  have HW1 := Lib.hid hw1
  have HQ := Lib.hid hq
  have HIX : Hid (Y.ip d.id ≠ Y.hp x.id ∨ True) := Lib.hid (.inr trivial)
  have hkk := hkd x hx
  have HQN : Hid (q ≠ Y.ip d.id) := Lib.hid (by have := (h.nod d hd).lts.1; omega)
  have HHP : Hid (x.kind = 1 ∨ x.kind = 2 → Y.hp x.id ≠ Y.ip d.id) := Lib.hid (fun hk => hp_ip h1 hx hd hk)
  clear h hu hkd hd hdk hx hx0 hnl h0 hsl hw1 hq hb1 hbx h1 hhd hqd hfol hxbox hdbox hla hw0 hln hl0 hl1 hbnd HIX
  go_enter Try.func33, Try.ntmps33
  go_upto_region 1 with fail
  rw [← HW1.out, ← HQ.out]
  obtain ⟨n0, n1, n2, n3⟩ := HSS.out w1.drew gb_drew
  go_region_held3 (fun W => W.cell? ⟨q, 1, none⟩ = some (pA (Y.hp d.id)) ∧ W.cell? ⟨Y.hp d.id, 2, none⟩ = some (.map (some (Y.mp d.id))) ∧ W.cell? ⟨Y.ip x.id, 0, none⟩ = some (.int .i64 (x.id : Int)) ∧ W.cell? ⟨Y.ip x.id, 1, none⟩ = some (.int .i64 (x.gen : Int)))
    (first
      | assumption
      | (with_reducible exact HSS.out _ gb_drew))
    (first
      | (go_at_call 43; (with_reducible refine (HCL.out _).mono ?_); rintro e w5 ⟨rfl, hb5⟩; have hB5 : Below w1.heap.size w1 w5 := (Below.refl _ _).drew.trans (hb5.mono (Nat.le_refl _)); have hS5 := HSS.out w5 (gb_below hB5 _); obtain ⟨w6, hrun, hm6, hg6⟩ := HUP.out w5 hB5; have hS6 := HSS.out w6 (gb_trans (gb_below hB5 _) hg6)))
  obtain ⟨hF, hK, p3, z3, p5, p0, e2, e3, e4, e5, hdb⟩ := HN.out w5 w6 hB5 hm6 hg6
  rename_i hHeld
  clear hHeld hrun hm6 hg6 hS6 hS5 hB5 hb5 n0 n1 n2 n3
  rcases hkk with hk | hk | hk
  · rw [hold1 hk] at p5
    have ta := taSF
    have hwho : who d x = x := by unfold who; rw [if_neg (by omega)]
    rw [hwho] at hF hK p3 z3
    obtain ⟨w9, hw9⟩ : ∃ W9, W9 = (w6.setCell ⟨Y.ip x.id, 3, none⟩ (.int .i64 (l1 : Int))) := ⟨_, rfl⟩
    rw [← hw9] at hF hK
    have HE : Hid (LvPost w bs Y f.I (enS f d x (L s)) (.returned (.tuple #[])) w9) := Lib.hid ⟨rfl, by unfold enS; rw [if_neg (by omega)]; exact hF, hK, by unfold enS; rw [if_neg (by omega)]; exact Fresh.refl⟩
    have HW9 := Lib.hid hw9
    clear hF hK hwho hw9 hk
    go_wp2_with fail
    rw [← HW9.out]
    go_end0
    exact HE.out
  · rw [hold2 hk] at p5
    have ta := taFF
    have hwho : who d x = d := by unfold who; rw [if_pos hk]
    rw [hwho] at hF hK p3 z3
    obtain ⟨w7, hw7⟩ : ∃ W7, W7 = (w6.setCell ⟨Y.ip d.id, 3, none⟩ (.int .i64 (l1 : Int))) := ⟨_, rfl⟩
    rw [← hw7] at hF hK
    obtain ⟨hE, hfb⟩ := HPAR.out hk w7 hF hK
    obtain ⟨w9, hw9⟩ : ∃ W9, W9 = ((w7.setCell ⟨Y.hp x.id, 0, none⟩ (.int .i64 (d.id : Int))).setCell ⟨Y.hp x.id, 1, none⟩ (.int .i64 (d.gen : Int))) := ⟨_, rfl⟩
    rw [← hw9] at hE
    have hg7 : w6.grownBy w7 (some (Y.ip d.id)) := by rw [hw7]; exact gb_set _
    have hqi : q ≠ Y.ip d.id := HQN.out
    have c0 : w7.cell? ⟨q, 0, none⟩ = some (pA (Y.ip d.id)) := by rw [hw7]; exact (World.cell?_setCell_far w6 _ _ _ (Ne.symm hqi)).trans p0
    have hdb7 := heap_setCell_same w6 (Y.ip d.id) 3 _ _ (.int .i64 (l1 : Int)) hdb
    rw [← hw7] at hdb7
    have c3 := cell_of hdb7 (j := 0) rfl
    have c4 := cell_of hdb7 (j := 1) rfl
    have c5 := cell_of hfb (j := 0) rfl
    have c6 := cell_of hfb (j := 1) rfl
    have z5 := frozen_of_row w7 (Y.hp x.id) 0 _ _ hfb
    have z6 := frozen_of_row w7 (Y.hp x.id) 1 _ _ hfb
    have HE := Lib.hid hE
    have HW7 := Lib.hid hw7
    have HW9 := Lib.hid hw9
    clear hF hK hwho hw9 hk hw7 hE hfb hg7 hdb7 hdb
    go_upto_region 8 with fail
    rw [← HW7.out]
    go_wp2_with fail
    rw [← HW9.out]
    go_end0
    exact HE.out
  · rw [hold3 hk] at p5
    have ta := taTF
    have hwho : who d x = x := by unfold who; rw [if_neg (by omega)]
    rw [hwho] at hF hK p3 z3
    obtain ⟨w9, hw9⟩ : ∃ W9, W9 = (w6.setCell ⟨Y.ip x.id, 3, none⟩ (.int .i64 (l1 : Int))) := ⟨_, rfl⟩
    rw [← hw9] at hF hK
    have HE : Hid (LvPost w bs Y f.I (enS f d x (L s)) (.returned (.tuple #[])) w9) := Lib.hid ⟨rfl, by unfold enS; rw [if_neg (by omega)]; exact hF, hK, by unfold enS; rw [if_neg (by omega)]; exact Fresh.refl⟩
    have HW9 := Lib.hid hw9
    clear hF hK hwho hw9 hk
    go_wp2_with fail
    rw [← HW9.out]
    go_end0
    exact HE.out
end Go.Proofs.Ytoaahhgngelnaaa
