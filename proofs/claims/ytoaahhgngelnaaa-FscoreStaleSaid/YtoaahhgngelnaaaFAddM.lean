/-
  One inode more in memory. No condition.
-/
import Derived.Test.YtoaahhgngelnaaaFLeave
namespace Go.Proofs.Ytoaahhgngelnaaa
set_option maxRecDepth 100000
open Go.ChangeShapes Go.WideShapes Go.ChangeAt Go.RowKit Go.Proofs.Sg Go.Proofs.Fz

/-- What is made; its parent is its own, or the one that it is to have. -/
def adN (f : Fst) (d : Nat) (m : Mk) : Nod := ⟨least f.I 201 1, f.G.getD (least f.I 201 1) 0 + 1, m.kind.toNat, m.mode, m.time, if m.kind = 2 then least f.I 201 1 else d, m.tg, sh0⟩
def adS (f : Fst) (d : Nat) (m : Mk) : Fst := ⟨f.room, setI f.I (adN f d m), f.N, bump f.G (least f.I 201 1)⟩
theorem fs_get {r mi i : Nat} {G : List Nat} (hi : i < 201) : (fsCells r mi G).toArray[2 + i]? = some (.int .i64 (G.getD i 0 : Int)) := by
  unfold fsCells
  rw [List.getElem?_toArray, show 2 + i = i + 1 + 1 by omega, List.getElem?_cons_succ, List.getElem?_cons_succ, List.getElem?_map, List.getElem?_range hi]
  rfl
theorem fs_set {r mi i : Nat} {G : List Nat} (hi : i < 201) : (fsCells r mi G).toArray.setIfInBounds (2 + i) (.int .i64 ((G.getD i 0 + 1 : Nat) : Int)) = (fsCells r mi (bump G i)).toArray := by
  rw [List.setIfInBounds_toArray]
  congr 1
  unfold fsCells
  rw [show 2 + i = i + 1 + 1 by omega, List.set_cons_succ, List.set_cons_succ]
  congr 2
  apply List.ext_getElem?
  intro j
  rw [List.getElem?_set, List.getElem?_map, List.getElem?_map, List.length_map, List.length_range]
  by_cases hj : j < 201
  · rw [List.getElem?_range hj]
    by_cases e : i = j
    · subst e
      rw [if_pos rfl, if_pos hi]
      simp only [Option.map_some, gcell, getD_bump, if_true]
    · rw [if_neg e]
      simp only [Option.map_some, gcell, getD_bump, if_neg e]
  · rw [List.getElem?_eq_none (by simp; omega)]
    have e : i ≠ j := by omega
    rw [if_neg e]
    rfl
abbrev Lay.up (Y : Lay) (i p hb mb : Nat) : Lay := ⟨Y.fp, Y.mi, upd Y.ip i p, upd Y.hp i hb, upd Y.mp i mb⟩
theorem upd_same (f : Nat → Nat) (i v : Nat) : upd f i v i = v := by simp [upd]
theorem upd_ne {f : Nat → Nat} {i j v : Nat} (h : j ≠ i) : upd f i v j = f j := by simp [upd, h]
/-- A number that nothing has. -/
structure Nw (f : Fst) (i : Nat) : Prop where
  no : nget f.I (i : Int) = none
  kind : ∀ x ∈ f.I, x.kind = 1 ∨ x.kind = 2 ∨ x.kind = 3
  nms : ∀ a ∈ f.N, a.id ≠ i ∧ a.dir ≠ i
  par : ∀ y ∈ f.I, y.kind = 2 → y.par ≠ i
theorem Nw.of_empty {f : Fst} (hi : f.I = []) (hn : f.N = []) (i : Nat) : Nw f i := ⟨by rw [hi]; rfl, (fun x hx => by rw [hi] at hx; cases hx), (fun a ha => by rw [hn] at ha; cases ha), (fun x hx => by rw [hi] at hx; cases hx)⟩
theorem Nw.of_good {f : Fst} (hg : Gd f) {i : Nat} (h0 : nget f.I (i : Int) = none) : Nw f i := by
  have hne : ∀ y ∈ f.I, y.id ≠ i := fun y hy e => nget_none.1 h0 y hy (by omega)
  have hid : ∀ a ∈ f.N, a.id ≠ i ∧ a.dir ≠ i := fun a ha => by
    refine ⟨fun e => ?_, fun e => ?_⟩
    · have := (hg.nmi a ha).1; rw [e, h0] at this; cases this
    · have := hg.nmd a ha; unfold isD at this; rw [e, h0] at this; cases this
  refine ⟨h0, hg.kind, hid, fun y hy hk => ?_⟩
  obtain ⟨r, hr, r1, -, -, r4⟩ := hg.root
  by_cases e : y.id = 1
  · have := hg.uid hy hr (by omega)
    subst this
    rw [r4, ← r1]; exact hne y hy
  · obtain ⟨a, ha, e2⟩ := hg.has y hy e
    rw [hg.one a ha y hy e2.symm hk]; exact (hid a ha).2
/-- What is new has no name yet. -/
theorem links_new {f : Fst} {J : List Nod} {n : Nod} (hw : Nw f n.id) : links J f.N n = if n.kind = 2 then 2 else 0 := by
  have hnn := hw.nms
  unfold links
  split
  · rw [List.countP_eq_zero.2 (fun a ha => by simp [(hnn a ha).2])]
  · rw [List.countP_eq_zero.2 (fun a ha => by simp [(hnn a ha).1])]
theorem FM.add {w W : World} {bs : Nat} {Y : Lay} {f : Fst} (h : FM w bs Y f) (hbs : bs ≤ w.heap.size) {n : Nod} {G : List Nat} (hw : Nw f n.id) {p hb mb : Nat}
    (hp : w.heap.size ≤ p) (hhb : n.kind ≠ 3 → w.heap.size ≤ hb ∧ w.heap.size ≤ mb)
    (hfs : W.heap[Y.fp]? = some (.cells (fsCells f.room Y.mi G).toArray 65 (0, 0))) (him : IMap W Y.mi (setI f.I n) (upd Y.ip n.id p))
    (hoth : ∀ k, foot Y f.I k → k ≠ Y.fp → k ≠ Y.mi → W.heap[k]? = w.heap[k]?) (hn : NdW W bs (Y.up n.id p hb mb) (setI f.I n) f.N n) :
    FM W bs (Y.up n.id p hb mb) ⟨f.room, setI f.I n, f.N, G⟩ ∧ Fresh Y f.I w (Y.up n.id p hb mb) (setI f.I n) := by
  have h0 := hw.no
  have hne : ∀ y ∈ f.I, y.id ≠ n.id := fun y hy e => nget_none.1 h0 y hy (by omega)
  have hmem : ∀ y, y ∈ setI f.I n ↔ y ∈ f.I ∨ y = n := fun y => by rw [len_setI_new h0, List.mem_append, List.mem_singleton]
  have hget : ∀ j : Nat, j ≠ n.id → nget (setI f.I n) (j : Int) = nget f.I (j : Int) := fun j hj => by rw [nget_setI, if_neg (by omega)]
  have hid := hw.nms
  have hlk : ∀ y : Nod, links (setI f.I n) f.N y = links f.I f.N y := fun y => links_I (fun a ha => by unfold isD; rw [hget _ (hid a ha).1]) y
  have hhd : ∀ d s, hdO (setI f.I n) (entry f.N d s) = hdO f.I (entry f.N d s) := fun d s => by
    by_cases e : entry f.N d s = 0
    · rw [e]; rfl
    · obtain ⟨a, ha, -, -, e2⟩ := entry_some e
      unfold hdO genO
      rw [hget _ (by rw [← e2]; exact (hid a ha).1)]
  have hpar : ∀ y ∈ f.I, y.kind = 2 → genO (setI f.I n) y.par = genO f.I y.par := fun y hy hk => by
    have hpn := hw.par y hy hk
    unfold genO; rw [hget _ hpn]
  have hfl := h.foot_lt hw.kind
  have hft : ∀ k, foot (Y.up n.id p hb mb) (setI f.I n) k → foot Y f.I k ∨ w.heap.size ≤ k := by
    rintro k (e | e | ⟨x, hx, e⟩)
    · exact .inl (.inl e)
    · exact .inl (.inr (.inl e))
    · rcases (hmem x).1 hx with hx | rfl
      · dsimp only at e
        rw [upd_ne (hne x hx), upd_ne (hne x hx), upd_ne (hne x hx)] at e
        exact .inl (.inr (.inr ⟨x, hx, e⟩))
      · dsimp only at e
        rw [upd_same, upd_same, upd_same] at e
        rcases e with e | ⟨h3, e | e⟩
        · exact .inr (by omega)
        · exact .inr (by have := hhb h3; omega)
        · exact .inr (by have := hhb h3; omega)
  have hb1 : ∀ y ∈ f.I, (y.kind = 1 ∨ y.kind = 2) → Y.hp y.id ≠ Y.fp ∧ Y.hp y.id ≠ Y.mi ∧ Y.mp y.id ≠ Y.fp ∧ Y.mp y.id ≠ Y.mi := fun y hy hk => by
    refine ⟨Ne.symm (fp_hp h hy hk), ?_, mp_ne h hy hk h.here, h.mim y hy (by omega)⟩
    rcases hk with hk | hk
    · exact Ne.symm (mi_ne h ((h.nod y hy).fil hk).here)
    · exact Ne.symm (mi_ne h ((h.nod y hy).fol hk).1)
  refine ⟨⟨hfs, him, ?_, ?_, ?_, ?_, ?_, fun k hk => ?_⟩, hft⟩
  · intro x hx
    rcases (hmem x).1 hx with hx | rfl
    · have hn0 := h.nod x hx
      have hu := hne x hx
      have hk2 := hn0.keep (w' := W) (hoth _ (foot_ip hx) (Ne.symm (fp_ip h hx)) (Ne.symm (mi_ne h hn0.box))) (fun hk => by
        obtain ⟨g1, g2, g3, g4⟩ := hb1 x hx hk
        exact ⟨hoth _ (foot_hp hx (by omega)) g1 g2, hoth _ (foot_mp hx (by omega)) g3 g4⟩)
      refine ⟨?_, fun hk => ?_, fun hk => ?_⟩
      · have := hk2.box
        rw [← hlk x] at this
        show W.heap[upd Y.ip n.id p x.id]? = _
        rw [upd_ne hu]
        have hh : holdV (Y.up n.id p hb mb) x = holdV Y x := by unfold holdV; dsimp only; rw [upd_ne hu]
        rw [hh]; exact this
      · show SW W bs (upd Y.hp n.id hb x.id) (upd Y.mp n.id mb x.id) x.d
        rw [upd_ne hu, upd_ne hu]; exact hk2.fil hk
      · obtain ⟨g1, g2⟩ := hk2.fol hk
        show W.heap[upd Y.hp n.id hb x.id]? = some (.cells #[_, _, .map (some (upd Y.mp n.id mb x.id))] _ _) ∧ NMap W (upd Y.mp n.id mb x.id) _ _ _
        rw [upd_ne hu, upd_ne hu, hpar x hx hk]
        exact ⟨g1, g2.congr rfl (fun _ => rfl) (fun s => hhd _ _)⟩
    · exact hn
  · intro x hx y hy e
    dsimp only at e
    rcases (hmem x).1 hx with hx1 | e1 <;> rcases (hmem y).1 hy with hy1 | e2
    · rw [upd_ne (hne x hx1), upd_ne (hne y hy1)] at e; exact h.iinj x hx1 y hy1 e
    · rw [upd_ne (hne x hx1), e2, upd_same] at e; have := hfl _ (foot_ip hx1); omega
    · rw [upd_ne (hne y hy1), e1, upd_same] at e; have := hfl _ (foot_ip hy1); omega
    · rw [e1, e2]
  · intro x hx y hy kx ky e
    dsimp only at e
    rcases (hmem x).1 hx with hx1 | e1 <;> rcases (hmem y).1 hy with hy1 | e2
    · rw [upd_ne (hne x hx1), upd_ne (hne y hy1)] at e; exact h.hinj x hx1 y hy1 kx ky e
    · rw [upd_ne (hne x hx1), e2, upd_same] at e; have := hfl _ (foot_hp hx1 kx); have := hhb (e2 ▸ ky); omega
    · rw [upd_ne (hne y hy1), e1, upd_same] at e; have := hfl _ (foot_hp hy1 ky); have := hhb (e1 ▸ kx); omega
    · rw [e1, e2]
  · intro x hx y hy kx ky e
    dsimp only at e
    rcases (hmem x).1 hx with hx1 | e1 <;> rcases (hmem y).1 hy with hy1 | e2
    · rw [upd_ne (hne x hx1), upd_ne (hne y hy1)] at e; exact h.minj x hx1 y hy1 kx ky e
    · rw [upd_ne (hne x hx1), e2, upd_same] at e; have := hfl _ (foot_mp hx1 kx); have := hhb (e2 ▸ ky); omega
    · rw [upd_ne (hne y hy1), e1, upd_same] at e; have := hfl _ (foot_mp hy1 ky); have := hhb (e1 ▸ kx); omega
    · rw [e1, e2]
  · intro x hx kx e
    dsimp only at e
    rcases (hmem x).1 hx with hx | rfl
    · rw [upd_ne (hne x hx)] at e; exact h.mim x hx kx e
    · rw [upd_same] at e; have := h.map.lt; have := hhb kx; omega
  · rcases hft k hk with hk | hk
    · exact h.ge k hk
    · omega
end Go.Proofs.Ytoaahhgngelnaaa
