/-
  Plain mathematics of the law Stale: a handle that was given out, and is stale, stays so. No condition.
-/
import Derived.Test.YtoaahhgngelnaaaFStat
import Derived.Test.YtoaahhgngelnaaaFStep
namespace Go.Proofs.Ytoaahhgngelnaaa
set_option maxRecDepth 100000
open Go.ChangeShapes Go.WideShapes Go.ChangeAt Go.RowKit Go.Proofs.Sg Go.Proofs.Fz

/-- Every inode was there before, or is of a generation that was never there; generations only rise. -/
structure Rise (f g : Fst) : Prop where
  nod : ∀ y ∈ g.I, (∃ x ∈ f.I, x.id = y.id ∧ x.gen = y.gen) ∨ f.G.getD y.id 0 < y.gen
  gen : ∀ i, f.G.getD i 0 ≤ g.G.getD i 0
theorem Rise.refl (f : Fst) : Rise f f := ⟨fun y hy => .inl ⟨y, hy, rfl, rfl⟩, fun _ => Nat.le_refl _⟩
theorem Rise.sub {f g : Fst} (h : ∀ y ∈ g.I, ∃ x ∈ f.I, x.id = y.id ∧ x.gen = y.gen) (hG : g.G = f.G) : Rise f g := ⟨fun y hy => .inl (h y hy), fun i => by rw [hG]; exact Nat.le_refl _⟩
theorem mem_set {I : List Nod} {x y : Nod} (h : y ∈ setI I x) : y ∈ I ∨ y = x := by
  unfold setI at h
  rcases List.mem_append.1 h with h | h
  · exact .inl (mem_gone.1 h).1
  · exact .inr (List.mem_singleton.1 h)
theorem drp_rise (f : Fst) (d : Nat) (s : Txt) (y : Nod) : Rise f (drp f d s y) := by
  unfold drp
  split
  · exact Rise.sub (fun z hz => ⟨z, (mem_gone.1 hz).1, rfl, rfl⟩) rfl
  · exact Rise.sub (fun z hz => ⟨z, hz, rfl, rfl⟩) rfl
theorem Rise.trans {f g k : Fst} (h : Rise f g) (h2 : Rise g k) : Rise f k := ⟨fun y hy => by
  rcases h2.nod y hy with ⟨x, hx, e1, e2⟩ | h3
  · rcases h.nod x hx with ⟨z, hz, e3, e4⟩ | h4
    · exact .inl ⟨z, hz, e3.trans e1, e4.trans e2⟩
    · exact .inr (by rw [← e1, ← e2]; exact h4)
  · exact .inr (Nat.lt_of_le_of_lt (h.gen _) h3), fun i => Nat.le_trans (h.gen i) (h2.gen i)⟩
theorem put_rise {f : Fst} {x : Nod} (hx : x ∈ f.I) (p q : Nat) (s t : Txt) : Rise f (putS f p q s t x) := by
  refine Rise.sub (fun z hz => ?_) rfl
  unfold putS at hz
  dsimp only at hz
  split at hz
  · rcases mem_set hz with hz | hz
    · exact ⟨z, hz, rfl, rfl⟩
    · rw [hz]; exact ⟨x, hx, rfl, rfl⟩
  · exact ⟨z, hz, rfl, rfl⟩
theorem da_rise {f : Fst} {x : Nod} (hx : x ∈ f.I) (S : Sh) (t : Int) : Rise f (daS f x S t) := by
  refine Rise.sub (fun z hz => ?_) rfl
  rcases mem_set hz with hz | hz
  · exact ⟨z, hz, rfl, rfl⟩
  · rw [hz]; exact ⟨x, hx, rfl, rfl⟩
theorem bump_at (G : List Nat) (i j : Nat) : (bump G i).getD j 0 = if i = j then G.getD i 0 + 1 else G.getD j 0 := by
  unfold bump padG
  rw [List.getD_eq_getElem?_getD, List.getElem?_set]
  by_cases h : i = j
  · subst h
    rw [if_pos rfl, if_pos rfl, if_pos (by simp; omega)]; rfl
  · rw [if_neg h, if_neg h]
    rw [List.getD_eq_getElem?_getD]
    by_cases hj : j < G.length
    · rw [List.getElem?_append_left hj]
    · rw [List.getElem?_append_right (by omega), List.getElem?_eq_none (by omega : G.length ≤ j), List.getElem?_replicate]
      split <;> rfl
theorem make_rise (f : Fst) (x : Nod) (s : Txt) (m : Mk) : Rise f (mkS f x s m) := by
  refine ⟨fun y hy => ?_, fun i => ?_⟩
  · rcases mem_set hy with hy | hy
    · exact .inl ⟨y, hy, rfl, rfl⟩
    · right; rw [hy]; exact Nat.lt_succ_self _
  · show _ ≤ (bump f.G (mkN f x m).id).getD i 0
    rw [bump_at]
    split
    · rename_i e; rw [e]; omega
    · exact Nat.le_refl _
theorem step_rise (f : Fst) (o : Opf) : Rise f (stepF f o).1 := by
  unfold stepF
  split
  · show Rise f (mkF f o.h o.nm o.m).1
    unfold mkF
    split
    · exact Rise.refl f
    · repeat' split
      all_goals first | exact Rise.refl f | exact make_rise _ _ _ _
  split
  · show Rise f (lkF f o.h o.g o.nm).1
    unfold lkF
    repeat' split
    all_goals first | exact Rise.refl f | exact Rise.sub (fun z hz => ⟨z, hz, rfl, rfl⟩) rfl
  split
  · show Rise f (rmF f o.h o.nm o.fd).1
    unfold rmF
    repeat' split
    all_goals first | exact Rise.refl f | exact drp_rise _ _ _ _
  split
  · show Rise f (rnF f o.h o.nm o.g o.ot).1
    unfold rnF
    split
    · exact Rise.refl f
    · split
      · split
        · exact Rise.refl f
        · split
          · exact Rise.refl f
          · rename_i x hx
            split
            · exact Rise.refl f
            · rename_i hne
              split
              · exact Rise.refl f
              · split
                · rename_i y hy
                  split
                  · exact Rise.refl f
                  · have h1 := drp_rise f
                    refine (h1 _ _ y).trans (put_rise ?_ _ _ _ _)
                    obtain ⟨x1, x2⟩ := nget_mem hx
                    obtain ⟨y1, y2⟩ := nget_mem hy
                    unfold drp
                    split
                    · exact mem_gone.2 ⟨x1, fun e => hne (by omega)⟩
                    · exact x1
                · split
                  · exact Rise.refl f
                  · exact put_rise (nget_mem hx).1 _ _ _ _
      · exact Rise.refl f
  split
  · show Rise f (wrF f o.h o.p o.b o.t).1
    unfold wrF
    split
    · exact Rise.refl f
    · rename_i hq
      repeat' split
      all_goals first | exact Rise.refl f | exact da_rise (fil_inr hq).1 _ _
  split
  · show Rise f (ctF f o.h o.n o.t).1
    unfold ctF
    split
    · exact Rise.refl f
    · rename_i hq
      repeat' split
      all_goals first | exact Rise.refl f | exact da_rise (fil_inr hq).1 _ _
  split
  · exact Rise.refl f
  split
  · exact Rise.refl f
  · exact Rise.refl f
/-- A handle that was given out at some time. -/
def Gv (f : Fst) (h : Hd) : Prop := ∃ i g : Nat, h = ⟨i, g⟩ ∧ g ≤ f.G.getD i 0 ∧ i ≤ 200
theorem Gv.rise {f g : Fst} {h : Hd} (k : Gv f h) (r : Rise f g) : Gv g h := by
  obtain ⟨i, n, e, hn, hi⟩ := k
  exact ⟨i, n, e, Nat.le_trans hn (r.gen i), hi⟩
theorem stale_rise {f g : Fst} {h : Hd} (k : Gv f h) (hs : fnd f.I h = none) (hn : (f.I.map (fun x => x.id)).Nodup) (r : Rise f g) : fnd g.I h = none := by
  rcases hq : fnd g.I h with _ | y
  · rfl
  · exfalso
    obtain ⟨h1, h2, h3⟩ := fnd_mem hq
    obtain ⟨i, n, rfl, hle, -⟩ := k
    dsimp only at h2 h3
    rcases r.nod y h1 with ⟨x, hx, e1, e2⟩ | h4
    · have hg := nget_of hn hx
      unfold fnd at hs
      dsimp only at hs
      have : ((i : Nat) : Int) = (x.id : Int) := by omega
      rw [this, hg] at hs
      dsimp only at hs
      rw [if_pos (by omega)] at hs
      cases hs
    · have e3 : y.id = i := by omega
      rw [e3] at h4
      omega
theorem Gv.alive {f : Fst} (hg : Gd f) {h : Hd} {x : Nod} (k : fnd f.I h = some x) : Gv f h := by
  obtain ⟨h1, h2, h3⟩ := fnd_mem k
  have := (hg.gen x h1).2
  exact ⟨x.id, x.gen, by cases h; dsimp only at h2 h3; rw [h2, h3], this, (hg.rng x h1).2⟩
theorem Gv.hdO {f : Fst} (hg : Gd f) (i : Nat) (hi : i ≠ 0 → (nget f.I (i : Int)).isSome = true) : Gv f (Fz.hdO f.I i) := by
  unfold Fz.hdO
  split
  · exact ⟨0, 0, rfl, Nat.zero_le _, by omega⟩
  · rename_i h0
    unfold genO
    obtain ⟨x, hq⟩ := Option.isSome_iff_exists.1 (hi h0)
    rw [hq]
    obtain ⟨h1, h2⟩ := nget_mem hq
    have := (hg.gen x h1).2
    have h3 := (hg.rng x h1).2
    have e : x.id = i := by omega
    refine ⟨i, x.gen, rfl, ?_, by omega⟩
    rw [← e]; exact this
theorem Gv.zero (f : Fst) : Gv f hd0 := ⟨0, 0, rfl, Nat.zero_le _, by omega⟩
theorem Gv.ok {f : Fst} {T r : Nat} {h : Hd} (k : Gv f h) (hw : Wl f T r) (hT : T ≤ 100000) : HdOk h := by
  obtain ⟨i, n, rfl, h1, h2⟩ := k
  have := hw.bd.gns i
  exact ⟨by dsimp only; omega, by dsimp only; omega, by dsimp only; omega, by dsimp only; omega⟩
theorem step_given {f : Fst} (hg : Gd f) (o : Opf) : Gv (stepF f o).1 (stepF f o).2.h := by
  unfold stepF
  split
  · show Gv (mkF f o.h o.nm o.m).1 (mkF f o.h o.nm o.m).2.1
    unfold mkF
    split
    · exact Gv.zero f
    · rename_i x hx
      split
      · exact Gv.zero f
      split
      · exact Gv.zero f
      split
      · exact Gv.zero f
      split
      · exact Gv.zero f
      split
      · exact Gv.zero f
      · rename_i hl
        refine ⟨_, _, rfl, ?_, (free_spec (f := f) (by omega)).2.2.1⟩
        show (mkN f x o.m).gen ≤ (bump f.G (mkN f x o.m).id).getD _ 0
        rw [bump_at, if_pos rfl]
        exact Nat.le_refl _
  split
  · exact Gv.zero _
  split
  · exact Gv.zero _
  split
  · exact Gv.zero _
  split
  · exact Gv.zero _
  split
  · exact Gv.zero _
  split
  · show Gv f (loF f o.h o.nm).1
    unfold loF
    split
    · exact Gv.zero f
    · rename_i x hx
      have hf : fnd f.I o.h = some x ∧ x.kind = 2 := by
        unfold fol at hx
        rcases hq : fnd f.I o.h with _ | y
        · rw [hq] at hx; cases hx
        · rw [hq] at hx; dsimp only at hx
          split at hx
          · injection hx with hx; rw [← hx]; exact ⟨rfl, by assumption⟩
          · cases hx
      split
      · exact Gv.alive hg hf.1
      split
      · refine Gv.hdO hg _ (fun _ => ?_)
        have hp := par_in hg (fnd_mem hf.1).1 hf.2
        unfold isD at hp
        rcases hq : nget f.I (x.par : Int) with _ | z
        · rw [hq] at hp; cases hp
        · rfl
      split
      · exact Gv.zero f
      split
      · exact Gv.zero f
      · refine Gv.hdO hg _ (fun h0 => ?_)
        obtain ⟨n, hn, e1, e2, e3⟩ := entry_some (N := f.N) (d := x.id) (s := o.nm) h0
        have := (hg.nmi n hn).1
        rw [e3] at this
        exact this
  split
  · exact Gv.zero _
  · exact Gv.zero _
theorem stat_look (f : Fst) (h : Hd) : (stF f h).2 = 0 ∨ (loF f h [46]).2 = 175 := by
  unfold stF
  rcases hq : fnd f.I h with _ | x
  · right
    unfold loF fol
    rw [hq]
  · exact .inl rfl
theorem stat_stale {f : Fst} {h : Hd} : (stF f h).2 ≠ 0 ↔ fnd f.I h = none := by
  unfold stF
  rcases hq : fnd f.I h with _ | x
  · simp
  · simp
end Go.Proofs.Ytoaahhgngelnaaa
