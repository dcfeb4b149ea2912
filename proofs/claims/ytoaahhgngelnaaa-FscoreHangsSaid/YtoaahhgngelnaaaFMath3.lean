/-
  Plain mathematics of one file system: what holds of each stays, whatever is made, linked, removed, written. No condition.
-/
import Derived.Test.YtoaahhgngelnaaaFMath2
namespace Go.Proofs.Fz
open Go.Proofs.Sg

theorem good_sh0 : GoodS sh0 := ⟨List.Pairwise.nil, by decide, fun k hk => (by cases hk), fun i hi => absurd rfl hi, fun _ _ => rfl⟩
theorem Gd.new (r : Int) : Gd (newF r) := by
  refine ⟨by simp [newF], ?_, ⟨_, List.mem_singleton.2 rfl, rfl, rfl, rfl, rfl⟩, ?_, ?_, ?_, ?_, List.Pairwise.nil, (fun n hn => by cases hn), (fun n hn => by cases hn), (fun n hn => by cases hn), ?_, List.Pairwise.nil, (fun n hn => by cases hn), ?_, ⟨fun _ => 0, ?_⟩, by simp [newF], by simp [newF, used, sh0]⟩
  all_goals
    intro x hx
    have hx := List.mem_singleton.1 hx
    subst hx
    simp [newF, good_sh0, links]
theorem Bd.new (r : Int) : Bd (newF r) 0 := ⟨by simp [newF], fun i => by
  rcases i with _ | _ | i <;> simp [newF], by simp [newF]⟩
theorem Bd.mono {f : Fst} {T U : Nat} (h : Bd f T) (hu : T ≤ U) : Bd f U := ⟨Nat.le_trans h.nms hu, fun i => Nat.le_trans (h.gns i) (by omega), h.gsz⟩

theorem Gd.uid {f : Fst} (h : Gd f) {x y : Nod} (hx : x ∈ f.I) (hy : y ∈ f.I) (e : x.id = y.id) : x = y := by
  have h1 := nget_of h.ids hx
  have h2 := nget_of h.ids hy
  rw [e, h2] at h1
  exact (Option.some.inj h1).symm
theorem Gd.nz {f : Fst} (h : Gd f) : ∀ n ∈ f.N, n.id ≠ 0 := fun n hn e => by
  obtain ⟨x, hx⟩ := Option.isSome_iff_exists.1 (h.nmi n hn).1
  obtain ⟨h1, h2⟩ := nget_mem hx
  have := (h.rng x h1).1
  omega
theorem Gd.ent {f : Fst} (h : Gd f) {d : Nat} {s : Txt} (h0 : entry f.N d s = 0) : entN f.N d s = none := (entry_zero h.nz).1 h0
/-- What a number of an entry is. -/
theorem Gd.at_entry {f : Fst} (h : Gd f) {d : Nat} {s : Txt} {x : Nod} (hx : nget f.I (entry f.N d s : Int) = some x) : x ∈ f.I ∧ x.id = entry f.N d s ∧ ∃ n ∈ f.N, n.dir = d ∧ n.nm = s ∧ n.id = x.id := by
  obtain ⟨h1, h2⟩ := nget_mem hx
  have h3 := (h.rng x h1).1
  obtain ⟨n, hn, e1, e2, e3⟩ := entry_some (N := f.N) (d := d) (s := s) (by omega)
  exact ⟨h1, by omega, n, hn, e1, e2, by omega⟩
theorem Gd.no_entry {f : Fst} (h : Gd f) {d : Nat} {s : Txt} (hx : nget f.I (entry f.N d s : Int) = none) : entry f.N d s = 0 := by
  apply Classical.byContradiction
  intro h0
  obtain ⟨n, hn, e1, e2, e3⟩ := entry_some h0
  have := (h.nmi n hn).1
  rw [e3, hx] at this
  cases this
theorem Gd.zero_entry {f : Fst} (h : Gd f) {d : Nat} {s : Txt} (h0 : entry f.N d s = 0) : nget f.I (entry f.N d s : Int) = none := by
  rw [h0]
  exact nget_none.2 (fun x hx => by have := (h.rng x hx).1; omega)
theorem fol_inr {I : List Nod} {h : Hd} {x : Nod} (e : fol I h = .inr x) : x ∈ I ∧ x.kind = 2 ∧ (x.id : Int) = h.id ∧ (x.gen : Int) = h.gen ∧ fnd I h = some x := by
  unfold fol at e
  rcases hq : fnd I h with _ | y
  · rw [hq] at e; cases e
  · rw [hq] at e
    dsimp only at e
    by_cases hk : y.kind = 2
    · rw [if_pos hk] at e
      injection e with e
      subst e
      unfold fnd at hq
      rcases hg : nget I h.id with _ | z
      · rw [hg] at hq; cases hq
      · rw [hg] at hq
        dsimp only at hq
        by_cases hz : (z.gen : Int) = h.gen
        · rw [if_pos hz] at hq
          obtain rfl := Option.some.inj hq
          exact ⟨(nget_mem hg).1, hk, (nget_mem hg).2, hz, rfl⟩
        · rw [if_neg hz] at hq; cases hq
    · rw [if_neg hk] at e; cases e
theorem fnd_mem {I : List Nod} {h : Hd} {x : Nod} (e : fnd I h = some x) : x ∈ I ∧ (x.id : Int) = h.id ∧ (x.gen : Int) = h.gen := by
  unfold fnd at e
  rcases hg : nget I h.id with _ | z
  · rw [hg] at e; cases e
  · rw [hg] at e
    dsimp only at e
    by_cases hz : (z.gen : Int) = h.gen
    · rw [if_pos hz] at e
      obtain rfl := Option.some.inj e
      exact ⟨(nget_mem hg).1, (nget_mem hg).2, hz⟩
    · rw [if_neg hz] at e; cases e
theorem badM_of {m : Mk} (h : badM m = false) : (m.kind = 1 ∨ m.kind = 2 ∨ m.kind = 3) ∧ 0 ≤ m.mode ∧ m.mode ≤ 4095 ∧ isT m.time = true ∧ m.tg.length ≤ 100 ∧ (m.kind ≠ 3 → m.tg = []) := by
  unfold badM at h
  simp only [Bool.not_eq_false', Bool.and_eq_true, decide_eq_true_eq] at h
  obtain ⟨⟨⟨⟨⟨h1, h2⟩, h3⟩, h4⟩, h5⟩, h6⟩ := h
  refine ⟨by omega, h3, h4, h5, ?_, fun hk => ?_⟩
  · by_cases hk : m.kind = 3
    · rw [if_pos hk, Bool.and_eq_true, decide_eq_true_eq, decide_eq_true_eq] at h6; exact h6.2
    · rw [if_neg hk, decide_eq_true_eq] at h6; rw [h6]; simp
  · rw [if_neg hk, decide_eq_true_eq] at h6; exact h6

/-- A name more. -/
theorem Gd.link {f : Fst} (h : Gd f) {d x : Nod} {s : Txt} (hd : d ∈ f.I) (hk : d.kind = 2) (hx : x ∈ f.I) (hxk : x.kind ≠ 2) (hs : validN s = true) (h0 : entry f.N d.id s = 0) (hl : links f.I f.N x < 20) : Gd ⟨f.room, f.I, addn f.N d.id s x.id, f.G⟩ := by
  have hn := h.ent h0
  have hxd : isD f.I x.id = false := by rw [isD_of h.ids hx]; simpa using hxk
  have hx1 : x.id ≠ 1 := fun e => by
    obtain ⟨r, hr, e1, -, e2, -⟩ := h.root
    exact hxk ((h.uid hx hr (by omega)) ▸ e2)
  refine ⟨h.ids, h.rng, h.root, h.gen, h.kind, h.dat, h.tgt, nmu_addn h.nmu hn _, ?_, ?_, ?_, ?_, ?_, ?_, ?_, h.rnk, h.cnt, h.rom⟩
  · intro n hn
    rcases mem_addn.1 hn with hn | rfl
    · exact h.nmd n hn
    · exact (isD_of h.ids hd).trans (by simpa using hk)
  · intro n hn
    rcases mem_addn.1 hn with hn | rfl
    · exact h.nmi n hn
    · exact ⟨by rw [nget_of h.ids hx]; rfl, hx1⟩
  · intro n hn
    rcases mem_addn.1 hn with hn | rfl
    · exact h.nmv n hn
    · exact hs
  · intro y hy hy1
    obtain ⟨n, hn, e⟩ := h.has y hy hy1
    exact ⟨n, mem_addn.2 (.inl hn), e⟩
  · show (f.N ++ _).Pairwise _
    refine List.pairwise_append.2 ⟨h.uni, List.pairwise_singleton _ _, fun a ha b hb => ?_⟩
    rw [List.mem_singleton.1 hb]
    rintro ⟨e1, e2⟩
    rw [e1, hxd] at e2; cases e2
  · intro n hn y hy e hyk
    rcases mem_addn.1 hn with hn | rfl
    · exact h.one n hn y hy e hyk
    · exact absurd ((h.uid hy hx e) ▸ hyk) hxk
  · intro y hy
    show links f.I (addn f.N d.id s x.id) y ≤ 20
    rw [links_addn]
    have h1 := h.lnk y hy
    by_cases hyk : y.kind = 2
    · simp [lk1, hyk, hxd, h1]
    · by_cases e : x.id = y.id
      · have := h.uid hx hy e
        subst this
        simp [lk1, hyk]; omega
      · simp [lk1, hyk, e, h1]
theorem Bd.link {f : Fst} {T : Nat} (h : Bd f T) (d : Nat) (s : Txt) (i : Nat) : Bd ⟨f.room, f.I, addn f.N d s i, f.G⟩ (T + 1) :=
  ⟨by show (addn f.N d s i).length ≤ _; rw [len_addn]; have := h.nms; omega, fun j => Nat.le_trans (h.gns j) (by omega), h.gsz⟩

/-- One inode more, with its name. -/
theorem Gd.make {f : Fst} (h : Gd f) {x : Nod} {s : Txt} {m : Mk} (hx : x ∈ f.I) (hk : x.kind = 2) (hs : validN s = true) (hm : badM m = false) (h0 : entry f.N x.id s = 0) (hl : m.kind = 2 → links f.I f.N x < 20) (hc : f.I.length < 200) : Gd (mkS f x s m) := by
  obtain ⟨f1, f2, f3, -⟩ := free_spec hc
  obtain ⟨m1, m2, m3, m4, m5, m6⟩ := badM_of hm
  have hn := h.ent h0
  obtain ⟨i, hi⟩ : ∃ i, least f.I 201 1 = i := ⟨_, rfl⟩
  rw [hi] at f1 f2 f3
  have hid : (mkN f x m).id = i := hi
  have hne : ∀ y ∈ f.I, y.id ≠ i := fun y hy e => nget_none.1 f1 y hy (by omega)
  have hnn : ∀ n ∈ f.N, n.id ≠ i ∧ n.dir ≠ i := fun n hn => by
    refine ⟨fun e => ?_, fun e => ?_⟩
    · have := (h.nmi n hn).1; rw [e, f1] at this; cases this
    · have := h.nmd n hn; unfold isD at this; rw [e, f1] at this; cases this
  have hI : (mkS f x s m).I = f.I ++ [mkN f x m] := len_setI_new (by rw [hid]; exact f1)
  have hget : ∀ j : Int, j ≠ i → nget (mkS f x s m).I j = nget f.I j := fun j hj => by
    show nget (setI f.I (mkN f x m)) j = _
    rw [nget_setI, if_neg (by rw [hid]; omega)]
  have hgi : nget (mkS f x s m).I (i : Int) = some (mkN f x m) := by
    show nget (setI f.I (mkN f x m)) (i : Int) = _
    rw [nget_setI, if_pos (by rw [hid])]
  have hisD : ∀ j, j ≠ i → isD (mkS f x s m).I j = isD f.I j := fun j hj => by unfold isD; rw [hget j (by omega)]
  have hlk : ∀ y : Nod, links (mkS f x s m).I f.N y = links f.I f.N y := fun y => links_I (fun n hn => hisD _ (hnn n hn).1) y
  have hmem : ∀ y, y ∈ (mkS f x s m).I ↔ y ∈ f.I ∨ y = mkN f x m := fun y => by rw [hI, List.mem_append, List.mem_singleton]
  have hN : (mkS f x s m).N = addn f.N x.id s i := by show addn f.N x.id s (mkN f x m).id = _; rw [hid]
  have hkd : (mkN f x m).kind = m.kind.toNat := rfl
  refine ⟨by show ((setI f.I (mkN f x m)).map _).Nodup; exact nodup_setI h.ids _, ?_, ?_, ?_, ?_, ?_, ?_, by rw [hN]; exact nmu_addn h.nmu hn _, ?_, ?_, ?_, ?_, ?_, ?_, ?_, ?_, ?_, ?_⟩
  · intro y hy
    rcases (hmem y).1 hy with hy | rfl
    · exact h.rng y hy
    · rw [hid]; omega
  · obtain ⟨r, hr, e⟩ := h.root
    exact ⟨r, (hmem r).2 (.inl hr), e⟩
  · intro y hy
    show 1 ≤ y.gen ∧ y.gen ≤ (bump f.G (mkN f x m).id).getD y.id 0
    rw [getD_bump, hid]
    rcases (hmem y).1 hy with hy | rfl
    · rw [if_neg (Ne.symm (hne y hy))]; exact h.gen y hy
    · rw [if_pos hid.symm, ← hi]
      exact ⟨Nat.le_add_left 1 _, Nat.le_refl _⟩
  · intro y hy
    rcases (hmem y).1 hy with hy | rfl
    · exact h.kind y hy
    · rw [hkd]; omega
  · intro y hy
    rcases (hmem y).1 hy with hy | rfl
    · exact h.dat y hy
    · exact ⟨good_sh0, fun _ => rfl⟩
  · intro y hy
    rcases (hmem y).1 hy with hy | rfl
    · exact h.tgt y hy
    · exact m5
  · intro n hn
    rw [hN] at hn
    rcases mem_addn.1 hn with hn | rfl
    · rw [hisD _ (hnn n hn).2]; exact h.nmd n hn
    · rw [hisD _ (hne x hx), isD_of h.ids hx]; simpa using hk
  · intro n hn
    rw [hN] at hn
    rcases mem_addn.1 hn with hn | rfl
    · rw [hget _ (by have := (hnn n hn).1; omega)]; exact h.nmi n hn
    · refine ⟨by rw [hgi]; rfl, fun e => ?_⟩
      obtain ⟨r, hr, e1, -⟩ := h.root
      exact hne r hr (by dsimp only at e; omega)
  · intro n hn
    rw [hN] at hn
    rcases mem_addn.1 hn with hn | rfl
    · exact h.nmv n hn
    · exact hs
  · intro y hy hy1
    rw [hN]
    rcases (hmem y).1 hy with hy | rfl
    · obtain ⟨n, hn, e⟩ := h.has y hy hy1
      exact ⟨n, mem_addn.2 (.inl hn), e⟩
    · exact ⟨_, mem_addn.2 (.inr rfl), hid.symm⟩
  · rw [hN]
    show (f.N ++ _).Pairwise _
    refine List.pairwise_append.2 ⟨?_, List.pairwise_singleton _ _, fun a ha b hb => ?_⟩
    · refine h.uni.imp_of_mem (fun {a b} ha hb hab => ?_)
      rw [hisD _ (hnn a ha).1]; exact hab
    · rw [List.mem_singleton.1 hb]
      rintro ⟨e1, -⟩
      exact (hnn a ha).1 e1
  · intro n hn y hy e hyk
    rw [hN] at hn
    rcases mem_addn.1 hn with hn | rfl
    · rcases (hmem y).1 hy with hy | rfl
      · exact h.one n hn y hy e hyk
      · exact absurd (e.symm.trans hid) (hnn n hn).1
    · rcases (hmem y).1 hy with hy | rfl
      · exact absurd e (hne y hy)
      · rfl
  · intro y hy
    rw [hN, links_addn, hlk]
    rcases (hmem y).1 hy with hy | rfl
    · have h1 := h.lnk y hy
      by_cases hyk : y.kind = 2
      · simp only [lk1, hyk, if_true]
        by_cases e : x.id = y.id ∧ isD (mkS f x s m).I i = true
        · have e1 := h.uid hx hy e.1
          subst e1
          rw [if_pos e]
          have e2 := e.2
          unfold isD at e2
          rw [hgi] at e2
          simp only [decide_eq_true_eq, hkd] at e2
          have := hl (by omega)
          omega
        · rw [if_neg e]; omega
      · simp only [lk1, hyk, if_false]
        rw [if_neg (fun e => hne y hy e.symm)]; omega
    · have h1 : links f.I f.N (mkN f x m) ≤ 2 := by
        unfold links
        rw [hid]
        have c1 : f.N.countP (fun n => decide (n.dir = i) && isD f.I n.id) = 0 := by
          rw [List.countP_eq_zero]; intro n hn; simp [(hnn n hn).2]
        have c2 : f.N.countP (fun n => decide (n.id = i)) = 0 := by
          rw [List.countP_eq_zero]; intro n hn; simp [(hnn n hn).1]
        rw [c1, c2]
        split <;> omega
      have h2 : lk1 (mkS f x s m).I (mkN f x m) x.id i ≤ 1 := by unfold lk1; split <;> split <;> omega
      omega
  · obtain ⟨r, hr⟩ := h.rnk
    refine ⟨fun j => if j = i then r x.id + 1 else r j, fun y hy hyk hy1 => ?_⟩
    rcases (hmem y).1 hy with hy | rfl
    · dsimp only
      rw [if_neg (hne y hy)]
      obtain ⟨n, hn, e⟩ := h.has y hy hy1
      have e2 := h.one n hn y hy e.symm hyk
      rw [if_neg (by rw [e2]; exact (hnn n hn).2)]
      exact hr y hy hyk hy1
    · dsimp only
      rw [hid, if_pos rfl]
      have e3 : (mkN f x m).par = x.id := rfl
      rw [e3, if_neg (hne x hx)]
      omega
  · rw [hI, List.length_append, List.length_singleton]; omega
  · rw [hI, used_append, used_one]
    have := h.rom
    show used f.I + 0 ≤ f.room
    omega
theorem Bd.make {f : Fst} {T : Nat} (h : Bd f T) (hc : f.I.length < 200) (x : Nod) (s : Txt) (m : Mk) : Bd (mkS f x s m) (T + 1) := by
  obtain ⟨f1, f2, f3, -⟩ := free_spec hc
  refine ⟨by show (addn _ _ _ _).length ≤ _; rw [len_addn]; have := h.nms; omega, fun j => ?_, ?_⟩
  · show (bump f.G _).getD j 0 ≤ _
    rw [getD_bump]
    have h1 := h.gns j
    have h2 := h.gns (mkN f x m).id
    split <;> omega
  · show (bump f.G (least f.I 201 1)).length ≤ _
    rw [len_bump]; have := h.gsz; omega
end Go.Proofs.Fz
