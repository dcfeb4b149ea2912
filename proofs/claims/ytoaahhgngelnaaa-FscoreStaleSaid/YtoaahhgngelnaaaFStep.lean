/-
  What each call makes of a file system, and that what holds of each stays. No condition.
-/
import Derived.Test.YtoaahhgngelnaaaFFree
import Derived.Test.YtoaahhgngelnaaaTNeed
namespace Go.Proofs.Ytoaahhgngelnaaa
set_option maxRecDepth 100000
open Go.ChangeShapes Go.WideShapes Go.ChangeAt Go.RowKit Go.Proofs.Sg Go.Proofs.Fz

theorem gd_wrI {S : Sh} (h : GoodS S) (p : Int) (b : List UInt8) : GoodS (wrI S p b) := by
  unfold wrI
  split
  · rename_i hf
    have := ft_iff.1 hf
    exact good_wr h (by omega)
  · exact h
theorem gd_cutI {S : Sh} (h : GoodS S) (n : Int) : GoodS (cutI S n) := by
  unfold cutI
  split
  · rename_i hf
    have := ft_iff.1 hf
    exact good_cut h (by omega)
  · exact h
theorem ra_wrI {S : Sh} (h : GoodS S) (p : Int) (b : List UInt8) : (wrI S p b).K.length = S.K.length + ndI S p b.length := by
  unfold wrI ndI
  by_cases hf : ft p b.length = true
  · rw [if_pos hf, if_pos hf]
    unfold wr nd
    have h1 := wK_len_le h.srt p.toNat b.length
    split
    · rename_i h0
      rw [h0]
      show _ = S.K.length + (S.K.length - S.K.length)
      omega
    · show (wK S.K p.toNat b.length).length = _
      omega
  · rw [if_neg hf, if_neg hf]; rfl
theorem ra_cutI {S : Sh} (h : GoodS S) (n : Int) : (cutI S n).K.length ≤ S.K.length := by
  unfold cutI
  split
  · rw [cut_K h]; exact List.length_filter_le _ _
  · exact Nat.le_refl _
def daS (f : Fst) (x : Nod) (S : Sh) (t : Int) : Fst := ⟨f.room, setI f.I { x with d := S, time := t }, f.N, f.G⟩
def rdF (f : Fst) (h : Hd) (p m : Int) : Txt × Int := match Fz.fil f.I h with
  | .inl e => ([], e)
  | .inr x => if p < 0 ∨ m < 0 then ([], 1) else (rd x.d p m, 0)
def wrF (f : Fst) (h : Hd) (p : Int) (b : Txt) (t : Int) : Fst × Int := match Fz.fil f.I h with
  | .inl e => (f, e)
  | .inr x => if p < 0 ∨ isT t = false then (f, 1) else
    if f.room - used f.I < ndI x.d p b.length ∨ ft p b.length = false then (f, 177) else (daS f x (wrI x.d p b) t, 0)
def ctF (f : Fst) (h : Hd) (n t : Int) : Fst × Int := match Fz.fil f.I h with
  | .inl e => (f, e)
  | .inr x => if n < 0 ∨ isT t = false then (f, 1) else
    if ft 0 n = false then (f, 177) else (daS f x (cutI x.d n) t, 0)
structure Opf where
  kind : Int
  h : Hd
  g : Hd
  nm : Txt
  ot : Txt
  m : Mk
  fd : Bool
  p : Int
  n : Int
  t : Int
  b : Txt
structure Anf where
  h : Hd
  b : Txt
  e : Int
/-- A call. -/
noncomputable def stepF (f : Fst) (o : Opf) : Fst × Anf :=
  if o.kind = 0 then ((mkF f o.h o.nm o.m).1, ⟨(mkF f o.h o.nm o.m).2.1, [], (mkF f o.h o.nm o.m).2.2⟩) else
  if o.kind = 1 then ((lkF f o.h o.g o.nm).1, ⟨hd0, [], (lkF f o.h o.g o.nm).2⟩) else
  if o.kind = 2 then ((rmF f o.h o.nm o.fd).1, ⟨hd0, [], (rmF f o.h o.nm o.fd).2⟩) else
  if o.kind = 3 then ((rnF f o.h o.nm o.g o.ot).1, ⟨hd0, [], (rnF f o.h o.nm o.g o.ot).2⟩) else
  if o.kind = 4 then ((wrF f o.h o.p o.b o.t).1, ⟨hd0, [], (wrF f o.h o.p o.b o.t).2⟩) else
  if o.kind = 5 then ((ctF f o.h o.n o.t).1, ⟨hd0, [], (ctF f o.h o.n o.t).2⟩) else
  if o.kind = 6 then (f, ⟨(loF f o.h o.nm).1, [], (loF f o.h o.nm).2⟩) else
  if o.kind = 7 then (f, ⟨hd0, (rdF f o.h o.p o.n).1, (rdF f o.h o.p o.n).2⟩) else (f, ⟨hd0, [], 0⟩)
/-- What holds behind so many calls. -/
structure Wl (f : Fst) (T : Nat) (r : Nat) : Prop where
  gd : Gd f
  bd : Bd f T
  rm : f.room = r
theorem Wl.mono {f : Fst} {T U r : Nat} (h : Wl f T r) (hu : T ≤ U) : Wl f U r := ⟨h.gd, h.bd.mono hu, h.rm⟩
theorem Wl.new (x : Int) : Wl (newF x) 0 x.toNat := ⟨Gd.new x, Bd.new x, rfl⟩
theorem fil_inr {I : List Nod} {h : Hd} {x : Nod} (e : Fz.fil I h = .inr x) : x ∈ I ∧ x.kind ≠ 2 ∧ x.kind ≠ 3 := by
  unfold Fz.fil at e
  rcases hq : fnd I h with _ | y
  · rw [hq] at e; cases e
  · rw [hq] at e
    dsimp only at e
    split at e
    · cases e
    · split at e
      · cases e
      · injection e with e
        subst e
        exact ⟨(fnd_mem hq).1, by assumption, by assumption⟩
theorem Wl.data {f : Fst} {T r : Nat} (h : Wl f T r) {x : Nod} (hx : x ∈ f.I) (hk : x.kind = 1) {S : Sh} (hS : GoodS S) (t : Int) (hr : used f.I + S.K.length ≤ f.room + x.d.K.length) : Wl (daS f x S t) (T + 1) r := by
  have hu := used_setI (y := { x with d := S, time := t }) h.gd.ids hx rfl
  dsimp only at hu
  exact ⟨h.gd.put hx rfl rfl rfl rfl rfl hS hk (by omega), (h.bd.put _).mono (by omega), h.rm⟩
theorem Wl.write {f : Fst} {T r : Nat} (h : Wl f T r) (d : Hd) (p : Int) (b : Txt) (t : Int) : Wl (wrF f d p b t).1 (T + 1) r := by
  unfold wrF
  rcases hq : Fz.fil f.I d with e | x
  · exact h.mono (by omega)
  · dsimp only
    obtain ⟨h1, h2, h3⟩ := fil_inr hq
    split
    · exact h.mono (by omega)
    · split
      · exact h.mono (by omega)
      · rename_i hn
        have hk : x.kind = 1 := by have := h.gd.kind x h1; omega
        have hg := (h.gd.dat x h1).1
        have h4 := ra_wrI hg p b
        have h5 := h.gd.rom
        exact h.data h1 hk (gd_wrI hg p b) t (by omega)
theorem Wl.cut {f : Fst} {T r : Nat} (h : Wl f T r) (d : Hd) (n t : Int) : Wl (ctF f d n t).1 (T + 1) r := by
  unfold ctF
  rcases hq : Fz.fil f.I d with e | x
  · exact h.mono (by omega)
  · dsimp only
    obtain ⟨h1, h2, h3⟩ := fil_inr hq
    split
    · exact h.mono (by omega)
    · split
      · exact h.mono (by omega)
      · have hk : x.kind = 1 := by have := h.gd.kind x h1; omega
        have hg := (h.gd.dat x h1).1
        have h4 := ra_cutI hg n
        have h5 := h.gd.rom
        exact h.data h1 hk (gd_cutI hg n) t (by omega)
theorem Wl.make {f : Fst} {T r : Nat} (h : Wl f T r) (d : Hd) (s : Txt) (m : Mk) : Wl (mkF f d s m).1 (T + 1) r := by
  unfold mkF
  rcases hq : fol f.I d with e | x
  · exact h.mono (by omega)
  · dsimp only
    obtain ⟨h1, h2, -⟩ := fol_inr hq
    split
    · exact h.mono (by omega)
    · split
      · exact h.mono (by omega)
      · split
        · exact h.mono (by omega)
        · split
          · exact h.mono (by omega)
          · split
            · exact h.mono (by omega)
            · rename_i g1 g2 g3 g4 g5
              exact ⟨h.gd.make h1 h2 (by simpa using g1) (by simpa using g2) (by omega) (fun hk => by
                rcases Nat.lt_or_ge (links f.I f.N x) 20 with h9 | h9
                · exact h9
                · exact absurd ⟨hk, h9⟩ g4) (by omega), h.bd.make (by omega) _ _ _, h.rm⟩
theorem Wl.link {f : Fst} {T r : Nat} (h : Wl f T r) (d g : Hd) (s : Txt) : Wl (lkF f d g s).1 (T + 1) r := by
  unfold lkF
  rcases hq : fnd f.I d with _ | x
  · exact h.mono (by omega)
  · dsimp only
    have hx := (fnd_mem hq).1
    rcases hq2 : fol f.I g with e | y
    · exact h.mono (by omega)
    · dsimp only
      obtain ⟨h1, h2, -⟩ := fol_inr hq2
      split
      · exact h.mono (by omega)
      · split
        · exact h.mono (by omega)
        · split
          · exact h.mono (by omega)
          · split
            · exact h.mono (by omega)
            · rename_i g1 g2 g3 g4
              exact ⟨h.gd.link h1 h2 hx g2 (by simpa using g1) (by omega) (by omega), h.bd.link _ _ _, h.rm⟩
theorem drp_room (f : Fst) (d : Nat) (s : Txt) (y : Nod) : (drp f d s y).room = f.room := by unfold drp; split <;> rfl
theorem may_many {f : Fst} {y : Nod} {b : Bool} (h : mayC f y b = 0) (hk : y.kind = 2) : many f.N y.id = 0 := by
  unfold mayC at h
  by_cases h0 : 0 < many f.N y.id
  · cases b <;> simp [hk, h0] at h
  · omega
theorem Wl.remove {f : Fst} {T r : Nat} (h : Wl f T r) (d : Hd) (s : Txt) (b : Bool) : Wl (rmF f d s b).1 (T + 1) r := by
  unfold rmF
  rcases hq : fol f.I d with e | x
  · exact h.mono (by omega)
  · dsimp only
    split
    · exact h.mono (by omega)
    · rcases hy : nget f.I (entry f.N x.id s : Int) with _ | y
      · exact h.mono (by omega)
      · dsimp only
        split
        · exact h.mono (by omega)
        · rename_i g1 g2
          obtain ⟨y1, y2, n, n1, n2, n3, n4⟩ := h.gd.at_entry hy
          have := h.gd.drop n1 y1 n4 (may_many (by simpa using g2))
          rw [n2, n3] at this
          exact ⟨this, (h.bd.drop _ _ _).mono (by omega), by rw [drp_room]; exact h.rm⟩
theorem Wl.rename {f : Fst} {T r : Nat} (h : Wl f T r) (a : Hd) (s : Txt) (b : Hd) (t : Txt) : Wl (rnF f a s b t).1 (T + 1) r := by
  unfold rnF
  split
  · exact h.mono (by omega)
  · rcases hp : fol f.I a with e | p
    · exact h.mono (by omega)
    · rcases hq : fol f.I b with e | q
      · exact h.mono (by omega)
      · dsimp only
        obtain ⟨p1, p2, -⟩ := fol_inr hp
        obtain ⟨q1, q2, -⟩ := fol_inr hq
        split
        · exact h.mono (by omega)
        · rename_i hv
          rcases hx : nget f.I (entry f.N p.id s : Int) with _ | x
          · exact h.mono (by omega)
          · dsimp only
            obtain ⟨x1, x2, n, n1, n2, n3, n4⟩ := h.gd.at_entry hx
            split
            · exact h.mono (by omega)
            · rename_i hne
              split
              · exact h.mono (by omega)
              · rename_i hbl
                have hvt : validN t = true := by
                  rcases h9 : validN t with _ | _
                  · exact absurd (.inr h9) hv
                  · rfl
                rcases hy : nget f.I (entry f.N q.id t : Int) with _ | y
                · dsimp only
                  split
                  · exact h.mono (by omega)
                  · rename_i hl
                    have := h.gd.move (t := t) n1 x1 n4 q1 q2 hvt (h.gd.no_entry hy) (fun hk hb => hbl ⟨hk, hb⟩) (fun hk hd => by
                      rcases Nat.lt_or_ge (links f.I f.N q) 20 with h9 | h9
                      · exact h9
                      · exact absurd ⟨hk, by omega, h9⟩ hl)
                    rw [n2, n3] at this
                    exact ⟨this, h.bd.move _ _ _ _ _, h.rm⟩
                · dsimp only
                  split
                  · exact h.mono (by omega)
                  · rename_i hm
                    obtain ⟨y1, y2, m, m1, m2, m3, m4⟩ := h.gd.at_entry hy
                    have hmy := may_many (by simpa using hm : mayC f y (decide (x.kind = 2)) = 0)
                    have hG1 := h.gd.drop m1 y1 m4 hmy
                    rw [m2, m3] at hG1
                    obtain ⟨f1, hf1⟩ : ∃ g, drp f q.id t y = g := ⟨_, rfl⟩
                    have hB1 := h.bd.drop q.id t y
                    have hr1 := drp_room f q.id t y
                    rw [hf1] at hG1 hB1 hr1
                    have hxy : x.id ≠ y.id := fun e => hne (by rw [← x2, ← y2, e])
                    have hfN : f1.N = unnm f.N q.id t := by rw [← hf1]; unfold drp; split <;> rfl
                    have hfI : ∀ z ∈ f.I, z.id ≠ y.id → z ∈ f1.I := fun z hz hz2 => by
                      rw [← hf1]; unfold drp; split
                      · exact mem_gone.2 ⟨hz, hz2⟩
                      · exact hz
                    have hdirs : ∀ z : Nod, z ∈ f.I → z.kind = 2 → (∃ k ∈ f.N, k.dir = z.id) → z.id ≠ y.id := fun z hz hzk ⟨k, hk, hk2⟩ e => by
                      have := h.gd.uid hz y1 e
                      subst this
                      exact many_zero.1 (hmy hzk) k hk hk2
                    have hn9 : n ∈ f1.N := by
                      rw [hfN]
                      exact mem_unnm.2 ⟨n1, fun e => hxy (by
                        have h9 := h.gd.ukey n1 m1 (e.1.trans m2.symm) (e.2.trans m3.symm)
                        rw [← n4, h9, m4])⟩
                    have h0 : entry f1.N q.id t = 0 := by rw [hfN, entry_unnm, if_pos ⟨rfl, rfl⟩]
                    have hq9 := hfI q q1 (hdirs q q1 q2 ⟨m, m1, m2⟩)
                    have hb9 : ∀ i j, Bel f1.I i j → Bel f.I i j := fun i j hb => by
                      rw [← hf1] at hb
                      unfold drp at hb
                      split at hb
                      · exact bel_gone hb
                      · exact hb
                    rw [hf1]
                    have := hG1.move (t := t) hn9 (hfI x x1 hxy) n4 hq9 q2 hvt h0 (fun hk hb => hbl ⟨hk, hb9 _ _ hb⟩) (fun hk hd => by
                      have hyk : y.kind = 2 := by
                        apply Classical.byContradiction
                        intro hyk
                        apply hm
                        unfold mayC
                        simp [hk, hyk]
                      have hgo : f1 = ⟨f.room, Fz.gone f.I y.id, unnm f.N q.id t, f.G⟩ := by rw [← hf1]; unfold drp; rw [if_pos (.inl hyk)]
                      have g1 := links_unnm (I := f.I) h.gd.nmu m1 q
                      rw [m2, m3, m4] at g1
                      have g2 : lk1 f.I q q.id y.id = 1 := by unfold lk1; rw [if_pos q2, if_pos ⟨rfl, by rw [isD_of h.gd.ids y1]; simpa using hyk⟩]
                      have g3 := h.gd.lnk q q1
                      have g4 : links f1.I f1.N q = links f.I (unnm f.N q.id t) q := by
                        rw [hfN]
                        exact links_I (fun a ha => by
                          have := (hG1.nmi a (by rw [hfN]; exact ha)).1
                          rw [hgo] at this ⊢
                          unfold isD
                          dsimp only at this ⊢
                          rw [nget_gone] at this ⊢
                          split at this
                          · cases this
                          · rename_i e9; rw [if_neg e9]) q
                      omega)
                    rw [n2, n3] at this
                    exact ⟨this, hB1.move _ _ _ _ _, hr1.trans h.rm⟩
theorem Wl.step {f : Fst} {T r : Nat} (h : Wl f T r) (o : Opf) : Wl (stepF f o).1 (T + 1) r := by
  unfold stepF
  split
  · exact h.make _ _ _
  split
  · exact h.link _ _ _
  split
  · exact h.remove _ _ _
  split
  · exact h.rename _ _ _ _
  split
  · exact h.write _ _ _ _
  split
  · exact h.cut _ _ _
  split
  · exact h.mono (by omega)
  split
  · exact h.mono (by omega)
  · exact h.mono (by omega)
noncomputable def runF (f : Fst) : List Opf → Fst
  | [] => f
  | o :: l => runF (stepF f o).1 l
theorem runF_snoc (f : Fst) (l : List Opf) (o : Opf) : runF f (l ++ [o]) = (stepF (runF f l) o).1 := by
  induction l generalizing f with
  | nil => rfl
  | cons a l ih => exact ih _
theorem Wl.run {f : Fst} {T r : Nat} (h : Wl f T r) : ∀ l : List Opf, Wl (runF f l) (T + l.length) r
  | [] => h
  | o :: l => by
    have := (h.step o).run l
    rw [List.length_cons]
    show Wl (runF (stepF f o).1 l) _ _
    exact this.mono (by omega)
end Go.Proofs.Ytoaahhgngelnaaa
