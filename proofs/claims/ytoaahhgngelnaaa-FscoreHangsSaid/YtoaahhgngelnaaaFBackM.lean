/-
  Plain mathematics of the law Back: a file is made, written, linked, and its first name taken away; what was written is read. No condition.
-/
import Derived.Test.YtoaahhgngelnaaaFStat
import Derived.Test.YtoaahhgngelnaaaFStep
namespace Go.Proofs.Ytoaahhgngelnaaa
set_option maxRecDepth 100000
open Go.ChangeShapes Go.WideShapes Go.ChangeAt Go.RowKit Go.Proofs.Sg Go.Proofs.Fz

abbrev mineT : Txt := [109, 105, 110, 101]
abbrev otherT : Txt := [111, 116, 104, 101, 114]
abbrev rtH : Hd := ⟨1, 1⟩
theorem valid_mine : validN mineT = true := by decide
theorem valid_other : validN otherT = true := by decide
theorem rd_wr_same (S : Sh) (p : Nat) {b : List UInt8} (h : 0 < b.length) : rd (wr S p b) (p : Int) (b.length : Int) = b := by
  have e : wr S p b = ⟨max S.n (p + b.length), wK S.K p b.length, wF S.f p b⟩ := by unfold wr; rw [if_neg (by omega)]
  rw [e]
  unfold rd
  rw [if_neg (by show ¬ ((p : Int) < 0 ∨ (b.length : Int) < 0 ∨ ((max S.n (p + b.length) : Nat) : Int) ≤ (p : Int)); omega), Int.toNat_natCast, Int.toNat_natCast]
  show ((bs (wF S.f p b) (max S.n (p + b.length))).drop p).take b.length = b
  apply List.ext_getElem?
  intro i
  by_cases hi : i < b.length
  · rw [List.getElem?_take_of_lt hi, List.getElem?_drop, bs_get _ (by omega)]
    unfold wF
    rw [if_pos (by omega), List.getElem?_eq_getElem hi, getD_eq _ (by omega)]
    congr 2
    omega
  · rw [List.getElem?_eq_none (by rw [List.length_take]; omega), List.getElem?_eq_none (by omega)]
theorem rd_none (S : Sh) (p : Int) : rd S p 0 = [] := by
  unfold rd
  split
  · rfl
  · simp
theorem rd_wrI {S : Sh} {p : Int} {b : List UInt8} (hf : ft p b.length = true) : rd (wrI S p b) p (b.length : Int) = b := by
  have h := ft_iff.1 hf
  rcases Nat.eq_zero_or_pos b.length with h0 | h0
  · rw [h0]
    have : b = [] := List.eq_nil_of_length_eq_zero h0
    rw [this]
    exact rd_none _ _
  · have e : wrI S p b = wr S p.toNat b := by unfold wrI; rw [if_pos hf]
    have e2 : ((p.toNat : Nat) : Int) = p := by omega
    rw [e]
    have := rd_wr_same S p.toNat h0
    rw [e2] at this
    exact this
theorem _root_.Go.Proofs.Fz.Gd.rt {f : Fst} (hg : Gd f) : ∃ x, x ∈ f.I ∧ x.id = 1 ∧ x.kind = 2 ∧ fnd f.I rtH = some x ∧ fol f.I rtH = .inr x := by
  obtain ⟨x, hx, h1, h2, h3, -⟩ := hg.root
  have hn : nget f.I 1 = some x := by have := nget_of hg.ids hx; rw [h1] at this; exact this
  have hf : fnd f.I rtH = some x := by
    unfold fnd
    rw [hn]
    dsimp only
    rw [if_pos (by rw [h2]; rfl)]
  exact ⟨x, hx, h1, h3, hf, by unfold fol; rw [hf]; dsimp only; rw [if_pos h3]⟩
theorem two_count {α : Type} {p : α → Bool} : ∀ {l : List α} {a b : α}, a ∈ l → b ∈ l → a ≠ b → p a = true → p b = true → 2 ≤ l.countP p
  | [], _, _, h, _, _, _, _ => by cases h
  | c :: l, a, b, ha, hb, hne, pa, pb => by
    rw [List.countP_cons]
    rcases List.mem_cons.1 ha with e | ha
    · rcases List.mem_cons.1 hb with e2 | hb
      · exact absurd (e.trans e2.symm) hne
      · have := List.countP_pos_iff.2 ⟨b, hb, pb⟩
        rw [← e, if_pos pa]; omega
    · rcases List.mem_cons.1 hb with e2 | hb
      · have := List.countP_pos_iff.2 ⟨a, ha, pa⟩
        rw [← e2, if_pos pb]; omega
      · have := two_count ha hb hne pa pb
        omega
/-- A file that has one name alone, in the root. -/
structure Mine (f : Fst) (h : Hd) (x : Nod) (s : Txt) : Prop where
  fd : fnd f.I h = some x
  kd : x.kind = 1
  en : entry f.N 1 s = x.id
  ct : f.N.countP (fun m => decide (m.id = x.id)) = 1
  he : h = ⟨x.id, x.gen⟩
theorem Mine.lk {f : Fst} {h : Hd} {x : Nod} {s : Txt} (k : Mine f h x s) : links f.I f.N x = 1 := by
  unfold links
  rw [if_neg (by rw [k.kd]; decide)]
  exact k.ct
theorem Mine.fl {f : Fst} {h : Hd} {x : Nod} {s : Txt} (k : Mine f h x s) : Fz.fil f.I h = .inr x := by
  unfold Fz.fil
  rw [k.fd]
  dsimp only
  rw [if_neg (by rw [k.kd]; decide), if_neg (by rw [k.kd]; decide)]
theorem Mine.ng {f : Fst} {h : Hd} {x : Nod} {s : Txt} (k : Mine f h x s) (hg : Gd f) : nget f.I (x.id : Int) = some x := nget_of hg.ids (fnd_mem k.fd).1
theorem Mine.look {f : Fst} {h : Hd} {x : Nod} {s : Txt} (k : Mine f h x s) (hg : Gd f) (hv : validN s = true) : loF f rtH s = (h, 0) := by
  obtain ⟨r, r1, r2, r3, r4, r5⟩ := hg.rt
  have h0 : x.id ≠ 0 := by have := (hg.rng x (fnd_mem k.fd).1).1; omega
  have h1 : s ≠ [46] := fun e => by rw [e] at hv; revert hv; decide
  have h2 : s ≠ [46, 46] := fun e => by rw [e] at hv; revert hv; decide
  unfold loF
  rw [r5]
  dsimp only
  rw [if_neg h1, if_neg h2, hv, if_neg (by decide), r2, k.en, if_neg h0]
  unfold hdO genO
  rw [if_neg h0, k.ng hg, k.he]
theorem back_make {f : Fst} {T r : Nat} (hw : Wl f T r) : (mkF f rtH mineT ⟨1, 0, 0, []⟩).2.2 = 171 ∨ (mkF f rtH mineT ⟨1, 0, 0, []⟩).2.2 = 177 ∨
    ((mkF f rtH mineT ⟨1, 0, 0, []⟩).2.2 = 0 ∧ ∃ x, Mine (mkF f rtH mineT ⟨1, 0, 0, []⟩).1 (mkF f rtH mineT ⟨1, 0, 0, []⟩).2.1 x mineT) := by
  obtain ⟨r, r1, r2, r3, r4, r5⟩ := hw.gd.rt
  unfold mkF
  rw [r5]
  dsimp only
  rw [if_neg (by rw [valid_mine]; decide), if_neg (by decide)]
  split
  · exact .inl rfl
  · rename_i h0
    rw [if_neg (fun e => absurd e.1 (by decide))]
    split
    · exact .inr (.inl rfl)
    · rename_i h1
      refine .inr (.inr ⟨rfl, mkN f r ⟨1, 0, 0, []⟩, ?_⟩)
      obtain ⟨g1, g2, g3, -⟩ := free_spec (f := f) (by omega)
      have he : entN f.N r.id mineT = none := (entry_zero hw.gd.nz).1 (by simpa using h0)
      have hid : (mkN f r ⟨1, 0, 0, []⟩).id = least f.I 201 1 := rfl
      refine ⟨?_, rfl, ?_, ?_, rfl⟩
      · show fnd (setI f.I (mkN f r ⟨1, 0, 0, []⟩)) _ = _
        unfold fnd
        rw [nget_setI, if_pos rfl]
        dsimp only
        rw [if_pos rfl]
      · show entry (addn f.N r.id mineT _) 1 mineT = _
        rw [entry_addn he, if_pos ⟨r2, rfl⟩]
      · show (addn f.N r.id mineT (mkN f r ⟨1, 0, 0, []⟩).id).countP _ = 1
        unfold addn
        rw [List.countP_append]
        have z : f.N.countP (fun m => decide (m.id = (mkN f r ⟨1, 0, 0, []⟩).id)) = 0 := by
          rw [List.countP_eq_zero]
          intro n hn
          have := (hw.gd.nmi n hn).1
          intro e
          have e2 : n.id = least f.I 201 1 := of_decide_eq_true e
          rw [e2, g1] at this
          cases this
        rw [z]
        simp
theorem back_write {f : Fst} {h : Hd} {x : Nod} (k : Mine f h x mineT) (p : Int) (hp : 0 ≤ p) (b : Txt) : (wrF f h p b 7).2 = 177 ∨
    ((wrF f h p b 7).2 = 0 ∧ ft p b.length = true ∧ Mine (wrF f h p b 7).1 h { x with d := wrI x.d p b, time := 7 } mineT) := by
  unfold wrF
  rw [k.fl]
  dsimp only
  rw [if_neg (fun e => e.elim (fun e => by omega) (fun e => absurd e (by decide)))]
  split
  · exact .inl rfl
  · rename_i hn
    refine .inr ⟨rfl, ?_, ?_⟩
    · rcases hf : ft p b.length with _ | _
      · exact absurd (.inr hf) hn
      · rfl
    · refine ⟨?_, k.kd, k.en, k.ct, k.he⟩
      show fnd (setI f.I { x with d := wrI x.d p b, time := 7 }) h = _
      rw [k.he]
      unfold fnd
      rw [nget_setI]
      dsimp only
      rw [if_pos rfl]
      dsimp only
      rw [if_pos rfl]
/-- What the law's last part finds. -/
theorem back_link {f : Fst} {T r : Nat} (hw : Wl f T r) {h : Hd} {x : Nod} (k : Mine f h x mineT) : ((lkF f h rtH otherT).2 = 171 ∧ Mine (lkF f h rtH otherT).1 h x mineT) ∨
    ((lkF f h rtH otherT).2 = 0 ∧ Mine (rmF (lkF f h rtH otherT).1 rtH mineT false).1 h x otherT) := by
  obtain ⟨r, r1, r2, r3, r4, r5⟩ := hw.gd.rt
  have hl := k.lk
  have hx0 : x.id ≠ 0 := by have := (hw.gd.rng x (fnd_mem k.fd).1).1; omega
  have hwl := hw.link h rtH otherT
  by_cases h0 : entry f.N r.id otherT = 0
  · right
    have he : entN f.N r.id otherT = none := (entry_zero hw.gd.nz).1 h0
    have hlk : lkF f h rtH otherT = (⟨f.room, f.I, addn f.N r.id otherT x.id, f.G⟩, 0) := by
      unfold lkF
      rw [k.fd, r5]
      dsimp only
      rw [if_neg (by rw [valid_other]; decide), if_neg (by rw [k.kd]; decide), if_neg (by simpa using h0), if_neg (by rw [hl]; decide)]
    rw [hlk] at hwl ⊢
    refine ⟨rfl, ?_⟩
    dsimp only at hwl ⊢
    obtain ⟨r', s1, s2, s3, s4, s5⟩ := hwl.gd.rt
    dsimp only at s4 s5
    rw [r5] at s5
    injection s5 with s5
    subst s5
    have en1 : entry (addn f.N r.id otherT x.id) r.id mineT = x.id := by
      rw [entry_addn he, if_neg (by intro e; exact absurd e.2 (by decide)), r2, k.en]
    have hrm : rmF ⟨f.room, f.I, addn f.N r.id otherT x.id, f.G⟩ rtH mineT false = (⟨f.room, f.I, unnm (addn f.N r.id otherT x.id) r.id mineT, f.G⟩, 0) := by
      unfold rmF
      dsimp only
      rw [r5]
      dsimp only
      rw [if_neg (by rw [valid_mine]; decide), en1, k.ng hw.gd]
      dsimp only
      have hm : mayC ⟨f.room, f.I, addn f.N r.id otherT x.id, f.G⟩ x false = 0 := by
        unfold mayC
        rw [if_neg (by rw [k.kd]; decide), if_neg (by intro e; cases e.2), if_neg (by rw [k.kd]; intro e; exact absurd e.1 (by decide))]
      rw [hm, if_neg (by decide)]
      unfold drp
      dsimp only
      rw [if_neg]
      intro e
      rcases e with e | e
      · rw [k.kd] at e; cases e
      · unfold links at e
        rw [if_neg (by rw [k.kd]; decide), List.countP_eq_zero] at e
        refine e ⟨r.id, otherT, x.id⟩ (mem_unnm.2 ⟨by unfold addn; simp, ?_⟩) (by simp)
        intro e2
        exact absurd (show otherT = mineT from e2.2) (by decide)
    rw [hrm]
    have hz : ∀ m ∈ f.N, m.id = x.id → m.dir = 1 ∧ m.nm = mineT := fun m hm hmi => by
      obtain ⟨n, hn, e1, e2, e3⟩ := entry_some (N := f.N) (d := 1) (s := mineT) (by rw [k.en]; exact hx0)
      rw [k.en] at e3
      have : m = n := by
        apply Classical.byContradiction
        intro hne
        have h2 : 2 ≤ f.N.countP (fun m => decide (m.id = x.id)) := two_count hm hn hne (by simpa using hmi) (by simpa using e3)
        rw [k.ct] at h2
        omega
      rw [this]
      exact ⟨e1, e2⟩
    refine ⟨k.fd, k.kd, ?_, ?_, k.he⟩
    · show entry (unnm (addn f.N r.id otherT x.id) r.id mineT) 1 otherT = x.id
      rw [entry_unnm, if_neg (by intro e; exact absurd e.2 (by decide)), entry_addn he, if_pos ⟨r2, rfl⟩]
    · show (unnm (addn f.N r.id otherT x.id) r.id mineT).countP (fun m => decide (m.id = x.id)) = 1
      unfold unnm addn
      rw [List.filter_append, List.countP_append]
      have z : (f.N.filter (fun n => !decide (n.dir = r.id ∧ n.nm = mineT))).countP (fun m => decide (m.id = x.id)) = 0 := by
        rw [List.countP_eq_zero]
        intro n hn e
        obtain ⟨h1, h2⟩ := List.mem_filter.1 hn
        obtain ⟨z1, z2⟩ := hz n h1 (by simpa using e)
        rw [z1, z2, r2] at h2
        simp at h2
      rw [z]
      simp
  · left
    have hlk : lkF f h rtH otherT = (f, 171) := by
      unfold lkF
      rw [k.fd, r5]
      dsimp only
      rw [if_neg (by rw [valid_other]; decide), if_neg (by rw [k.kd]; decide), if_pos (by simpa using h0)]
    rw [hlk]
    exact ⟨rfl, k⟩
end Go.Proofs.Ytoaahhgngelnaaa
