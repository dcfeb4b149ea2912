/-
  Plain mathematics of the law Hangs: the names in a folder, sorted; what lies below a folder, counted; links and folders, counted by numbers. No condition.
-/
import Derived.Test.YtoaahhgngelnaaaFMath4
namespace Go.Proofs.Fz
set_option maxRecDepth 100000
open Go.Proofs.Sg

/-! ### The names in a folder, sorted -/
def insN (s : Txt) : List Txt → List Txt
  | [] => [s]
  | a :: l => if s < a then s :: a :: l else a :: insN s l
theorem mem_insN {s x : Txt} : ∀ {l : List Txt}, x ∈ insN s l ↔ x = s ∨ x ∈ l
  | [] => by simp [insN]
  | a :: l => by
    unfold insN
    split
    · simp
    · rw [List.mem_cons, mem_insN (l := l), List.mem_cons]
      constructor
      · rintro (h | h | h) <;> simp [h]
      · rintro (h | h | h) <;> simp [h]
theorem srt_insN {s : Txt} : ∀ {l : List Txt}, l.Pairwise (· < ·) → s ∉ l → (insN s l).Pairwise (· < ·)
  | [], _, _ => List.pairwise_singleton _ _
  | a :: l, h, hn => by
    unfold insN
    rw [List.pairwise_cons] at h
    split
    · rename_i h1
      rw [List.pairwise_cons, List.pairwise_cons]
      refine ⟨fun b hb => ?_, h⟩
      rcases List.mem_cons.1 hb with rfl | hb
      · exact h1
      · exact List.lt_trans h1 (h.1 b hb)
    · rename_i h1
      rw [List.pairwise_cons]
      refine ⟨fun b hb => ?_, srt_insN h.2 (fun h2 => hn (List.mem_cons.2 (.inr h2)))⟩
      rcases mem_insN.1 hb with rfl | hb
      · have h2 : a ≤ b := List.not_lt.1 h1
        rcases Classical.em (a = b) with rfl | h3
        · exact absurd (List.mem_cons.2 (.inl rfl)) hn
        · rcases Classical.em (a < b) with h4 | h4
          · exact h4
          · exact absurd (List.le_antisymm h2 (List.not_lt.1 h4)) h3
      · exact h.1 b hb
def lsT (d : Nat) : List Nm → List Txt → List Txt
  | [], l => l
  | n :: N, l => lsT d N (if n.dir = d then insN n.nm l else l)
def lsN (N : List Nm) (d : Nat) : List Txt := lsT d N []
theorem mem_lsT {d : Nat} {s : Txt} : ∀ {N : List Nm} {l : List Txt}, s ∈ lsT d N l ↔ s ∈ l ∨ ∃ n ∈ N, n.dir = d ∧ n.nm = s
  | [], l => by simp [lsT]
  | n :: N, l => by
    unfold lsT
    rw [mem_lsT (N := N)]
    by_cases h : n.dir = d
    · rw [if_pos h, mem_insN]
      constructor
      · rintro ((rfl | h2) | ⟨m, hm, h2⟩)
        · exact .inr ⟨n, by simp, h, rfl⟩
        · exact .inl h2
        · exact .inr ⟨m, by simp [hm], h2⟩
      · rintro (h2 | ⟨m, hm, h2, h3⟩)
        · exact .inl (.inr h2)
        · rcases List.mem_cons.1 hm with rfl | hm
          · exact .inl (.inl h3.symm)
          · exact .inr ⟨m, hm, h2, h3⟩
    · rw [if_neg h]
      constructor
      · rintro (h2 | ⟨m, hm, h2⟩)
        · exact .inl h2
        · exact .inr ⟨m, by simp [hm], h2⟩
      · rintro (h2 | ⟨m, hm, h2, h3⟩)
        · exact .inl h2
        · rcases List.mem_cons.1 hm with rfl | hm
          · exact absurd h2 h
          · exact .inr ⟨m, hm, h2, h3⟩
theorem mem_lsN {N : List Nm} {d : Nat} {s : Txt} : s ∈ lsN N d ↔ ∃ n ∈ N, n.dir = d ∧ n.nm = s := by unfold lsN; rw [mem_lsT]; simp
theorem srt_lsT {d : Nat} : ∀ {N : List Nm} {l : List Txt}, N.Pairwise (fun a b => ¬ (a.dir = b.dir ∧ a.nm = b.nm)) → l.Pairwise (· < ·) → (∀ n ∈ N, n.dir = d → n.nm ∉ l) → (lsT d N l).Pairwise (· < ·)
  | [], l, _, h, _ => h
  | n :: N, l, hu, h, hn => by
    unfold lsT
    rw [List.pairwise_cons] at hu
    by_cases e : n.dir = d
    · rw [if_pos e]
      refine srt_lsT hu.2 (srt_insN h (hn n (by simp) e)) (fun m hm e2 h2 => ?_)
      rcases mem_insN.1 h2 with h3 | h3
      · exact hu.1 m hm ⟨e.trans e2.symm, h3.symm⟩
      · exact hn m (by simp [hm]) e2 h3
    · rw [if_neg e]
      exact srt_lsT hu.2 h (fun m hm => hn m (by simp [hm]))
theorem srt_lsN {N : List Nm} (hu : N.Pairwise (fun a b => ¬ (a.dir = b.dir ∧ a.nm = b.nm))) (d : Nat) : (lsN N d).Pairwise (· < ·) := srt_lsT hu List.Pairwise.nil (fun _ _ _ h => by cases h)
theorem len_insN (s : Txt) : ∀ l : List Txt, (insN s l).length = l.length + 1
  | [] => rfl
  | a :: l => by
    unfold insN
    split
    · simp
    · rw [List.length_cons, len_insN s l, List.length_cons]
theorem len_lsT (d : Nat) : ∀ (N : List Nm) (l : List Txt), (lsT d N l).length = l.length + many N d
  | [], l => rfl
  | n :: N, l => by
    unfold lsT many
    rw [len_lsT d N, List.countP_cons]
    unfold many
    by_cases e : n.dir = d
    · simp [e, len_insN]; omega
    · simp [e]
theorem len_lsN (N : List Nm) (d : Nat) : (lsN N d).length = many N d := by unfold lsN; rw [len_lsT]; simp

/-! ### What lies below -/
theorem par_inF {f : Fst} (hg : Gd f) {y : Nod} (hy : y ∈ f.I) (hk : y.kind = 2) : isD f.I y.par = true := by
  obtain ⟨r, hr, r1, -, r3, r4⟩ := hg.root
  by_cases e : y.id = 1
  · have := hg.uid hy hr (by omega)
    subst this
    rw [r4, ← r1, isD_of hg.ids hy]; simpa using hk
  · obtain ⟨a, ha, e2⟩ := hg.has y hy e
    rw [hg.one a ha y hy e2.symm hk]
    exact hg.nmd a ha
theorem isD_mem {I : List Nod} {i : Nat} (h : isD I i = true) : ∃ x ∈ I, x.id = i ∧ x.kind = 2 ∧ nget I (i : Int) = some x := by
  obtain ⟨x, h1, h2⟩ := isD_iff.1 h
  obtain ⟨h3, h4⟩ := nget_mem h1
  exact ⟨x, h3, by omega, h2, h1⟩
theorem bel_dir {f : Fst} (hg : Gd f) {t i : Nat} (h : Bel f.I t i) : isD f.I i = true → isD f.I t = true := by
  induction h with
  | here => exact fun h => h
  | up h1 h2 h3 ih =>
    intro hd
    rename_i i y
    obtain ⟨x, hx, e, hk, h4⟩ := isD_mem hd
    rw [h1] at h4
    obtain rfl := Option.some.inj h4
    exact ih (par_inF hg hx hk)
theorem bel_rank {f : Fst} (hg : Gd f) {r : Nat → Nat} (hr : ∀ x ∈ f.I, x.kind = 2 → x.id ≠ 1 → r x.par < r x.id) {t i : Nat} (h : Bel f.I t i) : isD f.I i = true → t = i ∨ r t < r i := by
  induction h with
  | here => exact fun _ => .inl rfl
  | up h1 h2 h3 ih =>
    intro hd
    rename_i i y
    obtain ⟨x, hx, e, hk, h4⟩ := isD_mem hd
    rw [h1] at h4
    obtain rfl := Option.some.inj h4
    have h5 := hr y hx hk (by omega)
    rw [e] at h5
    rcases ih (par_inF hg hx hk) with h6 | h6
    · rw [h6]; exact .inr h5
    · exact .inr (by omega)
theorem bel_trans {I : List Nod} {a b c : Nat} (h : Bel I a b) (h2 : Bel I b c) : Bel I a c := by
  induction h2 with
  | here => exact h
  | up h1 h2 h3 ih => exact Bel.up h1 h2 ih
theorem bel_chain {I : List Nod} {a b d : Nat} (h : Bel I a d) : Bel I b d → Bel I a b ∨ Bel I b a := by
  induction h with
  | here => exact fun h => .inr h
  | up h1 h2 h3 ih =>
    intro h4
    cases h4 with
    | here => exact .inl (Bel.up h1 h2 h3)
    | up g1 g2 g3 =>
      rw [h1] at g1
      obtain rfl := Option.some.inj g1
      exact ih g3
theorem root_bel {f : Fst} (hg : Gd f) {i : Nat} (h : isD f.I i = true) : Bel f.I 1 i := by
  obtain ⟨r, hr⟩ := hg.rnk
  generalize hn : r i = n
  induction n using Nat.strongRecOn generalizing i with
  | _ n ih =>
    obtain ⟨x, hx, rfl, hk, h4⟩ := isD_mem h
    by_cases e : x.id = 1
    · rw [e]; exact Bel.here
    · have h5 := hr x hx hk e
      exact Bel.up h4 e (ih (r x.par) (by omega) (par_inF hg hx hk) rfl)
/-- A folder that has a name lies in the folder of that name. -/
theorem kid {f : Fst} (hg : Gd f) {m : Nm} (hm : m ∈ f.N) (hd : isD f.I m.id = true) : ∃ y ∈ f.I, y.id = m.id ∧ y.kind = 2 ∧ y.id ≠ 1 ∧ y.par = m.dir ∧ nget f.I (m.id : Int) = some y := by
  obtain ⟨x, hx, e, hk, h4⟩ := isD_mem hd
  exact ⟨x, hx, e, hk, by rw [e]; exact (hg.nmi m hm).2, hg.one m hm x hx e hk, h4⟩
theorem kid_bel {f : Fst} (hg : Gd f) {m : Nm} (hm : m ∈ f.N) (hd : isD f.I m.id = true) : Bel f.I m.dir m.id := by
  obtain ⟨y, hy, e, hk, h1, hp, h4⟩ := kid hg hm hd
  exact Bel.up h4 (by omega) (by rw [hp]; exact Bel.here)
theorem kid_not {f : Fst} (hg : Gd f) {m : Nm} (hm : m ∈ f.N) (hd : isD f.I m.id = true) : ¬ Bel f.I m.id m.dir := by
  obtain ⟨r, hr⟩ := hg.rnk
  obtain ⟨y, hy, e, hk, h1, hp, h4⟩ := kid hg hm hd
  have h5 := hr y hy hk h1
  intro h
  rcases bel_rank hg hr h (hg.nmd m hm) with h6 | h6
  · rw [hp, e, ← h6] at h5; omega
  · rw [hp, e] at h5; omega
/-- Of two folders in one folder nothing lies below both. -/
theorem kids_apart {f : Fst} (hg : Gd f) {m k : Nm} (hm : m ∈ f.N) (hk : k ∈ f.N) (hd : m.dir = k.dir) (h1 : isD f.I m.id = true) (h2 : isD f.I k.id = true) (hne : m ≠ k) {e : Nat} (b1 : Bel f.I m.id e) (b2 : Bel f.I k.id e) : False := by
  have go : ∀ {m k : Nm}, m ∈ f.N → k ∈ f.N → m.dir = k.dir → isD f.I m.id = true → isD f.I k.id = true → m ≠ k → ¬ Bel f.I m.id k.id := by
    intro m k hm hk hd h1 h2 hne hb
    obtain ⟨y, hy, e, hyk, hy1, hp, h4⟩ := kid hg hk h2
    generalize hi : k.id = i at hb
    cases hb with
    | here => exact hne (hg.ufol hm hk hi.symm h1)
    | up g1 g2 g3 =>
      rw [← hi, h4] at g1
      obtain rfl := Option.some.inj g1
      rw [hp, ← hd] at g3
      exact kid_not hg hm h1 g3
  rcases bel_chain b1 b2 with h | h
  · exact go hm hk hd h1 h2 hne h
  · exact go hk hm hd.symm h2 h1 (Ne.symm hne) h
theorem bel_child {f : Fst} (hg : Gd f) {d e : Nat} (h : Bel f.I d e) : isD f.I e = true → d = e ∨ ∃ m ∈ f.N, m.dir = d ∧ isD f.I m.id = true ∧ Bel f.I m.id e := by
  induction h with
  | here => exact fun _ => .inl rfl
  | up h1 h2 h3 ih =>
    intro hd
    rename_i i y
    obtain ⟨x, hx, e, hk, h4⟩ := isD_mem hd
    have h1' := h1
    rw [h1] at h4
    obtain rfl := Option.some.inj h4
    right
    rcases ih (par_inF hg hx hk) with h6 | ⟨m, hm, g1, g2, g3⟩
    · obtain ⟨a, ha, e2⟩ := hg.has y hx (by omega)
      refine ⟨a, ha, by rw [h6]; exact (hg.one a ha y hx e2.symm hk).symm, ?_, ?_⟩
      · rw [e2, e]; exact hd
      · rw [e2, e]; exact Bel.here
    · exact ⟨m, hm, g1, g2, Bel.up h1' h2 g3⟩

/-! ### Counts -/
open Classical in
noncomputable def cntB (f : Fst) (t : Nat) : Nat := f.N.countP (fun n => decide (Bel f.I t n.dir))
def ptN (f : Fst) (d : Nat) (l : List Txt) (n : Nm) : Prop := (n.dir = d ∧ n.nm ∈ l) ∨ ∃ m ∈ f.N, m.dir = d ∧ m.nm ∈ l ∧ isD f.I m.id = true ∧ Bel f.I m.id n.dir
open Classical in
noncomputable def cntP (f : Fst) (d : Nat) (l : List Txt) : Nat := f.N.countP (fun n => decide (ptN f d l n))
theorem cntP_nil (f : Fst) (d : Nat) : cntP f d [] = 0 := by
  classical
  unfold cntP
  rw [List.countP_eq_zero]
  intro n _ h
  rcases of_decide_eq_true h with h | ⟨m, -, -, h, -⟩
  · cases h.2
  · cases h
theorem count_or {α : Type} {p q : α → Bool} : ∀ {l : List α}, (∀ x ∈ l, p x = true → q x = true → False) → l.countP (fun x => p x || q x) = l.countP p + l.countP q
  | [], _ => rfl
  | a :: l, h => by
    rw [List.countP_cons, List.countP_cons, List.countP_cons, count_or (l := l) (fun x hx => h x (by simp [hx]))]
    have := h a (by simp)
    cases hp : p a <;> cases hq : q a <;> simp [hp, hq] at this ⊢ <;> omega
theorem count_one {f : Fst} (hg : Gd f) {m : Nm} (hm : m ∈ f.N) : f.N.countP (fun n => decide (n.dir = m.dir ∧ n.nm = m.nm)) = 1 := by
  rw [count_unnm hg.nmu hm]
  have : (unnm f.N m.dir m.nm).countP (fun n => decide (n.dir = m.dir ∧ n.nm = m.nm)) = 0 := by
    rw [List.countP_eq_zero]
    intro n hn h
    exact (mem_unnm.1 hn).2 (of_decide_eq_true h)
  rw [this]
  simp
theorem cntP_step {f : Fst} (hg : Gd f) {m : Nm} (hm : m ∈ f.N) {l : List Txt} (hl : m.nm ∉ l) : cntP f m.dir (l ++ [m.nm]) = cntP f m.dir l + 1 + (if isD f.I m.id = true then cntB f m.id else 0) := by
  classical
  have e1 : cntP f m.dir (l ++ [m.nm]) = f.N.countP (fun n => (decide (ptN f m.dir l n) || decide (n.dir = m.dir ∧ n.nm = m.nm)) || decide (isD f.I m.id = true ∧ Bel f.I m.id n.dir)) := by
    unfold cntP
    refine List.countP_congr (fun n hn => ?_)
    rw [decide_eq_true_iff, Bool.or_eq_true, Bool.or_eq_true, decide_eq_true_iff, decide_eq_true_iff, decide_eq_true_iff]
    unfold ptN
    constructor
    · rintro (⟨h1, h2⟩ | ⟨k, hk, h1, h2, h3⟩)
      · rcases List.mem_append.1 h2 with h2 | h2
        · exact .inl (.inl (.inl ⟨h1, h2⟩))
        · exact .inl (.inr ⟨h1, List.mem_singleton.1 h2⟩)
      · rcases List.mem_append.1 h2 with h2 | h2
        · exact .inl (.inl (.inr ⟨k, hk, h1, h2, h3⟩))
        · have := hg.ukey hk hm h1 (List.mem_singleton.1 h2)
          subst this
          exact .inr h3
    · rintro (((⟨h1, h2⟩ | ⟨k, hk, h1, h2, h3⟩) | ⟨h1, h2⟩) | h3)
      · exact .inl ⟨h1, by simp [h2]⟩
      · exact .inr ⟨k, hk, h1, by simp [h2], h3⟩
      · exact .inl ⟨h1, by simp [h2]⟩
      · exact .inr ⟨m, hm, rfl, by simp, h3⟩
  rw [e1, count_or, count_or, count_one hg hm]
  · congr 1
    by_cases hd : isD f.I m.id = true
    · rw [if_pos hd]
      unfold cntB
      refine List.countP_congr (fun n _ => ?_)
      rw [decide_eq_true_iff, decide_eq_true_iff]
      exact ⟨fun h => h.2, fun h => ⟨hd, h⟩⟩
    · rw [if_neg hd, List.countP_eq_zero]
      intro n _ h
      exact hd (of_decide_eq_true h).1
  · intro n hn h1 h2
    have h1 := of_decide_eq_true h1
    have h2 := of_decide_eq_true h2
    rcases h1 with ⟨-, h1⟩ | ⟨k, hk, g1, g2, g3, g4⟩
    · rw [h2.2] at h1; exact hl h1
    · rw [h2.1, ← g1] at g4
      exact kid_not hg hk g3 g4
  · intro n hn h1 h2
    obtain ⟨hd, h2⟩ := of_decide_eq_true h2
    rw [Bool.or_eq_true, decide_eq_true_iff, decide_eq_true_iff] at h1
    rcases h1 with (⟨h1, -⟩ | ⟨k, hk, g1, g2, g3, g4⟩) | ⟨h1, -⟩
    · rw [h1] at h2; exact kid_not hg hm hd h2
    · exact kids_apart hg hm hk g1.symm hd g3 (fun e => hl (by rw [e]; exact g2)) h2 g4
    · rw [h1] at h2; exact kid_not hg hm hd h2
theorem cntP_full {f : Fst} (hg : Gd f) {d : Nat} : cntP f d (lsN f.N d) = cntB f d := by
  classical
  unfold cntP cntB
  refine List.countP_congr (fun n hn => ?_)
  rw [decide_eq_true_iff, decide_eq_true_iff]
  constructor
  · rintro (⟨h1, -⟩ | ⟨m, hm, h1, -, h2, h3⟩)
    · rw [h1]; exact Bel.here
    · have := kid_bel hg hm h2
      rw [h1] at this
      exact bel_trans this h3
  · intro h
    rcases bel_child hg h (hg.nmd n hn) with h1 | ⟨m, hm, h1, h2, h3⟩
    · exact .inl ⟨h1.symm, mem_lsN.2 ⟨n, hn, h1.symm, rfl⟩⟩
    · exact .inr ⟨m, hm, h1, mem_lsN.2 ⟨m, hm, h1, rfl⟩, h2, h3⟩
theorem cnt_root {f : Fst} (hg : Gd f) : cntB f 1 = f.N.length := by
  classical
  unfold cntB
  rw [List.countP_eq_length]
  intro n hn
  exact decide_eq_true (root_bel hg (hg.nmd n hn))
theorem cntB_le (f : Fst) (t : Nat) : cntB f t ≤ f.N.length := List.countP_le_length
theorem cntP_le (f : Fst) (d : Nat) (l : List Txt) : cntP f d l ≤ f.N.length := List.countP_le_length

/-! ### How deep a folder lies -/
def Chn (f : Fst) (d k : Nat) : Prop := ∃ l : List Nat, l.length = k ∧ l.Nodup ∧ ∀ i ∈ l, isD f.I i = true ∧ i ≠ d ∧ Bel f.I i d
theorem Chn.root (f : Fst) : Chn f 1 0 := ⟨[], rfl, List.nodup_nil, fun _ h => by cases h⟩
theorem Chn.kid {f : Fst} (hg : Gd f) {m : Nm} (hm : m ∈ f.N) (hd : isD f.I m.id = true) {k : Nat} (h : Chn f m.dir k) : Chn f m.id (k + 1) := by
  obtain ⟨l, h1, h2, h3⟩ := h
  refine ⟨m.dir :: l, by simp [h1], List.nodup_cons.2 ⟨fun h => (h3 _ h).2.1 rfl, h2⟩, fun i hi => ?_⟩
  have hb := kid_bel hg hm hd
  rcases List.mem_cons.1 hi with rfl | hi
  · refine ⟨hg.nmd m hm, fun e => ?_, hb⟩
    exact kid_not hg hm hd (by rw [e]; exact Bel.here)
  · obtain ⟨g1, g2, g3⟩ := h3 i hi
    refine ⟨g1, fun e => ?_, bel_trans g3 hb⟩
    rw [e] at g3
    exact kid_not hg hm hd g3
theorem sub_len : ∀ {l m : List Nat}, l.Nodup → (∀ x ∈ l, x ∈ m) → l.length ≤ m.length
  | [], _, _, _ => Nat.zero_le _
  | a :: l, m, h, hs => by
    rw [List.nodup_cons] at h
    have h1 := sub_len (l := l) (m := m.erase a) h.2 (fun x hx => (List.mem_erase_of_ne (fun e => h.1 (by rw [← e]; exact hx))).2 (hs x (by simp [hx])))
    rw [List.length_erase_of_mem (hs a (by simp))] at h1
    have := List.length_pos_of_mem (hs a (by simp))
    simp
    omega
theorem Chn.le {f : Fst} (hg : Gd f) {d k : Nat} (h : Chn f d k) (hd : isD f.I d = true) : k ≤ 199 := by
  obtain ⟨l, h1, h2, h3⟩ := h
  have h4 : (d :: l).length ≤ (f.I.map (fun x => x.id)).length := sub_len (List.nodup_cons.2 ⟨fun h => (h3 _ h).2.1 rfl, h2⟩) (fun i hi => by
    have : isD f.I i = true := by
      rcases List.mem_cons.1 hi with rfl | hi
      · exact hd
      · exact (h3 i hi).1
    obtain ⟨x, hx, e, -⟩ := isD_mem this
    exact List.mem_map.2 ⟨x, hx, e⟩)
  have := hg.cnt
  rw [List.length_map] at h4
  simp at h4
  omega

/-! ### Links and folders, by numbers -/
def lkv (f : Fst) : Option Nod → Nat
  | none => 0
  | some x => if x.kind = 2 then 0 else links f.I f.N x
def fov : Option Nod → Nat
  | none => 0
  | some x => if x.kind = 2 then 1 else 0
def lkT (f : Fst) : Nat → Nat
  | 0 => 0
  | k + 1 => lkT f k + lkv f (nget f.I ((k + 1 : Nat) : Int))
def foT (f : Fst) : Nat → Nat
  | 0 => 0
  | k + 1 => foT f k + fov (nget f.I ((k + 1 : Nat) : Int))
theorem tot_at {f : Fst} (hg : Gd f) (k : Nat) : f.N.countP (fun n => decide (n.id = k + 1)) + (if k = 0 then 1 else 0) = lkv f (nget f.I ((k + 1 : Nat) : Int)) + fov (nget f.I ((k + 1 : Nat) : Int)) := by
  obtain ⟨r, hr, r1, -, r3, -⟩ := hg.root
  rcases hq : nget f.I ((k + 1 : Nat) : Int) with _ | x
  · have h0 : f.N.countP (fun n => decide (n.id = k + 1)) = 0 := by
      rw [List.countP_eq_zero]
      intro n hn h
      have h1 := (hg.nmi n hn).1
      rw [of_decide_eq_true h, hq] at h1
      cases h1
    have hk : k ≠ 0 := fun e => by
      have := nget_of hg.ids hr
      rw [r1] at this
      rw [e] at hq
      rw [show ((0 + 1 : Nat) : Int) = ((1 : Nat) : Int) from rfl, this] at hq
      cases hq
    rw [h0, if_neg hk]; rfl
  · obtain ⟨hx, hxe⟩ := nget_mem hq
    have hxi : x.id = k + 1 := by omega
    by_cases hk2 : x.kind = 2
    · have e1 : lkv f (some x) = 0 := by simp [lkv, hk2]
      have e2 : fov (some x) = 1 := by simp [fov, hk2]
      rw [e1, e2]
      by_cases hk : k = 0
      · rw [if_pos hk]
        have h0 : f.N.countP (fun n => decide (n.id = k + 1)) = 0 := by
          rw [List.countP_eq_zero]
          intro n hn h
          have h1 := (hg.nmi n hn).2
          have := of_decide_eq_true h
          omega
        omega
      · rw [if_neg hk]
        obtain ⟨a, ha, e⟩ := hg.has x hx (by omega)
        have h1 := count_one hg ha
        have h2 : f.N.countP (fun n => decide (n.id = k + 1)) = f.N.countP (fun n => decide (n.dir = a.dir ∧ n.nm = a.nm)) := by
          refine List.countP_congr (fun n hn => ?_)
          rw [decide_eq_true_iff, decide_eq_true_iff]
          constructor
          · intro h
            have := hg.ufol hn ha (by omega) (by rw [h, ← hxi, isD_of hg.ids hx]; simpa using hk2)
            rw [this]; exact ⟨rfl, rfl⟩
          · rintro ⟨h3, h4⟩
            have := hg.ukey hn ha h3 h4
            rw [this]; omega
        omega
    · have hk : k ≠ 0 := fun e => hk2 (by rw [hg.uid hx hr (by omega)]; exact r3)
      have e1 : lkv f (some x) = links f.I f.N x := by simp [lkv, hk2]
      have e2 : fov (some x) = 0 := by simp [fov, hk2]
      rw [e1, e2, if_neg hk]
      unfold links
      rw [if_neg hk2, hxi]
theorem tot {f : Fst} (hg : Gd f) : ∀ k, f.N.countP (fun n => decide (n.id ≤ k)) + (if k = 0 then 0 else 1) = lkT f k + foT f k
  | 0 => by
    have : f.N.countP (fun n => decide (n.id ≤ 0)) = 0 := by
      rw [List.countP_eq_zero]
      intro n hn h
      have := hg.nz n hn
      have := of_decide_eq_true h
      omega
    rw [this]; rfl
  | k + 1 => by
    have h1 := tot hg k
    have h2 := tot_at hg k
    have h3 : f.N.countP (fun n => decide (n.id ≤ k + 1)) = f.N.countP (fun n => decide (n.id ≤ k)) + f.N.countP (fun n => decide (n.id = k + 1)) := by
      rw [← count_or]
      · refine List.countP_congr (fun n _ => ?_)
        rw [Bool.or_eq_true, decide_eq_true_iff, decide_eq_true_iff, decide_eq_true_iff]
        omega
      · intro n _ g1 g2
        have := of_decide_eq_true g1
        have := of_decide_eq_true g2
        omega
    show _ = (lkT f k + lkv f _) + (foT f k + fov _)
    rw [if_neg (by omega), h3]
    split at h1 <;> split at h2 <;> omega
theorem tot_all {f : Fst} (hg : Gd f) : f.N.length + 1 = lkT f 200 + foT f 200 := by
  have h := tot hg 200
  rw [if_neg (by omega)] at h
  rw [← h]
  congr 1
  symm
  rw [List.countP_eq_length]
  intro n hn
  obtain ⟨x, hx⟩ := Option.isSome_iff_exists.1 (hg.nmi n hn).1
  obtain ⟨h1, h2⟩ := nget_mem hx
  have := (hg.rng x h1).2
  exact decide_eq_true (by omega)
theorem tot_le {f : Fst} (hg : Gd f) (k : Nat) : lkT f k ≤ f.N.length + 1 ∧ foT f k ≤ f.N.length + 1 := by
  have h := tot hg k
  have h1 : f.N.countP (fun n => decide (n.id ≤ k)) ≤ f.N.length := List.countP_le_length
  split at h <;> omega
end Go.Proofs.Fz
