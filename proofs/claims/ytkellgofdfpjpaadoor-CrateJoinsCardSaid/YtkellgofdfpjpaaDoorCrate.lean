/-
  The plain mathematics of crates on lists of numbers: four bytes of a number, a body's crate, what is taken out of bytes, the crates that stand one behind the other, and what a cut leaves. No condition.
-/
import Derived.Test.YtkellgofdfpjpaaDoorMem
namespace Go.Proofs.YtkellgofdfpjpaaDoor
open Go.Proofs.Crc

/-- Four bytes of a number, the lowest first; and back. -/
def le4 (n : Int) : List Int := [n % 256, n / 256 % 256, n / 65536 % 256, n / 16777216 % 256]
def n4 (zs : List Int) : Int := zs.getD 0 0 + 256 * zs.getD 1 0 + 65536 * zs.getD 2 0 + 16777216 * zs.getD 3 0
/-- The sum. -/
def sm (zs : List Int) : Int := U (more 0#32 zs)
theorem sm_lo (zs : List Int) : 0 ≤ sm zs := U_lo _
theorem sm_hi (zs : List Int) : sm zs ≤ 4294967295 := U_hi _
theorem le4_length (n : Int) : (le4 n).length = 4 := rfl
theorem le4_bys (n : Int) : Bys (le4 n) := fun z h => by
  simp only [le4, List.mem_cons, List.not_mem_nil, or_false] at h
  rcases h with rfl | rfl | rfl | rfl <;> omega
theorem n4_le4 (n : Int) (h0 : 0 ≤ n) (h1 : n ≤ 4294967295) (r : List Int) : n4 (le4 n ++ r) = n := by
  simp only [n4, le4, List.cons_append, List.nil_append, List.getD_cons_zero, List.getD_cons_succ]
  omega
theorem n4_cons (a b c d : Int) (r : List Int) : n4 (a :: b :: c :: d :: r) = a + 256 * b + 65536 * c + 16777216 * d := rfl
theorem n4_lo {zs : List Int} (h : Bys zs) : 0 ≤ n4 zs := by
  have := bys_getD h 0; have := bys_getD h 1; have := bys_getD h 2; have := bys_getD h 3
  unfold n4; omega
theorem n4_hi {zs : List Int} (h : Bys zs) : n4 zs ≤ 4294967295 := by
  have := bys_getD h 0; have := bys_getD h 1; have := bys_getD h 2; have := bys_getD h 3
  unfold n4; omega
theorem four_of {zs : List Int} (h : 4 ≤ zs.length) : ∃ a b c d r, zs = a :: b :: c :: d :: r := by
  match zs, h with
  | a :: b :: c :: d :: r, _ => exact ⟨a, b, c, d, r, rfl⟩
theorem le4_n4 {zs : List Int} (hB : Bys zs) (h : 4 ≤ zs.length) : le4 (n4 zs) = zs.take 4 := by
  obtain ⟨a, b, c, d, r, rfl⟩ := four_of h
  have ha := hB a (by simp); have hb := hB b (by simp); have hc := hB c (by simp); have hd := hB d (by simp)
  rw [n4_cons]
  simp only [le4, List.take_succ_cons, List.take_zero, List.cons.injEq, and_true]
  refine ⟨?_, ?_, ?_, ?_⟩ <;> omega
theorem n4_take {zs : List Int} (h : 4 ≤ zs.length) : n4 (zs.take 4) = n4 zs := by
  obtain ⟨a, b, c, d, r, rfl⟩ := four_of h
  rfl
/-- Four bytes are a number's just where they read as it. -/
theorem four_iff {zs : List Int} (hB : Bys zs) (h : 4 ≤ zs.length) (n : Int) (h0 : 0 ≤ n) (h1 : n ≤ 4294967295) : zs.take 4 = le4 n ↔ n4 zs = n := by
  constructor
  · intro e
    have := n4_le4 n h0 h1 []
    rw [List.append_nil, ← e, n4_take h] at this
    exact this
  · intro e
    rw [← le4_n4 hB h, e]

/-- A body's crate. -/
def crt (zs : List Int) : List Int := le4 (zs.length : Int) ++ (le4 (sm (le4 (zs.length : Int))) ++ (zs ++ le4 (sm zs)))
theorem crt_length (zs : List Int) : (crt zs).length = zs.length + 12 := by
  simp only [crt, List.length_append, le4_length]; omega
theorem crt_bys {zs : List Int} (h : Bys zs) : Bys (crt zs) := bys_append (le4_bys _) (bys_append (le4_bys _) (bys_append h (le4_bys _)))
/-- What Put tells. -/
def putE (zs : List Int) : Int := if zs.length ≤ 4096 then 0 else 31
def putB (zs : List Int) : List Int := if zs.length ≤ 4096 then crt zs else []

/-- What Get tells. -/
inductive Gt where
  | bad (e : Int)
  | good (m : Nat)
def gt (zs : List Int) : Gt :=
  if zs.length < 8 then .bad 30
  else if n4 (zs.drop 4) ≠ sm (zs.take 4) then .bad 32
  else if 4096 < n4 zs then .bad 31
  else if zs.length < (n4 zs).toNat + 12 then .bad 30
  else if n4 (zs.drop (8 + (n4 zs).toNat)) ≠ sm ((zs.drop 8).take (n4 zs).toNat) then .bad 32
  else .good (n4 zs).toNat
/-- The body. -/
def bod (zs : List Int) (m : Nat) : List Int := (zs.drop 8).take m
theorem gt_good {zs : List Int} {m : Nat} (hB : Bys zs) (h : gt zs = .good m) : 8 ≤ zs.length ∧ n4 (zs.drop 4) = sm (zs.take 4) ∧ n4 zs = (m : Int) ∧ m ≤ 4096 ∧ m + 12 ≤ zs.length ∧ n4 (zs.drop (8 + m)) = sm (bod zs m) := by
  unfold gt at h
  have := n4_lo hB
  split at h
  · cases h
  · split at h
    · cases h
    · split at h
      · cases h
      · split at h
        · cases h
        · split at h
          · cases h
          · rename_i h1 h2 h3 h4 h5
            injection h with h
            subst h
            refine ⟨by omega, Decidable.not_not.1 h2, by omega, by omega, by omega, Decidable.not_not.1 h5⟩
theorem gt_mk {zs : List Int} {m : Nat} (h1 : 8 ≤ zs.length) (h2 : n4 (zs.drop 4) = sm (zs.take 4)) (h3 : n4 zs = (m : Int)) (h4 : m ≤ 4096) (h5 : m + 12 ≤ zs.length) (h6 : n4 (zs.drop (8 + m)) = sm (bod zs m)) : gt zs = .good m := by
  unfold gt
  have e : (n4 zs).toNat = m := by omega
  rw [e, if_neg (by omega), if_neg (by rw [h2]; simp), if_neg (by omega), if_neg (by omega), if_neg (by rw [h6]; simp [bod])]
theorem gt_ne {zs : List Int} {e : Int} (h : gt zs = .bad e) : e = 30 ∨ e = 31 ∨ e = 32 := by
  unfold gt at h
  split at h
  · injection h with h; omega
  · split at h
    · injection h with h; omega
    · split at h
      · injection h with h; omega
      · split at h
        · injection h with h; omega
        · split at h
          · injection h with h; omega
          · cases h
theorem gt_nil : gt [] = .bad 30 := rfl
theorem bod_length {zs : List Int} {m : Nat} (h : m + 12 ≤ zs.length) : (bod zs m).length = m := by
  unfold bod; rw [List.length_take, List.length_drop]; omega
theorem bod_bys {zs : List Int} (m : Nat) (h : Bys zs) : Bys (bod zs m) := bys_take _ (bys_drop _ h)
theorem n4_append {a : List Int} (h : 4 ≤ a.length) (b : List Int) : n4 (a ++ b) = n4 a := by
  obtain ⟨x, y, z, u, r, rfl⟩ := four_of h
  rfl
/-- What stands behind a crate is not seen. -/
theorem gt_append {a : List Int} {m : Nat} (hB : Bys a) (h : gt a = .good m) (b : List Int) : gt (a ++ b) = .good m ∧ bod (a ++ b) m = bod a m ∧ (a ++ b).drop (m + 12) = a.drop (m + 12) ++ b := by
  obtain ⟨h1, h2, h3, h4, h5, h6⟩ := gt_good hB h
  have e8 : bod (a ++ b) m = bod a m := by
    unfold bod
    rw [List.drop_append_of_le_length (by omega), List.take_append_of_le_length (by rw [List.length_drop]; omega)]
  refine ⟨gt_mk (by rw [List.length_append]; omega) ?_ ?_ h4 (by rw [List.length_append]; omega) ?_, e8, ?_⟩
  · rw [List.drop_append_of_le_length (by omega), List.take_append_of_le_length (by omega), n4_append (by rw [List.length_drop]; omega), h2]
  · rw [n4_append (by omega), h3]
  · rw [e8, List.drop_append_of_le_length (by omega), n4_append (by rw [List.length_drop]; omega), h6]
  · rw [List.drop_append_of_le_length (by omega)]
theorem drop_four (n : Int) (r : List Int) : (le4 n ++ r).drop 4 = r := rfl
theorem take_four (n : Int) (r : List Int) : (le4 n ++ r).take 4 = le4 n := rfl
/-- A crate is taken out as it was put. -/
theorem gt_crt {zs : List Int} (h : zs.length ≤ 4096) : gt (crt zs) = .good zs.length ∧ bod (crt zs) zs.length = zs := by
  have e8 : (crt zs).drop 8 = zs ++ le4 (sm zs) := rfl
  have hb : bod (crt zs) zs.length = zs := by
    unfold bod; rw [e8, List.take_append_of_le_length (Nat.le_refl _), List.take_length]
  have hl := crt_length zs
  refine ⟨gt_mk (by omega) ?_ ?_ h (by omega) ?_, hb⟩
  · have e4 : (crt zs).drop 4 = le4 (sm (le4 (zs.length : Int))) ++ (zs ++ le4 (sm zs)) := rfl
    have t4 : (crt zs).take 4 = le4 (zs.length : Int) := rfl
    rw [e4, t4, n4_le4 _ (sm_lo _) (sm_hi _)]
  · unfold crt
    rw [n4_le4 _ (by omega) (by omega)]
  · have e : (crt zs).drop (8 + zs.length) = le4 (sm zs) := by
      rw [← List.drop_drop, e8, List.drop_append_of_le_length (Nat.le_refl _), List.drop_length]; rfl
    rw [e, hb]
    have := n4_le4 (sm zs) (sm_lo _) (sm_hi _) []
    rwa [List.append_nil] at this
theorem gt_crt_more {zs : List Int} (hB : Bys zs) (h : zs.length ≤ 4096) (r : List Int) : gt (crt zs ++ r) = .good zs.length ∧ bod (crt zs ++ r) zs.length = zs ∧ (crt zs ++ r).drop (zs.length + 12) = r := by
  obtain ⟨h1, h2⟩ := gt_crt h
  obtain ⟨h3, h4, h5⟩ := gt_append (crt_bys hB) h1 r
  refine ⟨h3, by rw [h4, h2], ?_⟩
  rw [h5, List.drop_of_length_le (by rw [crt_length]; omega)]; rfl
/-- Of a crate that is cut off nothing is told but that it is short. -/
theorem gt_cut {zs : List Int} (h : zs.length ≤ 4096) (k : Nat) (hk : k < zs.length + 12) : gt ((crt zs).take k) = .bad 30 := by
  have hl := crt_length zs
  have htl : ((crt zs).take k).length = k := by rw [List.length_take]; omega
  unfold gt
  rw [htl]
  by_cases h8 : k < 8
  · rw [if_pos h8]
  · have e : (crt zs).take k = le4 (zs.length : Int) ++ (le4 (sm (le4 (zs.length : Int))) ++ ((crt zs).take k).drop 8) := by
      have h1 : (crt zs).take k = ((crt zs).take k).take 8 ++ ((crt zs).take k).drop 8 := (List.take_append_drop 8 _).symm
      rw [List.take_take, Nat.min_eq_left (by omega)] at h1
      have h2 : (crt zs).take 8 = le4 (zs.length : Int) ++ le4 (sm (le4 (zs.length : Int))) := rfl
      rw [h2, List.append_assoc] at h1
      exact h1
    rw [if_neg h8]
    have e1 : ((crt zs).take k).drop 4 = le4 (sm (le4 (zs.length : Int))) ++ ((crt zs).take k).drop 8 := by
      conv => lhs; rw [e]
      rfl
    have e2 : ((crt zs).take k).take 4 = le4 (zs.length : Int) := by
      conv => lhs; rw [e]
      rfl
    have e3 : n4 ((crt zs).take k) = (zs.length : Int) := by
      rw [e, n4_le4 _ (by omega) (by omega)]
    rw [e1, e2, e3, n4_le4 _ (sm_lo _) (sm_hi _), if_neg (by simp), if_neg (by omega), if_pos (by omega)]

/-- The crates that stand in bytes, one behind the other: their bodies, and what is left. -/
inductive Cr : List Int → List (List Int) → List Int → Prop
  | nil (zs : List Int) : Cr zs [] zs
  | cons {zs : List Int} {m : Nat} {bs : List (List Int)} {r : List Int} : gt zs = .good m → Cr (zs.drop (m + 12)) bs r → Cr zs (bod zs m :: bs) r
theorem Cr.snoc {zs : List Int} {bs : List (List Int)} {r : List Int} {m : Nat} (h : Cr zs bs r) (hg : gt r = .good m) : Cr zs (bs ++ [bod r m]) (r.drop (m + 12)) := by
  induction h with
  | nil zs => exact .cons hg (.nil _)
  | cons h1 _ ih => exact .cons h1 (ih hg)
theorem Cr.one {zs : List Int} {bs bs' : List (List Int)} {r r' : List Int} {e e' : Int} (h : Cr zs bs r) (hr : gt r = .bad e) (h' : Cr zs bs' r') (hr' : gt r' = .bad e') : bs = bs' ∧ r = r' := by
  induction h generalizing bs' r' e' with
  | nil zs =>
    cases h' with
    | nil => exact ⟨rfl, rfl⟩
    | cons h1 _ => rw [hr] at h1; cases h1
  | cons h1 _ ih =>
    cases h' with
    | nil => rw [h1] at hr'; cases hr'
    | cons h2 h3 =>
      rw [h1] at h2
      injection h2 with h2
      subst h2
      obtain ⟨rfl, rfl⟩ := ih hr h3 hr'
      exact ⟨rfl, rfl⟩
theorem Cr.append {a b : List Int} {l m : List (List Int)} {r : List Int} (hB : Bys a) (h : Cr a l []) (h' : Cr b m r) : Cr (a ++ b) (l ++ m) r := by
  generalize he : ([] : List Int) = s at h
  induction h with
  | nil zs => subst he; exact h'
  | cons h1 _ ih =>
    obtain ⟨g1, g2, g3⟩ := gt_append hB h1 b
    have := Cr.cons g1 (by rw [g3]; exact ih (bys_drop _ hB) he)
    rw [g2] at this
    exact this
theorem Cr.length {zs : List Int} {bs : List (List Int)} {r : List Int} (hB : Bys zs) (h : Cr zs bs r) : 12 * bs.length + r.length ≤ zs.length := by
  induction h with
  | nil zs => simp
  | @cons zs m bs r h1 _ ih =>
    have h2 := ih (bys_drop _ hB)
    have h3 := (gt_good hB h1).2.2.2.2.1
    rw [List.length_drop] at h2
    rw [List.length_cons]
    omega
theorem Cr.bys {zs : List Int} {bs : List (List Int)} {r : List Int} (hB : Bys zs) (h : Cr zs bs r) : (∀ b ∈ bs, Bys b) ∧ Bys r := by
  induction h with
  | nil zs => exact ⟨fun _ h => absurd h List.not_mem_nil, hB⟩
  | @cons zs m bs r h1 _ ih =>
    obtain ⟨h2, h3⟩ := ih (bys_drop _ hB)
    refine ⟨fun b hb => ?_, h3⟩
    rcases List.mem_cons.1 hb with rfl | hb
    · exact bod_bys _ hB
    · exact h2 _ hb
/-- Crates, one behind the other. -/
def cat (l : List (List Int)) : List Int := l.flatMap crt
theorem cat_snoc (l : List (List Int)) (x : List Int) : cat (l ++ [x]) = cat l ++ crt x := by simp [cat]
theorem cat_bys {l : List (List Int)} (h : ∀ x ∈ l, Bys x) : Bys (cat l) := fun z hz => by
  obtain ⟨x, hx, hz⟩ := List.mem_flatMap.1 hz
  exact crt_bys (h x hx) z hz
theorem cr_cat {l : List (List Int)} (hB : ∀ x ∈ l, Bys x) (hl : ∀ x ∈ l, x.length ≤ 4096) (r : List Int) : Cr (cat l ++ r) l r := by
  induction l with
  | nil => exact .nil _
  | cons x l ih =>
    have e : cat (x :: l) ++ r = crt x ++ (cat l ++ r) := by simp [cat]
    obtain ⟨h1, h2, h3⟩ := gt_crt_more (hB x (by simp)) (hl x (by simp)) (cat l ++ r)
    rw [e]
    have := Cr.cons h1 (by rw [h3]; exact ih (fun y hy => hB y (by simp [hy])) (fun y hy => hl y (by simp [hy])))
    rw [h2] at this
    exact this
/-- Cut off anywhere, just the whole ones are taken out. -/
theorem cr_cut {l : List (List Int)} (hB : ∀ x ∈ l, Bys x) (hl : ∀ x ∈ l, x.length ≤ 4096) {cut w : Nat} (hw : w ≤ l.length) (h1 : (cat (l.take w)).length ≤ cut) (h2 : w < l.length → cut < (cat (l.take (w + 1))).length) (hc : cut ≤ (cat l).length) :
    ∃ r, Cr ((cat l).take cut) (l.take w) r ∧ gt r = .bad 30 ∧ r.length = cut - (cat (l.take w)).length := by
  have hsplit : cat l = cat (l.take w) ++ cat (l.drop w) := by
    conv => lhs; rw [← List.take_append_drop w l]
    exact List.flatMap_append
  have htake : (cat l).take cut = cat (l.take w) ++ (cat (l.drop w)).take (cut - (cat (l.take w)).length) := by
    rw [hsplit, List.take_append]
    congr 1
    exact List.take_of_length_le h1
  refine ⟨(cat (l.drop w)).take (cut - (cat (l.take w)).length), ?_, ?_, ?_⟩
  · rw [htake]
    exact cr_cat (fun x hx => hB x (List.mem_of_mem_take hx)) (fun x hx => hl x (List.mem_of_mem_take hx)) _
  · by_cases hwl : w < l.length
    · have h3 := h2 hwl
      rw [List.take_succ_eq_append_getElem hwl, cat_snoc, List.length_append, crt_length] at h3
      have hd : cat (l.drop w) = crt l[w] ++ cat (l.drop (w + 1)) := by
        rw [List.drop_eq_getElem_cons hwl]; exact List.flatMap_cons
      rw [hd, List.take_append_of_le_length (by rw [crt_length]; omega)]
      exact gt_cut (hl _ (List.getElem_mem hwl)) _ (by omega)
    · have : l.drop w = [] := List.drop_of_length_le (by omega)
      rw [this]
      have e : cat [] = [] := rfl
      rw [e, List.take_nil, gt_nil]
  · rw [hsplit, List.length_append] at hc
    rw [List.length_take]
    omega
end Go.Proofs.YtkellgofdfpjpaaDoor
