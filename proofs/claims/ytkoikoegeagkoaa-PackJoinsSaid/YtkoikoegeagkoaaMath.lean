/-
  The plain mathematics of records: a field's bytes, what is amiss with it, and how bytes are read as fields; that reading undoes writing, and writing reading. No condition.
-/
import Derived.Laws.BytesArg
namespace Go.Proofs.Ytkoikoegeagkoaa

/-- A field: its kind, its number, its text. -/
structure Fld where
  k : Int
  n : Int
  s : ByteArray
/-- A text's bytes as numbers. -/
def sb (s : ByteArray) : List Int := s.data.toList.map fun c => (c.toNat : Int)
def big : Int := 4611686018427387904
/-- The greatest number of a kind. -/
def grt (k : Int) : Int := if k = 1 then 255 else if k = 2 then big else if k = 3 then 0 else if k = 4 then 1 else -1
/-- What is amiss with a field: 0 where nothing is. -/
def ams (f : Fld) : Int := if f.n < 0 ∨ grt f.k < f.n ∨ (f.s.size ≠ 0 ∧ f.k ≠ 3) then 21 else if 1024 < f.s.size then 22 else 0
def be8 (n : Int) : List Int := [n / 72057594037927936 % 256, n / 281474976710656 % 256, n / 1099511627776 % 256, n / 4294967296 % 256, n / 16777216 % 256, n / 65536 % 256, n / 256 % 256, n % 256]
/-- A field's bytes. -/
def byts (f : Fld) : List Int := if f.k = 2 then be8 f.n else if f.k = 3 then (f.s.size : Int) / 256 % 256 :: (f.s.size : Int) % 256 :: sb f.s else [f.n % 256]
/-- The error of the first field with which something is amiss. -/
def errL : List Fld → Int
  | [] => 0
  | f :: r => if ams f = 0 then errL r else ams f
def bytL (l : List Fld) : List Int := l.flatMap byts
/-- The number that bytes are, the highest first. -/
def num (l : List Int) : Int := l.foldl (fun v x => v * 256 + x) 0
def wd (k : Int) : Nat := if k = 2 then 8 else if k = 3 then 2 else 1
inductive Rd where
  | bad (e : Int)
  | good (f : Fld) (n : Nat)
/-- The field of a kind that bytes begin with. -/
def rd (k : Int) (b : List Int) : Rd :=
  if k < 1 ∨ 4 < k then .bad 21
  else if b.length < wd k then .bad 20
  else if (k = 2 ∧ big < num (b.take 8)) ∨ (k = 4 ∧ 1 < num (b.take 1)) then .bad 21
  else if k ≠ 3 then .good ⟨k, num (b.take (wd k)), ⟨#[]⟩⟩ (wd k)
  else if 1024 < num (b.take 2) then .bad 22
  else if b.length < 2 + (num (b.take 2)).toNat then .bad 20
  else .good ⟨3, 0, strOfNums ((b.drop 2).take (num (b.take 2)).toNat)⟩ (2 + (num (b.take 2)).toNat)
inductive Sm where
  | bad (e : Int)
  | good (l : List Fld) (n : Nat)
def Sm.put (l : List Fld) (n : Nat) : Sm → Sm
  | .bad e => .bad e
  | .good m k => .good (l ++ m) (n + k)
/-- The fields of these kinds that bytes begin with. -/
def sm : List Int → List Int → Sm
  | [], _ => .good [] 0
  | k :: ks, b => match rd k b with
    | .bad e => .bad e
    | .good f n => (sm ks (b.drop n)).put [f] n
def dc (ks b : List Int) : Sm := match sm ks b with
  | .bad e => .bad e
  | .good l n => if n < b.length then .bad 21 else .good l n
/-- Each is a byte. -/
def Bys (l : List Int) : Prop := ∀ z ∈ l, 0 ≤ z ∧ z ≤ 255

theorem bys_nil : Bys [] := fun _ h => by cases h
theorem bys_append {a b : List Int} (ha : Bys a) (hb : Bys b) : Bys (a ++ b) := fun z h => (List.mem_append.1 h).elim (ha z) (hb z)
theorem bys_take {a : List Int} (n : Nat) (ha : Bys a) : Bys (a.take n) := fun z h => ha z (List.mem_of_mem_take h)
theorem bys_drop {a : List Int} (n : Nat) (ha : Bys a) : Bys (a.drop n) := fun z h => ha z (List.mem_of_mem_drop h)
theorem sb_length (s : ByteArray) : (sb s).length = s.size := by
  unfold sb
  rw [List.length_map]; rfl
theorem sb_bys (s : ByteArray) : Bys (sb s) := fun z h => by
  obtain ⟨c, _, rfl⟩ := List.mem_map.1 h
  have : c.toNat < 256 := c.toNat_lt
  omega
theorem str_sb (s : ByteArray) : strOfNums (sb s) = s := by
  obtain ⟨⟨l⟩⟩ := s
  simp only [strOfNums, sb, List.map_map]
  congr 2
  conv => rhs; rw [← List.map_id l]
  apply List.map_congr_left
  intro c _
  simp
theorem sb_str {l : List Int} (h : Bys l) : sb (strOfNums l) = l := by
  simp only [strOfNums, sb, List.map_map]
  conv => rhs; rw [← List.map_id l]
  apply List.map_congr_left
  intro c hc
  have := h c hc
  simp only [Function.comp, id]
  have e : (UInt8.ofNat c.toNat).toNat = c.toNat % 256 := by simp
  rw [e]; omega
theorem size_zero {s : ByteArray} (h : s.size = 0) : s = ⟨#[]⟩ := by
  obtain ⟨⟨l⟩⟩ := s
  have : l = [] := List.eq_nil_of_length_eq_zero (by simpa [ByteArray.size] using h)
  rw [this]
theorem num_two (a b : Int) (r : List Int) : num ((a :: b :: r).take 2) = a * 256 + b := by simp [num]
theorem num_one (a : Int) (r : List Int) : num ((a :: r).take 1) = a := by simp [num]
theorem be8_num (n : Int) (h0 : 0 ≤ n) (h1 : n ≤ big) (r : List Int) : num ((be8 n ++ r).take 8) = n := by
  unfold big at h1
  simp only [be8, List.cons_append, List.nil_append, List.take_succ_cons, List.take_zero, num, List.foldl_cons, List.foldl_nil]
  omega
theorem be8_length (n : Int) : (be8 n).length = 8 := rfl
theorem be8_bys (n : Int) : Bys (be8 n) := fun z h => by
  simp only [be8, List.mem_cons, List.not_mem_nil, or_false] at h
  rcases h with rfl | rfl | rfl | rfl | rfl | rfl | rfl | rfl <;> omega
theorem byts_bys (f : Fld) : Bys (byts f) := by
  unfold byts
  split
  · exact be8_bys _
  · split
    · intro z h
      simp only [List.mem_cons] at h
      rcases h with rfl | rfl | h
      · omega
      · omega
      · exact sb_bys _ z h
    · intro z h
      simp only [List.mem_cons, List.not_mem_nil, or_false] at h
      subst h; omega
theorem bytL_bys (l : List Fld) : Bys (bytL l) := fun z h => by
  obtain ⟨f, _, hz⟩ := List.mem_flatMap.1 h
  exact byts_bys f z hz

/-- What nothing amiss means, kind by kind. -/
theorem ams_zero {f : Fld} (h : ams f = 0) : (f.k = 1 ∧ 0 ≤ f.n ∧ f.n ≤ 255 ∧ f.s = ⟨#[]⟩) ∨ (f.k = 2 ∧ 0 ≤ f.n ∧ f.n ≤ big ∧ f.s = ⟨#[]⟩) ∨ (f.k = 3 ∧ f.n = 0 ∧ f.s.size ≤ 1024) ∨ (f.k = 4 ∧ 0 ≤ f.n ∧ f.n ≤ 1 ∧ f.s = ⟨#[]⟩) := by
  unfold ams at h
  split at h
  · cases h
  rename_i h1
  split at h
  · cases h
  rename_i h2
  unfold grt at h1
  by_cases k1 : f.k = 1
  · rw [if_pos k1] at h1
    exact .inl ⟨k1, by omega, by omega, size_zero (by omega)⟩
  rw [if_neg k1] at h1
  by_cases k2 : f.k = 2
  · rw [if_pos k2] at h1
    exact .inr (.inl ⟨k2, by omega, by omega, size_zero (by omega)⟩)
  rw [if_neg k2] at h1
  by_cases k3 : f.k = 3
  · rw [if_pos k3] at h1
    exact .inr (.inr (.inl ⟨k3, by omega, by omega⟩))
  rw [if_neg k3] at h1
  by_cases k4 : f.k = 4
  · rw [if_pos k4] at h1
    exact .inr (.inr (.inr ⟨k4, by omega, by omega, size_zero (by omega)⟩))
  rw [if_neg k4] at h1
  omega
theorem ams_vals (f : Fld) : ams f = 0 ∨ ams f = 21 ∨ ams f = 22 := by
  unfold ams
  split
  · simp
  · split <;> simp
theorem size_empty : (⟨#[]⟩ : ByteArray).size = 0 := rfl
theorem rd_byts {f : Fld} (h : ams f = 0) (more : List Int) : rd f.k (byts f ++ more) = .good f (byts f).length := by
  obtain ⟨k, n, s⟩ := f
  rcases ams_zero h with ⟨hk, h0, h1, hs⟩ | ⟨hk, h0, h1, hs⟩ | ⟨hk, hn, hs⟩ | ⟨hk, h0, h1, hs⟩
  · simp only at hk h0 h1 hs
    subst hk hs
    have e : n % 256 = n := by omega
    simp [rd, byts, wd, e, num]
  · simp only at hk h0 h1 hs
    subst hk hs
    have e := be8_num n h0 h1 more
    have l : ¬ ((be8 n ++ more).length < 8) := by rw [List.length_append, be8_length]; omega
    have hb : ¬ big < n := by omega
    simp only [rd, byts, wd, if_true, e, if_neg l, be8_length]
    simp [hb]
  · simp only at hk hn hs
    subst hk hn
    have e : num (((s.size : Int) / 256 % 256 :: (s.size : Int) % 256 :: (sb s ++ more)).take 2) = (s.size : Int) := by rw [num_two]; omega
    have hl : (sb s).length = s.size := sb_length s
    have ht : (sb s ++ more).take s.size = sb s := by rw [← hl]; simp
    have hb : byts ⟨3, 0, s⟩ = (s.size : Int) / 256 % 256 :: (s.size : Int) % 256 :: sb s := rfl
    rw [hb, List.cons_append, List.cons_append]
    unfold rd
    rw [e]
    have n1 : ¬ (1024 < (s.size : Int)) := by omega
    have n2 : ¬ (((s.size : Int) / 256 % 256 :: (s.size : Int) % 256 :: (sb s ++ more)).length < wd 3) := by show ¬ (_ < 2); simp
    have n3 : ¬ (((s.size : Int) / 256 % 256 :: (s.size : Int) % 256 :: (sb s ++ more)).length < 2 + (s.size : Int).toNat) := by simp [hl]; omega
    rw [if_neg (by simp), if_neg n2, if_neg (by simp), if_neg (by simp), if_neg n1, if_neg n3]
    simp [hl, ht, str_sb]
    omega
  · simp only at hk h0 h1 hs
    subst hk hs
    have e : n % 256 = n := by omega
    have hb : ¬ 1 < n := by omega
    simp [rd, byts, wd, e, num, hb]
theorem byts_pos (f : Fld) : 0 < (byts f).length := by
  unfold byts
  split
  · simp [be8]
  · split <;> simp
theorem byts_len {f : Fld} (h : ams f = 0) : (byts f).length ≤ 1026 := by
  unfold byts
  split
  · simp [be8]
  · split
    · rename_i h3
      have : f.s.size ≤ 1024 := by
        rcases ams_zero h with ⟨hk, _⟩ | ⟨hk, _⟩ | ⟨_, _, hs⟩ | ⟨hk, _⟩
        · omega
        · omega
        · exact hs
        · omega
      simp [sb_length]; omega
    · simp
theorem errL_cons {f : Fld} {l : List Fld} (h : errL (f :: l) = 0) : ams f = 0 ∧ errL l = 0 := by
  unfold errL at h
  split at h
  · exact ⟨by assumption, h⟩
  · contradiction
theorem bytL_cons (f : Fld) (l : List Fld) : bytL (f :: l) = byts f ++ bytL l := rfl
theorem bytL_append (a b : List Fld) : bytL (a ++ b) = bytL a ++ bytL b := by simp [bytL]
theorem errL_append (a b : List Fld) : errL (a ++ b) = if errL a = 0 then errL b else errL a := by
  induction a with
  | nil => simp [errL]
  | cons f a ih =>
    simp only [List.cons_append, errL]
    split
    · exact ih
    · rfl
theorem bytL_len {l : List Fld} (h : errL l = 0) : (bytL l).length ≤ 1026 * l.length := by
  induction l with
  | nil => simp [bytL]
  | cons f l ih =>
    obtain ⟨h1, h2⟩ := errL_cons h
    have := ih h2
    have := byts_len h1
    rw [bytL_cons, List.length_append, List.length_cons]; omega
theorem sm_back {l : List Fld} (h : errL l = 0) (more : List Int) : sm (l.map (·.k)) (bytL l ++ more) = .good l (bytL l).length := by
  induction l with
  | nil => rfl
  | cons f l ih =>
    obtain ⟨h1, h2⟩ := errL_cons h
    simp only [List.map_cons, sm, bytL_cons, List.append_assoc, rd_byts h1]
    rw [List.drop_left, ih h2]
    simp [Sm.put]
theorem dc_back {l : List Fld} (h : errL l = 0) : dc (l.map (·.k)) (bytL l) = .good l (bytL l).length := by
  have := sm_back h []
  rw [List.append_nil] at this
  simp [dc, this]
theorem num_two_bd {l : List Int} (h : Bys l) (hl : 2 ≤ l.length) : ∃ a b r, l = a :: b :: r ∧ 0 ≤ a ∧ a ≤ 255 ∧ 0 ≤ b ∧ b ≤ 255 := by
  match l, hl with
  | a :: b :: r, _ =>
    have h1 := h a (by simp)
    have h2 := h b (by simp)
    exact ⟨a, b, r, rfl, h1.1, h1.2, h2.1, h2.2⟩
theorem num_one_bd {l : List Int} (h : Bys l) (hl : 1 ≤ l.length) : ∃ a r, l = a :: r ∧ 0 ≤ a ∧ a ≤ 255 := by
  match l, hl with
  | a :: r, _ =>
    have h1 := h a (by simp)
    exact ⟨a, r, rfl, h1.1, h1.2⟩
theorem num_eight_bd {l : List Int} (h : Bys l) (hl : 8 ≤ l.length) : be8 (num (l.take 8)) = l.take 8 ∧ 0 ≤ num (l.take 8) ∧ num (l.take 8) ≤ 18446744073709551615 := by
  match l, hl with
  | a :: b :: c :: d :: e :: f :: g :: i :: r, _ =>
    have h1 := h a (by simp)
    have h2 := h b (by simp)
    have h3 := h c (by simp)
    have h4 := h d (by simp)
    have h5 := h e (by simp)
    have h6 := h f (by simp)
    have h7 := h g (by simp)
    have h8 := h i (by simp)
    simp only [List.take_succ_cons, List.take_zero, num, List.foldl_cons, List.foldl_nil, be8]
    refine ⟨?_, by omega, by omega⟩
    simp only [List.cons.injEq, and_true]
    refine ⟨?_, ?_, ?_, ?_, ?_, ?_, ?_, ?_⟩ <;> omega
/-- What was read is a field that is written so. -/
theorem rd_good {k : Int} {b : List Int} {f : Fld} {n : Nat} (hb : Bys b) (h : rd k b = .good f n) : n ≤ b.length ∧ f.k = k ∧ ams f = 0 ∧ byts f = b.take n ∧ 0 < n := by
  unfold rd at h
  split at h
  · cases h
  rename_i h1
  split at h
  · cases h
  rename_i h2
  split at h
  · cases h
  rename_i h3
  split at h
  · rename_i h4
    injection h with e1 e2
    subst e1 e2
    by_cases k2 : k = 2
    · subst k2
      have hw : wd 2 = 8 := rfl
      rw [hw] at h2 ⊢
      obtain ⟨g1, g2, g3⟩ := num_eight_bd hb (by omega)
      refine ⟨by omega, rfl, ?_, ?_, by omega⟩
      · have : ¬ big < num (b.take 8) := fun hh => h3 (.inl ⟨rfl, hh⟩)
        simp [ams, grt, size_empty]
        omega
      · simp only [byts, if_true]; exact g1
    · have hw : wd k = 1 := by unfold wd; rw [if_neg k2, if_neg h4]
      rw [hw] at h2 ⊢
      obtain ⟨a, r, rfl, ha0, ha1⟩ := num_one_bd hb (by omega)
      rw [num_one] at h3 ⊢
      refine ⟨by simp, rfl, ?_, ?_, by omega⟩
      · have hk : k = 1 ∨ k = 4 := by omega
        rcases hk with rfl | rfl
        · simp [ams, grt, size_empty]; omega
        · have : ¬ 1 < a := fun hh => h3 (.inr ⟨rfl, hh⟩)
          simp [ams, grt, size_empty]; omega
      · simp only [byts, if_neg k2, if_neg h4]
        have : a % 256 = a := by omega
        rw [this]; rfl
  · rename_i h4
    have hk : k = 3 := by omega
    subst hk
    have hw : wd 3 = 2 := rfl
    rw [hw] at h2
    split at h
    · cases h
    rename_i h5
    split at h
    · cases h
    rename_i h6
    injection h with e1 e2
    subst e1 e2
    obtain ⟨a, c, r, rfl, ha0, ha1, hc0, hc1⟩ := num_two_bd hb (by omega)
    rw [num_two] at h5 h6 ⊢
    have hr : Bys r := fun z hz => hb z (by simp [hz])
    have hlen : (a * 256 + c).toNat ≤ r.length := by simp at h6; omega
    have hsz : (strOfNums ((a :: c :: r).drop 2 |>.take (a * 256 + c).toNat)).size = (a * 256 + c).toNat := by
      rw [strOfNums_size, List.length_take]; simp; omega
    refine ⟨by simp at h6 ⊢; omega, rfl, ?_, ?_, by omega⟩
    · simp only [ams, grt, hsz]
      simp
      omega
    · simp only [byts, hsz]
      have e1 : ((a * 256 + c).toNat : Int) / 256 % 256 = a := by omega
      have e2 : ((a * 256 + c).toNat : Int) % 256 = c := by omega
      rw [e1, e2]
      have e3 : 2 + (a * 256 + c).toNat = (a * 256 + c).toNat + 1 + 1 := by omega
      rw [e3]
      simp [sb_str (bys_take _ hr)]
theorem sm_good {ks b : List Int} {l : List Fld} {n : Nat} (hb : Bys b) (h : sm ks b = .good l n) : n ≤ b.length ∧ errL l = 0 ∧ bytL l = b.take n ∧ l.length = ks.length := by
  induction ks generalizing b l n with
  | nil =>
    simp only [sm] at h
    injection h with e1 e2
    subst e1 e2
    simp [errL, bytL]
  | cons k ks ih =>
    simp only [sm] at h
    split at h
    · cases h
    · rename_i f m hr
      obtain ⟨g1, g2, g3, g4, g5⟩ := rd_good hb hr
      cases hs : sm ks (b.drop m) with
      | bad e => rw [hs] at h; cases h
      | good l' n' =>
        rw [hs] at h
        simp only [Sm.put] at h
        injection h with e1 e2
        subst e1 e2
        obtain ⟨i1, i2, i3, i4⟩ := ih (bys_drop m hb) hs
        rw [List.length_drop] at i1
        refine ⟨by omega, ?_, ?_, by simp [i4]⟩
        · simp [errL, g3, i2]
        · simp only [List.cons_append, List.nil_append, bytL_cons, g4, i3]
          rw [List.take_add]
theorem dc_good {ks b : List Int} {l : List Fld} {n : Nat} (hb : Bys b) (h : dc ks b = .good l n) : errL l = 0 ∧ bytL l = b ∧ l.length = ks.length := by
  unfold dc at h
  split at h
  · cases h
  · rename_i l' n' hs
    obtain ⟨i1, i2, i3, i4⟩ := sm_good hb hs
    split at h
    · cases h
    · injection h with e1 e2
      subst e1 e2
      refine ⟨i2, ?_, i4⟩
      rw [i3, List.take_of_length_le (by omega)]
theorem rd_cut {f : Fld} (h : ams f = 0) {cut : Nat} (hc : cut < (byts f).length) : rd f.k ((byts f).take cut) = .bad 20 := by
  obtain ⟨k, n, s⟩ := f
  rcases ams_zero h with ⟨hk, h0, h1, hs⟩ | ⟨hk, h0, h1, hs⟩ | ⟨hk, hn, hs⟩ | ⟨hk, h0, h1, hs⟩
  · simp only at hk h0 h1 hs
    subst hk hs
    simp only [byts] at hc ⊢
    simp at hc
    subst hc
    simp [rd, wd]
  · simp only at hk h0 h1 hs
    subst hk hs
    simp only [byts, if_true, be8_length] at hc ⊢
    have l : (List.take cut (be8 n)).length < wd 2 := by rw [List.length_take, be8_length]; show _ < 8; omega
    unfold rd
    rw [if_neg (by simp), if_pos l]
  · simp only at hk hn hs
    subst hk hn
    have hb : byts ⟨3, 0, s⟩ = (s.size : Int) / 256 % 256 :: (s.size : Int) % 256 :: sb s := rfl
    rw [hb] at hc ⊢
    by_cases h2 : cut < 2
    · have l : (List.take cut ((s.size : Int) / 256 % 256 :: (s.size : Int) % 256 :: sb s)).length < wd 3 := by rw [List.length_take]; show _ < 2; omega
      unfold rd
      rw [if_neg (by simp), if_pos l]
    · obtain ⟨m, rfl⟩ : ∃ m, cut = m + 1 + 1 := ⟨cut - 2, by omega⟩
      have e : num (((s.size : Int) / 256 % 256 :: (s.size : Int) % 256 :: (sb s).take m).take 2) = (s.size : Int) := by rw [num_two]; omega
      have hl : (sb s).length = s.size := sb_length s
      simp [hl] at hc
      simp only [List.take_succ_cons]
      unfold rd
      rw [e]
      have n1 : ¬ (1024 < (s.size : Int)) := by omega
      have n2 : ¬ (((s.size : Int) / 256 % 256 :: (s.size : Int) % 256 :: (sb s).take m).length < wd 3) := by show ¬ (_ < 2); simp
      have n3 : ((s.size : Int) / 256 % 256 :: (s.size : Int) % 256 :: (sb s).take m).length < 2 + (s.size : Int).toNat := by simp [hl]; omega
      rw [if_neg (by simp), if_neg n2, if_neg (by simp), if_neg (by simp), if_neg n1, if_pos n3]
  · simp only at hk h0 h1 hs
    subst hk hs
    simp only [byts] at hc ⊢
    simp at hc
    subst hc
    simp [rd, wd]
theorem sm_cut {l : List Fld} (h : errL l = 0) {cut : Nat} (hc : cut < (bytL l).length) : sm (l.map (·.k)) ((bytL l).take cut) = .bad 20 := by
  induction l generalizing cut with
  | nil => simp [bytL] at hc
  | cons f l ih =>
    obtain ⟨h1, h2⟩ := errL_cons h
    rw [bytL_cons, List.length_append] at hc
    simp only [List.map_cons, sm, bytL_cons]
    by_cases hlt : cut < (byts f).length
    · rw [List.take_append_of_le_length (by omega), rd_cut h1 hlt]
    · have e : (byts f ++ bytL l).take cut = byts f ++ (bytL l).take (cut - (byts f).length) := by
        rw [List.take_append, List.take_of_length_le (by omega)]
      rw [e, rd_byts h1]
      simp only [List.drop_left]
      rw [ih h2 (by omega)]
      rfl
theorem dc_cut {l : List Fld} (h : errL l = 0) {cut : Nat} (hc : cut < (bytL l).length) : dc (l.map (·.k)) ((bytL l).take cut) = .bad 20 := by
  simp [dc, sm_cut h hc]
end Go.Proofs.Ytkoikoegeagkoaa
