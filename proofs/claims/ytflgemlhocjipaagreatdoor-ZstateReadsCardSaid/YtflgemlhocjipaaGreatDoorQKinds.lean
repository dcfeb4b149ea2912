/-
  The plain mathematics of records: a field's bytes, what is amiss with it, and how bytes are read as fields; that reading undoes writing, and writing reading. No condition.
  Words for memory: a slice that reads as numbers, a slice of fields that reads as fields; that both are kept where older memory is. No condition.
  What pack.lay returns of a row of bytes of the call's own, a number, and places of bits: the row with those bytes of the number behind it. Condition: the row and the new bytes take together no more than 2^47 bytes.
  What pack.write returns of a row of bytes of the call's own and a field: the row with that field's bytes behind it. Condition: the row and 1026 bytes take together no more than 2^47 bytes.
  What pack.greatest and pack.amiss return: the greatest number of a kind, and what is amiss with a field. No condition.
  What pack.Encode returns of a slice of fields: their bytes, or the error of the first field with which something is amiss. Condition: the slice holds no more than 2^32 fields.
  What pack.Kinds returns of a slice of fields: a new slice of their kinds. Condition: the slice takes no more than 2^42 fields.
-/
import Derived.Laws.BytesArg
import Derived.Test.YtflgemlhocjipaaGreatDoorRows
import Derived.WalkKit
import Derived.ProofKit
import Derived.OpenShut
import Derived.Lib.Hide
import Derived.Outline
import Derived.Below
import Derived.OwnWalk
import Derived.Deep.LoopGhost
import Derived.Deep.Draws
import Derived.RegionTactic
import Derived.Maps.AppendAt
import Derived.ScopeJumps
import Derived.Deep.RegionHeld3
import Derived.Lib.AppendStr
import Derived.BigQuiet
import Derived.Deep.QuietTactic
namespace Go.Proofs.YtflgemlhocjipaaGreatDoor.Pq
set_option maxRecDepth 100000

/-- A field: its kind, its number, its text. -/
structure Fld where
  k : Int
  n : Int
  s : ByteArray
/-- A text's bytes as numbers. -/
def sb (s : ByteArray) : List Int := s.data.toList.map fun c => (c.toNat : Int)
def big : Int := 4611686018427387904
/-- The greatest number of a kind. -/
def grt (k : Int) : Int := if k = 1 then 255 else if k = 2 then big else if k = 3 then 0 else if k = 4 then 1 else -1
/-- What is amiss with a field: 0 where nothing is. -/
def ams (f : Fld) : Int := if f.n < 0 ∨ grt f.k < f.n ∨ (f.s.size ≠ 0 ∧ f.k ≠ 3) then 21 else if 1024 < f.s.size then 22 else 0
def be8 (n : Int) : List Int := [n / 72057594037927936 % 256, n / 281474976710656 % 256, n / 1099511627776 % 256, n / 4294967296 % 256, n / 16777216 % 256, n / 65536 % 256, n / 256 % 256, n % 256]
/-- A field's bytes. -/
def byts (f : Fld) : List Int := if f.k = 2 then be8 f.n else if f.k = 3 then (f.s.size : Int) / 256 % 256 :: (f.s.size : Int) % 256 :: sb f.s else [f.n % 256]
/-- The error of the first field with which something is amiss. -/
def errL : List Fld → Int
  | [] => 0
  | f :: r => if ams f = 0 then errL r else ams f
def bytL (l : List Fld) : List Int := l.flatMap byts
/-- The number that bytes are, the highest first. -/
def num (l : List Int) : Int := l.foldl (fun v x => v * 256 + x) 0
def wd (k : Int) : Nat := if k = 2 then 8 else if k = 3 then 2 else 1
inductive Rd where
  | bad (e : Int)
  | good (f : Fld) (n : Nat)
/-- The field of a kind that bytes begin with. -/
def rd (k : Int) (b : List Int) : Rd :=
  if k < 1 ∨ 4 < k then .bad 21
  else if b.length < wd k then .bad 20
  else if (k = 2 ∧ big < num (b.take 8)) ∨ (k = 4 ∧ 1 < num (b.take 1)) then .bad 21
  else if k ≠ 3 then .good ⟨k, num (b.take (wd k)), ⟨#[]⟩⟩ (wd k)
  else if 1024 < num (b.take 2) then .bad 22
  else if b.length < 2 + (num (b.take 2)).toNat then .bad 20
  else .good ⟨3, 0, strOfNums ((b.drop 2).take (num (b.take 2)).toNat)⟩ (2 + (num (b.take 2)).toNat)
inductive Sm where
  | bad (e : Int)
  | good (l : List Fld) (n : Nat)
def Sm.put (l : List Fld) (n : Nat) : Sm → Sm
  | .bad e => .bad e
  | .good m k => .good (l ++ m) (n + k)
/-- The fields of these kinds that bytes begin with. -/
def sm : List Int → List Int → Sm
  | [], _ => .good [] 0
  | k :: ks, b => match rd k b with
    | .bad e => .bad e
    | .good f n => (sm ks (b.drop n)).put [f] n
def dc (ks b : List Int) : Sm := match sm ks b with
  | .bad e => .bad e
  | .good l n => if n < b.length then .bad 21 else .good l n
/-- Each is a byte. -/
def Bys (l : List Int) : Prop := ∀ z ∈ l, 0 ≤ z ∧ z ≤ 255

theorem bys_take {a : List Int} (n : Nat) (ha : Bys a) : Bys (a.take n) := fun z h => ha z (List.mem_of_mem_take h)
theorem bys_drop {a : List Int} (n : Nat) (ha : Bys a) : Bys (a.drop n) := fun z h => ha z (List.mem_of_mem_drop h)
theorem sb_length (s : ByteArray) : (sb s).length = s.size := by
  unfold sb
  rw [List.length_map]; rfl
theorem sb_bys (s : ByteArray) : Bys (sb s) := fun z h => by
  obtain ⟨c, _, rfl⟩ := List.mem_map.1 h
  have : c.toNat < 256 := c.toNat_lt
  omega
theorem str_sb (s : ByteArray) : strOfNums (sb s) = s := by
  obtain ⟨⟨l⟩⟩ := s
  simp only [strOfNums, sb, List.map_map]
  congr 2
  conv => rhs; rw [← List.map_id l]
  apply List.map_congr_left
  intro c _
  simp
theorem sb_str {l : List Int} (h : Bys l) : sb (strOfNums l) = l := by
  simp only [strOfNums, sb, List.map_map]
  conv => rhs; rw [← List.map_id l]
  apply List.map_congr_left
  intro c hc
  have := h c hc
  simp only [Function.comp, id]
  have e : (UInt8.ofNat c.toNat).toNat = c.toNat % 256 := by simp
  rw [e]; omega
theorem size_zero {s : ByteArray} (h : s.size = 0) : s = ⟨#[]⟩ := by
  obtain ⟨⟨l⟩⟩ := s
  have : l = [] := List.eq_nil_of_length_eq_zero (by simpa [ByteArray.size] using h)
  rw [this]
theorem num_two (a b : Int) (r : List Int) : num ((a :: b :: r).take 2) = a * 256 + b := by simp [num]
theorem num_one (a : Int) (r : List Int) : num ((a :: r).take 1) = a := by simp [num]
theorem be8_num (n : Int) (h0 : 0 ≤ n) (h1 : n ≤ big) (r : List Int) : num ((be8 n ++ r).take 8) = n := by
  unfold big at h1
  simp only [be8, List.cons_append, List.nil_append, List.take_succ_cons, List.take_zero, num, List.foldl_cons, List.foldl_nil]
  omega
theorem be8_length (n : Int) : (be8 n).length = 8 := rfl
theorem be8_bys (n : Int) : Bys (be8 n) := fun z h => by
  simp only [be8, List.mem_cons, List.not_mem_nil, or_false] at h
  rcases h with rfl | rfl | rfl | rfl | rfl | rfl | rfl | rfl <;> omega
theorem byts_bys (f : Fld) : Bys (byts f) := by
  unfold byts
  split
  · exact be8_bys _
  · split
    · intro z h
      simp only [List.mem_cons] at h
      rcases h with rfl | rfl | h
      · omega
      · omega
      · exact sb_bys _ z h
    · intro z h
      simp only [List.mem_cons, List.not_mem_nil, or_false] at h
      subst h; omega
theorem bytL_bys (l : List Fld) : Bys (bytL l) := fun z h => by
  obtain ⟨f, _, hz⟩ := List.mem_flatMap.1 h
  exact byts_bys f z hz

/-- What nothing amiss means, kind by kind. -/
theorem ams_zero {f : Fld} (h : ams f = 0) : (f.k = 1 ∧ 0 ≤ f.n ∧ f.n ≤ 255 ∧ f.s = ⟨#[]⟩) ∨ (f.k = 2 ∧ 0 ≤ f.n ∧ f.n ≤ big ∧ f.s = ⟨#[]⟩) ∨ (f.k = 3 ∧ f.n = 0 ∧ f.s.size ≤ 1024) ∨ (f.k = 4 ∧ 0 ≤ f.n ∧ f.n ≤ 1 ∧ f.s = ⟨#[]⟩) := by
  unfold ams at h
  split at h
  · cases h
  rename_i h1
  split at h
  · cases h
  rename_i h2
  unfold grt at h1
  by_cases k1 : f.k = 1
  · rw [if_pos k1] at h1
    exact .inl ⟨k1, by omega, by omega, size_zero (by omega)⟩
  rw [if_neg k1] at h1
  by_cases k2 : f.k = 2
  · rw [if_pos k2] at h1
    exact .inr (.inl ⟨k2, by omega, by omega, size_zero (by omega)⟩)
  rw [if_neg k2] at h1
  by_cases k3 : f.k = 3
  · rw [if_pos k3] at h1
    exact .inr (.inr (.inl ⟨k3, by omega, by omega⟩))
  rw [if_neg k3] at h1
  by_cases k4 : f.k = 4
  · rw [if_pos k4] at h1
    exact .inr (.inr (.inr ⟨k4, by omega, by omega, size_zero (by omega)⟩))
  rw [if_neg k4] at h1
  omega
theorem size_empty : (⟨#[]⟩ : ByteArray).size = 0 := rfl
theorem rd_byts {f : Fld} (h : ams f = 0) (more : List Int) : rd f.k (byts f ++ more) = .good f (byts f).length := by
  obtain ⟨k, n, s⟩ := f
  rcases ams_zero h with ⟨hk, h0, h1, hs⟩ | ⟨hk, h0, h1, hs⟩ | ⟨hk, hn, hs⟩ | ⟨hk, h0, h1, hs⟩
  · simp only at hk h0 h1 hs
    subst hk hs
    have e : n % 256 = n := by omega
    simp [rd, byts, wd, e, num]
  · simp only at hk h0 h1 hs
    subst hk hs
    have e := be8_num n h0 h1 more
    have l : ¬ ((be8 n ++ more).length < 8) := by rw [List.length_append, be8_length]; omega
    have hb : ¬ big < n := by omega
    simp only [rd, byts, wd, if_true, e, if_neg l, be8_length]
    simp [hb]
  · simp only at hk hn hs
    subst hk hn
    have e : num (((s.size : Int) / 256 % 256 :: (s.size : Int) % 256 :: (sb s ++ more)).take 2) = (s.size : Int) := by rw [num_two]; omega
    have hl : (sb s).length = s.size := sb_length s
    have ht : (sb s ++ more).take s.size = sb s := by rw [← hl]; simp
    have hb : byts ⟨3, 0, s⟩ = (s.size : Int) / 256 % 256 :: (s.size : Int) % 256 :: sb s := rfl
    rw [hb, List.cons_append, List.cons_append]
    unfold rd
    rw [e]
    have n1 : ¬ (1024 < (s.size : Int)) := by omega
    have n2 : ¬ (((s.size : Int) / 256 % 256 :: (s.size : Int) % 256 :: (sb s ++ more)).length < wd 3) := by show ¬ (_ < 2); simp
    have n3 : ¬ (((s.size : Int) / 256 % 256 :: (s.size : Int) % 256 :: (sb s ++ more)).length < 2 + (s.size : Int).toNat) := by simp [hl]; omega
    rw [if_neg (by simp), if_neg n2, if_neg (by simp), if_neg (by simp), if_neg n1, if_neg n3]
    simp [hl, ht, str_sb]
    omega
  · simp only at hk h0 h1 hs
    subst hk hs
    have e : n % 256 = n := by omega
    have hb : ¬ 1 < n := by omega
    simp [rd, byts, wd, e, num, hb]
theorem byts_len {f : Fld} (h : ams f = 0) : (byts f).length ≤ 1026 := by
  unfold byts
  split
  · simp [be8]
  · split
    · rename_i h3
      have : f.s.size ≤ 1024 := by
        rcases ams_zero h with ⟨hk, _⟩ | ⟨hk, _⟩ | ⟨_, _, hs⟩ | ⟨hk, _⟩
        · omega
        · omega
        · exact hs
        · omega
      simp [sb_length]; omega
    · simp
theorem errL_cons {f : Fld} {l : List Fld} (h : errL (f :: l) = 0) : ams f = 0 ∧ errL l = 0 := by
  unfold errL at h
  split at h
  · exact ⟨by assumption, h⟩
  · contradiction
theorem bytL_cons (f : Fld) (l : List Fld) : bytL (f :: l) = byts f ++ bytL l := rfl
theorem bytL_append (a b : List Fld) : bytL (a ++ b) = bytL a ++ bytL b := by simp [bytL]
theorem errL_append (a b : List Fld) : errL (a ++ b) = if errL a = 0 then errL b else errL a := by
  induction a with
  | nil => simp [errL]
  | cons f a ih =>
    simp only [List.cons_append, errL]
    split
    · exact ih
    · rfl
theorem bytL_len {l : List Fld} (h : errL l = 0) : (bytL l).length ≤ 1026 * l.length := by
  induction l with
  | nil => simp [bytL]
  | cons f l ih =>
    obtain ⟨h1, h2⟩ := errL_cons h
    have := ih h2
    have := byts_len h1
    rw [bytL_cons, List.length_append, List.length_cons]; omega
theorem sm_back {l : List Fld} (h : errL l = 0) (more : List Int) : sm (l.map (·.k)) (bytL l ++ more) = .good l (bytL l).length := by
  induction l with
  | nil => rfl
  | cons f l ih =>
    obtain ⟨h1, h2⟩ := errL_cons h
    simp only [List.map_cons, sm, bytL_cons, List.append_assoc, rd_byts h1]
    rw [List.drop_left, ih h2]
    simp [Sm.put]
theorem dc_back {l : List Fld} (h : errL l = 0) : dc (l.map (·.k)) (bytL l) = .good l (bytL l).length := by
  have := sm_back h []
  rw [List.append_nil] at this
  simp [dc, this]
theorem num_two_bd {l : List Int} (h : Bys l) (hl : 2 ≤ l.length) : ∃ a b r, l = a :: b :: r ∧ 0 ≤ a ∧ a ≤ 255 ∧ 0 ≤ b ∧ b ≤ 255 := by
  match l, hl with
  | a :: b :: r, _ =>
    have h1 := h a (by simp)
    have h2 := h b (by simp)
    exact ⟨a, b, r, rfl, h1.1, h1.2, h2.1, h2.2⟩
theorem num_one_bd {l : List Int} (h : Bys l) (hl : 1 ≤ l.length) : ∃ a r, l = a :: r ∧ 0 ≤ a ∧ a ≤ 255 := by
  match l, hl with
  | a :: r, _ =>
    have h1 := h a (by simp)
    exact ⟨a, r, rfl, h1.1, h1.2⟩
theorem num_eight_bd {l : List Int} (h : Bys l) (hl : 8 ≤ l.length) : be8 (num (l.take 8)) = l.take 8 ∧ 0 ≤ num (l.take 8) ∧ num (l.take 8) ≤ 18446744073709551615 := by
  match l, hl with
  | a :: b :: c :: d :: e :: f :: g :: i :: r, _ =>
    have h1 := h a (by simp)
    have h2 := h b (by simp)
    have h3 := h c (by simp)
    have h4 := h d (by simp)
    have h5 := h e (by simp)
    have h6 := h f (by simp)
    have h7 := h g (by simp)
    have h8 := h i (by simp)
    simp only [List.take_succ_cons, List.take_zero, num, List.foldl_cons, List.foldl_nil, be8]
    refine ⟨?_, by omega, by omega⟩
    simp only [List.cons.injEq, and_true]
    refine ⟨?_, ?_, ?_, ?_, ?_, ?_, ?_, ?_⟩ <;> omega
/-- What was read is a field that is written so. -/
theorem rd_good {k : Int} {b : List Int} {f : Fld} {n : Nat} (hb : Bys b) (h : rd k b = .good f n) : n ≤ b.length ∧ f.k = k ∧ ams f = 0 ∧ byts f = b.take n ∧ 0 < n := by
  unfold rd at h
  split at h
  · cases h
  rename_i h1
  split at h
  · cases h
  rename_i h2
  split at h
  · cases h
  rename_i h3
  split at h
  · rename_i h4
    injection h with e1 e2
    subst e1 e2
    by_cases k2 : k = 2
    · subst k2
      have hw : wd 2 = 8 := rfl
      rw [hw] at h2 ⊢
      obtain ⟨g1, g2, g3⟩ := num_eight_bd hb (by omega)
      refine ⟨by omega, rfl, ?_, ?_, by omega⟩
      · have : ¬ big < num (b.take 8) := fun hh => h3 (.inl ⟨rfl, hh⟩)
        simp [ams, grt, size_empty]
        omega
      · simp only [byts, if_true]; exact g1
    · have hw : wd k = 1 := by unfold wd; rw [if_neg k2, if_neg h4]
      rw [hw] at h2 ⊢
      obtain ⟨a, r, rfl, ha0, ha1⟩ := num_one_bd hb (by omega)
      rw [num_one] at h3 ⊢
      refine ⟨by simp, rfl, ?_, ?_, by omega⟩
      · have hk : k = 1 ∨ k = 4 := by omega
        rcases hk with rfl | rfl
        · simp [ams, grt, size_empty]; omega
        · have : ¬ 1 < a := fun hh => h3 (.inr ⟨rfl, hh⟩)
          simp [ams, grt, size_empty]; omega
      · simp only [byts, if_neg k2, if_neg h4]
        have : a % 256 = a := by omega
        rw [this]; rfl
  · rename_i h4
    have hk : k = 3 := by omega
    subst hk
    have hw : wd 3 = 2 := rfl
    rw [hw] at h2
    split at h
    · cases h
    rename_i h5
    split at h
    · cases h
    rename_i h6
    injection h with e1 e2
    subst e1 e2
    obtain ⟨a, c, r, rfl, ha0, ha1, hc0, hc1⟩ := num_two_bd hb (by omega)
    rw [num_two] at h5 h6 ⊢
    have hr : Bys r := fun z hz => hb z (by simp [hz])
    have hlen : (a * 256 + c).toNat ≤ r.length := by simp at h6; omega
    have hsz : (strOfNums ((a :: c :: r).drop 2 |>.take (a * 256 + c).toNat)).size = (a * 256 + c).toNat := by
      rw [strOfNums_size, List.length_take]; simp; omega
    refine ⟨by simp at h6 ⊢; omega, rfl, ?_, ?_, by omega⟩
    · simp only [ams, grt, hsz]
      simp
      omega
    · simp only [byts, hsz]
      have e1 : ((a * 256 + c).toNat : Int) / 256 % 256 = a := by omega
      have e2 : ((a * 256 + c).toNat : Int) % 256 = c := by omega
      rw [e1, e2]
      have e3 : 2 + (a * 256 + c).toNat = (a * 256 + c).toNat + 1 + 1 := by omega
      rw [e3]
      simp [sb_str (bys_take _ hr)]
theorem sm_good {ks b : List Int} {l : List Fld} {n : Nat} (hb : Bys b) (h : sm ks b = .good l n) : n ≤ b.length ∧ errL l = 0 ∧ bytL l = b.take n ∧ l.length = ks.length := by
  induction ks generalizing b l n with
  | nil =>
    simp only [sm] at h
    injection h with e1 e2
    subst e1 e2
    simp [errL, bytL]
  | cons k ks ih =>
    simp only [sm] at h
    split at h
    · cases h
    · rename_i f m hr
      obtain ⟨g1, g2, g3, g4, g5⟩ := rd_good hb hr
      cases hs : sm ks (b.drop m) with
      | bad e => rw [hs] at h; cases h
      | good l' n' =>
        rw [hs] at h
        simp only [Sm.put] at h
        injection h with e1 e2
        subst e1 e2
        obtain ⟨i1, i2, i3, i4⟩ := ih (bys_drop m hb) hs
        rw [List.length_drop] at i1
        refine ⟨by omega, ?_, ?_, by simp [i4]⟩
        · simp [errL, g3, i2]
        · simp only [List.cons_append, List.nil_append, bytL_cons, g4, i3]
          rw [List.take_add]
theorem dc_good {ks b : List Int} {l : List Fld} {n : Nat} (hb : Bys b) (h : dc ks b = .good l n) : errL l = 0 ∧ bytL l = b ∧ l.length = ks.length := by
  unfold dc at h
  split at h
  · cases h
  · rename_i l' n' hs
    obtain ⟨i1, i2, i3, i4⟩ := sm_good hb hs
    split at h
    · cases h
    · injection h with e1 e2
      subst e1 e2
      refine ⟨i2, ?_, i4⟩
      rw [i3, List.take_of_length_le (by omega)]
end Go.Proofs.YtflgemlhocjipaaGreatDoor.Pq
namespace Go.Proofs.YtflgemlhocjipaaGreatDoor.Pq
set_option maxRecDepth 100000
open Go.ChangeShapes Go.WideShapes Go.ChangeAt Go.RowKit

/-- Memory holds, from an address on, these numbers of a kind. -/
def Reads (K : IntKind) (w : World) (ad : Option Addr) (len : Nat) (zs : List Int) : Prop :=
  zs.length = len ∧ (0 < len → ∃ b off, ad = some ⟨b, off, none⟩ ∧ ∀ i, i < len → w.cell? ⟨b, off + i, none⟩ = some (.int K (zs.getD i 0)))
def z0 : Fld := ⟨0, 0, ⟨#[]⟩⟩
/-- Memory holds, from an address on, these fields, three cells each. -/
def FReads (w : World) (ad : Option Addr) (len : Nat) (fs : List Fld) : Prop :=
  fs.length = len ∧ (0 < len → ∃ b off, ad = some ⟨b, off, none⟩ ∧ ∀ i, i < len →
    w.cell? ⟨b, off + i * 3, none⟩ = some (.int .i64 (fs.getD i z0).k) ∧ w.cell? ⟨b, off + i * 3 + 1, none⟩ = some (.int .i64 (fs.getD i z0).n) ∧ w.cell? ⟨b, off + i * 3 + 2, none⟩ = some (.string (fs.getD i z0).s))

theorem cell_lt {w : World} {b : Nat} {o : Nat} {v : Value} (h : w.cell? ⟨b, o, none⟩ = some v) : b < w.heap.size := by
  rcases Nat.lt_or_ge b w.heap.size with h' | h'
  · exact h'
  · simp [World.cell?, Array.getElem?_eq_none h'] at h
theorem Reads.kept {K : IntKind} {w w' : World} {ad : Option Addr} {len : Nat} {zs : List Int} (hR : Reads K w ad len zs) (hb : Below w.heap.size w w') : Reads K w' ad len zs := by
  refine ⟨hR.1, fun hl => ?_⟩
  obtain ⟨b, off, e, hc⟩ := hR.2 hl
  exact ⟨b, off, e, fun i hi => (hb.cell (p := ⟨b, off + i, none⟩) (cell_lt (hc i hi))).trans (hc i hi)⟩
theorem FReads.kept {w w' : World} {ad : Option Addr} {len : Nat} {fs : List Fld} (hR : FReads w ad len fs) (hb : Below w.heap.size w w') : FReads w' ad len fs := by
  refine ⟨hR.1, fun hl => ?_⟩
  obtain ⟨b, off, e, hc⟩ := hR.2 hl
  refine ⟨b, off, e, fun i hi => ?_⟩
  obtain ⟨h1, h2, h3⟩ := hc i hi
  exact ⟨(hb.cell (p := ⟨b, off + i * 3, none⟩) (cell_lt h1)).trans h1, (hb.cell (p := ⟨b, off + i * 3 + 1, none⟩) (cell_lt h1)).trans h2, (hb.cell (p := ⟨b, off + i * 3 + 2, none⟩) (cell_lt h1)).trans h3⟩
end Go.Proofs.YtflgemlhocjipaaGreatDoor.Pq
namespace Go.Proofs.YtflgemlhocjipaaGreatDoor.Pq
set_option maxRecDepth 100000
open Go.ChangeShapes Go.WideShapes Go.ChangeAt Go.RowKit

theorem info5 : (Tryz.prog.info? 5).map (fun i => (i.zero, i.size, i.bytes)) = some (some (.int .u8 0), 1, 1) := by kernel_rfl
/-- Block g is just these cells, none frozen. -/
def Whole1 (w : World) (g : Nat) (t : TypeId) (cs : Array Value) : Prop := w.heap[g]? = some (.cells cs t (0, 0))
theorem Whole1.cell {w : World} {g : Nat} {t : TypeId} {cs : Array Value} (h : Whole1 w g t cs) (i : Nat) : w.cell? ⟨g, i, none⟩ = cs[i]? := cell_of_row w g i cs t (0, 0) h
theorem Whole1.lt {w : World} {g : Nat} {t : TypeId} {cs : Array Value} (h : Whole1 w g t cs) : g < w.heap.size := (Array.getElem?_eq_some_iff.1 h).1
theorem Whole1.ne_own {w : World} {g base e size n : Nat} {t : TypeId} {cs : Array Value} {v : Value} {xs : List Value} (h : Whole1 w g t cs) (ho : w.ownsRow base e size v n xs) (hne : e ≠ t) : some g ≠ v.ownBlock := by
  rcases ho.2 with ⟨rfl, _⟩ | ⟨g', cap, cur, rfl, _, hh, _⟩
  · simp [Value.ownBlock]
  · intro he
    simp only [Value.ownBlock, Option.some.injEq] at he
    subst he
    unfold Whole1 at h
    rw [h] at hh
    injection hh with hh
    injection hh with _ ht
    exact hne ht.symm
theorem Whole1.alloc {w : World} {g : Nat} {t : TypeId} {cs : Array Value} (h : Whole1 w g t cs) (o : Obj) : Whole1 (w.alloc o) g t cs := (Below.heap_alloc w o g h.lt).trans h
theorem Whole1.grown {w w' : World} {g : Nat} {t : TypeId} {cs : Array Value} {row : Option Nat} (h : Whole1 w g t cs) (hb : w.grownBy w' row) (hg : some g ≠ row) : Whole1 w' g t cs := (hb.block g h.lt hg).trans h
theorem own_ge {w : World} {base e size n : Nat} {v : Value} {xs : List Value} (h : w.ownsRow base e size v n xs) : ∀ k, v.ownBlock = some k → base ≤ k := by
  intro k hk
  rcases h.2 with ⟨rfl, _⟩ | ⟨g, cap, cur, rfl, hb, _⟩
  · simp [Value.ownBlock] at hk
  · simp [Value.ownBlock] at hk; omega
/-- The byte of a number that begins at a bit. -/
def lb (n : Int) (s : Nat) : Int := n / (2 : Int) ^ s % (256 : Int)
/-- A row stays where it was, or lies in a new block. -/
def Lies (w : World) (r r' : Option Nat) : Prop := r' = r ∨ ∃ k, r' = some k ∧ w.heap.size ≤ k
theorem grown_on {w wr w1 : World} {r r' : Option Nat} (h : w.grownBy wr r) (hl : Lies w r r') (h1 : wr.grownBy w1 r') : w.grownBy w1 r := by
  refine ⟨h1.os.trans h.os, h1.tape.trans h.tape, h1.output.trans h.output, Nat.le_trans h.size h1.size, fun i hi hne => ?_⟩
  refine (h1.block i (Nat.lt_of_lt_of_le hi h.size) (fun e => ?_)).trans (h.block i hi hne)
  rcases hl with hl | ⟨k, hk, hlt⟩
  · exact hne (e.trans hl)
  · rw [hk] at e; injection e with e; omega
theorem lies_on {w wr : World} {r r' r'' : Option Nat} (h : w.grownBy wr r) (hl : Lies w r r') (h1 : Lies wr r' r'') : Lies w r r'' := by
  rcases h1 with h1 | ⟨k, hk, hlt⟩
  · rw [h1]; exact hl
  · exact .inr ⟨k, hk, Nat.le_trans h.size hlt⟩
/-- What the loop keeps. -/
def LRel (w : World) (base g len : Nat) (v0 : Value) (zs : List Int) (n : Int) (bits : List Nat) (v i : Value) (wr : World) : Prop :=
  ∃ k : Nat, k ≤ bits.length ∧ i = .int .i64 k ∧ wr.ownsRow base 5 1 v (len + k) ((zs ++ (bits.take k).map (lb n)).map (Value.int .u8)) ∧ Whole1 wr g 219 (bits.map fun (s : Nat) => Value.int .u64 (s : Int)).toArray ∧ w.grownBy wr v0.ownBlock ∧ Lies w v0.ownBlock v.ownBlock
theorem new_one (w : World) (u : Value) (t : TypeId) : ∀ j x, [u][j]? = some x → (w.alloc (.cells #[u] t)).cell? ((⟨w.heap.size, 0, none⟩ : Addr).add j) = some x := by
  intro j x hx
  match j, hx with
  | 0, hx =>
    have e : u = x := by simpa using hx
    subst e
    rw [Addr.add_zero', World.cell?_alloc_at (hn := rfl)]; rfl
  | j + 1, hx => simp at hx
theorem one_one (K : IntKind) (z : Int) : ∀ u ∈ [Value.int K z], u.oneCell' = true := by
  intro u hu
  simp only [List.mem_cons, List.not_mem_nil, or_false] at hu
  subst hu; rfl
theorem lay_round {w wr w1 : World} {base g len k s : Nat} {zs : List Int} {n : Int} {bits : List Nat} {v v0 v1 : Value} {o : Obj} (hk : k < bits.length) (hs : s = bits[k]) (hown : wr.ownsRow base 5 1 v (len + k) ((zs ++ (bits.take k).map (lb n)).map (Value.int .u8)))
    (hg : Whole1 wr g 219 (bits.map fun (s : Nat) => Value.int .u64 (s : Int)).toArray) (hb : w.grownBy wr v0.ownBlock) (hli : Lies w v0.ownBlock v.ownBlock) (hown1 : w1.ownsRow base 5 1 v1 (len + k + 1) ((zs ++ (bits.take k).map (lb n)).map (Value.int .u8) ++ [.int .u8 (n / 2 ^ s % 256)])) (hgrow : (wr.alloc o).grownBy w1 v.ownBlock) (hat : v1.ownBlock = v.ownBlock ∨ v1.ownBlock = some (wr.alloc o).heap.size) :
    LRel w base g len v0 zs n bits v1 (.int .i64 ((k : Int) + 1)) w1 := by
  refine ⟨k + 1, by omega, by go_num, ?_, (hg.alloc o).grown hgrow (hg.ne_own hown (by decide)), grown_on hb hli ((World.grownBy_alloc wr o _).trans hgrow), lies_on hb hli (hat.imp id fun h => ⟨_, h, by simp⟩)⟩
  rw [List.take_succ_eq_append_getElem hk, List.map_append (f := lb n), ← List.append_assoc, List.map_append (f := Value.int .u8), ← hs]
  exact hown1
set_option maxHeartbeats 1000000 in
theorem lay_any (base g len : Nat) (v : Value) (zs : List Int) (n : Int) (bits : List Nat) (w : World) (hbits : ∀ s ∈ bits, s ≤ 56) (hlen : bits.length ≤ 8) (hown : w.ownsRow base 5 1 v len (zs.map (Value.int .u8)))
    (hg : Whole1 w g 219 (bits.map fun (s : Nat) => Value.int .u64 (s : Int)).toArray) (hbase : base ≤ w.heap.size) (hm : len + bits.length ≤ 140737488355328) :
    Calls Tryz.prog 133 #[v, .int .i64 n, .slice (some ⟨g, 0, none⟩) bits.length bits.length] w fun e w' => ∃ v', e = .returned v' ∧ w'.ownsRow base 5 1 v' (len + bits.length) ((zs ++ bits.map (lb n)).map (Value.int .u8)) ∧ w.grownBy w' v.ownBlock ∧ Lies w v.ownBlock v'.ownBlock := by
  obtain ⟨i0, hi, hz0, hz1, hz2⟩ := info_parts info5
  have HO := Lib.hid hown
  have HG := Lib.hid hg
  have HB := Lib.hid hbits
  clear hown hg hbits
  go_enter Tryz.func133, Tryz.ntmps133
  go_wp2
  go_loopw [0, 11] (fun v' i wr => LRel w base g len v zs n bits v' i wr) (fun _ i _ => bits.length - (intOf i).toNat)
  case atStart => exact ⟨0, by omega, rfl, by simpa using HO.out, HG.out, World.grownBy.refl _ _, .inl rfl⟩
  case round =>
    obtain ⟨k, hk, rfl, hown, hgw, hb, hli⟩ := hrel
    have HO2 := Lib.hid hown
    have HG2 := Lib.hid hgw
    have HB2 := Lib.hid hb
    have HL := Lib.hid hli
    clear hown hgw hb hli
    by_cases hlt : k < bits.length
    · obtain ⟨s, hs⟩ : ∃ s, s = bits[k] := ⟨_, rfl⟩
      have hc : wr.cell? ⟨g, k, none⟩ = some (.int .u64 (s : Int)) := by
        rw [HG2.out.cell, List.getElem?_toArray, List.getElem?_map, List.getElem?_eq_getElem hlt, hs]; rfl
      have hs56 : s ≤ 56 := by rw [hs]; exact HB.out _ (List.getElem_mem hlt)
      have HS := Lib.hid hs
      have h0 : (0 : Int) ≤ (s : Int) := by omega
      have h1 : (s : Int) ≤ 64 := by omega
      clear hs
      have hlk : 0 < bits.length := by omega
      have h63 : len + k + 1 ≤ maxLen := by unfold maxLen; omega
      have h47 : (len + k + 1) * 1 ≤ 140737488355328 := by omega
      have hsz : base ≤ (wr.alloc (.cells #[.int .u8 (n / 2 ^ s % 256)] 5)).heap.size := by have := HB2.out.size; simp; omega
      go_wp2_with (at_builtin; refine wpList_append_own_at _ rfl (.tmp 15) (.tmp 20) 54 rfl base 5 i0 (.int .u8 0) 1 1 Tryz.underlying54 hi hz0 hz1 hz2 rfl (by decide) u0 (len + k) ((zs ++ (bits.take k).map (lb n)).map (Value.int .u8)) rfl (HO2.out.alloc _) ⟨wr.heap.size, 0, none⟩ 1 1 [.int .u8 (n / 2 ^ s % 256)] rfl rfl (new_one wr _ _) (one_one _ _) h63 h47 hsz ?_; intro v1 w1 hown1 hgrow1 _ hat1; have HX := Lib.hid (lay_round hlt HS.out HO2.out HG2.out HB2.out HL.out hown1 hgrow1 hat1); clear hown1 hgrow1 hat1)
      go_roundw
      case rel => exact HX.out
      case measure => simp [intOf]; omega
    · obtain rfl : k = bits.length := by omega
      go_wp2
      go_ret
      have h := HO2.out
      rw [List.take_length] at h
      exact ⟨_, rfl, h, HB2.out, HL.out⟩
end Go.Proofs.YtflgemlhocjipaaGreatDoor.Pq
namespace Go.Proofs.YtflgemlhocjipaaGreatDoor.Pq
set_option maxRecDepth 100000
open Go.ChangeShapes Go.WideShapes Go.ChangeAt Go.RowKit
/-- A scope in which the run jumps once, forward, to one label. -/
theorem wp_scope_once {P : Program} {a : Act} {w : World} {Q : Exit → Act → World → Prop} {c rest : Code} (l : Nat) (hf : findLabel c l = some rest)
    (h : c.wp P (Exit.jump l (fun a w => rest.wp P (Exit.noGoto Q) a w) Q) a w) : (Code.scope c).wp P Q a w :=
  wp_scope_jumps l (fun a w => rest.wp P (Exit.noGoto Q) a w) (fun _ _ => 0) hf h fun a w hj => Code.wp_mono (fun e a w he => by
    cases e with
    | goto l' => exact he.elim
    | normal => exact he
    | exit id => exact he
    | ret => exact he
    | panic ch => exact he
    | outgrown => exact he) hj
theorem new_whole (w : World) (cs : Array Value) (t : TypeId) : Whole1 (w.alloc (.cells cs t)) w.heap.size t cs := heap_alloc_new w _
def bits8 : List Nat := [56, 48, 40, 32, 24, 16, 8, 0]
theorem lay8 (base len : Nat) (v : Value) (zs : List Int) (n : Int) (w : World) (hown : w.ownsRow base 5 1 v len (zs.map (Value.int .u8))) (hbase : base ≤ w.heap.size) (hm : len + 8 ≤ 140737488355328) (g : Nat) (hg : g = w.heap.size) :
    Calls Tryz.prog 133 #[v, .int .i64 n, .slice (some ⟨g, 0, none⟩) 8 8] (w.alloc (.cells #[.int .u64 56, .int .u64 48, .int .u64 40, .int .u64 32, .int .u64 24, .int .u64 16, .int .u64 8, .int .u64 0] 219)) fun e w' =>
      ∃ v', e = .returned v' ∧ w'.ownsRow base 5 1 v' (len + 8) ((zs ++ be8 n).map (Value.int .u8)) ∧ w.grownBy w' v.ownBlock ∧ Lies w v.ownBlock v'.ownBlock := by
  subst hg
  have h := lay_any base w.heap.size len v zs n bits8 (w.alloc (.cells #[.int .u64 56, .int .u64 48, .int .u64 40, .int .u64 32, .int .u64 24, .int .u64 16, .int .u64 8, .int .u64 0] 219)) (by decide) (by decide) (hown.alloc _) (new_whole w _ _) (by simp; omega) hm
  refine h.mono fun e w' ⟨v', he, h1, h2, h3⟩ => ⟨v', he, ?_, (World.grownBy_alloc w _ _).trans h2, lies_on (World.grownBy_alloc w _ _) (.inl rfl) h3⟩
  have e : bits8.map (lb n) = be8 n := by
    simp [bits8, lb, be8]
  rw [e] at h1
  exact h1
theorem written {base len : Nat} {v : Value} {zs : List Int} {w w1 : World} {o : Obj} (hbase : base ≤ w.heap.size) (hown : w.ownsRow base 5 1 v len (zs.map (Value.int .u8))) (h : (w.alloc o).grownBy w1 v.ownBlock) : Below base w w1 :=
  ((Below.refl base w).alloc hbase o).grown h (by simp; omega) (own_ge hown)
theorem write_whole (base len : Nat) (v : Value) (zs : List Int) (n : Int) (s : ByteArray) (w : World) (hown : w.ownsRow base 5 1 v len (zs.map (Value.int .u8))) (hbase : base ≤ w.heap.size) (hm : len + 8 ≤ 140737488355328) :
    Calls Tryz.prog 96 #[v, .agg #[.int .i64 2, .int .i64 n, .string s]] w fun e w' => ∃ v', e = .returned v' ∧ w'.ownsRow base 5 1 v' (len + 8) ((zs ++ be8 n).map (Value.int .u8)) ∧ Below base w w' := by
  have HO := Lib.hid hown
  clear hown
  go_enter Tryz.func96, Tryz.ntmps96
  go_wp2
  refine wp_scope_once 0 rfl ?_
  go_wp2
  go_step3
  refine ⟨rfl, ?_⟩
  go_wp2_with fail
  refine (lay8 base len v zs n _ (HO.out.alloc _) (by simp; omega) hm (w.heap.size + 1) (by simp)).mono ?_
  rintro e w1 ⟨v1, rfl, h1, h2, -⟩
  have H1 := Lib.hid h1
  have H2 := Lib.hid (written hbase HO.out h2)
  clear h1 h2
  go_wp2
  rw [Exit.noGoto_ret]
  go_ret
  exact ⟨v1, rfl, H1.out, H2.out⟩
/-- One byte. -/
theorem lay1 (base len : Nat) (v : Value) (zs : List Int) (n : Int) (w : World) (hown : w.ownsRow base 5 1 v len (zs.map (Value.int .u8))) (hbase : base ≤ w.heap.size) (hm : len + 8 ≤ 140737488355328) (g : Nat) (hg : g = w.heap.size) :
    Calls Tryz.prog 133 #[v, .int .i64 n, .slice (some ⟨g, 0, none⟩) 1 1] (w.alloc (.cells #[.int .u64 0] 219)) fun e w' =>
      ∃ v', e = .returned v' ∧ w'.ownsRow base 5 1 v' (len + 1) ((zs ++ [n % 256]).map (Value.int .u8)) ∧ w.grownBy w' v.ownBlock := by
  subst hg
  have h := lay_any base w.heap.size len v zs n [0] (w.alloc (.cells #[.int .u64 0] 219)) (by decide) (by decide) (hown.alloc _) (new_whole w _ _) (by simp; omega) (by simp; omega)
  refine h.mono fun e w' ⟨v', he, h1, h2, h3⟩ => ⟨v', he, ?_, (World.grownBy_alloc w _ _).trans h2⟩
  have e : [0].map (lb n) = [n % 256] := by simp [lb]
  rw [e] at h1
  exact h1
theorem write_one (base len : Nat) (v : Value) (zs : List Int) (k n : Int) (s : ByteArray) (w : World) (hown : w.ownsRow base 5 1 v len (zs.map (Value.int .u8))) (hbase : base ≤ w.heap.size) (hm : len + 8 ≤ 140737488355328) (hk2 : k ≠ 2) (hk3 : k ≠ 3) :
    Calls Tryz.prog 96 #[v, .agg #[.int .i64 k, .int .i64 n, .string s]] w fun e w' => ∃ v', e = .returned v' ∧ w'.ownsRow base 5 1 v' (len + 1) ((zs ++ [n % 256]).map (Value.int .u8)) ∧ Below base w w' := by
  have HO := Lib.hid hown
  have t2 : (k == 2) = false := by simpa using hk2
  have t3 : (k == 3) = false := by simpa using hk3
  clear hown hk2 hk3
  go_enter Tryz.func96, Tryz.ntmps96
  go_wp2
  go_step3
  go_wp2_with fail
  refine (lay1 base len v zs n _ (HO.out.alloc _) (by simp; omega) hm (w.heap.size + 1) (by simp)).mono ?_
  rintro e w1 ⟨v1, rfl, h1, h2⟩
  have H1 := Lib.hid h1
  have H2 := Lib.hid (written hbase HO.out h2)
  clear h1 h2
  go_wp2
  rw [Exit.noGoto_ret]
  go_ret
  exact ⟨v1, rfl, H1.out, H2.out⟩
theorem lay2_at (base len g : Nat) (v : Value) (zs : List Int) (n : Int) (w : World) (hown : w.ownsRow base 5 1 v len (zs.map (Value.int .u8))) (hg : Whole1 w g 219 #[.int .u64 8, .int .u64 0]) (hbase : base ≤ w.heap.size) (hm : len + 2 ≤ 140737488355328) :
    Calls Tryz.prog 133 #[v, .int .i64 n, .slice (some ⟨g, 0, none⟩) 2 2] w fun e w' =>
      ∃ v', e = .returned v' ∧ w'.ownsRow base 5 1 v' (len + 2) ((zs ++ [n / 256 % 256, n % 256]).map (Value.int .u8)) ∧ w.grownBy w' v.ownBlock := by
  have h := lay_any base g len v zs n [8, 0] w (by decide) (by decide) hown hg hbase hm
  refine h.mono fun e w' ⟨v', he, h1, h2, h3⟩ => ⟨v', he, ?_, h2⟩
  have e : [8, 0].map (lb n) = [n / 256 % 256, n % 256] := by simp [lb]
  rw [e] at h1
  exact h1
theorem step_text {ops : Array Oper} {o : Oper} {a : Act} {w : World} {K : Act → World → Prop} {Q : Exit → Act → World → Prop} {E : Prop} (hgd : o.guard = none) (sl x : Operand)
    (ho : o.op = .call { callee := .builtin .append, args := #[sl, x], argTypes := #[54, 9] })
    (base : Nat) (i : TypeInfo) (hi : Tryz.prog.info? 5 = some i) (hz : i.zero = some (.int .u8 0)) (hsize : i.size = 1) (hby : i.bytes = 1)
    (v : Value) (n : Nat) (xs : List Value) (hs : a.eval sl = v) (hown : w.ownsRow base 5 1 v n xs) (s : ByteArray) (hx : a.eval x = .string s)
    (h63 : n + s.size ≤ maxLen) (hbytes : n + s.size ≤ 140737488355328) (hbase : base ≤ w.heap.size)
    (h : ∀ v' w', w'.ownsRow base 5 1 v' (n + s.size) (xs ++ Lib.strCells s) → w.grownBy w' v.ownBlock → K (a.put o.dst v') w') :
    if Region.wanted o (yielded ops a.tmps) = true then Oper.wp Tryz.prog o a w K Q else E := by
  have hw : Region.wanted o (yielded ops a.tmps) = true := by simp [Region.wanted, hgd]
  rw [if_pos hw]
  obtain ⟨v', w', hr, h2, h3, _⟩ := Lib.run_append_own_string (P := Tryz.prog) w base 54 9 o.type 5 i Tryz.underlying54 Tryz.underlying9 hi hz hsize hby v n xs hown s h63 hbytes hbase
  unfold Oper.wp execOp
  simp only [ho, resolve, invoke, builtin, Sem.run_bind, Sem.run_pure, Result.andThen_ok, List.map_toArray, List.map_cons, List.map_nil, hs, hx, hr]
  exact h v' w' h2 h3
theorem strCells_sb (s : ByteArray) : Lib.strCells s = (sb s).map (Value.int .u8) := by simp [Lib.strCells, sb]
theorem text_mid {base len : Nat} {v v1 : Value} {zs : List Int} {n : Int} {s : ByteArray} {w w1 : World} {o : Obj} (hown : ((w.alloc (.cells #[.int .i64 3, .int .i64 n, .string s] 112)).alloc o).ownsRow base 5 1 v len (zs.map (Value.int .u8)))
    (hb : Whole1 ((w.alloc (.cells #[.int .i64 3, .int .i64 n, .string s] 112)).alloc o) w.heap.size 112 #[.int .i64 3, .int .i64 n, .string s]) (hbase : base ≤ w.heap.size)
    (h1 : w1.ownsRow base 5 1 v1 (len + 2) ((zs ++ [(s.size : Int) / 256 % 256, (s.size : Int) % 256]).map (Value.int .u8))) (h2 : ((w.alloc (.cells #[.int .i64 3, .int .i64 n, .string s] 112)).alloc o).drew.grownBy w1 v.ownBlock) :
    w1.ownsRow base 5 1 v1 (len + 2) ((zs ++ [(s.size : Int) / 256 % 256, (s.size : Int) % 256]).map (Value.int .u8)) ∧ Below base w w1 ∧ Whole1 w1 w.heap.size 112 #[.int .i64 3, .int .i64 n, .string s] ∧ base ≤ w1.heap.size ∧ w1.cell? ⟨w.heap.size, 2, none⟩ = some (.string s) := by
  have hw : Whole1 w1 w.heap.size 112 #[.int .i64 3, .int .i64 n, .string s] := Whole1.grown (w := ((w.alloc (.cells #[.int .i64 3, .int .i64 n, .string s] 112)).alloc o).drew) hb h2 (hb.ne_own hown (by decide))
  exact ⟨h1, ((((Below.refl base w).alloc hbase _).alloc (by simp; omega) o).drew).grown h2 (by simp; omega) (own_ge hown), hw, by have := h2.size; simp at this; omega, hw.cell 2⟩
theorem text_end {base len : Nat} {v1 v2 : Value} {zs : List Int} {n : Int} {s : ByteArray} {w w1 w2 : World} (h1 : w1.ownsRow base 5 1 v1 (len + 2) ((zs ++ [(s.size : Int) / 256 % 256, (s.size : Int) % 256]).map (Value.int .u8))) (hb : Below base w w1)
    (hw : Whole1 w1 w.heap.size 112 #[.int .i64 3, .int .i64 n, .string s]) (h3 : w2.ownsRow base 5 1 v2 (len + 2 + s.size) ((zs ++ [(s.size : Int) / 256 % 256, (s.size : Int) % 256]).map (Value.int .u8) ++ Lib.strCells s)) (h4 : w1.grownBy w2 v1.ownBlock) (hbase : base ≤ w1.heap.size) :
    w2.ownsRow base 5 1 v2 (len + 2 + s.size) ((zs ++ (s.size : Int) / 256 % 256 :: (s.size : Int) % 256 :: sb s).map (Value.int .u8)) ∧ Below base w w2 ∧ w2.cell? ⟨w.heap.size, 2, none⟩ = some (.string s) := by
  refine ⟨?_, hb.grown h4 hbase (own_ge h1), (hw.grown h4 (hw.ne_own h1 (by decide))).cell 2⟩
  rw [strCells_sb, ← List.map_append, List.append_assoc] at h3
  exact h3
theorem write_text (base len : Nat) (v : Value) (zs : List Int) (n : Int) (s : ByteArray) (w : World) (hown : w.ownsRow base 5 1 v len (zs.map (Value.int .u8))) (hbase : base ≤ w.heap.size) (hm : len + 2 + s.size ≤ 140737488355328) :
    Calls Tryz.prog 96 #[v, .agg #[.int .i64 3, .int .i64 n, .string s]] w fun e w' => ∃ v', e = .returned v' ∧ w'.ownsRow base 5 1 v' (len + 2 + s.size) ((zs ++ (s.size : Int) / 256 % 256 :: (s.size : Int) % 256 :: sb s).map (Value.int .u8)) ∧ Below base w w' := by
  have HO := Lib.hid hown
  clear hown
  go_enter Tryz.func96, Tryz.ntmps96
  go_wp2
  refine wp_scope_once 1 rfl ?_
  go_wp2
  go_step3
  refine ⟨rfl, ?_⟩
  obtain ⟨i0, hi, hz0, hz1, hz2⟩ := info_parts info5
  obtain ⟨box, hbox⟩ : ∃ box, box = Obj.cells #[.int .i64 3, .int .i64 n, .string s] 112 := ⟨_, rfl⟩
  obtain ⟨row, hrow⟩ : ∃ row, row = Obj.cells #[.int .u64 8, .int .u64 0] 219 := ⟨_, rfl⟩
  have HW : Hid (Whole1 ((w.alloc (.cells #[.int .i64 3, .int .i64 n, .string s] 112)).alloc (.cells #[.int .u64 8, .int .u64 0] 219)) (w.heap.size + 1) 219 #[.int .u64 8, .int .u64 0]) := Lib.hid (by
    have h := new_whole (w.alloc (.cells #[.int .i64 3, .int .i64 n, .string s] 112)) #[.int .u64 8, .int .u64 0] 219
    rw [show (w.alloc (.cells #[.int .i64 3, .int .i64 n, .string s] 112)).heap.size = w.heap.size + 1 by simp] at h
    exact h)
  have HO2 : Hid (((w.alloc (.cells #[.int .i64 3, .int .i64 n, .string s] 112)).alloc (.cells #[.int .u64 8, .int .u64 0] 219)).ownsRow base 5 1 v len (zs.map (Value.int .u8))) := Lib.hid ((HO.out.alloc _).alloc _)
  have HB : Hid (Whole1 ((w.alloc (.cells #[.int .i64 3, .int .i64 n, .string s] 112)).alloc (.cells #[.int .u64 8, .int .u64 0] 219)) w.heap.size 112 #[.int .i64 3, .int .i64 n, .string s]) := Lib.hid ((new_whole w _ _).alloc _)
  have hsz : base ≤ ((w.alloc (.cells #[.int .i64 3, .int .i64 n, .string s] 112)).alloc (.cells #[.int .u64 8, .int .u64 0] 219)).heap.size := by simp; omega
  have h63 : len + 2 + s.size ≤ maxLen := by unfold maxLen; omega
  have hm2 : len + 2 ≤ 140737488355328 := by omega
  go_wp2_with fail
  go_region_held3 (fun w' => w'.cell? ⟨w.heap.size, 2, none⟩ = some (.string s)) (first | go_keep | assumption)
    (first
      | (go_at_call 133; refine (lay2_at base len (w.heap.size + 1) v zs (s.size : Int) ((w.alloc (.cells #[.int .i64 3, .int .i64 n, .string s] 112)).alloc (.cells #[.int .u64 8, .int .u64 0] 219)).drew HO2.out HW.out hsz hm2).mono ?_; rintro e w1 ⟨v1, rfl, h1, h2⟩; have HX := Lib.hid (text_mid HO2.out HB.out hbase h1 h2); clear h1 h2; have hS1 := HX.out.2.2.2.2)
      | (refine step_text rfl (.tmp 26) (.tmp 28) rfl base i0 hi hz0 hz1 hz2 v1 (len + 2) _ rfl HX.out.1 s rfl h63 hm HX.out.2.2.2.1 ?_; intro v2 w2 h3 h4; have HY := Lib.hid (text_end HX.out.1 HX.out.2.1 HX.out.2.2.1 h3 h4 HX.out.2.2.2.1); clear h3 h4; have hS2 := HY.out.2.2))
  go_wp2
  rw [Exit.noGoto_ret]
  go_ret
  exact ⟨v2, rfl, HY.out.1, HY.out.2.1⟩
theorem write_any (base len : Nat) (v : Value) (zs : List Int) (f : Fld) (w : World) (hown : w.ownsRow base 5 1 v len (zs.map (Value.int .u8))) (hbase : base ≤ w.heap.size) (hm : len + 1026 ≤ 140737488355328) (hf : ams f = 0) :
    Calls Tryz.prog 96 #[v, .agg #[.int .i64 f.k, .int .i64 f.n, .string f.s]] w fun e w' => ∃ v', e = .returned v' ∧ w'.ownsRow base 5 1 v' (len + (byts f).length) ((zs ++ byts f).map (Value.int .u8)) ∧ Below base w w' := by
  have hsz := byts_len hf
  by_cases h2 : f.k = 2
  · have e : byts f = be8 f.n := by unfold byts; rw [if_pos h2]
    rw [h2, e]
    exact write_whole base len v zs f.n f.s w hown hbase (by omega)
  by_cases h3 : f.k = 3
  · have e : byts f = (f.s.size : Int) / 256 % 256 :: (f.s.size : Int) % 256 :: sb f.s := by unfold byts; rw [if_neg h2, if_pos h3]
    have el : (byts f).length = 2 + f.s.size := by rw [e, List.length_cons, List.length_cons, sb_length]; omega
    rw [el] at hsz ⊢
    rw [h3, e, ← Nat.add_assoc]
    exact write_text base len v zs f.n f.s w hown hbase (by omega)
  · have e : byts f = [f.n % 256] := by unfold byts; rw [if_neg h2, if_neg h3]
    rw [e]
    exact write_one base len v zs f.k f.n f.s w hown hbase (by omega) h2 h3
end Go.Proofs.YtflgemlhocjipaaGreatDoor.Pq
namespace Go.Proofs.YtflgemlhocjipaaGreatDoor.Pq
set_option maxRecDepth 100000
open Go.ChangeShapes Go.WideShapes Go.ChangeAt Go.RowKit
theorem below_drewN {B : Nat} {a w : World} (h : Below B a w) (n : Nat) : Below B a (w.drewN n) := ⟨h.os, h.tape, h.output, h.size, h.block⟩
theorem ret_i64 {a b : Int} (h : a = b) : Ending.returned (.int .i64 a) = .returned (.int .i64 b) := by rw [h]
theorem greatest_any (k : Int) (w : World) : Calls Tryz.prog 132 #[.int .i64 k] w fun e w' => e = .returned (.int .i64 (grt k)) ∧ w' = w := by
  by_cases k1 : k = 1
  · subst k1
    go_enter Tryz.func132, Tryz.ntmps132
    go_wp2
    go_ret
    exact ⟨rfl, rfl⟩
  by_cases k2 : k = 2
  · subst k2
    go_enter Tryz.func132, Tryz.ntmps132
    go_wp2
    go_ret
    exact ⟨rfl, rfl⟩
  by_cases k3 : k = 3
  · subst k3
    go_enter Tryz.func132, Tryz.ntmps132
    go_wp2
    go_ret
    exact ⟨rfl, rfl⟩
  by_cases k4 : k = 4
  · subst k4
    go_enter Tryz.func132, Tryz.ntmps132
    go_wp2
    go_ret
    exact ⟨rfl, rfl⟩
  · have HG : Hid (grt k = -1) := Lib.hid (by unfold grt; rw [if_neg k1, if_neg k2, if_neg k3, if_neg k4])
    have t1 : (k == 1) = false := by simpa using k1
    have t2 : (k == 2) = false := by simpa using k2
    have t3 : (k == 3) = false := by simpa using k3
    have t4 : (k == 4) = false := by simpa using k4
    go_enter Tryz.func132, Tryz.ntmps132
    go_wp2
    go_ret
    exact ⟨ret_i64 HG.out.symm, rfl⟩
theorem below_box {w : World} {o : Obj} {n : Nat} : Below w.heap.size w ((w.alloc o).drewN n) := below_drewN ((Below.refl _ _).alloc (Nat.le_refl _) _) n
theorem amiss_neg (f : Fld) (w : World) (h : f.n < 0) :
    Calls Tryz.prog 95 #[.agg #[.int .i64 f.k, .int .i64 f.n, .string f.s]] w fun e w' => e = .returned (.int .i64 21) ∧ Below w.heap.size w w' := by
  go_enter Tryz.func95, Tryz.ntmps95
  go_wp2
  go_quiet (fail)
  go_wp2
  go_ret
  exact ⟨rfl, below_box⟩
theorem amiss_great (f : Fld) (w : World) (h0 : 0 ≤ f.n) (h : grt f.k < f.n) :
    Calls Tryz.prog 95 #[.agg #[.int .i64 f.k, .int .i64 f.n, .string f.s]] w fun e w' => e = .returned (.int .i64 21) ∧ Below w.heap.size w w' := by
  have h1 : decide (f.n < 0) = false := by simpa using h0
  go_enter Tryz.func95, Tryz.ntmps95
  go_wp2
  go_quiet ((go_at_call 132; exact Calls.quiet_of_same (greatest_any _ _)))
  go_wp2
  go_ret
  exact ⟨rfl, below_box⟩
theorem amiss_text (f : Fld) (w : World) (h0 : 0 ≤ f.n) (h : f.n ≤ grt f.k) (hs : f.s.size ≠ 0) (hk : f.k ≠ 3) :
    Calls Tryz.prog 95 #[.agg #[.int .i64 f.k, .int .i64 f.n, .string f.s]] w fun e w' => e = .returned (.int .i64 21) ∧ Below w.heap.size w w' := by
  have h1 : decide (f.n < 0) = false := by simpa using h0
  have h2 : decide (grt f.k < f.n) = false := by simpa using h
  have h3 : f.s.toList.isEmpty = false := by
    rw [ByteArray.toList_eq]
    have : 0 < f.s.data.toList.length := by show 0 < f.s.size; omega
    cases hh : f.s.data.toList with
    | nil => rw [hh] at this; simp at this
    | cons a l => rfl
  have h4 : (f.k != 3) = true := by simpa using hk
  clear hk hs
  go_enter Tryz.func95, Tryz.ntmps95
  go_wp2
  go_quiet ((go_at_call 132; exact Calls.quiet_of_same (greatest_any _ _)))
  go_wp2
  go_ret
  exact ⟨rfl, below_box⟩
theorem amiss_short (f : Fld) (w : World) (h0 : 0 ≤ f.n) (h : f.n ≤ grt f.k) (hs : f.s.size = 0) :
    Calls Tryz.prog 95 #[.agg #[.int .i64 f.k, .int .i64 f.n, .string f.s]] w fun e w' => e = .returned (.int .i64 0) ∧ Below w.heap.size w w' := by
  have h1 : decide (f.n < 0) = false := by simpa using h0
  have h2 : decide (grt f.k < f.n) = false := by simpa using h
  have h3 : f.s = ⟨#[]⟩ := size_zero hs
  rw [h3]
  clear hs
  go_enter Tryz.func95, Tryz.ntmps95
  go_wp2
  go_quiet ((go_at_call 132; exact Calls.quiet_of_same (greatest_any _ _)))
  go_wp2
  go_ret
  exact ⟨rfl, below_box⟩
theorem amiss_three (f : Fld) (w : World) (h0 : 0 ≤ f.n) (h : f.n ≤ grt f.k) (hs : f.s.size ≠ 0) (hk : f.k = 3) :
    Calls Tryz.prog 95 #[.agg #[.int .i64 f.k, .int .i64 f.n, .string f.s]] w fun e w' => e = .returned (.int .i64 (if 1024 < f.s.size then 22 else 0)) ∧ Below w.heap.size w w' := by
  have h1 : decide (f.n < 0) = false := by simpa using h0
  have h2 : decide (grt f.k < f.n) = false := by simpa using h
  have h3 : f.s.toList.isEmpty = false := by
    rw [ByteArray.toList_eq]
    have : 0 < f.s.data.toList.length := by show 0 < f.s.size; omega
    cases hh : f.s.data.toList with
    | nil => rw [hh] at this; simp at this
    | cons a l => rfl
  have h4 : (f.k != 3) = false := by simpa using hk
  clear hk hs
  by_cases hl : 1024 < f.s.size
  · rw [if_pos hl]
    go_enter Tryz.func95, Tryz.ntmps95
    go_wp2
    go_quiet ((go_at_call 132; exact Calls.quiet_of_same (greatest_any _ _)))
    go_wp2
    go_ret
    exact ⟨rfl, below_box⟩
  · rw [if_neg hl]
    go_enter Tryz.func95, Tryz.ntmps95
    go_wp2
    go_quiet ((go_at_call 132; exact Calls.quiet_of_same (greatest_any _ _)))
    go_wp2
    go_ret
    exact ⟨rfl, below_box⟩
theorem amiss_any (f : Fld) (w : World) :
    Calls Tryz.prog 95 #[.agg #[.int .i64 f.k, .int .i64 f.n, .string f.s]] w fun e w' => e = .returned (.int .i64 (ams f)) ∧ Below w.heap.size w w' := by
  by_cases h0 : f.n < 0
  · have e : ams f = 21 := by unfold ams; rw [if_pos (.inl h0)]
    rw [e]; exact amiss_neg f w h0
  by_cases h1 : grt f.k < f.n
  · have e : ams f = 21 := by unfold ams; rw [if_pos (.inr (.inl h1))]
    rw [e]; exact amiss_great f w (by omega) h1
  by_cases hs : f.s.size = 0
  · have e : ams f = 0 := by
      unfold ams
      rw [if_neg (fun h => by rcases h with h | h | h; exact h0 h; exact h1 h; exact h.1 hs), if_neg (by omega)]
    rw [e]; exact amiss_short f w (by omega) (by omega) hs
  by_cases hk : f.k = 3
  · have e : ams f = if 1024 < f.s.size then 22 else 0 := by
      unfold ams
      rw [if_neg (fun h => by rcases h with h | h | h; exact h0 h; exact h1 h; exact h.2 hk)]
    rw [e]; exact amiss_three f w (by omega) (by omega) hs hk
  · have e : ams f = 21 := by unfold ams; rw [if_pos (.inr (.inr ⟨hs, hk⟩))]
    rw [e]; exact amiss_text f w (by omega) (by omega) hs hk
end Go.Proofs.YtflgemlhocjipaaGreatDoor.Pq
namespace Go.Proofs.YtflgemlhocjipaaGreatDoor.Pq
set_option maxRecDepth 100000
open Go.ChangeShapes Go.WideShapes Go.ChangeAt Go.RowKit

/-- The bytes that Encode tells. -/
def encB (fs : List Fld) : List Int := if errL fs = 0 then bytL fs else []
/-- What Encode leaves, the program's and the document's. -/
def EncPost (w : World) (fs : List Fld) (e : Ending) (w' : World) : Prop :=
  ∃ (A : Option Addr) (n c : Nat), e = .returned (.tuple #[.slice A n c, .int .i64 (errL fs)]) ∧ n = (encB fs).length ∧ Reads .u8 w' A n (encB fs) ∧ n ≤ c ∧ c ≤ maxLen ∧ Below w.heap.size w w'
theorem own_below {w w' : World} {base e size n : Nat} {v : Value} {xs : List Value} (h : w.ownsRow base e size v n xs) (hb : Below w.heap.size w w') : w'.ownsRow base e size v n xs := by
  refine ⟨h.1, ?_⟩
  rcases h.2 with hn | ⟨g, cap, cur, rfl, hbg, hg, rest⟩
  · exact .inl hn
  · exact .inr ⟨g, cap, cur, rfl, hbg, (hb.block g (Array.getElem?_eq_some_iff.1 hg).1).trans hg, rest⟩
theorem own_reads {w : World} {base n : Nat} {e : TypeId} {K : IntKind} {v : Value} {zs : List Int} (h : w.ownsRow base e 1 v n (zs.map (Value.int K))) : ∃ A c, v = .slice A n c ∧ Reads K w A n zs ∧ n ≤ c ∧ c ≤ maxLen := by
  have hl : zs.length = n := by have := h.1; rw [List.length_map] at this; omega
  rcases h.2 with ⟨rfl, rfl⟩ | ⟨g, cap, cur, rfl, hbg, hg, hn, hc, hs, ht⟩
  · exact ⟨none, 0, rfl, ⟨hl, fun h => absurd h (by omega)⟩, by omega, by unfold maxLen; omega⟩
  · refine ⟨_, cap, rfl, ⟨hl, fun _ => ⟨g, 0, rfl, fun i hi => ?_⟩⟩, hn, hc⟩
    have hc : w.cell? ⟨g, 0 + i, none⟩ = (zs.map (Value.int K))[i]? := by
      rw [Nat.zero_add]
      have := h.cells (g := g) rfl i
      rw [Go.WideShapes.add_plain, Nat.zero_add] at this
      have hlt : i < (zs.map (Value.int K)).length := by rw [List.length_map]; omega
      rw [List.getElem?_eq_getElem hlt] at this ⊢
      exact this _ rfl
    rw [hc, List.getElem?_map, List.getD_eq_getElem?_getD, List.getElem?_eq_getElem (by omega)]
    rfl
theorem errL_take {fs : List Fld} {k : Nat} (hk : k < fs.length) (h : errL (fs.take k) = 0) : errL (fs.take (k + 1)) = ams (fs.getD k z0) := by
  rw [List.take_succ_eq_append_getElem hk, errL_append, if_pos h, List.getD_eq_getElem?_getD, List.getElem?_eq_getElem hk]
  simp only [errL, Option.getD_some]
  split
  · rename_i h; exact h.symm
  · rfl
theorem errL_bad {fs : List Fld} {k : Nat} (h : errL (fs.take k) ≠ 0) : errL fs = errL (fs.take k) := by
  conv => lhs; rw [← List.take_append_drop k fs]
  rw [errL_append, if_neg h]
theorem bytL_take {fs : List Fld} {k : Nat} (hk : k < fs.length) : bytL (fs.take (k + 1)) = bytL (fs.take k) ++ byts (fs.getD k z0) := by
  rw [List.take_succ_eq_append_getElem hk, bytL_append, List.getD_eq_getElem?_getD, List.getElem?_eq_getElem hk]
  simp [bytL]
/-- What the loop keeps. -/
def ERel (w : World) (len : Nat) (fs : List Fld) (v i : Value) (wr : World) : Prop :=
  ∃ k n : Nat, k ≤ len ∧ i = .int .i64 k ∧ errL (fs.take k) = 0 ∧ n = (bytL (fs.take k)).length ∧ wr.ownsRow w.heap.size 5 1 v n ((bytL (fs.take k)).map (Value.int .u8)) ∧ Below w.heap.size w wr
theorem enc_bad {w w' : World} {len k : Nat} {fs : List Fld} {a : Int} (hl : fs.length = len) (hk : k < len) (he : errL (fs.take k) = 0) (ha : a = ams (fs.getD k z0)) (hne : a ≠ 0) (hb : Below w.heap.size w w') :
    EncPost w fs (.returned (.tuple #[.slice none 0 0, .int .i64 a])) w' := by
  have h1 : errL (fs.take (k + 1)) = a := by rw [errL_take (by omega) he, ha]
  have h2 : errL fs = a := by rw [errL_bad (k := k + 1) (by rw [h1]; exact hne), h1]
  have h3 : encB fs = [] := by unfold encB; rw [if_neg (by rw [h2]; exact hne)]
  refine ⟨none, 0, 0, by rw [h2], by rw [h3]; rfl, ?_, by omega, by unfold maxLen; omega, hb⟩
  rw [h3]; exact ⟨rfl, fun h => absurd h (by omega)⟩
theorem enc_end {w wr : World} {len n : Nat} {fs : List Fld} {v : Value} (hl : fs.length = len) (he : errL (fs.take len) = 0) (hn : n = (bytL (fs.take len)).length) (ho : wr.ownsRow w.heap.size 5 1 v n ((bytL (fs.take len)).map (Value.int .u8))) (hb : Below w.heap.size w wr) :
    EncPost w fs (.returned (.tuple #[v, .int .i64 0])) wr := by
  rw [List.take_of_length_le (by omega)] at he hn ho
  obtain ⟨A, c, rfl, h1, h2, h3⟩ := own_reads ho
  have e : encB fs = bytL fs := by unfold encB; rw [if_pos he]
  exact ⟨A, n, c, by rw [he], by rw [e]; exact hn, by rw [e]; exact h1, h2, h3, hb⟩
theorem enc_round {w wr w2 : World} {len k n : Nat} {fs : List Fld} {f : Fld} {v : Value} (hl : fs.length = len) (hk : k < len) (he : errL (fs.take k) = 0) (hf : f = fs.getD k z0) (ha : ams f = 0) (hn : n = (bytL (fs.take k)).length)
    (ho : w2.ownsRow w.heap.size 5 1 v (n + (byts f).length) ((bytL (fs.take k) ++ byts f).map (Value.int .u8))) (hb : Below w.heap.size w wr) (hb2 : Below w.heap.size wr w2) : ERel w len fs v (.int .i64 ((k : Int) + 1)) w2 := by
  refine ⟨k + 1, _, by omega, by go_num, by rw [errL_take (by omega) he, ← hf, ha], rfl, ?_, hb.trans hb2⟩
  rw [bytL_take (by omega), ← hf, List.length_append, ← hn]
  exact ho
set_option maxHeartbeats 1000000 in
theorem encode_any (ad : Option Addr) (len cap : Nat) (fs : List Fld) (w : World) (hR : FReads w ad len fs) (hm : len ≤ 4294967296) :
    Calls Tryz.prog 53 #[.slice ad len cap] w (EncPost w fs) := by
  have hl := hR.1
  have HL := Lib.hid hl
  have HR := Lib.hid hR
  clear hR hl
  go_enter Tryz.func53, Tryz.ntmps53
  go_wp2
  go_loopw [4, 10] (fun v i wr => ERel w len fs v i wr) (fun _ i _ => len - (intOf i).toNat)
  case atStart => exact ⟨0, 0, by omega, rfl, rfl, rfl, World.ownsRow_nil _ _ _ _, Below.refl _ _⟩
  case round =>
    obtain ⟨k, n, hk, rfl, he, hn, hown, hb⟩ := hrel
    have HE := Lib.hid he
    have HN := Lib.hid hn
    have HO := Lib.hid hown
    have HB := Lib.hid hb
    have hbase := hb.size
    clear he hn hown hb
    by_cases hlt : k < len
    · obtain ⟨b, off, rfl, hc⟩ := (HR.out.kept HB.out).2 (by omega)
      obtain ⟨h1, h2, h3⟩ := hc k hlt
      obtain ⟨f, hf⟩ : ∃ f, f = fs.getD k z0 := ⟨_, rfl⟩
      rw [← hf] at h1 h2 h3
      have HF := Lib.hid hf
      clear hc hf
      go_wp2_with fail
      refine (amiss_any f _).mono ?_
      rintro e w1 ⟨rfl, hb1⟩
      obtain ⟨a, ha⟩ : ∃ a, a = ams f := ⟨_, rfl⟩
      rw [← ha]
      have hB := Lib.hid hb1
      have g1 : w1.cell? ⟨wr.heap.size, 0, none⟩ = some (.int .i64 f.k) := (hb1.cell (p := ⟨wr.heap.size, 0, none⟩) (by simp)).trans (by rw [World.cell?_alloc_at (hn := rfl)]; rfl)
      have g2 : w1.cell? ⟨wr.heap.size, 1, none⟩ = some (.int .i64 f.n) := (hb1.cell (p := ⟨wr.heap.size, 1, none⟩) (by simp)).trans (by rw [World.cell?_alloc_at (hn := rfl)]; rfl)
      have g3 : w1.cell? ⟨wr.heap.size, 2, none⟩ = some (.string f.s) := (hb1.cell (p := ⟨wr.heap.size, 2, none⟩) (by simp)).trans (by rw [World.cell?_alloc_at (hn := rfl)]; rfl)
      have HA := Lib.hid ha
      clear hb1 ha
      have hb1 : Hid (Below w.heap.size wr w1) := Lib.hid (((Below.refl _ _).alloc hbase _).trans (hB.out.mono (by simp; omega)))
      have HO1 : Hid (w1.ownsRow w.heap.size 5 1 u4 n ((bytL (fs.take k)).map (Value.int .u8))) := Lib.hid (own_below (HO.out.alloc _) hB.out)
      have hb1s := hb1.out.size
      have hnb : n ≤ 1026 * len := by
        have h1 := bytL_len HE.out
        have h2 : (fs.take k).length ≤ len := by rw [List.length_take]; omega
        have h3 : 1026 * (fs.take k).length ≤ 1026 * len := Nat.mul_le_mul_left _ h2
        rw [HN.out]; omega
      by_cases hz : a = 0
      · have hz' : (a != 0) = false := by simpa using hz
        have HZ : Hid (ams f = 0) := Lib.hid (by rw [← HA.out]; exact hz)
        clear hz
        go_wp2_with fail
        refine (write_any w.heap.size n u4 (bytL (fs.take k)) f w1 HO1.out (by omega) (by omega) HZ.out).mono ?_
        rintro e w2 ⟨v2, rfl, h4, h5⟩
        have H4 := Lib.hid h4
        have H5 := Lib.hid h5
        clear h4 h5
        go_wp2
        go_roundw
        case rel => exact enc_round HL.out hlt HE.out HF.out HZ.out HN.out H4.out HB.out (hb1.out.trans H5.out)
        case measure => simp [intOf]; omega
      · have hz' : (a != 0) = true := by simpa using hz
        have HZ := Lib.hid hz
        clear hz
        go_wp2
        go_ret2
        exact enc_bad HL.out hlt HE.out (by rw [← HF.out]; exact HA.out) HZ.out (HB.out.trans hb1.out)
    · obtain rfl : len = k := by omega
      go_wp2
      go_ret2
      exact enc_end HL.out HE.out HN.out HO.out HB.out
end Go.Proofs.YtflgemlhocjipaaGreatDoor.Pq
namespace Go.Proofs.YtflgemlhocjipaaGreatDoor.Pq
set_option maxRecDepth 100000
open Go.ChangeShapes Go.WideShapes Go.ChangeAt Go.RowKit

theorem info3 : (Tryz.prog.info? 3).map (fun i => (i.zero, i.size, i.bytes)) = some (some (.int .i64 0), 1, 8) := by kernel_rfl
theorem reads_own {K : IntKind} {w : World} {base g len c : Nat} {e : TypeId} {ys : List Int} (h : w.ownsRow base e 1 (.slice (some ⟨g, 0, none⟩) len c) len (ys.map (Value.int K))) : Reads K w (some ⟨g, 0, none⟩) len ys := by
  have hl : ys.length = len := by have := h.1; rw [List.length_map] at this; omega
  refine ⟨hl, fun _ => ⟨g, 0, rfl, fun i hi => ?_⟩⟩
  rw [Nat.zero_add, h.cellAt i (by omega), List.getElem?_map, List.getD_eq_getElem?_getD, List.getElem?_eq_getElem (by omega)]
  rfl
theorem getD_map_k (fs : List Fld) (j : Nat) : (fs.map (·.k)).getD j 0 = (fs.getD j z0).k := by
  rw [List.getD_eq_getElem?_getD, List.getD_eq_getElem?_getD, List.getElem?_map]
  cases fs[j]? <;> rfl
theorem ext_getD {xs ys : List Int} (hl : xs.length = ys.length) (h : ∀ j, j < xs.length → xs.getD j 0 = ys.getD j 0) : xs = ys := by
  apply List.ext_getElem hl
  intro i h1 h2
  have := h i h1
  rw [List.getD_eq_getElem?_getD, List.getD_eq_getElem?_getD, List.getElem?_eq_getElem h1, List.getElem?_eq_getElem h2] at this
  exact this
/-- What the loop keeps: the first kinds are laid. -/
def KRel (w : World) (len : Nat) (fs : List Fld) (i : Value) (wr : World) : Prop :=
  ∃ (k : Nat) (ys : List Int), k ≤ len ∧ i = .int .i64 k ∧ wr.ownsRow w.heap.size 3 1 (.slice (some ⟨w.heap.size, 0, none⟩) len len) len (ys.map (Value.int .i64)) ∧ (∀ j, j < k → ys.getD j 0 = (fs.getD j z0).k) ∧ Below w.heap.size w wr
theorem kinds_round {w wr : World} {len k : Nat} {fs : List Fld} {ys : List Int} {f : Fld} (o : Obj) (hk : k < len) (hf : f = fs.getD k z0) (hown : wr.ownsRow w.heap.size 3 1 (.slice (some ⟨w.heap.size, 0, none⟩) len len) len (ys.map (Value.int .i64)))
    (hx : ∀ j, j < k → ys.getD j 0 = (fs.getD j z0).k) (hb : Below w.heap.size w wr) : KRel w len fs (.int .i64 ((k : Int) + 1)) ((wr.setCell ⟨w.heap.size, k, none⟩ (.int .i64 f.k)).alloc o) := by
  have hl : ys.length = len := by have := hown.1; rw [List.length_map] at this; omega
  refine ⟨k + 1, ys.set k f.k, by omega, by go_num, ?_, fun j hj => ?_, (hb.setCell (p := ⟨w.heap.size, k, none⟩) (Nat.le_refl _) _).alloc (by simpa using hb.size) o⟩
  · have h := ((hown.stored k (.int .i64 f.k)).1).alloc o
    rw [List.map_set]
    exact h
  · rw [List.getD_eq_getElem?_getD, List.getElem?_set]
    by_cases hij : k = j
    · rw [if_pos hij, if_pos (by omega)]
      subst hij hf
      rfl
    · rw [if_neg hij, ← List.getD_eq_getElem?_getD]; exact hx j (by omega)
set_option maxHeartbeats 1000000 in
theorem kinds_any (ad : Option Addr) (len cap : Nat) (fs : List Fld) (w : World) (hR : FReads w ad len fs) (hm : len ≤ 4398046511104) :
    Calls Tryz.prog 61 #[.slice ad len cap] w fun e w' => e = .returned (.slice (some ⟨w.heap.size, 0, none⟩) len len) ∧ Reads .i64 w' (some ⟨w.heap.size, 0, none⟩) len (fs.map (·.k)) ∧ Below w.heap.size w w' := by
  obtain ⟨i0, hi, hz0, hz1, hz2⟩ := info_parts info3
  have hmk := fun (w : World) => run_make (w := w) (P := Tryz.prog) 120 3 i0 (.int .i64 0) Tryz.underlying120 hi hz0 .i64 .i64 (len : Int) (len : Int) (by omega) (Int.le_refl _) (by rw [hz2]; omega) (by omega)
  have HO : Hid ((w.alloc (.cells (madeCells #[.int .i64 0] len) 3)).ownsRow w.heap.size 3 1 (.slice (some ⟨w.heap.size, 0, none⟩) len len) len ((List.replicate len 0).map (Value.int .i64))) := Lib.hid (by
    have h := World.ownsRow_lit (base := w.heap.size) (e := 3) (size := 1) w (madeCells #[.int .i64 0] len) len (Nat.le_refl _) (by unfold maxLen; omega) (by rw [size_madeCells, Nat.mul_one])
    rw [toList_madeCells_one] at h
    rw [List.map_replicate]
    exact h)
  have HR := Lib.hid hR
  clear hR
  go_enter Tryz.func61, Tryz.ntmps61
  go_wp2
  go_loopw [11] (fun i wr => KRel w len fs i wr) (fun i _ => len - (intOf i).toNat)
  case atStart => exact ⟨0, List.replicate len 0, by omega, rfl, HO.out, fun j hj => absurd hj (by omega), (Below.refl _ _).alloc (Nat.le_refl _) _⟩
  case round =>
    obtain ⟨k, ys, hk, rfl, hown, hx, hb⟩ := hrel
    have HO2 := Lib.hid hown
    have HX := Lib.hid hx
    have HB := Lib.hid hb
    clear hown hx hb
    by_cases hlt : k < len
    · obtain ⟨b, off, rfl, hc⟩ := (HR.out.kept HB.out).2 (by omega)
      obtain ⟨h1, h2, h3⟩ := hc k hlt
      obtain ⟨f, hf⟩ : ∃ f, f = fs.getD k z0 := ⟨_, rfl⟩
      rw [← hf] at h1 h2 h3
      have HF := Lib.hid hf
      have gx : wr.cell? ⟨w.heap.size, k, none⟩ = some (.int .i64 (ys.getD k 0)) := by
        have : k < ys.length := by have := HO2.out.1; rw [List.length_map] at this; omega
        rw [HO2.out.cellAt k (by omega), List.getElem?_map, List.getD_eq_getElem?_getD, List.getElem?_eq_getElem this]
        rfl
      have gf : wr.frozen? ⟨w.heap.size, k, none⟩ = false := HO2.out.frozenAt k
      have gl : w.heap.size < wr.heap.size := cell_lt gx
      clear hc hf
      go_wp2
      go_roundw
      case rel => exact kinds_round _ hlt HF.out HO2.out HX.out HB.out
      case measure => simp [intOf]; omega
    · obtain rfl : len = k := by omega
      go_wp2
      go_ret
      have hl := HR.out.1
      have hy : ys = fs.map (·.k) := ext_getD (by have := HO2.out.1; rw [List.length_map] at this; rw [List.length_map]; omega) (fun j hj => by
        rw [getD_map_k]; exact HX.out j (by have := HO2.out.1; rw [List.length_map] at this; omega))
      refine ⟨rfl, ?_, HB.out⟩
      rw [← hy]
      exact reads_own HO2.out
end Go.Proofs.YtflgemlhocjipaaGreatDoor.Pq
