/-
  The plain mathematics of records: a field's bytes, what is amiss with it, and how bytes are read as fields; that reading undoes writing, and writing reading. No condition.
  Words for memory: a slice that reads as numbers, a slice of fields that reads as fields; that both are kept where older memory is. No condition.
  What pack.lay returns of a row of bytes of the call's own, a number, and places of bits: the row with those bytes of the number behind it. Condition: the row and the new bytes take together no more than 2^47 bytes.
  What pack.write returns of a row of bytes of the call's own and a field: the row with that field's bytes behind it. Condition: the row and 1026 bytes take together no more than 2^47 bytes.
  What pack.greatest and pack.amiss return: the greatest number of a kind, and what is amiss with a field. No condition.
  What pack.Encode returns of a slice of fields: their bytes, or the error of the first field with which something is amiss. Condition: the slice holds no more than 2^32 fields.
  What pack.Kinds returns of a slice of fields: a new slice of their kinds. Condition: the slice takes no more than 2^42 fields.
-/
import Derived.Laws.BytesArg
import Derived.Test.YtflgemlhocjipaaGreatDoorRows
import Derived.WalkKit
import Derived.ProofKit
import Derived.OpenShut
import Derived.Lib.Hide
import Derived.Outline
import Derived.Below
import Derived.OwnWalk
import Derived.Deep.LoopGhost
import Derived.Deep.Draws
import Derived.RegionTactic
import Derived.Maps.AppendAt
import Derived.ScopeJumps
import Derived.Deep.RegionHeld3
import Derived.Lib.AppendStr
import Derived.BigQuiet
import Derived.Deep.QuietTactic
namespace Go.Proofs.YtflgemlhocjipaaGreatDoor.Pq
set_option maxRecDepth 100000

/-- A field: its kind, its number, its text. -/
structure Fld where
  k : Int
  n : Int
  s : ByteArray
/-- A text's bytes as numbers. -/
def sb (s : ByteArray) : List Int := s.data.toList.map fun c => (c.toNat : Int)
def big : Int := 4611686018427387904
/-- The greatest number of a kind. -/
def grt (k : Int) : Int := if k = 1 then 255 else if k = 2 then big else if k = 3 then 0 else if k = 4 then 1 else -1
/-- What is amiss with a field: 0 where nothing is. -/
def ams (f : Fld) : Int := if f.n < 0 ∨ grt f.k < f.n ∨ (f.s.size ≠ 0 ∧ f.k ≠ 3) then 21 else if 1024 < f.s.size then 22 else 0
def be8 (n : Int) : List Int := [n / 72057594037927936 % 256, n / 281474976710656 % 256, n / 1099511627776 % 256, n / 4294967296 % 256, n / 16777216 % 256, n / 65536 % 256, n / 256 % 256, n % 256]
/-- A field's bytes. -/
def byts (f : Fld) : List Int := if f.k = 2 then be8 f.n else if f.k = 3 then (f.s.size : Int) / 256 % 256 :: (f.s.size : Int) % 256 :: sb f.s else [f.n % 256]
/-- The error of the first field with which something is amiss. -/
def errL : List Fld → Int
  | [] => 0
  | f :: r => if ams f = 0 then errL r else ams f
def bytL (l : List Fld) : List Int := l.flatMap byts
/-- The number that bytes are, the highest first. -/
def num (l : List Int) : Int := l.foldl (fun v x => v * 256 + x) 0
def wd (k : Int) : Nat := if k = 2 then 8 else if k = 3 then 2 else 1
inductive Rd where
  | bad (e : Int)
  | good (f : Fld) (n : Nat)
/-- The field of a kind that bytes begin with. -/
def rd (k : Int) (b : List Int) : Rd :=
  if k < 1 ∨ 4 < k then .bad 21
  else if b.length < wd k then .bad 20
  else if (k = 2 ∧ big < num (b.take 8)) ∨ (k = 4 ∧ 1 < num (b.take 1)) then .bad 21
  else if k ≠ 3 then .good ⟨k, num (b.take (wd k)), ⟨#[]⟩⟩ (wd k)
  else if 1024 < num (b.take 2) then .bad 22
  else if b.length < 2 + (num (b.take 2)).toNat then .bad 20
  else .good ⟨3, 0, strOfNums ((b.drop 2).take (num (b.take 2)).toNat)⟩ (2 + (num (b.take 2)).toNat)
inductive Sm where
  | bad (e : Int)
  | good (l : List Fld) (n : Nat)
def Sm.put (l : List Fld) (n : Nat) : Sm → Sm
  | .bad e => .bad e
  | .good m k => .good (l ++ m) (n + k)
/-- The fields of these kinds that bytes begin with. -/
def sm : List Int → List Int → Sm
  | [], _ => .good [] 0
  | k :: ks, b => match rd k b with
    | .bad e => .bad e
    | .good f n => (sm ks (b.drop n)).put [f] n
def dc (ks b : List Int) : Sm := match sm ks b with
  | .bad e => .bad e
  | .good l n => if n < b.length then .bad 21 else .good l n
/-- Each is a byte. -/
def Bys (l : List Int) : Prop := ∀ z ∈ l, 0 ≤ z ∧ z ≤ 255

theorem bys_take {a : List Int} (n : Nat) (ha : Bys a) : Bys (a.take n) := fun z h => ha z (List.mem_of_mem_take h)
theorem bys_drop {a : List Int} (n : Nat) (ha : Bys a) : Bys (a.drop n) := fun z h => ha z (List.mem_of_mem_drop h)
theorem sb_str {l : List Int} (h : Bys l) : sb (strOfNums l) = l := by
  simp only [strOfNums, sb, List.map_map]
  conv => rhs; rw [← List.map_id l]
  apply List.map_congr_left
  intro c hc
  have := h c hc
  simp only [Function.comp, id]
  have e : (UInt8.ofNat c.toNat).toNat = c.toNat % 256 := by simp
  rw [e]; omega
theorem size_zero {s : ByteArray} (h : s.size = 0) : s = ⟨#[]⟩ := by
  obtain ⟨⟨l⟩⟩ := s
  have : l = [] := List.eq_nil_of_length_eq_zero (by simpa [ByteArray.size] using h)
  rw [this]
theorem num_two (a b : Int) (r : List Int) : num ((a :: b :: r).take 2) = a * 256 + b := by simp [num]
theorem num_one (a : Int) (r : List Int) : num ((a :: r).take 1) = a := by simp [num]
/-- What nothing amiss means, kind by kind. -/
theorem ams_zero {f : Fld} (h : ams f = 0) : (f.k = 1 ∧ 0 ≤ f.n ∧ f.n ≤ 255 ∧ f.s = ⟨#[]⟩) ∨ (f.k = 2 ∧ 0 ≤ f.n ∧ f.n ≤ big ∧ f.s = ⟨#[]⟩) ∨ (f.k = 3 ∧ f.n = 0 ∧ f.s.size ≤ 1024) ∨ (f.k = 4 ∧ 0 ≤ f.n ∧ f.n ≤ 1 ∧ f.s = ⟨#[]⟩) := by
  unfold ams at h
  split at h
  · cases h
  rename_i h1
  split at h
  · cases h
  rename_i h2
  unfold grt at h1
  by_cases k1 : f.k = 1
  · rw [if_pos k1] at h1
    exact .inl ⟨k1, by omega, by omega, size_zero (by omega)⟩
  rw [if_neg k1] at h1
  by_cases k2 : f.k = 2
  · rw [if_pos k2] at h1
    exact .inr (.inl ⟨k2, by omega, by omega, size_zero (by omega)⟩)
  rw [if_neg k2] at h1
  by_cases k3 : f.k = 3
  · rw [if_pos k3] at h1
    exact .inr (.inr (.inl ⟨k3, by omega, by omega⟩))
  rw [if_neg k3] at h1
  by_cases k4 : f.k = 4
  · rw [if_pos k4] at h1
    exact .inr (.inr (.inr ⟨k4, by omega, by omega, size_zero (by omega)⟩))
  rw [if_neg k4] at h1
  omega
theorem size_empty : (⟨#[]⟩ : ByteArray).size = 0 := rfl
theorem errL_cons {f : Fld} {l : List Fld} (h : errL (f :: l) = 0) : ams f = 0 ∧ errL l = 0 := by
  unfold errL at h
  split at h
  · exact ⟨by assumption, h⟩
  · contradiction
theorem bytL_cons (f : Fld) (l : List Fld) : bytL (f :: l) = byts f ++ bytL l := rfl
theorem num_two_bd {l : List Int} (h : Bys l) (hl : 2 ≤ l.length) : ∃ a b r, l = a :: b :: r ∧ 0 ≤ a ∧ a ≤ 255 ∧ 0 ≤ b ∧ b ≤ 255 := by
  match l, hl with
  | a :: b :: r, _ =>
    have h1 := h a (by simp)
    have h2 := h b (by simp)
    exact ⟨a, b, r, rfl, h1.1, h1.2, h2.1, h2.2⟩
theorem num_one_bd {l : List Int} (h : Bys l) (hl : 1 ≤ l.length) : ∃ a r, l = a :: r ∧ 0 ≤ a ∧ a ≤ 255 := by
  match l, hl with
  | a :: r, _ =>
    have h1 := h a (by simp)
    exact ⟨a, r, rfl, h1.1, h1.2⟩
theorem num_eight_bd {l : List Int} (h : Bys l) (hl : 8 ≤ l.length) : be8 (num (l.take 8)) = l.take 8 ∧ 0 ≤ num (l.take 8) ∧ num (l.take 8) ≤ 18446744073709551615 := by
  match l, hl with
  | a :: b :: c :: d :: e :: f :: g :: i :: r, _ =>
    have h1 := h a (by simp)
    have h2 := h b (by simp)
    have h3 := h c (by simp)
    have h4 := h d (by simp)
    have h5 := h e (by simp)
    have h6 := h f (by simp)
    have h7 := h g (by simp)
    have h8 := h i (by simp)
    simp only [List.take_succ_cons, List.take_zero, num, List.foldl_cons, List.foldl_nil, be8]
    refine ⟨?_, by omega, by omega⟩
    simp only [List.cons.injEq, and_true]
    refine ⟨?_, ?_, ?_, ?_, ?_, ?_, ?_, ?_⟩ <;> omega
/-- What was read is a field that is written so. -/
theorem rd_good {k : Int} {b : List Int} {f : Fld} {n : Nat} (hb : Bys b) (h : rd k b = .good f n) : n ≤ b.length ∧ f.k = k ∧ ams f = 0 ∧ byts f = b.take n ∧ 0 < n := by
  unfold rd at h
  split at h
  · cases h
  rename_i h1
  split at h
  · cases h
  rename_i h2
  split at h
  · cases h
  rename_i h3
  split at h
  · rename_i h4
    injection h with e1 e2
    subst e1 e2
    by_cases k2 : k = 2
    · subst k2
      have hw : wd 2 = 8 := rfl
      rw [hw] at h2 ⊢
      obtain ⟨g1, g2, g3⟩ := num_eight_bd hb (by omega)
      refine ⟨by omega, rfl, ?_, ?_, by omega⟩
      · have : ¬ big < num (b.take 8) := fun hh => h3 (.inl ⟨rfl, hh⟩)
        simp [ams, grt, size_empty]
        omega
      · simp only [byts, if_true]; exact g1
    · have hw : wd k = 1 := by unfold wd; rw [if_neg k2, if_neg h4]
      rw [hw] at h2 ⊢
      obtain ⟨a, r, rfl, ha0, ha1⟩ := num_one_bd hb (by omega)
      rw [num_one] at h3 ⊢
      refine ⟨by simp, rfl, ?_, ?_, by omega⟩
      · have hk : k = 1 ∨ k = 4 := by omega
        rcases hk with rfl | rfl
        · simp [ams, grt, size_empty]; omega
        · have : ¬ 1 < a := fun hh => h3 (.inr ⟨rfl, hh⟩)
          simp [ams, grt, size_empty]; omega
      · simp only [byts, if_neg k2, if_neg h4]
        have : a % 256 = a := by omega
        rw [this]; rfl
  · rename_i h4
    have hk : k = 3 := by omega
    subst hk
    have hw : wd 3 = 2 := rfl
    rw [hw] at h2
    split at h
    · cases h
    rename_i h5
    split at h
    · cases h
    rename_i h6
    injection h with e1 e2
    subst e1 e2
    obtain ⟨a, c, r, rfl, ha0, ha1, hc0, hc1⟩ := num_two_bd hb (by omega)
    rw [num_two] at h5 h6 ⊢
    have hr : Bys r := fun z hz => hb z (by simp [hz])
    have hlen : (a * 256 + c).toNat ≤ r.length := by simp at h6; omega
    have hsz : (strOfNums ((a :: c :: r).drop 2 |>.take (a * 256 + c).toNat)).size = (a * 256 + c).toNat := by
      rw [strOfNums_size, List.length_take]; simp; omega
    refine ⟨by simp at h6 ⊢; omega, rfl, ?_, ?_, by omega⟩
    · simp only [ams, grt, hsz]
      simp
      omega
    · simp only [byts, hsz]
      have e1 : ((a * 256 + c).toNat : Int) / 256 % 256 = a := by omega
      have e2 : ((a * 256 + c).toNat : Int) % 256 = c := by omega
      rw [e1, e2]
      have e3 : 2 + (a * 256 + c).toNat = (a * 256 + c).toNat + 1 + 1 := by omega
      rw [e3]
      simp [sb_str (bys_take _ hr)]
theorem sm_good {ks b : List Int} {l : List Fld} {n : Nat} (hb : Bys b) (h : sm ks b = .good l n) : n ≤ b.length ∧ errL l = 0 ∧ bytL l = b.take n ∧ l.length = ks.length := by
  induction ks generalizing b l n with
  | nil =>
    simp only [sm] at h
    injection h with e1 e2
    subst e1 e2
    simp [errL, bytL]
  | cons k ks ih =>
    simp only [sm] at h
    split at h
    · cases h
    · rename_i f m hr
      obtain ⟨g1, g2, g3, g4, g5⟩ := rd_good hb hr
      cases hs : sm ks (b.drop m) with
      | bad e => rw [hs] at h; cases h
      | good l' n' =>
        rw [hs] at h
        simp only [Sm.put] at h
        injection h with e1 e2
        subst e1 e2
        obtain ⟨i1, i2, i3, i4⟩ := ih (bys_drop m hb) hs
        rw [List.length_drop] at i1
        refine ⟨by omega, ?_, ?_, by simp [i4]⟩
        · simp [errL, g3, i2]
        · simp only [List.cons_append, List.nil_append, bytL_cons, g4, i3]
          rw [List.take_add]
theorem dc_good {ks b : List Int} {l : List Fld} {n : Nat} (hb : Bys b) (h : dc ks b = .good l n) : errL l = 0 ∧ bytL l = b ∧ l.length = ks.length := by
  unfold dc at h
  split at h
  · cases h
  · rename_i l' n' hs
    obtain ⟨i1, i2, i3, i4⟩ := sm_good hb hs
    split at h
    · cases h
    · injection h with e1 e2
      subst e1 e2
      refine ⟨i2, ?_, i4⟩
      rw [i3, List.take_of_length_le (by omega)]
end Go.Proofs.YtflgemlhocjipaaGreatDoor.Pq
namespace Go.Proofs.YtflgemlhocjipaaGreatDoor.Pq
set_option maxRecDepth 100000
open Go.ChangeShapes Go.WideShapes Go.ChangeAt Go.RowKit

/-- Memory holds, from an address on, these numbers of a kind. -/
def Reads (K : IntKind) (w : World) (ad : Option Addr) (len : Nat) (zs : List Int) : Prop :=
  zs.length = len ∧ (0 < len → ∃ b off, ad = some ⟨b, off, none⟩ ∧ ∀ i, i < len → w.cell? ⟨b, off + i, none⟩ = some (.int K (zs.getD i 0)))
def z0 : Fld := ⟨0, 0, ⟨#[]⟩⟩
/-- Memory holds, from an address on, these fields, three cells each. -/
def FReads (w : World) (ad : Option Addr) (len : Nat) (fs : List Fld) : Prop :=
  fs.length = len ∧ (0 < len → ∃ b off, ad = some ⟨b, off, none⟩ ∧ ∀ i, i < len →
    w.cell? ⟨b, off + i * 3, none⟩ = some (.int .i64 (fs.getD i z0).k) ∧ w.cell? ⟨b, off + i * 3 + 1, none⟩ = some (.int .i64 (fs.getD i z0).n) ∧ w.cell? ⟨b, off + i * 3 + 2, none⟩ = some (.string (fs.getD i z0).s))

theorem cell_lt {w : World} {b : Nat} {o : Nat} {v : Value} (h : w.cell? ⟨b, o, none⟩ = some v) : b < w.heap.size := by
  rcases Nat.lt_or_ge b w.heap.size with h' | h'
  · exact h'
  · simp [World.cell?, Array.getElem?_eq_none h'] at h
theorem Reads.kept {K : IntKind} {w w' : World} {ad : Option Addr} {len : Nat} {zs : List Int} (hR : Reads K w ad len zs) (hb : Below w.heap.size w w') : Reads K w' ad len zs := by
  refine ⟨hR.1, fun hl => ?_⟩
  obtain ⟨b, off, e, hc⟩ := hR.2 hl
  exact ⟨b, off, e, fun i hi => (hb.cell (p := ⟨b, off + i, none⟩) (cell_lt (hc i hi))).trans (hc i hi)⟩
theorem FReads.kept {w w' : World} {ad : Option Addr} {len : Nat} {fs : List Fld} (hR : FReads w ad len fs) (hb : Below w.heap.size w w') : FReads w' ad len fs := by
  refine ⟨hR.1, fun hl => ?_⟩
  obtain ⟨b, off, e, hc⟩ := hR.2 hl
  refine ⟨b, off, e, fun i hi => ?_⟩
  obtain ⟨h1, h2, h3⟩ := hc i hi
  exact ⟨(hb.cell (p := ⟨b, off + i * 3, none⟩) (cell_lt h1)).trans h1, (hb.cell (p := ⟨b, off + i * 3 + 1, none⟩) (cell_lt h1)).trans h2, (hb.cell (p := ⟨b, off + i * 3 + 2, none⟩) (cell_lt h1)).trans h3⟩
end Go.Proofs.YtflgemlhocjipaaGreatDoor.Pq
namespace Go.Proofs.YtflgemlhocjipaaGreatDoor.Pq
set_option maxRecDepth 100000
open Go.ChangeShapes Go.WideShapes Go.ChangeAt Go.RowKit

theorem info5 : (Tryz.prog.info? 5).map (fun i => (i.zero, i.size, i.bytes)) = some (some (.int .u8 0), 1, 1) := by kernel_rfl
/-- Block g is just these cells, none frozen. -/
def Whole1 (w : World) (g : Nat) (t : TypeId) (cs : Array Value) : Prop := w.heap[g]? = some (.cells cs t (0, 0))
theorem Whole1.cell {w : World} {g : Nat} {t : TypeId} {cs : Array Value} (h : Whole1 w g t cs) (i : Nat) : w.cell? ⟨g, i, none⟩ = cs[i]? := cell_of_row w g i cs t (0, 0) h
theorem Whole1.lt {w : World} {g : Nat} {t : TypeId} {cs : Array Value} (h : Whole1 w g t cs) : g < w.heap.size := (Array.getElem?_eq_some_iff.1 h).1
theorem Whole1.alloc {w : World} {g : Nat} {t : TypeId} {cs : Array Value} (h : Whole1 w g t cs) (o : Obj) : Whole1 (w.alloc o) g t cs := (Below.heap_alloc w o g h.lt).trans h
theorem Whole1.grown {w w' : World} {g : Nat} {t : TypeId} {cs : Array Value} {row : Option Nat} (h : Whole1 w g t cs) (hb : w.grownBy w' row) (hg : some g ≠ row) : Whole1 w' g t cs := (hb.block g h.lt hg).trans h
theorem own_ge {w : World} {base e size n : Nat} {v : Value} {xs : List Value} (h : w.ownsRow base e size v n xs) : ∀ k, v.ownBlock = some k → base ≤ k := by
  intro k hk
  rcases h.2 with ⟨rfl, _⟩ | ⟨g, cap, cur, rfl, hb, _⟩
  · simp [Value.ownBlock] at hk
  · simp [Value.ownBlock] at hk; omega
/-- The byte of a number that begins at a bit. -/
def lb (n : Int) (s : Nat) : Int := n / (2 : Int) ^ s % (256 : Int)
end Go.Proofs.YtflgemlhocjipaaGreatDoor.Pq
namespace Go.Proofs.YtflgemlhocjipaaGreatDoor.Pq
set_option maxRecDepth 100000
open Go.ChangeShapes Go.WideShapes Go.ChangeAt Go.RowKit
/-- A scope in which the run jumps once, forward, to one label. -/
theorem wp_scope_once {P : Program} {a : Act} {w : World} {Q : Exit → Act → World → Prop} {c rest : Code} (l : Nat) (hf : findLabel c l = some rest)
    (h : c.wp P (Exit.jump l (fun a w => rest.wp P (Exit.noGoto Q) a w) Q) a w) : (Code.scope c).wp P Q a w :=
  wp_scope_jumps l (fun a w => rest.wp P (Exit.noGoto Q) a w) (fun _ _ => 0) hf h fun a w hj => Code.wp_mono (fun e a w he => by
    cases e with
    | goto l' => exact he.elim
    | normal => exact he
    | exit id => exact he
    | ret => exact he
    | panic ch => exact he
    | outgrown => exact he) hj
theorem new_whole (w : World) (cs : Array Value) (t : TypeId) : Whole1 (w.alloc (.cells cs t)) w.heap.size t cs := heap_alloc_new w _
theorem written {base len : Nat} {v : Value} {zs : List Int} {w w1 : World} {o : Obj} (hbase : base ≤ w.heap.size) (hown : w.ownsRow base 5 1 v len (zs.map (Value.int .u8))) (h : (w.alloc o).grownBy w1 v.ownBlock) : Below base w w1 :=
  ((Below.refl base w).alloc hbase o).grown h (by simp; omega) (own_ge hown)
end Go.Proofs.YtflgemlhocjipaaGreatDoor.Pq
namespace Go.Proofs.YtflgemlhocjipaaGreatDoor.Pq
set_option maxRecDepth 100000
open Go.ChangeShapes Go.WideShapes Go.ChangeAt Go.RowKit
theorem below_drewN {B : Nat} {a w : World} (h : Below B a w) (n : Nat) : Below B a (w.drewN n) := ⟨h.os, h.tape, h.output, h.size, h.block⟩
theorem ret_i64 {a b : Int} (h : a = b) : Ending.returned (.int .i64 a) = .returned (.int .i64 b) := by rw [h]
theorem greatest_any (k : Int) (w : World) : Calls Tryz.prog 132 #[.int .i64 k] w fun e w' => e = .returned (.int .i64 (grt k)) ∧ w' = w := by
  by_cases k1 : k = 1
  · subst k1
    go_enter Tryz.func132, Tryz.ntmps132
    go_wp2
    go_ret
    exact ⟨rfl, rfl⟩
  by_cases k2 : k = 2
  · subst k2
    go_enter Tryz.func132, Tryz.ntmps132
    go_wp2
    go_ret
    exact ⟨rfl, rfl⟩
  by_cases k3 : k = 3
  · subst k3
    go_enter Tryz.func132, Tryz.ntmps132
    go_wp2
    go_ret
    exact ⟨rfl, rfl⟩
  by_cases k4 : k = 4
  · subst k4
    go_enter Tryz.func132, Tryz.ntmps132
    go_wp2
    go_ret
    exact ⟨rfl, rfl⟩
  · have HG : Hid (grt k = -1) := Lib.hid (by unfold grt; rw [if_neg k1, if_neg k2, if_neg k3, if_neg k4])
    have t1 : (k == 1) = false := by simpa using k1
    have t2 : (k == 2) = false := by simpa using k2
    have t3 : (k == 3) = false := by simpa using k3
    have t4 : (k == 4) = false := by simpa using k4
    go_enter Tryz.func132, Tryz.ntmps132
    go_wp2
    go_ret
    exact ⟨ret_i64 HG.out.symm, rfl⟩
theorem below_box {w : World} {o : Obj} {n : Nat} : Below w.heap.size w ((w.alloc o).drewN n) := below_drewN ((Below.refl _ _).alloc (Nat.le_refl _) _) n
theorem amiss_neg (f : Fld) (w : World) (h : f.n < 0) :
    Calls Tryz.prog 95 #[.agg #[.int .i64 f.k, .int .i64 f.n, .string f.s]] w fun e w' => e = .returned (.int .i64 21) ∧ Below w.heap.size w w' := by
  go_enter Tryz.func95, Tryz.ntmps95
  go_wp2
  go_quiet (fail)
  go_wp2
  go_ret
  exact ⟨rfl, below_box⟩
theorem amiss_great (f : Fld) (w : World) (h0 : 0 ≤ f.n) (h : grt f.k < f.n) :
    Calls Tryz.prog 95 #[.agg #[.int .i64 f.k, .int .i64 f.n, .string f.s]] w fun e w' => e = .returned (.int .i64 21) ∧ Below w.heap.size w w' := by
  have h1 : decide (f.n < 0) = false := by simpa using h0
  go_enter Tryz.func95, Tryz.ntmps95
  go_wp2
  go_quiet ((go_at_call 132; exact Calls.quiet_of_same (greatest_any _ _)))
  go_wp2
  go_ret
  exact ⟨rfl, below_box⟩
theorem amiss_text (f : Fld) (w : World) (h0 : 0 ≤ f.n) (h : f.n ≤ grt f.k) (hs : f.s.size ≠ 0) (hk : f.k ≠ 3) :
    Calls Tryz.prog 95 #[.agg #[.int .i64 f.k, .int .i64 f.n, .string f.s]] w fun e w' => e = .returned (.int .i64 21) ∧ Below w.heap.size w w' := by
  have h1 : decide (f.n < 0) = false := by simpa using h0
  have h2 : decide (grt f.k < f.n) = false := by simpa using h
  have h3 : f.s.toList.isEmpty = false := by
    rw [ByteArray.toList_eq]
    have : 0 < f.s.data.toList.length := by show 0 < f.s.size; omega
    cases hh : f.s.data.toList with
    | nil => rw [hh] at this; simp at this
    | cons a l => rfl
  have h4 : (f.k != 3) = true := by simpa using hk
  clear hk hs
  go_enter Tryz.func95, Tryz.ntmps95
  go_wp2
  go_quiet ((go_at_call 132; exact Calls.quiet_of_same (greatest_any _ _)))
  go_wp2
  go_ret
  exact ⟨rfl, below_box⟩
theorem amiss_short (f : Fld) (w : World) (h0 : 0 ≤ f.n) (h : f.n ≤ grt f.k) (hs : f.s.size = 0) :
    Calls Tryz.prog 95 #[.agg #[.int .i64 f.k, .int .i64 f.n, .string f.s]] w fun e w' => e = .returned (.int .i64 0) ∧ Below w.heap.size w w' := by
  have h1 : decide (f.n < 0) = false := by simpa using h0
  have h2 : decide (grt f.k < f.n) = false := by simpa using h
  have h3 : f.s = ⟨#[]⟩ := size_zero hs
  rw [h3]
  clear hs
  go_enter Tryz.func95, Tryz.ntmps95
  go_wp2
  go_quiet ((go_at_call 132; exact Calls.quiet_of_same (greatest_any _ _)))
  go_wp2
  go_ret
  exact ⟨rfl, below_box⟩
theorem amiss_three (f : Fld) (w : World) (h0 : 0 ≤ f.n) (h : f.n ≤ grt f.k) (hs : f.s.size ≠ 0) (hk : f.k = 3) :
    Calls Tryz.prog 95 #[.agg #[.int .i64 f.k, .int .i64 f.n, .string f.s]] w fun e w' => e = .returned (.int .i64 (if 1024 < f.s.size then 22 else 0)) ∧ Below w.heap.size w w' := by
  have h1 : decide (f.n < 0) = false := by simpa using h0
  have h2 : decide (grt f.k < f.n) = false := by simpa using h
  have h3 : f.s.toList.isEmpty = false := by
    rw [ByteArray.toList_eq]
    have : 0 < f.s.data.toList.length := by show 0 < f.s.size; omega
    cases hh : f.s.data.toList with
    | nil => rw [hh] at this; simp at this
    | cons a l => rfl
  have h4 : (f.k != 3) = false := by simpa using hk
  clear hk hs
  by_cases hl : 1024 < f.s.size
  · rw [if_pos hl]
    go_enter Tryz.func95, Tryz.ntmps95
    go_wp2
    go_quiet ((go_at_call 132; exact Calls.quiet_of_same (greatest_any _ _)))
    go_wp2
    go_ret
    exact ⟨rfl, below_box⟩
  · rw [if_neg hl]
    go_enter Tryz.func95, Tryz.ntmps95
    go_wp2
    go_quiet ((go_at_call 132; exact Calls.quiet_of_same (greatest_any _ _)))
    go_wp2
    go_ret
    exact ⟨rfl, below_box⟩
theorem amiss_any (f : Fld) (w : World) :
    Calls Tryz.prog 95 #[.agg #[.int .i64 f.k, .int .i64 f.n, .string f.s]] w fun e w' => e = .returned (.int .i64 (ams f)) ∧ Below w.heap.size w w' := by
  by_cases h0 : f.n < 0
  · have e : ams f = 21 := by unfold ams; rw [if_pos (.inl h0)]
    rw [e]; exact amiss_neg f w h0
  by_cases h1 : grt f.k < f.n
  · have e : ams f = 21 := by unfold ams; rw [if_pos (.inr (.inl h1))]
    rw [e]; exact amiss_great f w (by omega) h1
  by_cases hs : f.s.size = 0
  · have e : ams f = 0 := by
      unfold ams
      rw [if_neg (fun h => by rcases h with h | h | h; exact h0 h; exact h1 h; exact h.1 hs), if_neg (by omega)]
    rw [e]; exact amiss_short f w (by omega) (by omega) hs
  by_cases hk : f.k = 3
  · have e : ams f = if 1024 < f.s.size then 22 else 0 := by
      unfold ams
      rw [if_neg (fun h => by rcases h with h | h | h; exact h0 h; exact h1 h; exact h.2 hk)]
    rw [e]; exact amiss_three f w (by omega) (by omega) hs hk
  · have e : ams f = 21 := by unfold ams; rw [if_pos (.inr (.inr ⟨hs, hk⟩))]
    rw [e]; exact amiss_text f w (by omega) (by omega) hs hk
end Go.Proofs.YtflgemlhocjipaaGreatDoor.Pq
namespace Go.Proofs.YtflgemlhocjipaaGreatDoor.Pq
set_option maxRecDepth 100000
open Go.ChangeShapes Go.WideShapes Go.ChangeAt Go.RowKit

theorem own_below {w w' : World} {base e size n : Nat} {v : Value} {xs : List Value} (h : w.ownsRow base e size v n xs) (hb : Below w.heap.size w w') : w'.ownsRow base e size v n xs := by
  refine ⟨h.1, ?_⟩
  rcases h.2 with hn | ⟨g, cap, cur, rfl, hbg, hg, rest⟩
  · exact .inl hn
  · exact .inr ⟨g, cap, cur, rfl, hbg, (hb.block g (Array.getElem?_eq_some_iff.1 hg).1).trans hg, rest⟩
theorem own_reads {w : World} {base n : Nat} {e : TypeId} {K : IntKind} {v : Value} {zs : List Int} (h : w.ownsRow base e 1 v n (zs.map (Value.int K))) : ∃ A c, v = .slice A n c ∧ Reads K w A n zs ∧ n ≤ c ∧ c ≤ maxLen := by
  have hl : zs.length = n := by have := h.1; rw [List.length_map] at this; omega
  rcases h.2 with ⟨rfl, rfl⟩ | ⟨g, cap, cur, rfl, hbg, hg, hn, hc, hs, ht⟩
  · exact ⟨none, 0, rfl, ⟨hl, fun h => absurd h (by omega)⟩, by omega, by unfold maxLen; omega⟩
  · refine ⟨_, cap, rfl, ⟨hl, fun _ => ⟨g, 0, rfl, fun i hi => ?_⟩⟩, hn, hc⟩
    have hc : w.cell? ⟨g, 0 + i, none⟩ = (zs.map (Value.int K))[i]? := by
      rw [Nat.zero_add]
      have := h.cells (g := g) rfl i
      rw [Go.WideShapes.add_plain, Nat.zero_add] at this
      have hlt : i < (zs.map (Value.int K)).length := by rw [List.length_map]; omega
      rw [List.getElem?_eq_getElem hlt] at this ⊢
      exact this _ rfl
    rw [hc, List.getElem?_map, List.getD_eq_getElem?_getD, List.getElem?_eq_getElem (by omega)]
    rfl
end Go.Proofs.YtflgemlhocjipaaGreatDoor.Pq
namespace Go.Proofs.YtflgemlhocjipaaGreatDoor.Pq
set_option maxRecDepth 100000
open Go.ChangeShapes Go.WideShapes Go.ChangeAt Go.RowKit

theorem info3 : (Tryz.prog.info? 3).map (fun i => (i.zero, i.size, i.bytes)) = some (some (.int .i64 0), 1, 8) := by kernel_rfl
theorem reads_own {K : IntKind} {w : World} {base g len c : Nat} {e : TypeId} {ys : List Int} (h : w.ownsRow base e 1 (.slice (some ⟨g, 0, none⟩) len c) len (ys.map (Value.int K))) : Reads K w (some ⟨g, 0, none⟩) len ys := by
  have hl : ys.length = len := by have := h.1; rw [List.length_map] at this; omega
  refine ⟨hl, fun _ => ⟨g, 0, rfl, fun i hi => ?_⟩⟩
  rw [Nat.zero_add, h.cellAt i (by omega), List.getElem?_map, List.getD_eq_getElem?_getD, List.getElem?_eq_getElem (by omega)]
  rfl
theorem getD_map_k (fs : List Fld) (j : Nat) : (fs.map (·.k)).getD j 0 = (fs.getD j z0).k := by
  rw [List.getD_eq_getElem?_getD, List.getD_eq_getElem?_getD, List.getElem?_map]
  cases fs[j]? <;> rfl
theorem ext_getD {xs ys : List Int} (hl : xs.length = ys.length) (h : ∀ j, j < xs.length → xs.getD j 0 = ys.getD j 0) : xs = ys := by
  apply List.ext_getElem hl
  intro i h1 h2
  have := h i h1
  rw [List.getD_eq_getElem?_getD, List.getD_eq_getElem?_getD, List.getElem?_eq_getElem h1, List.getElem?_eq_getElem h2] at this
  exact this
/-- What the loop keeps: the first kinds are laid. -/
def KRel (w : World) (len : Nat) (fs : List Fld) (i : Value) (wr : World) : Prop :=
  ∃ (k : Nat) (ys : List Int), k ≤ len ∧ i = .int .i64 k ∧ wr.ownsRow w.heap.size 3 1 (.slice (some ⟨w.heap.size, 0, none⟩) len len) len (ys.map (Value.int .i64)) ∧ (∀ j, j < k → ys.getD j 0 = (fs.getD j z0).k) ∧ Below w.heap.size w wr
theorem kinds_round {w wr : World} {len k : Nat} {fs : List Fld} {ys : List Int} {f : Fld} (o : Obj) (hk : k < len) (hf : f = fs.getD k z0) (hown : wr.ownsRow w.heap.size 3 1 (.slice (some ⟨w.heap.size, 0, none⟩) len len) len (ys.map (Value.int .i64)))
    (hx : ∀ j, j < k → ys.getD j 0 = (fs.getD j z0).k) (hb : Below w.heap.size w wr) : KRel w len fs (.int .i64 ((k : Int) + 1)) ((wr.setCell ⟨w.heap.size, k, none⟩ (.int .i64 f.k)).alloc o) := by
  have hl : ys.length = len := by have := hown.1; rw [List.length_map] at this; omega
  refine ⟨k + 1, ys.set k f.k, by omega, by go_num, ?_, fun j hj => ?_, (hb.setCell (p := ⟨w.heap.size, k, none⟩) (Nat.le_refl _) _).alloc (by simpa using hb.size) o⟩
  · have h := ((hown.stored k (.int .i64 f.k)).1).alloc o
    rw [List.map_set]
    exact h
  · rw [List.getD_eq_getElem?_getD, List.getElem?_set]
    by_cases hij : k = j
    · rw [if_pos hij, if_pos (by omega)]
      subst hij hf
      rfl
    · rw [if_neg hij, ← List.getD_eq_getElem?_getD]; exact hx j (by omega)
set_option maxHeartbeats 1000000 in
theorem kinds_any (ad : Option Addr) (len cap : Nat) (fs : List Fld) (w : World) (hR : FReads w ad len fs) (hm : len ≤ 4398046511104) :
    Calls Tryz.prog 61 #[.slice ad len cap] w fun e w' => e = .returned (.slice (some ⟨w.heap.size, 0, none⟩) len len) ∧ Reads .i64 w' (some ⟨w.heap.size, 0, none⟩) len (fs.map (·.k)) ∧ Below w.heap.size w w' := by
  obtain ⟨i0, hi, hz0, hz1, hz2⟩ := info_parts info3
  have hmk := fun (w : World) => run_make (w := w) (P := Tryz.prog) 120 3 i0 (.int .i64 0) Tryz.underlying120 hi hz0 .i64 .i64 (len : Int) (len : Int) (by omega) (Int.le_refl _) (by rw [hz2]; omega) (by omega)
  have HO : Hid ((w.alloc (.cells (madeCells #[.int .i64 0] len) 3)).ownsRow w.heap.size 3 1 (.slice (some ⟨w.heap.size, 0, none⟩) len len) len ((List.replicate len 0).map (Value.int .i64))) := Lib.hid (by
    have h := World.ownsRow_lit (base := w.heap.size) (e := 3) (size := 1) w (madeCells #[.int .i64 0] len) len (Nat.le_refl _) (by unfold maxLen; omega) (by rw [size_madeCells, Nat.mul_one])
    rw [toList_madeCells_one] at h
    rw [List.map_replicate]
    exact h)
  have HR := Lib.hid hR
  clear hR
  go_enter Tryz.func61, Tryz.ntmps61
  go_wp2
  go_loopw [11] (fun i wr => KRel w len fs i wr) (fun i _ => len - (intOf i).toNat)
  case atStart => exact ⟨0, List.replicate len 0, by omega, rfl, HO.out, fun j hj => absurd hj (by omega), (Below.refl _ _).alloc (Nat.le_refl _) _⟩
  case round =>
    obtain ⟨k, ys, hk, rfl, hown, hx, hb⟩ := hrel
    have HO2 := Lib.hid hown
    have HX := Lib.hid hx
    have HB := Lib.hid hb
    clear hown hx hb
    by_cases hlt : k < len
    · obtain ⟨b, off, rfl, hc⟩ := (HR.out.kept HB.out).2 (by omega)
      obtain ⟨h1, h2, h3⟩ := hc k hlt
      obtain ⟨f, hf⟩ : ∃ f, f = fs.getD k z0 := ⟨_, rfl⟩
      rw [← hf] at h1 h2 h3
      have HF := Lib.hid hf
      have gx : wr.cell? ⟨w.heap.size, k, none⟩ = some (.int .i64 (ys.getD k 0)) := by
        have : k < ys.length := by have := HO2.out.1; rw [List.length_map] at this; omega
        rw [HO2.out.cellAt k (by omega), List.getElem?_map, List.getD_eq_getElem?_getD, List.getElem?_eq_getElem this]
        rfl
      have gf : wr.frozen? ⟨w.heap.size, k, none⟩ = false := HO2.out.frozenAt k
      have gl : w.heap.size < wr.heap.size := cell_lt gx
      clear hc hf
      go_wp2
      go_roundw
      case rel => exact kinds_round _ hlt HF.out HO2.out HX.out HB.out
      case measure => simp [intOf]; omega
    · obtain rfl : len = k := by omega
      go_wp2
      go_ret
      have hl := HR.out.1
      have hy : ys = fs.map (·.k) := ext_getD (by have := HO2.out.1; rw [List.length_map] at this; rw [List.length_map]; omega) (fun j hj => by
        rw [getD_map_k]; exact HX.out j (by have := HO2.out.1; rw [List.length_map] at this; omega))
      refine ⟨rfl, ?_, HB.out⟩
      rw [← hy]
      exact reads_own HO2.out
end Go.Proofs.YtflgemlhocjipaaGreatDoor.Pq
