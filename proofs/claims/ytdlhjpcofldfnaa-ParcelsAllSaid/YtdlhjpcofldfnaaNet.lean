/-
  The net in memory: its messages, and the pairs that are apart, as keys of a map; what a call leaves of the rest. No condition.
-/
import Derived.Test.YtdlhjpcofldfnaaBase
namespace Go.Proofs.Ytdlhjpcofldfnaa
set_option maxRecDepth 100000
open Go.ChangeShapes Go.WideShapes Go.ChangeAt Go.RowKit

theorem laidOut : laidOutB Try.prog = true := by kernel_rfl
theorem row63 : (63 : TypeId) < Try.prog.types.size := of_decide_eq_true (by kernel_rfl)
theorem cells63 : Try.prog.cellsOf 63 = 2 := by kernel_rfl
theorem cells3 : Try.prog.cellsOf 3 = 1 := by kernel_rfl
theorem wide63 : (match Try.prog.underlying 63 with | some (.array _ _) | some (.struct _) => true | _ => false) = true := by kernel_rfl
theorem law63 : Go.Maps.Keyed Try.prog 63 := Go.Maps.Keyed.of_law (deep_law_laid laidOut (m := 2) (by omega) row63 (by kernel_rfl) wide63)
/-- Two ends, the lesser one first. -/
def kv (a b : Int) : Value := .agg #[.int .i64 (min a b), .int .i64 (max a b)]
theorem wf_i64 {a : Int} (h : I64 a) : (Lit.int .i64 a).wf = true := by
  unfold Lit.wf
  rw [Bool.and_eq_true, decide_eq_true_eq, decide_eq_true_eq]
  exact ⟨h.1, h.2⟩
theorem size_pos : ∃ m, Try.prog.types.size = m + 1 := ⟨_, (Nat.succ_pred_eq_of_pos (Nat.lt_of_le_of_lt (Nat.zero_le _) row63)).symm⟩
theorem key63 : Try.prog.keyType 63 = true := by kernel_rfl
theorem key_any (a b : Int) (ha : I64 a) (hb : I64 b) : ∃ l, keyOf Try.prog 63 (kv a b) = some l := by
  have h1 : (Lit.int .i64 (min a b)).wf = true := wf_i64 (by unfold I64 at *; omega)
  have h2 : (Lit.int .i64 (max a b)).wf = true := wf_i64 (by unfold I64 at *; omega)
  obtain ⟨m, hm⟩ := size_pos
  have hf : (kv a b).formed Try.prog 63 = true := by simp [kv, Value.formed, Try.underlying63, cells63]
  have hl : Try.prog.keyLits (Try.prog.types.size + 1) 63 [.int .i64 (min a b), .int .i64 (max a b)] = some [.int .i64 (min a b), .int .i64 (max a b)] := by
    rw [hm]
    simp [Program.keyLits, Try.underlying63, Try.underlying3, cells63, cells3, h1, h2]
  refine ⟨.string (keyBytes [.int .i64 (min a b), .int .i64 (max a b)]), ?_⟩
  unfold keyOf
  rw [Try.underlying63]
  simp only [key63, hf, Bool.and_self, if_true]
  have e : (kv a b).cells.toList = [.int .i64 (min a b), .int .i64 (max a b)] := rfl
  rw [e, hl]
  rfl
theorem kv_inj {a b a' b' : Int} (h : kv a b = kv a' b') : min a b = min a' b' ∧ max a b = max a' b' := by
  unfold kv at h
  injection h with h
  have h := congrArg Array.toList h
  simp at h
  exact h
/-- The pairs that are apart, as the map has them. -/
def ApOk (D : DataW Unit) (ap : List (Int × Int)) : Prop :=
  ∀ (a b : Int) (l : Lit), keyOf Try.prog 63 (kv a b) = some l → Go.Maps.has D l = decide ((min a b, max a b) ∈ ap)
theorem apok_nil : ApOk (.map []) [] := fun a b l _ => by simp [Go.Maps.has]
theorem apok_put {D : DataW Unit} {ap : List (Int × Int)} (h : ApOk D ap) (hm : Go.Maps.IsMap D) {a b : Int} {l : Lit} (hl : keyOf Try.prog 63 (kv a b) = some l) : ApOk (D.put l (.agg [])) ((min a b, max a b) :: ap) := fun a' b' l' hl' => by
  by_cases e : l = l'
  · subst e
    have hk := kv_inj (law63.inj hl hl')
    rw [Go.Maps.has_put_same hm (law63.key hl)]
    rw [hk.1, hk.2]
    simp
  · rw [Go.Maps.has_put_other (fun e' => e e'.symm)]
    rw [h a' b' l' hl']
    have hne : (min a' b', max a' b') ≠ (min a b, max a b) := fun e' => by
      injection e' with e1 e2
      apply e
      have : kv a b = kv a' b' := by unfold kv; rw [e1, e2]
      rw [this] at hl
      rw [hl] at hl'
      exact Option.some.inj hl'
    simp [hne]
/-- The net. -/
structure NetW (w : World) (B np mb : Nat) (rv : Value) (L : List Pk) (ap : List (Int × Int)) : Prop where
  here : w.heap[np]? = some (.cells #[rv, .map (some mb)] 51 (0, 0))
  baseN : B ≤ np
  baseM : B ≤ mb
  row : w.ownsRow B 31 3 rv L.length (pcells L)
  map : ∃ (n : Nat) (D : DataW Unit), n ≤ ap.length ∧ w.ownsMap Try.prog 63 unitElem mb n D ∧ ApOk D ap
  ok : ∀ x ∈ L, POk x
  small : L.length ≤ 2000 ∧ ap.length ≤ 1000000
/-- What a call leaves of the rest. -/
structure Kn (B np mb : Nat) (rv rv' : Value) (w w' : World) : Prop where
  below : Below B w w'
  kept : ∀ k, k < w.heap.size → k ≠ np → k ≠ mb → rv.ownBlock ≠ some k → w'.heap[k]? = w.heap[k]?
  row : ∀ k, rv'.ownBlock = some k → rv.ownBlock = some k ∨ w.heap.size ≤ k
theorem Kn.refl (B np mb : Nat) (rv : Value) (w : World) : Kn B np mb rv rv w w := ⟨Below.refl _ _, fun _ _ _ _ _ => rfl, fun _ h => .inl h⟩
theorem Kn.of_below {B np mb : Nat} {rv : Value} {w w' : World} (h : Below w.heap.size w w') (hB : B ≤ w.heap.size) : Kn B np mb rv rv w w' := ⟨h.mono hB, fun k hk _ _ _ => h.block k hk, fun _ h => .inl h⟩
theorem Kn.trans {B np mb : Nat} {r1 r2 r3 : Value} {a b c : World} (h : Kn B np mb r1 r2 a b) (k : Kn B np mb r2 r3 b c) : Kn B np mb r1 r3 a c :=
  ⟨h.below.trans k.below, fun i hi h1 h2 h3 => (k.kept i (Nat.lt_of_lt_of_le hi h.below.size) h1 h2 (fun e => by
    rcases h.row i e with e | e
    · exact h3 e
    · omega)).trans (h.kept i hi h1 h2 h3), fun i e => by
    rcases k.row i e with e | e
    · exact h.row i e
    · exact .inr (Nat.le_trans h.below.size e)⟩
/-- A block of the caller's. -/
structure Bx (np mb : Nat) (rv : Value) (w : World) (b : Nat) (o : Obj) : Prop where
  here : w.heap[b]? = some o
  n : b ≠ np
  m : b ≠ mb
  r : rv.ownBlock ≠ some b
theorem Bx.kn {B np mb : Nat} {r1 r2 : Value} {w w' : World} {b : Nat} {o : Obj} (h : Bx np mb r1 w b o) (k : Kn B np mb r1 r2 w w') : Bx np mb r2 w' b o := by
  have hlt : b < w.heap.size := (Array.getElem?_eq_some_iff.1 h.here).1
  refine ⟨(k.kept b hlt h.n h.m h.r).trans h.here, h.n, h.m, fun e => ?_⟩
  rcases k.row b e with e | e
  · exact h.r e
  · omega
theorem NetW.lt {w : World} {B np mb : Nat} {rv : Value} {L : List Pk} {ap : List (Int × Int)} (h : NetW w B np mb rv L ap) : np < w.heap.size ∧ mb < w.heap.size := by
  refine ⟨(Array.getElem?_eq_some_iff.1 h.here).1, ?_⟩
  obtain ⟨n, D, -, ⟨es, clock, hb, -⟩, -⟩ := h.map
  exact (Array.getElem?_eq_some_iff.1 hb).1
theorem NetW.size {w : World} {B np mb : Nat} {rv : Value} {L : List Pk} {ap : List (Int × Int)} (h : NetW w B np mb rv L ap) : B ≤ w.heap.size := Nat.le_trans h.baseN (Nat.le_of_lt h.lt.1)
theorem own_block_lt {w : World} {base e size n : Nat} {v : Value} {xs : List Value} (h : w.ownsRow base e size v n xs) : ∀ k, v.ownBlock = some k → k < w.heap.size := fun k hk => (h.lt k hk).2
theorem Bx.new {w : World} {B np mb : Nat} {rv : Value} {L : List Pk} {ap : List (Int × Int)} (h : NetW w B np mb rv L ap) (o : Obj) : Bx np mb rv (w.alloc o) w.heap.size o :=
  ⟨new_block w o, by have := h.lt.1; omega, by have := h.lt.2; omega, fun e => by have := own_block_lt h.row _ e; omega⟩
theorem ownsMap_kept {w w' : World} {mb n : Nat} {D : DataW Unit} (h : w.ownsMap Try.prog 63 unitElem mb n D) (hb : w'.heap[mb]? = w.heap[mb]?) : w'.ownsMap Try.prog 63 unitElem mb n D := by
  obtain ⟨es, clock, h1, h2⟩ := h
  exact ⟨es, clock, hb.trans h1, h2⟩
theorem NetW.kept {w w' : World} {B np mb : Nat} {rv : Value} {L : List Pk} {ap : List (Int × Int)} (h : NetW w B np mb rv L ap) (hb : Below w.heap.size w w') : NetW w' B np mb rv L ap := by
  obtain ⟨n, D, h1, h2, h3⟩ := h.map
  exact ⟨(hb.block np h.lt.1).trans h.here, h.baseN, h.baseM, own_below h.row hb, ⟨n, D, h1, ownsMap_kept h2 (hb.block mb h.lt.2), h3⟩, h.ok, h.small⟩
theorem NetW.mono {w : World} {B B' np mb : Nat} {rv : Value} {L : List Pk} {ap : List (Int × Int)} (h : NetW w B np mb rv L ap) (hb : B' ≤ B) : NetW w B' np mb rv L ap :=
  ⟨h.here, Nat.le_trans hb h.baseN, Nat.le_trans hb h.baseM, own_base h.row hb, h.map, h.ok, h.small⟩
/-- A block of the caller's that is written into. -/
theorem NetW.other {w w' : World} {B np mb : Nat} {rv : Value} {L : List Pk} {ap : List (Int × Int)} (h : NetW w B np mb rv L ap) {g : Nat} (h1 : g ≠ np) (h2 : g ≠ mb) (h3 : rv.ownBlock ≠ some g) (hk : ∀ k, k ≠ g → w'.heap[k]? = w.heap[k]?) : NetW w' B np mb rv L ap := by
  obtain ⟨n, D, m1, m2, m3⟩ := h.map
  refine ⟨(hk np (Ne.symm h1)).trans h.here, h.baseN, h.baseM, ⟨h.row.1, ?_⟩, ⟨n, D, m1, ownsMap_kept m2 (hk mb (Ne.symm h2)), m3⟩, h.ok, h.small⟩
  rcases h.row.2 with hn | ⟨k, cap, cur, rfl, hbg, hg, rest⟩
  · exact .inl hn
  · exact .inr ⟨k, cap, cur, rfl, hbg, (hk k (fun e => h3 (by rw [e]; rfl))).trans hg, rest⟩
end Go.Proofs.Ytdlhjpcofldfnaa
