/-
  The messages that a law keeps: a slice that may be cut short. Condition: not too many.
-/
import Derived.Test.YtdlhjpcofldfnaaDoes
import Derived.Deep.Upon
namespace Go.Proofs.Ytdlhjpcofldfnaa
set_option maxRecDepth 100000
open Go.ChangeShapes Go.WideShapes Go.ChangeAt Go.RowKit

/-- A slice that holds the messages; behind its length it has what its row has, or nothing. -/
structure SRow (w : World) (B : Nat) (A : Option Addr) (n c : Nat) (S : List Pk) : Prop where
  len : S.length = n
  own : ∃ c0, w.ownsRow B 31 3 (.slice A n c0) n (pcells S) ∧ (c = c0 ∨ c = n)
theorem SRow.nil (w : World) (B : Nat) : SRow w B none 0 0 [] := ⟨rfl, 0, ⟨rfl, .inl ⟨rfl, rfl⟩⟩, .inl rfl⟩
theorem SRow.of_own {w : World} {B n c : Nat} {A : Option Addr} {S : List Pk} (hl : S.length = n) (h : w.ownsRow B 31 3 (.slice A n c) n (pcells S)) : SRow w B A n c S := ⟨hl, c, h, .inl rfl⟩
theorem SRow.blk {w : World} {B n c : Nat} {A : Option Addr} {S : List Pk} (h : SRow w B A n c S) : ∀ a, A = some a → B ≤ a.block ∧ a.block < w.heap.size := fun a e => by
  obtain ⟨c0, ho, -⟩ := h.own
  have := ho.lt a.block (by rw [e]; rfl)
  exact this
theorem SRow.kept {w w' : World} {B n c : Nat} {A : Option Addr} {S : List Pk} (h : SRow w B A n c S) (hk : ∀ a, A = some a → w'.heap[a.block]? = w.heap[a.block]?) : SRow w' B A n c S := by
  obtain ⟨c0, ho, hc⟩ := h.own
  refine ⟨h.len, c0, ⟨ho.1, ?_⟩, hc⟩
  rcases ho.2 with hn | ⟨g, cap, cur, e, hbg, hg, rest⟩
  · exact .inl hn
  · refine .inr ⟨g, cap, cur, e, hbg, ?_, rest⟩
    injection e with e1 e2 e3
    exact (hk _ e1).trans hg
theorem SRow.at {w : World} {B n c : Nat} {A : Option Addr} {S : List Pk} (h : SRow w B A n c S) (hn : 0 < n) : ∃ g c0, A = some ⟨g, 0, none⟩ ∧ w.ownsRow B 31 3 (.slice (some ⟨g, 0, none⟩) n c0) n (pcells S) ∧ n ≤ c0 ∧ (c = c0 ∨ c = n) := by
  obtain ⟨c0, ho, hc⟩ := h.own
  obtain ⟨A', c', e, h1, h2, h3⟩ := own_form ho
  injection e with e1 e2 e3
  obtain ⟨g, hg⟩ := h3 hn
  rw [← e1] at hg
  subst hg
  exact ⟨g, c0, rfl, ho, by rw [e3]; exact h1, hc⟩
theorem SRow.cap {w : World} {B n c : Nat} {A : Option Addr} {S : List Pk} (h : SRow w B A n c S) : n ≤ c := by
  obtain ⟨c0, ho, hc⟩ := h.own
  obtain ⟨A', c', e, h1, h2, h3⟩ := own_form ho
  injection e with e1 e2 e3
  omega
theorem SRow.nilCap {w : World} {B n c : Nat} {S : List Pk} (h : SRow w B none n c S) : n = 0 ∧ c = 0 := by
  obtain ⟨c0, ho, hc⟩ := h.own
  rcases ho.2 with ⟨e, hn⟩ | ⟨g, cap, cur, e, _⟩
  · injection e with e1 e2 e3
    omega
  · injection e with e1 e2 e3
    cases e1
theorem SRow.cells {w : World} {B n g c : Nat} {S : List Pk} (h : SRow w B (some ⟨g, 0, none⟩) n c S) (j : Nat) (v : Value) (hv : (pcells S)[j]? = some v) : w.cell? ⟨g, j, none⟩ = some v := by
  obtain ⟨c0, ho, hc⟩ := h.own
  exact own_cell ho j v hv
theorem SRow.three {w : World} {B n g c : Nat} {S : List Pk} (h : SRow w B (some ⟨g, 0, none⟩) n c S) (k : Nat) (hk : k < n) :
    w.cell? ⟨g, k * 3, none⟩ = some (.int .i64 (S.getD k pk0).f) ∧ w.cell? ⟨g, k * 3 + 1, none⟩ = some (.int .i64 (S.getD k pk0).t) ∧ w.cell? ⟨g, k * 3 + 2, none⟩ = some (.string (S.getD k pk0).b) := by
  obtain ⟨c0, ho, hc⟩ := h.own
  have hl := h.len
  subst hl
  exact row_cells ho k hk
/-- One more. -/
theorem run_append_sent {w : World} {B n c : Nat} {A : Option Addr} {S : List Pk} (h : SRow w B A n c S) (ty : TypeId) (ad : Addr) (m c1 : Nat) (news : List Value) (hl : news.length = m * 3) (hnews : ∀ j u, news[j]? = some u → w.cell? (ad.add j) = some u) (h1 : ∀ u ∈ news, u.oneCell' = true)
    (hm : 0 < m) (hs : n + m ≤ 100000) (hB : B ≤ w.heap.size) :
    ∃ g cap w', (Builtin.append_ #[26, 26] ty #[.slice A n c, .slice (some ad) m c1]).run Try.prog w = .ok (.slice (some ⟨g, 0, none⟩) (n + m) cap) w' ∧
      w'.ownsRow B 31 3 (.slice (some ⟨g, 0, none⟩) (n + m) cap) (n + m) (pcells S ++ news) ∧ w.grownBy w' (Value.slice A n c).ownBlock ∧ ((Value.slice A n c).ownBlock = some g ∨ w.heap.size ≤ g) ∧ g < w'.heap.size := by
  obtain ⟨i0, hi, hz0, hz1, hz2⟩ := info_parts info31
  obtain ⟨c0, ho, hc⟩ := h.own
  have hmx : n + m ≤ maxLen := by unfold maxLen; omega
  have lies : c = c0 → _ := fun e => by
    subst e
    exact run_append_lies (P := Try.prog) w 26 ty B 31 i0 _ 3 32 Try.underlying26 hi hz0 hz1 hz2 rfl (by decide) (.slice A n c) n (pcells S) ho ad m c1 news hl hnews h1 hm hmx (by omega) hB w.heap.size rfl
  rcases hc with e | rfl
  · obtain ⟨g, cap, w', r1, r2, r3, r4, r5⟩ := lies e
    exact ⟨g, cap, w', r1, r2, r3, r4.imp id (fun e => by omega), r5⟩
  · cases A with
    | none =>
      obtain ⟨-, e2⟩ := h.nilCap
      obtain ⟨-, e3⟩ := (SRow.of_own h.len ho).nilCap
      obtain ⟨g, cap, w', r1, r2, r3, r4, r5⟩ := lies (e2.trans e3.symm)
      exact ⟨g, cap, w', r1, r2, r3, r4.imp id (fun e => by omega), r5⟩
    | some b =>
      have hb : ∀ j u, (pcells S)[j]? = some u → w.cell? (b.add j) = some u := fun j u hu => by
        obtain ⟨A', c', e, -, -, -⟩ := own_form ho
        rcases ho.2 with ⟨e0, _⟩ | ⟨g, cap, cur, e, hbg, hg, rest⟩
        · injection e0 with e1; cases e1
        · injection e with e1 e2 e3
          injection e1 with e1
          subst e1
          rw [Go.WideShapes.add_plain, Nat.zero_add]
          rw [e3] at ho
          exact own_cell ho j u hu
      obtain ⟨v', w', hrun, r1, r2⟩ := run_append_arg_grows (P := Try.prog) w 26 ty 31 i0 _ 3 32 Try.underlying26 hi hz0 hz1 hz2 rfl (by decide) b c c (pcells S) (by rw [pcells_length, h.len]) hb ad m c1 news hl hnews (by omega) hmx (by omega)
      obtain ⟨g, cap, rfl, hbg, hlt⟩ := r1.form (by omega)
      exact ⟨g, cap, w', hrun, own_base r1 hB, ⟨r2.os, r2.tape, r2.output, r2.size, fun k hk _ => r2.block k hk (by simp)⟩, .inr hbg, hlt⟩
theorem wpList_append_sent {w : World} {ops : Array Oper} {rest : List Oper} {o : Oper} {a : Act} {Q : Exit → Act → World → Prop} (hgd : o.guard = none) (s x : Operand)
    (ho : o.op = .call { callee := .builtin .append, args := #[s, x], argTypes := #[26, 26] }) {B n c : Nat} {A : Option Addr} {S : List Pk} (hs : a.eval s = .slice A n c) (h : SRow w B A n c S)
    (ad : Addr) (m c1 : Nat) (news : List Value) (hx : a.eval x = .slice (some ad) m c1) (hl : news.length = m * 3) (hnews : ∀ j u, news[j]? = some u → w.cell? (ad.add j) = some u) (h1 : ∀ u ∈ news, u.oneCell' = true)
    (hm : 0 < m) (hsm : n + m ≤ 100000) (hB : B ≤ w.heap.size)
    (hK : ∀ g cap w', w'.ownsRow B 31 3 (.slice (some ⟨g, 0, none⟩) (n + m) cap) (n + m) (pcells S ++ news) → w.grownBy w' (Value.slice A n c).ownBlock → ((Value.slice A n c).ownBlock = some g ∨ w.heap.size ≤ g) → g < w'.heap.size → wpList Try.prog ops Q rest (a.put o.dst (.slice (some ⟨g, 0, none⟩) (n + m) cap)) w') :
    wpList Try.prog ops Q (o :: rest) a w := by
  refine wpList_plain hgd fun K hK' => ?_
  obtain ⟨g, cap, w', hrun, r1, r2, r3, r4⟩ := run_append_sent h o.type ad m c1 news hl hnews h1 hm hsm hB
  unfold Oper.wp
  simp [execOp, ho, resolve, invoke, builtin, hs, hx, hrun, Result.andThen]
  exact hK' _ _ (hK g cap w' r1 r2 r3 r4)
/-- One less. -/
theorem pcells_take (L : List Pk) (k : Nat) (hk : k ≤ L.length) : (pcells L).take (k * 3) = pcells (L.take k) := by
  have h2 : L = L.take k ++ L.drop k := (List.take_append_drop _ _).symm
  conv => lhs; rw [h2, pcells_append]
  rw [List.take_append_of_le_length (by rw [pcells_length, List.length_take]; omega), List.take_of_length_le (by rw [pcells_length, List.length_take]; omega)]
theorem pcells_drop (L : List Pk) (k : Nat) (hk : k ≤ L.length) : (pcells L).drop (k * 3) = pcells (L.drop k) := by
  have h1 : L = L.take k ++ L.drop k := (List.take_append_drop _ _).symm
  conv => lhs; rw [h1, pcells_append]
  have hn : (pcells (L.take k)).length = k * 3 := by rw [pcells_length, List.length_take, Nat.min_eq_left hk]
  rw [List.drop_append, List.drop_eq_nil_of_le (by omega), List.nil_append, hn, Nat.sub_self, List.drop_zero]
theorem run_cut {w : World} {B n g c : Nat} {S : List Pk} (h : SRow w B (some ⟨g, 0, none⟩) n c S) {k : Nat} (hk : k < n) (ty : TypeId) (A2 : Addr) (cx : Nat) (hA : k + 1 < n → A2 = ⟨g, (k + 1) * 3, none⟩) (hn : n ≤ 100000) (hB : B ≤ w.heap.size) :
    ∃ g' c' w', (Builtin.append_ #[26, 26] ty #[.slice (some ⟨g, 0, none⟩) k k, .slice (some A2) (n - (k + 1)) cx]).run Try.prog w = .ok (.slice (some ⟨g', 0, none⟩) (n - 1) c') w' ∧
      SRow w' B (some ⟨g', 0, none⟩) (n - 1) c' (S.eraseIdx k) ∧ w.grownBy w' none ∧ (g' = g ∨ w.heap.size ≤ g') := by
  obtain ⟨i0, hi, hz0, hz1, hz2⟩ := info_parts info31
  have hl := h.len
  obtain ⟨c0, ho, hc⟩ := h.own
  have hel : (S.eraseIdx k).length = n - 1 := by rw [List.length_eraseIdx_of_lt (by omega), hl]
  have hmx : k + (n - (k + 1)) = n - 1 := by omega
  by_cases hlast : k + 1 = n
  · have e0 : n - (k + 1) = 0 := by omega
    have e1 : n - 1 = k := by omega
    rw [e0, e1]
    have hsrc : Src Try.prog i0.size 26 (.slice (some A2) 0 cx) 0 [] w := Src.ofSlice w Try.underlying26 A2 0 cx [] (by simp) (fun j u hu => by simp at hu) (fun u hu => by cases hu)
    have hrun := run_append_nothing (P := Try.prog) w 26 26 ty 31 i0 Try.underlying26 hi (some ⟨g, 0, none⟩) k k (Nat.le_refl _) (.slice (some A2) 0 cx) hsrc
    refine ⟨g, k, w, hrun, ⟨by rw [hel, e1], c0, ?_, .inr rfl⟩, ⟨rfl, rfl, rfl, Nat.le_refl _, fun _ _ _ => rfl⟩, .inl rfl⟩
    have h3 := own_short ho (show k ≤ n by omega)
    rw [pcells_take S k (by omega)] at h3
    rw [List.eraseIdx_eq_take_drop_succ, List.drop_eq_nil_of_le (by omega), List.append_nil]
    exact h3
  · have hA' := hA (by omega)
    subst hA'
    obtain ⟨v', w', hrun, r1, r2⟩ := run_append_arg_grows (P := Try.prog) w 26 ty 31 i0 _ 3 32 Try.underlying26 hi hz0 hz1 hz2 rfl (by decide) ⟨g, 0, none⟩ k k (pcells (S.take k)) (by rw [pcells_length, List.length_take, Nat.min_eq_left (by omega)])
      (fun j u hu => by
        rw [Go.WideShapes.add_plain, Nat.zero_add]
        rw [← pcells_take S k (by omega), List.getElem?_take] at hu
        split at hu
        · exact own_cell ho j u hu
        · cases hu)
      ⟨g, (k + 1) * 3, none⟩ (n - (k + 1)) cx (pcells (S.drop (k + 1))) (by rw [pcells_length, List.length_drop, hl])
      (fun j u hu => by
        rw [Go.WideShapes.add_plain]
        rw [← pcells_drop S (k + 1) (by omega), List.getElem?_drop] at hu
        exact own_cell ho _ u hu)
      (by omega) (by unfold maxLen; omega) (by omega)
    rw [hmx, ← pcells_append, ← List.eraseIdx_eq_take_drop_succ] at r1
    obtain ⟨g', cap, rfl, hbg, hlt⟩ := r1.form (by omega)
    exact ⟨g', cap, w', hrun, SRow.of_own hel (own_base r1 hB), r2, .inr hbg⟩
theorem step_cut {ops : Array Oper} {o : Oper} {a : Act} {w : World} {K : Act → World → Prop} {Q : Exit → Act → World → Prop} {E : Prop} (hgd : o.guard = none) (s x : Operand)
    (ho : o.op = .call { callee := .builtin .append, args := #[s, x], argTypes := #[26, 26] }) {B n g c : Nat} {S : List Pk} (h : SRow w B (some ⟨g, 0, none⟩) n c S) {k : Nat} (hk : k < n) (hs : a.eval s = .slice (some ⟨g, 0, none⟩) k k)
    (A2 : Addr) (cx : Nat) (hx : a.eval x = .slice (some A2) (n - (k + 1)) cx) (hA : k + 1 < n → A2 = ⟨g, (k + 1) * 3, none⟩) (hn : n ≤ 100000) (hB : B ≤ w.heap.size)
    (hK : ∀ g' c' w', SRow w' B (some ⟨g', 0, none⟩) (n - 1) c' (S.eraseIdx k) → w.grownBy w' none → (g' = g ∨ w.heap.size ≤ g') → K (a.put o.dst (.slice (some ⟨g', 0, none⟩) (n - 1) c')) w') :
    if Region.wanted o (yielded ops a.tmps) = true then Oper.wp Try.prog o a w K Q else E := by
  have hw : Region.wanted o (yielded ops a.tmps) = true := by simp [Region.wanted, hgd]
  rw [if_pos hw]
  obtain ⟨g', c', w', hrun, r1, r2, r3⟩ := run_cut h hk o.type A2 cx hA hn hB
  unfold Oper.wp
  simp [execOp, ho, resolve, invoke, builtin, hs, hx, hrun, Result.andThen]
  exact hK g' c' w' r1 r2 r3
/-- The parts of such a slice. -/
theorem slice_hm (g n c k : Nat) (hk : k ≤ c) (W : World) : (Instr.slice 26 (.slice (some ⟨g, 0, none⟩) n c) none (some (.int .i64 (k : Int))) (some (.int .i64 (k : Int)))).run Try.prog W = .ok (.slice (some ⟨g, 0, none⟩) k k) W := by
  obtain ⟨i0, hi, hz0, hz1, hz2⟩ := info_parts info31
  have e : Try.prog.elem 26 = 31 := by kernel_rfl
  rw [run_slice_hm (P := Try.prog) (w := W) 26 (some ⟨g, 0, none⟩) n c Try.underlying26 .i64 .i64 (k : Int) (k : Int) (by omega) (by omega) (by omega)]
  simp [e, sizeOf, typeInfo, hi, hz1, sliced, Go.WideShapes.add_plain]
/-- The net beside it. -/
structure SR (np mb : Nat) (rv : Value) (w : World) (B : Nat) (A : Option Addr) (n c : Nat) (S : List Pk) : Prop where
  row : SRow w B A n c S
  far : ∀ a, A = some a → a.block ≠ np ∧ a.block ≠ mb ∧ rv.ownBlock ≠ some a.block
theorem SR.kn {np mb B n c : Nat} {r1 r2 : Value} {w w' : World} {A : Option Addr} {S : List Pk} (h : SR np mb r1 w B A n c S) (k : Kn B np mb r1 r2 w w') : SR np mb r2 w' B A n c S := by
  refine ⟨h.row.kept (fun a e => k.kept _ (h.row.blk a e).2 (h.far a e).1 (h.far a e).2.1 (h.far a e).2.2), fun a e => ⟨(h.far a e).1, (h.far a e).2.1, fun e2 => ?_⟩⟩
  rcases k.row _ e2 with e3 | e3
  · exact (h.far a e).2.2 e3
  · have := (h.row.blk a e).2; omega
theorem NetW.grown {w w' : World} {B np mb : Nat} {rv : Value} {L : List Pk} {ap : List (Int × Int)} {row : Option Nat} (h : NetW w B np mb rv L ap) (hg : w.grownBy w' row) (hr : ∀ g, row = some g → g ≠ np ∧ g ≠ mb ∧ rv.ownBlock ≠ some g) : NetW w' B np mb rv L ap := by
  obtain ⟨n, D, m1, m2, m3⟩ := h.map
  have hn : w'.heap[np]? = w.heap[np]? := hg.block np h.lt.1 (fun e => (hr np e.symm).1 rfl)
  have hm : w'.heap[mb]? = w.heap[mb]? := hg.block mb h.lt.2 (fun e => (hr mb e.symm).2.1 rfl)
  refine ⟨hn.trans h.here, h.baseN, h.baseM, ⟨h.row.1, ?_⟩, ⟨n, D, m1, ownsMap_kept m2 hm, m3⟩, h.ok, h.small⟩
  rcases h.row.2 with hn | ⟨k, cap, cur, rfl, hbg, hg', rest⟩
  · exact .inl hn
  · exact .inr ⟨k, cap, cur, rfl, hbg, (hg.block k (Array.getElem?_eq_some_iff.1 hg').1 (fun e => (hr k e.symm).2.2 rfl)).trans hg', rest⟩
theorem Bx.grown {w w' : World} {np mb : Nat} {rv : Value} {b : Nat} {o : Obj} {row : Option Nat} (h : Bx np mb rv w b o) (hg : w.grownBy w' row) (hr : ∀ g, row = some g → g ≠ b) : Bx np mb rv w' b o :=
  ⟨(hg.block b (Array.getElem?_eq_some_iff.1 h.here).1 (fun e => hr b e.symm rfl)).trans h.here, h.n, h.m, h.r⟩
end Go.Proofs.Ytdlhjpcofldfnaa
