/-
  Rows of numbers: an append of numbers to a row of the call's own; bytes 0 as a string. Append, where nothing dies. No condition.
-/
import Derived.Test.YtdbpnfceabklkaaOwn
namespace Go.Proofs.Ytdbpnfceabklkaa
set_option maxRecDepth 100000
open Go.ChangeShapes Go.WideShapes Go.ChangeAt Go.RowKit

theorem info3 : (Try.prog.info? 3).map (fun i => (i.zero, i.size, i.bytes)) = some (some (.int .i64 0), 1, 8) := by kernel_rfl
def i64s (l : List Int) : List Value := l.map (Value.int .i64)
theorem i64s_length (l : List Int) : (i64s l).length = l.length := List.length_map _
theorem i64s_cells (l : List Int) : ∀ u ∈ i64s l, u.oneCell' = true := fun u hu => by
  obtain ⟨s, _, rfl⟩ := List.mem_map.1 hu
  rfl
/-- Memory holds numbers. -/
def IReads (w : World) (A : Option Addr) (len : Nat) (l : List Int) : Prop :=
  l.length = len ∧ (0 < len → ∃ b off, A = some ⟨b, off, none⟩ ∧ ∀ i, i < len → w.cell? ⟨b, off + i, none⟩ = some (.int .i64 (l.getD i 0)))
theorem IReads.kept {w w' : World} {A : Option Addr} {len : Nat} {l : List Int} (h : IReads w A len l) (hb : Below w.heap.size w w') : IReads w' A len l := by
  refine ⟨h.1, fun hl => ?_⟩
  obtain ⟨b, off, e, hc⟩ := h.2 hl
  exact ⟨b, off, e, fun i hi => (hb.cell (p := ⟨b, off + i, none⟩) (cell_lt (hc i hi))).trans (hc i hi)⟩
theorem run_append_ints (w : World) (base ty : Nat) (v : Value) (n : Nat) (xs : List Value) (hown : w.ownsRow base 3 1 v n xs) (A : Option Addr) (m c : Nat) (l : List Int) (hr : IReads w A m l) (h47 : n + m ≤ 100000000) (hbase : base ≤ w.heap.size) :
    ∃ v' w', (Builtin.append_ #[45, 45] ty #[v, .slice A m c]).run Try.prog w = .ok v' w' ∧ w'.ownsRow base 3 1 v' (n + m) (xs ++ i64s l) ∧ w.grownBy w' v.ownBlock := by
  obtain ⟨i, hi, hz, hsize, hby⟩ := info_parts info3
  rcases A with _ | ad
  · have hm : m = 0 := by
      rcases Nat.eq_zero_or_pos m with h0 | h0
      · exact h0
      · obtain ⟨b, off, h, _⟩ := hr.2 h0
        cases h
    subst hm
    have hn : l = [] := List.eq_nil_of_length_eq_zero hr.1
    subst hn
    refine ⟨v, w, ?_, by simpa [i64s] using hown, World.grownBy.refl w _⟩
    rcases hown.2 with ⟨rfl, rfl⟩ | ⟨g, cap, cur, rfl, _, _, hnc, _⟩
    · simp [Builtin.append_, run_underlying Try.underlying45, sizeOf, typeInfo, hi, Builtin.lenOf, Builtin.firstCells]
    · simp [Builtin.append_, run_underlying Try.underlying45, sizeOf, typeInfo, hi, Builtin.lenOf, Builtin.firstCells, hnc, storeCells]
  · have hcells : ∀ j u, (i64s l)[j]? = some u → w.cell? (ad.add j) = some u := by
      intro j u hu
      rcases Nat.eq_zero_or_pos m with h0 | h0
      · have hn : l = [] := List.eq_nil_of_length_eq_zero (hr.1.trans h0)
        subst hn
        simp [i64s] at hu
      · obtain ⟨b, off, h, hc⟩ := hr.2 h0
        injection h with h
        subst h
        have hj : j < m := by have := (List.getElem?_eq_some_iff.1 hu).1; rw [i64s_length, hr.1] at this; exact this
        have := hc j hj
        unfold i64s at hu
        rw [List.getElem?_map, List.getElem?_eq_getElem (by rw [hr.1]; exact hj)] at hu
        rw [getD_eq _ (by rw [hr.1]; exact hj)] at this
        rw [← Option.some.inj hu]
        have e : (Addr.add ⟨b, off, none⟩ j) = ⟨b, off + j, none⟩ := by
          unfold Addr.add
          by_cases h0 : j = 0
          · subst h0; rfl
          · rw [if_neg h0]
        rw [e]; exact this
    obtain ⟨v', w', hrun, h2, h3, _⟩ := run_append_own (P := Try.prog) w base 45 ty 3 i _ 1 8 Try.underlying45 hi hz hsize hby rfl (by decide) v n xs hown ad m c (i64s l) (by rw [i64s_length, hr.1, Nat.mul_one]) hcells (i64s_cells l) (by unfold maxLen; omega) (by omega) hbase
    exact ⟨v', w', hrun, h2, h3⟩
theorem wpList_append_ints {w : World} {ops : Array Oper} {rest : List Oper} {o : Oper} {a : Act} {Q : Exit → Act → World → Prop} (hgd : o.guard = none) (s x : Operand)
    (ho : o.op = .call { callee := .builtin .append, args := #[s, x], argTypes := #[45, 45] })
    (base : Nat) (v : Value) (n : Nat) (xs : List Value) (hs : a.eval s = v) (hown : w.ownsRow base 3 1 v n xs) (A : Option Addr) (m c : Nat) (l : List Int) (hx : a.eval x = .slice A m c) (hr : IReads w A m l) (h47 : n + m ≤ 100000000) (hbase : base ≤ w.heap.size)
    (h : ∀ v' w', w'.ownsRow base 3 1 v' (n + m) (xs ++ i64s l) → w.grownBy w' v.ownBlock → wpList Try.prog ops Q rest (a.put o.dst v') w') : wpList Try.prog ops Q (o :: rest) a w := by
  refine wpList_plain hgd fun K hK => ?_
  obtain ⟨v', w', hrun, h2, h3⟩ := run_append_ints w base o.type v n xs hown A m c l hr h47 hbase
  unfold Oper.wp execOp
  simp only [ho, resolve, invoke, builtin, Sem.run_bind, Sem.run_pure, Result.andThen_ok, List.map_toArray, List.map_cons, List.map_nil, hs, hx, hrun]
  exact hK _ _ (h v' w' h2 h3)

theorem own_i64 {w : World} {base n c : Nat} {A : Option Addr} {l : List Int} (h : w.ownsRow base 3 1 (.slice A n c) n (i64s l)) (k : Nat) (hk : k < n) : ∃ g, A = some ⟨g, 0, none⟩ ∧ w.cell? ⟨g, k, none⟩ = some (.int .i64 (l.getD k 0)) ∧ w.cell? ⟨g, 0 + k, none⟩ = some (.int .i64 (l.getD k 0)) := by
  have hl : l.length = n := by have := h.1; rw [i64s_length] at this; omega
  obtain ⟨A', c', e, -, -, hg⟩ := own_form h
  injection e with e1 e2 e3
  obtain ⟨g, rfl⟩ := hg (by omega)
  subst e1
  have hc := own_cell h k (.int .i64 (l.getD k 0)) (by unfold i64s; rw [List.getElem?_map, List.getElem?_eq_getElem (by omega), getD_eq _ (by omega)]; rfl)
  exact ⟨g, rfl, hc, by rw [Nat.zero_add]; exact hc⟩
theorem own_kl {wr w' : World} {base n e s : Nat} {v : Value} {xs : List Value} (h : wr.ownsRow base e s v n xs) (he : e ≠ 84 ∧ e ≠ 87 ∧ e ≠ 91 ∧ e ≠ 5 ∧ e ≠ 74) {B : Nat} (hk : Kl B wr w') : w'.ownsRow base e s v n xs :=
  own_tag h (fun _ _ hc => hk.tag _ _ _ _ hc he)
theorem own_one3 (w : World) (base : Nat) (x : Int) (h : base ≤ w.heap.size) : (w.alloc (.cells #[.int .i64 x] 3)).ownsRow base 3 1 (.slice (some ⟨w.heap.size, 0, none⟩) 1 1) 1 (i64s [x]) :=
  ⟨rfl, .inr ⟨w.heap.size, 1, #[.int .i64 x], rfl, h, new_block w _, Nat.le_refl _, by unfold maxLen; omega, rfl, rfl⟩⟩
theorem new_grown {w w' : World} {o : Obj} {c m : Nat} (h : (w.alloc o).grownBy w' (Value.slice (some ⟨w.heap.size, 0, none⟩) m c).ownBlock) : Below w.heap.size w w' :=
  (box_below w o).grown h (box_below w o).size (fun k hk => by simp only [Value.ownBlock, Option.some.injEq] at hk; omega)
/-- Append, where nothing dies. -/
theorem run_append {w wr : World} {q p sz n : Nat} {G : Lg} {bv : Value} {D : Dk} {now firm : List (List Int)} (h : Run w q p sz n G bv D now firm wr) (S : ByteArray) (hz : S.size ≤ 9223372036854775807) :
    Calls Try.prog 23 #[.pointer (some ⟨q, 0, none⟩), .string S] wr fun e w' => e = .returned (.int .i64 (amissL false (need now) [sb S] sz)) ∧
      ∃ G' bv', Run w q p sz n G' bv' D (if amissL false (need now) [sb S] sz = 0 then now ++ [sb S] else now) firm w' ∧ Kl w.heap.size wr w' := by
  have hd := h.al.dead
  have hbs : G.bs.length = need now := by rw [h.al.inv.bs, enc_length]
  refine (append_led w.heap.size q p G bv D S wr h.pl hz).mono ?_
  rintro e w' ⟨he, hkl, hpl⟩
  rw [hd, h.size, hbs] at he hpl
  refine ⟨he, ?_⟩
  rcases hpl with ⟨h0, hpl⟩ | ⟨h0, bv', hpl⟩
  · rw [if_neg h0]
    exact ⟨G, bv, ⟨hpl, h.al, h.fr, h.size, h.len, h.wait, h.kl.trans hkl⟩, hkl⟩
  · rw [if_pos h0]
    have ha := append_alive h.al (s := sb S) (sb_bys _) (by rw [h.size, hbs]; exact h0)
    rw [h.size] at ha
    exact ⟨_, bv', ⟨hpl, ha, h.fr, rfl, h.len, h.wait, h.kl.trans hkl⟩, hkl⟩
/-- Bytes 0 that were made. -/
theorem make_zero (n : Nat) (hn : n ≤ 100000) : ∃ C : Array Value, (∀ w : World, (Instr.makeSlice 48 (.int .i64 (n : Int)) (.int .i64 (n : Int))).run Try.prog w = .ok (.slice (some ⟨w.heap.size, 0, none⟩) n n) (w.alloc (.cells C 5))) ∧
    ∀ w : World, Reads (w.alloc (.cells C 5)) (some ⟨w.heap.size, 0, none⟩) n (List.replicate n 0) := by
  obtain ⟨i0, hi, hz0, hz1, hz2⟩ := info_parts info5
  refine ⟨madeCells #[.int .u8 0] (n * 1), fun w => ?_, fun w => reads_mk List.length_replicate (fun _ => ⟨_, _, rfl, fun i hi => ?_⟩) (bys_zero n)⟩
  · have h := run_make (P := Try.prog) w 48 5 i0 (.int .u8 0) Try.underlying48 hi hz0 .i64 .i64 (n : Int) (n : Int) (by omega) (by omega) (by rw [hz2]; omega) (by omega)
    rw [hz1] at h
    simpa [Value.cells] using h
  · rw [cell_of_row _ _ (0 + i) _ 5 _ (new_block w _), Nat.zero_add, List.getD_eq_getElem?_getD, List.getElem?_replicate, if_pos hi]
    simp [madeCells, hi, Nat.mod_one]
end Go.Proofs.Ytdbpnfceabklkaa
