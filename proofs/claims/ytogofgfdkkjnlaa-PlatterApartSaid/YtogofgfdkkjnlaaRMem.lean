/-
  The document's disk in memory: rows laid behind rows; a count less to live; a sector as it was written last. No condition.
-/
import Derived.Test.YtogofgfdkkjnlaaLay
import Derived.Lib.MinMax
namespace Go.Proofs.Ytogofgfdkkjnlaa
open Go.ChangeShapes Go.WideShapes Go.ChangeAt Go.RowKit

theorem run_append_src (T e size bytes : Nat) (i : TypeInfo) (z : Value) (hT : Try.prog.underlying T = some (.slice e)) (hi : Try.prog.info? e = some i) (hz : i.zero = some z) (hsize : i.size = size) (hby : i.bytes = bytes) (hzs : z.cells.size = size) (hsz : 0 < size)
    (w : World) (base b2 ty : Nat) (v : Value) (n : Nat) (xs : List Value) (hown : w.ownsRow base e size v n xs) (s : Value) (m : Nat) (ys : List Value) (hs : w.ownsRow b2 e size s m ys) (hone : ∀ u ∈ ys, u.oneCell' = true) (h63 : n + m ≤ maxLen) (h47 : (n + m) * bytes ≤ 140737488355328) (hbase : base ≤ w.heap.size) :
    ∃ v' w', (Builtin.append_ #[T, T] ty #[v, s]).run Try.prog w = .ok v' w' ∧ w'.ownsRow base e size v' (n + m) (xs ++ ys) ∧ w.grownBy w' v.ownBlock := by
  rcases hs.2 with ⟨rfl, rfl⟩ | ⟨g, cap, cur, rfl, _, hg, hnc, hcm, _, _⟩
  · have hn : ys = [] := List.eq_nil_of_length_eq_zero (by have := hs.1; omega)
    subst hn
    refine ⟨v, w, ?_, by simpa using hown, World.grownBy.refl w _⟩
    rcases hown.2 with ⟨rfl, rfl⟩ | ⟨g, cap, cur, rfl, _, _, hnc, _⟩
    · simp [Builtin.append_, run_underlying hT, sizeOf, typeInfo, hi, Builtin.lenOf, Builtin.firstCells]
    · simp [Builtin.append_, run_underlying hT, sizeOf, typeInfo, hi, Builtin.lenOf, Builtin.firstCells, hnc, storeCells]
  · obtain ⟨v', w', hrun, h2, h3, _⟩ := run_append_own (P := Try.prog) w base T ty e i z size bytes hT hi hz hsize hby hzs hsz v n xs hown ⟨g, 0, none⟩ m cap ys hs.1 (hs.cells (g := g) rfl) hone h63 h47 hbase
    exact ⟨v', w', hrun, h2, h3⟩
/-- A row of strings, of writes, laid behind another. -/
theorem wpList_append_src {w : World} {ops : Array Oper} {rest : List Oper} {o : Oper} {a : Act} {Q : Exit → Act → World → Prop} (hgd : o.guard = none) (sv x : Operand) (T : TypeId)
    (ho : o.op = .call { callee := .builtin .append, args := #[sv, x], argTypes := #[T, T] }) (e size bytes : Nat) (z : Value) (hT : Try.prog.underlying T = some (.slice e)) (hinf : (Try.prog.info? e).map (fun i => (i.zero, i.size, i.bytes)) = some (some z, size, bytes)) (hzs : z.cells.size = size) (hsz : 0 < size)
    (base b2 : Nat) (v : Value) (n : Nat) (xs : List Value) (hs : a.eval sv = v) (hown : w.ownsRow base e size v n xs) (s : Value) (m : Nat) (ys : List Value) (hx : a.eval x = s) (hsrc : w.ownsRow b2 e size s m ys) (hone : ∀ u ∈ ys, u.oneCell' = true) (hm : n + m ≤ 1000000) (hb : bytes ≤ 100) (hbase : base ≤ w.heap.size)
    (h : ∀ v' w', w'.ownsRow base e size v' (n + m) (xs ++ ys) → w.grownBy w' v.ownBlock → wpList Try.prog ops Q rest (a.put o.dst v') w') : wpList Try.prog ops Q (o :: rest) a w := by
  refine wpList_plain hgd fun K hK => ?_
  obtain ⟨i, hi, hz0, hz1, hz2⟩ := info_parts hinf
  have h47 : (n + m) * bytes ≤ 140737488355328 := Nat.le_trans (Nat.mul_le_mul hm hb) (by decide)
  obtain ⟨v', w', hrun, h2, h3⟩ := run_append_src T e size bytes i z hT hi hz0 hz1 hz2 hzs hsz w base b2 o.type v n xs hown s m ys hsrc hone (by unfold maxLen; omega) h47 hbase
  unfold Oper.wp execOp
  simp only [ho, resolve, invoke, builtin, Sem.run_bind, Sem.run_pure, Result.andThen_ok, List.map_toArray, List.map_cons, List.map_nil, hs, hx, hrun]
  exact hK _ _ (h v' w' h2 h3)
theorem ints_read' {w : World} {g : Nat} {s : List Int} {t : TypeId} (hs : Sok s) (hg : w.heap[g]? = some (.cells (ints s).toArray t (0, 0))) : Reads w (some ⟨g, 0, none⟩) 64 s :=
  reads_mk hs.1 (fun _ => ⟨g, 0, rfl, fun i hi => by
    rw [Nat.zero_add, cell_of_row w g i _ t _ hg, getD_eq _ (by rw [hs.1]; exact hi)]
    simp [ints, hs.1, hi]⟩) hs.2
/-- The cells to be appended, out of a block that is known whole. -/
theorem World.news_of_block' {w : World} {B : Nat} {l : List Value} {t : TypeId} {fr : Nat × Nat} (hb : w.heap[B]? = some (.cells l.toArray t fr)) : ∀ j u, l[j]? = some u → w.cell? ((⟨B, 0, none⟩ : Addr).add j) = some u := fun j u hu => by
  rw [Go.WideShapes.add_plain, Nat.zero_add, cell_of_row w B j _ t fr hb]
  simpa using hu
/-- A struct of four cells, stored whole. -/
theorem set4 {w : World} {b : Nat} {t : TypeId} {a0 a1 a2 a3 : Value} (h : w.heap[b]? = some (.cells #[a0, a1, a2, a3] t (0, 0))) (x0 x1 x2 x3 : Value) :
    ((((w.setCell ⟨b, 0, none⟩ x0).setCell ⟨b, 1, none⟩ x1).setCell ⟨b, 2, none⟩ x2).setCell ⟨b, 3, none⟩ x3).heap[b]? = some (.cells #[x0, x1, x2, x3] t (0, 0)) ∧
    (∀ k, k ≠ b → ((((w.setCell ⟨b, 0, none⟩ x0).setCell ⟨b, 1, none⟩ x1).setCell ⟨b, 2, none⟩ x2).setCell ⟨b, 3, none⟩ x3).heap[k]? = w.heap[k]?) ∧
    (∀ B, B ≤ b → Below B w ((((w.setCell ⟨b, 0, none⟩ x0).setCell ⟨b, 1, none⟩ x1).setCell ⟨b, 2, none⟩ x2).setCell ⟨b, 3, none⟩ x3)) := by
  have h1 := heap_setCell_same w b 0 _ t x0 h
  have h2 := heap_setCell_same _ b 1 _ t x1 h1
  have h3 := heap_setCell_same _ b 2 _ t x2 h2
  have h4 := heap_setCell_same _ b 3 _ t x3 h3
  refine ⟨h4, fun k hk => ?_, fun B hB => ((((Below.refl _ _).setCell hB _).setCell hB _).setCell hB _).setCell hB _⟩
  rw [heap_setCell_other _ _ _ _ hk, heap_setCell_other _ _ _ _ hk, heap_setCell_other _ _ _ _ hk, heap_setCell_other _ _ _ _ hk]
theorem two_boxes' (w : World) (C1 C2 : Array Value) (t1 t2 : TypeId) : ((w.alloc (.cells C1 t1)).alloc (.cells C2 t2)).heap[w.heap.size]? = some (.cells C1 t1 (0, 0)) ∧ ((w.alloc (.cells C1 t1)).alloc (.cells C2 t2)).heap[w.heap.size + 1]? = some (.cells C2 t2 (0, 0)) :=
  ⟨heap_alloc2_old w _ _, heap_alloc2_new w _ _⟩
theorem strs_length (l : List (List Int)) : (strs l).length = l.length := by simp [strs]
theorem strs_set (l : List (List Int)) (k : Nat) (s : List Int) : (strs l).set k (.string (strOfNums s)) = strs (l.set k s) := by simp [strs]
theorem strs_at {l : List (List Int)} {k : Nat} (h : k < l.length) : (strs l)[k]? = some (.string (strOfNums (l.getD k []))) := by
  simp [strs, h]
theorem rcells_at {l : List Wr} {k : Nat} (h : k < l.length) : (rcells l)[k * 2]? = some (.int .i64 (l[k].1 : Int)) ∧ (rcells l)[k * 2 + 1]? = some (.string (strOfNums l[k].2)) := by
  have h0 := part_get rcell 2 l k h (fun _ _ => rfl) 0 (by decide)
  have h1 := part_get rcell 2 l k h (fun _ _ => rfl) 1 (by decide)
  exact ⟨h0, h1⟩
theorem rcells_take (l : List Wr) (k : Nat) : (rcells l).take (k * 2) = rcells (l.take k) := by
  induction l generalizing k with
  | nil => simp [rcells]
  | cons x l ih =>
    cases k with
    | zero => simp [rcells]
    | succ k =>
      have e : rcells (x :: l) = rcell x ++ rcells l := rfl
      have e2 : rcells ((x :: l).take (k + 1)) = rcell x ++ rcells (l.take k) := rfl
      have hl : (rcell x).length = 2 := rfl
      rw [e, e2, ← ih k, show (k + 1) * 2 = (rcell x).length + k * 2 by rw [hl]; omega, List.take_length_add_append]
/-- The disk's value. -/
def rv (fv wv : Value) (D : Dk) : Value := .agg #[fv, wv, .int .i64 D.armed, .bool D.dead]
def DiPost (w : World) (fv wv : Value) (D : Dk) (e : Ending) (w' : World) : Prop := e = .returned (.agg #[fv, wv, .int .i64 (dies D).armed, .bool (dies D).dead]) ∧ Below w.heap.size w w'
theorem rdies_sl (Af Aw : Option Addr) (lf cf lw cw : Nat) (D : Dk) (w : World) (h0 : 0 ≤ D.armed) (h1 : D.armed ≤ 9223372036854775807) : Calls Try.prog 32 #[.agg #[.slice Af lf cf, .slice Aw lw cw, .int .i64 D.armed, .bool D.dead]] w (DiPost w (.slice Af lf cf) (.slice Aw lw cw) D) := by
  obtain ⟨a, ha⟩ : ∃ a, a = D.armed := ⟨_, rfl⟩
  obtain ⟨d, hd⟩ : ∃ d, d = D.dead := ⟨_, rfl⟩
  rw [← ha] at h0 h1 ⊢
  rw [← hd]
  have HB : ∀ C1 C2 : Array Value, Hid (Below w.heap.size w ((w.alloc (.cells C1 28)).alloc (.cells C2 28))) := fun C1 C2 => Lib.hid ((box_below _ _).alloc (by simp) _)
  by_cases hp : 0 < a
  · by_cases h1' : a = 1
    · have HX : Hid ((dies D).armed = 0 ∧ (dies D).dead = true) := Lib.hid (by unfold dies; rw [if_pos (by omega)]; exact ⟨by simp only; omega, decide_eq_true (by omega)⟩)
      subst h1'
      clear ha hd h0 h1 hp
      go_enter Try.func32, Try.ntmps32
      go_wp2
      (try simp only [Exit.inBlock, Exit.then])
      refine bodyPost_ret (v := .agg #[.slice Af lf cf, .slice Aw lw cw, .int .i64 0, .bool true]) (by simp [results, Try.results32, go_sem]) rfl ?_
      exact ⟨by rw [HX.out.1, HX.out.2], (HB _ _).out⟩
    · have HX : Hid ((dies D).armed = a - 1 ∧ (dies D).dead = false) := Lib.hid (by unfold dies; rw [if_pos (by omega)]; exact ⟨by simp only; omega, decide_eq_false (by omega)⟩)
      have h2 : 1 < a := by omega
      have h3 : (a - 1 == 0) = false := by simp; omega
      clear ha hd h0 hp h1'
      go_enter Try.func32, Try.ntmps32
      go_wp2
      (try simp only [Exit.inBlock, Exit.then])
      refine bodyPost_ret (v := .agg #[.slice Af lf cf, .slice Aw lw cw, .int .i64 (a - 1), .bool false]) (by simp [results, Try.results32, go_sem]) rfl ?_
      exact ⟨by rw [HX.out.1, HX.out.2], (HB _ _).out⟩
  · have HX : Hid ((dies D).armed = a ∧ (dies D).dead = d) := Lib.hid (by unfold dies; rw [if_neg (by omega)]; exact ⟨ha.symm, hd.symm⟩)
    clear ha hd h0 h1
    go_enter Try.func32, Try.ntmps32
    go_wp2
    (try simp only [Exit.inBlock, Exit.then])
    refine bodyPost_ret (v := .agg #[.slice Af lf cf, .slice Aw lw cw, .int .i64 a, .bool d]) (by simp [results, Try.results32, go_sem]) rfl ?_
    exact ⟨by rw [HX.out.1, HX.out.2], (HB _ _).out⟩
theorem rdies_any (B : Nat) (fv wv : Value) (D : Dk) (w : World) (h : RDisk w B fv wv D) (hok : Dok D) : Calls Try.prog 32 #[.agg #[fv, wv, .int .i64 D.armed, .bool D.dead]] w (DiPost w fv wv D) := by
  obtain ⟨Af, cf, rfl, -, -, -⟩ := own_form h.firm
  obtain ⟨Aw, cw, rfl, -, -, -⟩ := own_form h.wait
  exact rdies_sl Af Aw _ cf _ cw D w hok.2.2.1 hok.2.2.2
/-- One write more, as it is seen at one sector. -/
theorem read_next {l : List (List Int)} {ws : List Wr} {k n : Nat} (hk : k < ws.length) (hn : n < l.length) :
    (ups l (ws.take (k + 1))).getD n [] = if ws[k].1 = n then ws[k].2 else (ups l (ws.take k)).getD n [] := by
  rw [ups_succ l ws k hk]
  unfold put1
  by_cases h : ws[k].1 = n
  · rw [if_pos h, h, getD_set_same (by rw [ups_length]; exact hn)]
  · rw [if_neg h, getD_set_other h]
theorem ret_s {a b : ByteArray} (h : a = b) : Ending.returned (.string a) = .returned (.string b) := by rw [h]
def RrPost (w : World) (D : Dk) (n : Nat) (e : Ending) (w' : World) : Prop := e = .returned (.string (strOfNums ((cur D).getD n []))) ∧ Below w.heap.size w w'
theorem rread_any (B : Nat) (fv wv : Value) (D : Dk) (n : Nat) (w : World) (h : RDisk w B fv wv D) (hn : n < D.firm.length) :
    Calls Try.prog 28 #[.agg #[fv, wv, .int .i64 D.armed, .bool D.dead], .int .i64 (n : Int)] w (RrPost w D n) := by
  obtain ⟨Af, cf, rfl, -, -, hgf⟩ := own_form h.firm
  obtain ⟨gf, rfl⟩ := hgf (by omega)
  obtain ⟨Aw, cw, rfl, hlw, hcw, hgw⟩ := own_form h.wait
  have hb := box_below w (.cells #[.slice (some ⟨gf, 0, none⟩) D.firm.length cf, .slice Aw D.wait.length cw, .int .i64 D.armed, .bool D.dead] 28)
  have h' := h.kept hb
  have HR := Lib.hid h'
  have HG := Lib.hid hgw
  have HN := Lib.hid hn
  obtain ⟨s0, hs0⟩ : ∃ s0, s0 = strOfNums (D.firm.getD n []) := ⟨_, rfl⟩
  have c0 : (w.alloc (.cells #[.slice (some ⟨gf, 0, none⟩) D.firm.length cf, .slice Aw D.wait.length cw, .int .i64 D.armed, .bool D.dead] 28)).cell? ⟨gf, n, none⟩ = some (.string s0) := by rw [hs0]; exact own_cell h'.firm n _ (strs_at hn)
  have HS0 := Lib.hid hs0
  have hn0 : (0 : Int) ≤ (n : Int) := by omega
  have hn1 : (n : Int) < (D.firm.length : Int) := by omega
  have hcw' : D.wait.length ≤ 9223372036854775807 := by unfold maxLen at hcw; omega
  clear h h' hb hgw hgf hn hs0 hcw hlw
  go_enter Try.func28, Try.ntmps28
  go_wp2
  go_loop [5, 6] (fun s i => ∃ k : Nat, k ≤ D.wait.length ∧ i = .int .i64 k ∧ s = .string (strOfNums ((ups D.firm (D.wait.take k)).getD n []))) (fun _ i => D.wait.length - (intOf i).toNat)
  case atStart => exact ⟨0, Nat.zero_le _, rfl, by rw [HS0.out]; rfl⟩
  case round =>
    obtain ⟨k, hk, rfl, rfl⟩ := hrel
    obtain ⟨S, hS⟩ : ∃ S, S = strOfNums ((ups D.firm (D.wait.take k)).getD n []) := ⟨_, rfl⟩
    rw [← hS]
    by_cases hlt : k < D.wait.length
    · obtain ⟨gw, rfl⟩ := HG.out (by omega)
      obtain ⟨m, hm⟩ : ∃ m, m = D.wait[k].1 := ⟨_, rfl⟩
      obtain ⟨S2, hS2⟩ : ∃ S2, S2 = strOfNums D.wait[k].2 := ⟨_, rfl⟩
      have q1 : (w.alloc (.cells #[.slice (some ⟨gf, 0, none⟩) D.firm.length cf, .slice (some ⟨gw, 0, none⟩) D.wait.length cw, .int .i64 D.armed, .bool D.dead] 28)).cell? ⟨gw, k * 2, none⟩ = some (.int .i64 (m : Int)) := by rw [hm]; exact own_cell HR.out.wait _ _ (rcells_at hlt).1
      have q2 : (w.alloc (.cells #[.slice (some ⟨gf, 0, none⟩) D.firm.length cf, .slice (some ⟨gw, 0, none⟩) D.wait.length cw, .int .i64 D.armed, .bool D.dead] 28)).cell? ⟨gw, k * 2 + 1, none⟩ = some (.string S2) := by rw [hS2]; exact own_cell HR.out.wait _ _ (rcells_at hlt).2
      have HNX := Lib.hid (read_next (n := n) hlt HN.out)
      have HSS := Lib.hid hS
      have HS2 := Lib.hid hS2
      have HM := Lib.hid hm
      have hk0 : (0 : Int) ≤ (k : Int) := by omega
      have hk1 : (k : Int) < (D.wait.length : Int) := by omega
      clear hS hS2 hm
      by_cases he : m = n
      · have HE : Hid (D.wait[k].1 = n) := Lib.hid (by rw [← HM.out]; exact he)
        subst he
        go_wp2
        go_round
        case rel => exact ⟨k + 1, by omega, by go_num, by rw [HNX.out, if_pos HE.out, HS2.out]⟩
        case measure => simp [intOf]; omega
      · have he' : ((m : Int) == (n : Int)) = false := by simp; omega
        have HE : Hid (¬ D.wait[k].1 = n) := Lib.hid (by rw [← HM.out]; exact he)
        clear he
        go_wp2
        go_round
        case rel => exact ⟨k + 1, by omega, by go_num, by rw [HNX.out, if_neg HE.out, HSS.out]⟩
        case measure => simp [intOf]; omega
    · obtain rfl : D.wait.length = k := by omega
      have HE : Hid (S = strOfNums ((cur D).getD n [])) := Lib.hid (by rw [hS, List.take_of_length_le (Nat.le_refl _)]; rfl)
      clear hS
      go_wp2
      go_ret
      exact ⟨ret_s HE.out, box_below _ _⟩
end Go.Proofs.Ytogofgfdkkjnlaa
