/-
  What more, isEphemeral, fit, Get, New, Clone, asked return of any tree. Condition: a number is at most 2^62 where it goes on.
  Rows that are read, and rows that are laid behind others. No condition.
-/
import Derived.Test.YtflgemlhocjipaaGreatDoorMem
import Derived.Deep.AppendSrc
import Derived.Deep.Upon
namespace Go.Proofs.YtflgemlhocjipaaGreatDoor
set_option maxRecDepth 100000
open Go.ChangeShapes Go.WideShapes Go.ChangeAt Go.RowKit Go.Proofs.Zn Go.Proofs.Zt

theorem more_any (n : Int) (h : inr n = true) (w : World) : Calls Tryz.prog 147 #[.int .i64 n] w fun e w' => e = .returned (.int .i64 (up n)) ∧ w = w' := by
  have hn := inr_iff.1 h
  unfold mx at hn
  have e1 : IntKind.i64.wrap (n + 1) = n + 1 := by rw [IntKind.wrap_i64]; omega
  obtain ⟨x, hx⟩ : ∃ x, min (n + 1) 4611686018427387904 = x := ⟨_, rfl⟩
  have HU : Hid (up n = x) := Lib.hid (by unfold up mx; split <;> omega)
  clear hn h
  go_enter Tryz.func147, Tryz.ntmps147
  go_wp2_with fail
  go_ret
  exact ⟨ret_i HU.out.symm, rfl⟩
theorem box2 (w : World) (o1 o2 : Obj) : Below w.heap.size w ((w.alloc o1).alloc o2) := ((Below.refl _ _).alloc (Nat.le_refl _) _).alloc (by simp) _
def ndv (z : Nd) : Value := .agg #[.string (B z.path), .string (B z.data), .int .i64 z.cr, .int .i64 z.ch, .int .i64 z.kd, .int .i64 z.ver, .int .i64 z.ks, .int .i64 z.own, .int .i64 z.nx]
theorem isEph_any (z : Nd) (w : World) : Calls Tryz.prog 161 #[.agg #[.string (B z.path), .string (B z.data), .int .i64 z.cr, .int .i64 z.ch, .int .i64 z.kd, .int .i64 z.ver, .int .i64 z.ks, .int .i64 z.own, .int .i64 z.nx]] w fun e w' => e = .returned (.bool (!(z.own == 0))) ∧ Below w.heap.size w w' := by
  obtain ⟨b, hb⟩ : ∃ b, (z.own != 0) = b := ⟨_, rfl⟩
  have HB : Hid ((!(z.own == 0)) = b) := Lib.hid hb
  go_enter Tryz.func161, Tryz.ntmps161
  go_wp2_with fail
  go_ret
  exact ⟨ret_b HB.out.symm, box_below w _⟩
/-- Ints in a row. -/
def IRd (w : World) (A : Option Addr) (n : Nat) (xs : List Int) : Prop := n = xs.length ∧ n ≤ 1000 ∧ (0 < n → ∃ g, A = some ⟨g, 0, none⟩ ∧ ∀ j (_ : j < xs.length), w.cell? ⟨g, j, none⟩ = some (.int .i64 xs[j]))
theorem fit_any {w : World} {A : Option Addr} {n c : Nat} {xs : List Int} (h : IRd w A n xs) : Calls Tryz.prog 78 #[.slice A n c] w fun e w' => e = .returned (.bool (xs.all inr)) ∧ w = w' := by
  obtain ⟨rfl, hl, h⟩ := h
  by_cases h0 : xs.length = 0
  · have : xs = [] := List.eq_nil_of_length_eq_zero h0
    subst this
    go_enter Tryz.func78, Tryz.ntmps78
    go_wp2_with fail
    go_loop [7] (fun i => i = .int .i64 0) (fun _ => 0)
    case atStart => rfl
    case round =>
      subst hrel
      go_wp2_with fail
      go_ret
      exact ⟨rfl, rfl⟩
  · obtain ⟨g, rfl, hc⟩ := h (by omega)
    have HC := Lib.hid hc
    have HL := Lib.hid hl
    clear h h0 hc hl
    go_enter Tryz.func78, Tryz.ntmps78
    go_wp2_with fail
    go_loop [7] (fun i => ∃ k : Nat, k ≤ xs.length ∧ i = .int .i64 k ∧ Hid ((xs.take k).all inr = true)) (fun i => xs.length - (intOf i).toNat)
    case atStart => exact ⟨0, Nat.zero_le _, rfl, Lib.hid rfl⟩
    case round =>
      obtain ⟨k, hk, rfl, HA⟩ := hrel
      have hl := HL.out
      by_cases hlt : k < xs.length
      · have hcell := HC.out k hlt
        obtain ⟨x, hx⟩ : ∃ x, xs[k] = x := ⟨_, rfl⟩
        rw [hx] at hcell
        have HT : Hid ((xs.take (k + 1)).all inr = inr x) := Lib.hid (by rw [List.take_succ_eq_append_getElem hlt, List.all_append, HA.out, hx]; simp)
        have HN : Hid (inr x = false → xs.all inr = false) := Lib.hid (fun e => by
          rw [List.all_eq_false]; exact ⟨x, by rw [← hx]; exact List.getElem_mem hlt, by simp [e]⟩)
        clear hx
        by_cases h1 : x < 0
        · have HE := Lib.hid (HN.out (by unfold inr; simp; omega))
          go_wp2_with fail
          go_ret
          exact ⟨ret_b HE.out.symm, rfl⟩
        · by_cases h2 : 4611686018427387904 < x
          · have HE := Lib.hid (HN.out (by unfold inr mx; simp; omega))
            go_wp2_with fail
            go_ret
            exact ⟨ret_b HE.out.symm, rfl⟩
          · have HE : Hid (inr x = true) := Lib.hid (by unfold inr mx; simp; omega)
            go_wp2_with fail
            go_round
            case rel => exact ⟨k + 1, hlt, by go_num, Lib.hid (by rw [HT.out, HE.out])⟩
            case measure => simp [intOf]; omega
      · have HE : Hid (xs.all inr = true) := Lib.hid (by have := HA.out; rwa [List.take_of_length_le (by omega)] at this)
        go_wp2_with fail
        go_ret
        exact ⟨ret_b HE.out.symm, rfl⟩
/-- The tree. -/
structure TreeW (w : World) (tp mb : Nat) (T : Tr) : Prop where
  here : w.heap[tp]? = some (.cells #[.map (some mb)] 155 (0, 0))
  map : MapT w mb T
theorem TreeW.below {w w' : World} {tp mb : Nat} {T : Tr} (h : TreeW w tp mb T) (hb : Below w.heap.size w w') : TreeW w' tp mb T :=
  ⟨(hb.block tp (Array.getElem?_eq_some_iff.1 h.here).1).trans h.here, h.map.below hb⟩
theorem TreeW.lt {w : World} {tp mb : Nat} {T : Tr} (h : TreeW w tp mb T) : tp < w.heap.size := (Array.getElem?_eq_some_iff.1 h.here).1
theorem blk_alloc {w : World} {q : Nat} {o : Obj} (h : w.heap[q]? = some o) (o' : Obj) : (w.alloc o').heap[q]? = some o := ((box_below w o').block q (Array.getElem?_eq_some_iff.1 h).1).trans h
theorem blk_lt {w : World} {q : Nat} {o : Obj} (h : w.heap[q]? = some o) : q < w.heap.size := (Array.getElem?_eq_some_iff.1 h).1
theorem blk_below {w w' : World} {q : Nat} {o : Obj} (h : w.heap[q]? = some o) (hb : Below w.heap.size w w') : w'.heap[q]? = some o := (hb.block q (blk_lt h)).trans h
/-- Two boxes, one behind the other. -/
theorem two_box (w : World) (o1 o2 : Obj) : ∃ w2, w2 = (w.alloc o1).alloc o2 ∧ Below w.heap.size w w2 ∧ w2.heap[w.heap.size]? = some o1 ∧ w2.heap[w.heap.size + 1]? = some o2 ∧ w2.heap.size = w.heap.size + 2 :=
  ⟨_, rfl, box2 w o1 o2, blk_alloc (new_block w o1) o2, by have := new_block (w.alloc o1) o2; simpa using this, by simp⟩
/-- A znode is laid into a box of the call's own. -/
structure Wr (r : Nat) (w w' : World) : Prop where
  below : Below r w w'
  rest : ∀ k, k ≠ r → w'.heap[k]? = w.heap[k]?
theorem Wr.refl (r : Nat) (w : World) : Wr r w w := ⟨Below.refl _ _, fun _ _ => rfl⟩
theorem Wr.set {r : Nat} {w w' : World} (h : Wr r w w') (j : Nat) (v : Value) : Wr r w (w'.setCell ⟨r, j, none⟩ v) :=
  ⟨h.below.setCell (Nat.le_refl r) v, fun k hk => (Go.Deep.blk_setCell_other w' _ _ k hk).trans (h.rest k hk)⟩
theorem Wr.gb {r : Nat} {w w' : World} (h : Wr r w w') : w.grownBy w' (some r) := ⟨h.below.os, h.below.tape, h.below.output, h.below.size, fun k _ hk => h.rest k (by simpa using hk)⟩
def setRow (r : Nat) : World → Nat → List Value → World
  | w, _, [] => w
  | w, j, v :: vs => setRow r (w.setCell ⟨r, j, none⟩ v) (j + 1) vs
theorem setRow_any {r : Nat} {t : TypeId} : ∀ (vs : List Value) {w0 w : World} (j : Nat) (pre rest : List Value), Wr r w0 w → pre.length = j → rest.length = vs.length → w.heap[r]? = some (.cells (pre ++ rest).toArray t (0, 0)) →
    Wr r w0 (setRow r w j vs) ∧ (setRow r w j vs).heap[r]? = some (.cells (pre ++ vs).toArray t (0, 0))
  | [], w0, w, j, pre, rest, hw, _, hl, hb => by
    have : rest = [] := List.eq_nil_of_length_eq_zero hl
    subst this
    exact ⟨hw, hb⟩
  | v :: vs, w0, w, j, pre, rest, hw, hj, hl, hb => by
    cases rest with
    | nil => simp at hl
    | cons x rest =>
      have h1 := heap_setCell_same w r j _ t v hb
      have e : (pre ++ x :: rest).toArray.setIfInBounds j v = ((pre ++ [v]) ++ rest).toArray := by
        apply Array.ext'
        simp [hj.symm]
      rw [e] at h1
      have := setRow_any vs (j + 1) (pre ++ [v]) rest (hw.set j v) (by simp [hj]) (by simpa using hl) h1
      rw [List.append_assoc] at this
      exact this
theorem set_nd {w : World} {r : Nat} {a b c d e f g h i : Value} (hb : w.heap[r]? = some (.cells #[a, b, c, d, e, f, g, h, i] 132 (0, 0))) (z : Nd) :
    Wr r w (((((((((w.setCell ⟨r, 0, none⟩ (.string (B z.path))).setCell ⟨r, 1, none⟩ (.string (B z.data))).setCell ⟨r, 2, none⟩ (.int .i64 z.cr)).setCell ⟨r, 3, none⟩ (.int .i64 z.ch)).setCell ⟨r, 4, none⟩ (.int .i64 z.kd)).setCell ⟨r, 5, none⟩ (.int .i64 z.ver)).setCell ⟨r, 6, none⟩ (.int .i64 z.ks)).setCell ⟨r, 7, none⟩ (.int .i64 z.own)).setCell ⟨r, 8, none⟩ (.int .i64 z.nx)) ∧ (((((((((w.setCell ⟨r, 0, none⟩ (.string (B z.path))).setCell ⟨r, 1, none⟩ (.string (B z.data))).setCell ⟨r, 2, none⟩ (.int .i64 z.cr)).setCell ⟨r, 3, none⟩ (.int .i64 z.ch)).setCell ⟨r, 4, none⟩ (.int .i64 z.kd)).setCell ⟨r, 5, none⟩ (.int .i64 z.ver)).setCell ⟨r, 6, none⟩ (.int .i64 z.ks)).setCell ⟨r, 7, none⟩ (.int .i64 z.own)).setCell ⟨r, 8, none⟩ (.int .i64 z.nx)).heap[r]? = some (.cells #[.string (B z.path), .string (B z.data), .int .i64 z.cr, .int .i64 z.ch, .int .i64 z.kd, .int .i64 z.ver, .int .i64 z.ks, .int .i64 z.own, .int .i64 z.nx] 132 (0, 0)) :=
  setRow_any [.string (B z.path), .string (B z.data), .int .i64 z.cr, .int .i64 z.ch, .int .i64 z.kd, .int .i64 z.ver, .int .i64 z.ks, .int .i64 z.own, .int .i64 z.nx] 0 [] [a, b, c, d, e, f, g, h, i] (Wr.refl r w) rfl rfl hb
/-! ### What is written -/
theorem gb_below {w w' : World} (h : Below w.heap.size w w') (row : Option Nat) : w.grownBy w' row := ⟨h.os, h.tape, h.output, h.size, fun k hk _ => h.block k hk⟩
theorem gb_trans {a b c : World} {x : Nat} (h : a.grownBy b (some x)) (k : b.grownBy c (some x)) : a.grownBy c (some x) := h.andThen k (fun _ hj => .inr hj)
theorem gb_drew {w : World} {row : Option Nat} : w.grownBy w.drew row := ⟨rfl, rfl, rfl, Nat.le_refl _, fun _ _ _ => rfl⟩
theorem gb_to {w w' : World} {x B : Nat} (h : w.grownBy w' (some x)) (hx : B ≤ x) (hw : B ≤ w.heap.size) : Below B w w' := ⟨h.os, h.tape, h.output, h.size, fun k hk => h.block k (by omega) (by simp; omega)⟩
theorem gb_cells {w w' : World} {x k : Nat} (h : w.grownBy w' (some x)) (hk : k ≠ x) {o : Obj} (ho : w.heap[k]? = some o) : w'.heap[k]? = some o := (h.block k (Array.getElem?_eq_some_iff.1 ho).1 (by simpa using hk)).trans ho
theorem own_new {w : World} {g e sz n base : Nat} {cs : Array Value} (h : w.heap[g]? = some (.cells cs e (0, 0))) (hb : base ≤ g) (hn : n ≤ maxLen) (hs : cs.size = n * sz) : w.ownsRow base e sz (.slice (some ⟨g, 0, none⟩) n n) n cs.toList :=
  ⟨by simpa using hs, .inr ⟨g, n, cs, rfl, hb, h, Nat.le_refl _, hn, hs, by rw [List.take_of_length_le (by simp [hs])]⟩⟩
theorem store_nd {w : World} {mb : Nat} {T : Tr} (h : MapT w mb T) (hs : Srt T) (z : Nd) (hp : z.path.length ≤ maxLen) (hl : T.length < 1000) : ∃ w', (Instr.mapUpdate 153 (.map (some mb)) (.string (B z.path)) (.agg #[.string (B z.path), .string (B z.data), .int .i64 z.cr, .int .i64 z.ch, .int .i64 z.kd, .int .i64 z.ver, .int .i64 z.ks, .int .i64 z.own, .int .i64 z.nx])).run Tryz.prog w = .ok () w' ∧ MapT w' mb (put T z) ∧ w.grownBy w' (some mb) := by
  obtain ⟨w', h1, h2, h3⟩ := World.ownsMap.store (t := 153) (e := 132) h law9 Tryz.underlying153 (by unfold maxLen; omega) (key_of z.path hp) (ndR_mk z)
  rw [dm_put hs] at h2
  exact ⟨w', h1, tight h2, h3.grown⟩
theorem del_nd {w : World} {mb : Nat} {T : Tr} (h : MapT w mb T) (p : Txt) (hp : p.length ≤ maxLen) (ty : TypeId) : ∃ w', (Builtin.delete_ #[153, 9] ty #[.map (some mb), .string (B p)]).run Tryz.prog w = .ok (.tuple #[]) w' ∧ MapT w' mb (wout T p) ∧ w.grownBy w' (some mb) := by
  obtain ⟨w', h1, h2, h3⟩ := World.ownsMap.drop (t := 153) (e := 132) h law9 Tryz.underlying153 (key_of p hp) ty
  rw [dm_del] at h2
  exact ⟨w', h1, tight h2, h3.grown⟩
theorem len_nd {w : World} {mb : Nat} {T : Tr} (h : MapT w mb T) (ty : TypeId) : (Builtin.len_ #[153] ty #[.map (some mb)]).run Tryz.prog w = .ok (.int .i64 T.length) w := by
  rw [World.ownsMap.len (t := 153) (e := 132) h Tryz.underlying153 ty, dm_size]
theorem MapT.drew {w : World} {mb : Nat} {T : Tr} (h : MapT w mb T) : MapT w.drew mb T := World.ownsMap.drew h
theorem TreeW.gb {w w' : World} {tp mb x : Nat} {T : Tr} (h : TreeW w tp mb T) (hg : w.grownBy w' (some x)) (h1 : tp ≠ x) (h2 : mb ≠ x) : TreeW w' tp mb T := ⟨gb_cells hg h1 h.here, h.map.of_block (hg.block mb h.map.lt (by simpa using h2))⟩
theorem TreeW.put {w w' : World} {tp mb : Nat} {T T' : Tr} (h : TreeW w tp mb T) (hg : w.grownBy w' (some mb)) (hm : MapT w' mb T') : TreeW w' tp mb T' := ⟨gb_cells hg (h.map.ne_cells h.here) h.here, hm⟩
end Go.Proofs.YtflgemlhocjipaaGreatDoor
namespace Go.Proofs.YtflgemlhocjipaaGreatDoor
set_option maxRecDepth 100000
open Go.ChangeShapes Go.WideShapes Go.ChangeAt Go.RowKit Go.Proofs.Zn Go.Proofs.Zt

/-- Memory holds a list, each of its elements in cells that stand in a row. -/
structure Rd {α : Type} (cell : α → List Value) (sz : Nat) (w : World) (A : Option Addr) (n : Nat) (l : List α) : Prop where
  len : l.length = n
  cells : 0 < n → ∃ b off, A = some ⟨b, off, none⟩ ∧ ∀ i (hi : i < l.length) j v, (cell l[i])[j]? = some v → w.cell? ⟨b, off + i * sz + j, none⟩ = some v
theorem Rd.below {α : Type} {cell : α → List Value} {sz : Nat} {w w' : World} {A : Option Addr} {n : Nat} {l : List α} (h : Rd cell sz w A n l) (hb : Below w.heap.size w w') : Rd cell sz w' A n l := by
  refine ⟨h.len, fun hn => ?_⟩
  obtain ⟨b, off, e, hc⟩ := h.cells hn
  refine ⟨b, off, e, fun i hi j v hv => ?_⟩
  have hx := hc i hi j v hv
  exact (hb.cell (p := ⟨b, off + i * sz + j, none⟩) (cell_lt hx)).trans hx
theorem Rd.at {α : Type} {cell : α → List Value} {sz : Nat} {w : World} {A : Option Addr} {n : Nat} {l : List α} (h : Rd cell sz w A n l) {k : Nat} (hk : k < n) :
    ∃ b off x, A = some ⟨b, off, none⟩ ∧ l[k]? = some x ∧ ∀ j v, (cell x)[j]? = some v → w.cell? ⟨b, off + k * sz + j, none⟩ = some v := by
  obtain ⟨b, off, e, hc⟩ := h.cells (by omega)
  have hk' : k < l.length := by rw [h.len]; exact hk
  exact ⟨b, off, l[k], e, List.getElem?_eq_getElem hk', hc k hk'⟩
theorem Rd.nil {α : Type} (cell : α → List Value) (sz : Nat) (w : World) (A : Option Addr) : Rd cell sz w A 0 [] := ⟨rfl, fun h => absurd h (by omega)⟩
theorem Rd.of_own {α : Type} {cell : α → List Value} {sz : Nat} {w : World} {base e n c : Nat} {A : Option Addr} {l : List α} (h : w.ownsRow base e sz (.slice A n c) n (l.flatMap cell)) (hl : ∀ x ∈ l, (cell x).length = sz) (hs : 0 < sz) : Rd cell sz w A n l := by
  have hlen : l.length = n := by
    have := h.1
    rw [parts_length cell sz l hl] at this
    exact Nat.eq_of_mul_eq_mul_right hs this
  refine ⟨hlen, fun hn => ?_⟩
  obtain ⟨A', c', e', -, -, hA⟩ := own_form h
  obtain ⟨g, hg⟩ := hA hn
  injection e' with e1 _ e3
  subst e1 e3
  subst hg
  refine ⟨g, 0, rfl, fun i hi j v hv => ?_⟩
  have hj : j < sz := by
    have := (List.getElem?_eq_some_iff.1 hv).1
    rw [hl l[i] (List.getElem_mem hi)] at this
    exact this
  have := part_get cell sz l i hi hl j hj
  rw [hv] at this
  rw [Nat.zero_add]
  exact own_cell h (i * sz + j) v this
/-- A row, or a list that is read, is laid behind a row. -/
theorem run_append_rd {P : Program} {α : Type} {cell : α → List Value} (w : World) (base : Nat) (t ty e : TypeId) (i : TypeInfo) (z : Value) (size bytes : Nat) (ht : P.underlying t = some (.slice e)) (hi : P.info? e = some i) (hz : i.zero = some z)
    (hsize : i.size = size) (hby : i.bytes = bytes) (hzs : z.cells.size = size) (hsz : 0 < size) (v : Value) (n : Nat) (xs : List Value) (hown : w.ownsRow base e size v n xs) (A : Option Addr) (m c : Nat) (l : List α) (hr : Rd cell size w A m l)
    (hl : ∀ x ∈ l, (cell x).length = size) (h1 : ∀ x, ∀ u ∈ cell x, u.oneCell' = true) (hA : A = none → c = 0) (h63 : n + m ≤ maxLen) (hbytes : (n + m) * bytes ≤ 140737488355328) (hbase : base ≤ w.heap.size) :
    ∃ v' w', (Builtin.append_ #[t, t] ty #[v, .slice A m c]).run P w = .ok v' w' ∧ w'.ownsRow base e size v' (n + m) (xs ++ l.flatMap cell) ∧ w.grownBy w' v.ownBlock := by
  have hlen : (l.flatMap cell).length = m * size := by rw [parts_length cell size l hl, hr.len]
  have hone : ∀ u ∈ l.flatMap cell, u.oneCell' = true := fun u hu => by
    obtain ⟨x, _, hx⟩ := List.mem_flatMap.1 hu
    exact h1 x u hx
  have hcells : 0 < m → ∃ a, A = some a ∧ ∀ j u, (l.flatMap cell)[j]? = some u → w.cell? (a.add j) = some u := fun hm => by
    obtain ⟨b, off, e, hc⟩ := hr.cells hm
    refine ⟨_, e, fun j u hu => ?_⟩
    have hj : j < (l.flatMap cell).length := (List.getElem?_eq_some_iff.1 hu).1
    have hd : j / size < l.length := by rw [hr.len]; exact Nat.div_lt_of_lt_mul (by rw [Nat.mul_comm]; omega)
    have hm' : j % size < size := Nat.mod_lt _ hsz
    have hsplit : j = j / size * size + j % size := by rw [Nat.mul_comm]; exact (Nat.div_add_mod j size).symm
    have := part_get cell size l (j / size) hd hl (j % size) hm'
    rw [← hsplit, hu] at this
    have h2 := hc (j / size) hd (j % size) u this.symm
    rw [Go.WideShapes.add_plain]
    rw [Nat.add_assoc, ← hsplit] at h2
    exact h2
  rcases Nat.eq_zero_or_pos m with h0 | h0
  · subst h0
    have hn : l = [] := List.eq_nil_of_length_eq_zero hr.len
    subst hn
    have hv : ∃ b s c', v = .slice b s c' ∧ s ≤ c' := by
      rcases hown.2 with ⟨rfl, _⟩ | ⟨g, cap, cur, rfl, _, _, hle, _⟩
      · exact ⟨none, 0, 0, rfl, Nat.le_refl _⟩
      · exact ⟨_, n, cap, rfl, hle⟩
    obtain ⟨b, s, c', rfl, hle⟩ := hv
    have hs : Src P i.size t (.slice A 0 c) 0 [] w := by
      cases A with
      | none => exact Src.ofNil w ht c
      | some a => exact Src.ofSlice w ht a 0 c [] (by simp) (fun j u hu => by simp at hu) (fun u hu => by cases hu)
    exact ⟨_, w, run_append_nothing w t t ty e i ht hi b s c' hle _ hs, by simpa using hown, World.grownBy.refl w _⟩
  · obtain ⟨a, rfl, hc⟩ := hcells h0
    obtain ⟨v', w', hrun, g2, g3, _⟩ := run_append_own (P := P) w base t ty e i z size bytes ht hi hz hsize hby hzs hsz v n xs hown a m c (l.flatMap cell) hlen hc hone h63 hbytes hbase
    exact ⟨v', w', hrun, g2, g3⟩
theorem wpList_append_rd {P : Program} {α : Type} {cell : α → List Value} {w : World} {ops : Array Oper} {rest : List Oper} {o : Oper} {a : Act} {Q : Exit → Act → World → Prop} (hgd : o.guard = none) (s x : Operand) (t : TypeId)
    (ho : o.op = .call { callee := .builtin .append, args := #[s, x], argTypes := #[t, t] }) (base : Nat) (e : TypeId) (i : TypeInfo) (z : Value) (size bytes : Nat) (ht : P.underlying t = some (.slice e)) (hi : P.info? e = some i) (hz : i.zero = some z)
    (hsize : i.size = size) (hby : i.bytes = bytes) (hzs : z.cells.size = size) (hsz : 0 < size) (v : Value) (n : Nat) (xs : List Value) (hs : a.eval s = v) (hown : w.ownsRow base e size v n xs) (A : Option Addr) (m c : Nat) (l : List α) (hx : a.eval x = .slice A m c) (hr : Rd cell size w A m l)
    (hl : ∀ x ∈ l, (cell x).length = size) (h1 : ∀ x, ∀ u ∈ cell x, u.oneCell' = true) (hA : A = none → c = 0) (h63 : n + m ≤ maxLen) (hbytes : (n + m) * bytes ≤ 140737488355328) (hbase : base ≤ w.heap.size)
    (h : ∀ v' w', w'.ownsRow base e size v' (n + m) (xs ++ l.flatMap cell) → w.grownBy w' v.ownBlock → wpList P ops Q rest (a.put o.dst v') w') : wpList P ops Q (o :: rest) a w := by
  refine wpList_plain hgd fun K hK => ?_
  obtain ⟨v', w', hr', h2, h3⟩ := run_append_rd (P := P) w base t o.type e i z size bytes ht hi hz hsize hby hzs hsz v n xs hown A m c l hr hl h1 hA h63 hbytes hbase
  unfold Oper.wp execOp
  simp only [ho, resolve, invoke, builtin, Sem.run_bind, Sem.run_pure, Result.andThen_ok, List.map_toArray, List.map_cons, List.map_nil, hs, hx, hr']
  exact hK _ _ (h v' w' h2 h3)
theorem ecell_one (x : Evt) : ∀ u ∈ ecell x, u.oneCell' = true := fun u hu => by
  simp only [ecell, List.mem_cons, List.not_mem_nil, or_false] at hu
  rcases hu with rfl | rfl | rfl <;> rfl
theorem ncell_one (x : Nd) : ∀ u ∈ ncell x, u.oneCell' = true := fun u hu => by
  simp only [ncell, List.mem_cons, List.not_mem_nil, or_false] at hu
  rcases hu with rfl | rfl | rfl | rfl | rfl | rfl | rfl | rfl | rfl <;> rfl
theorem own_gb {w w' : World} {base e sz n x : Nat} {v : Value} {xs : List Value} (h : w.ownsRow base e sz v n xs) (hg : w.grownBy w' (some x)) (hne : v.ownBlock ≠ some x) : w'.ownsRow base e sz v n xs := by
  refine ⟨h.1, ?_⟩
  rcases h.2 with hn | ⟨g, cap, cur, rfl, hbg, hgc, rest⟩
  · exact .inl hn
  · exact .inr ⟨g, cap, cur, rfl, hbg, gb_cells hg (fun e => hne (by rw [← e]; rfl)) hgc, rest⟩
theorem own_gb' {w w' : World} {base e sz n : Nat} {v u : Value} {xs : List Value} (h : w.ownsRow base e sz v n xs) (hg : w.grownBy w' u.ownBlock) (hne : ∀ k, u.ownBlock = some k → v.ownBlock ≠ some k) : w'.ownsRow base e sz v n xs := by
  rcases hu : u.ownBlock with _ | k
  · rw [hu] at hg; exact own_below h ⟨hg.os, hg.tape, hg.output, hg.size, fun k hk => hg.block k hk (by simp)⟩
  · rw [hu] at hg; exact own_gb h hg (hne k hu)
theorem own_ne_map {w : World} {base e sz n mb : Nat} {v : Value} {xs : List Value} {T : Tr} (h : w.ownsRow base e sz v n xs) (hm : MapT w mb T) : v.ownBlock ≠ some mb := fun e' => by
  rcases h.2 with ⟨rfl, _⟩ | ⟨g, cap, cur, rfl, _, hg, _⟩
  · simp [Value.ownBlock] at e'
  · simp only [Value.ownBlock, Option.some.injEq] at e'
    exact hm.ne_cells hg e'
/-- Two rows of other elements lie in other blocks. -/
theorem own_apart {w : World} {b1 e1 s1 n1 b2 e2 s2 n2 : Nat} {v u : Value} {xs ys : List Value} (h : w.ownsRow b1 e1 s1 v n1 xs) (k : w.ownsRow b2 e2 s2 u n2 ys) (hne : e1 ≠ e2) : ∀ j, u.ownBlock = some j → v.ownBlock ≠ some j := fun j hj => by
  rcases k.2 with ⟨rfl, _⟩ | ⟨g, cap, cur, rfl, _, hg, _⟩
  · simp [Value.ownBlock] at hj
  · simp only [Value.ownBlock, Option.some.injEq] at hj
    subst hj
    exact own_ne h hg (Ne.symm hne)
theorem gb_own {w w' : World} {base e sz n B : Nat} {v : Value} {xs : List Value} (h : w.ownsRow base e sz v n xs) (hg : w.grownBy w' v.ownBlock) (hB : B ≤ base) (hw : B ≤ w.heap.size) : Below B w w' :=
  ⟨hg.os, hg.tape, hg.output, hg.size, fun k hk => hg.block k (by omega) (fun e => by have := own_ge h k e.symm; omega)⟩
theorem TreeW.gbo {w w' : World} {tp mb : Nat} {T : Tr} {base e sz n : Nat} {v : Value} {xs : List Value} (h : TreeW w tp mb T) (ho : w.ownsRow base e sz v n xs) (hg : w.grownBy w' v.ownBlock) (he : 155 ≠ e) : TreeW w' tp mb T :=
  ⟨(hg.block tp h.lt (fun e' => own_ne ho h.here he e'.symm)).trans h.here, h.map.of_block (hg.block mb h.map.lt (fun e' => own_ne_map ho h.map e'.symm))⟩
end Go.Proofs.YtflgemlhocjipaaGreatDoor
