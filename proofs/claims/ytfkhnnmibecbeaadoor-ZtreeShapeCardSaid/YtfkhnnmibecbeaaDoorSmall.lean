/-
  What more, isEphemeral, fit, Get, New, Clone, asked return of any tree. Condition: a number is at most 2^62 where it goes on.
-/
import Derived.Test.YtfkhnnmibecbeaaDoorMem
namespace Go.Proofs.YtfkhnnmibecbeaaDoor
set_option maxRecDepth 100000
open Go.ChangeShapes Go.WideShapes Go.ChangeAt Go.RowKit Go.Proofs.Zn Go.Proofs.Zt

theorem more_any (n : Int) (h : inr n = true) (w : World) : Calls Tryd.prog 41 #[.int .i64 n] w fun e w' => e = .returned (.int .i64 (up n)) ∧ w = w' := by
  have hn := inr_iff.1 h
  unfold mx at hn
  have e1 : IntKind.i64.wrap (n + 1) = n + 1 := by rw [IntKind.wrap_i64]; omega
  obtain ⟨x, hx⟩ : ∃ x, min (n + 1) 4611686018427387904 = x := ⟨_, rfl⟩
  have HU : Hid (up n = x) := Lib.hid (by unfold up mx; split <;> omega)
  clear hn h
  go_enter Tryd.func41, Tryd.ntmps41
  go_wp2_with fail
  go_ret
  exact ⟨ret_i HU.out.symm, rfl⟩
theorem box2 (w : World) (o1 o2 : Obj) : Below w.heap.size w ((w.alloc o1).alloc o2) := ((Below.refl _ _).alloc (Nat.le_refl _) _).alloc (by simp) _
theorem box3 (w : World) (o1 o2 o3 : Obj) : Below w.heap.size w (((w.alloc o1).alloc o2).alloc o3) := (box2 w o1 o2).alloc (by simp; omega) _
def ndv (z : Nd) : Value := .agg #[.string (B z.path), .string (B z.data), .int .i64 z.cr, .int .i64 z.ch, .int .i64 z.kd, .int .i64 z.ver, .int .i64 z.ks, .int .i64 z.own, .int .i64 z.nx]
theorem isEph_any (z : Nd) (w : World) : Calls Tryd.prog 52 #[.agg #[.string (B z.path), .string (B z.data), .int .i64 z.cr, .int .i64 z.ch, .int .i64 z.kd, .int .i64 z.ver, .int .i64 z.ks, .int .i64 z.own, .int .i64 z.nx]] w fun e w' => e = .returned (.bool (!(z.own == 0))) ∧ Below w.heap.size w w' := by
  obtain ⟨b, hb⟩ : ∃ b, (z.own != 0) = b := ⟨_, rfl⟩
  have HB : Hid ((!(z.own == 0)) = b) := Lib.hid hb
  go_enter Tryd.func52, Tryd.ntmps52
  go_wp2_with fail
  go_ret
  exact ⟨ret_b HB.out.symm, box_below w _⟩
/-- Ints in a row. -/
def IRd (w : World) (A : Option Addr) (n : Nat) (xs : List Int) : Prop := n = xs.length ∧ n ≤ 1000 ∧ (0 < n → ∃ g, A = some ⟨g, 0, none⟩ ∧ ∀ j (_ : j < xs.length), w.cell? ⟨g, j, none⟩ = some (.int .i64 xs[j]))
theorem fit_any {w : World} {A : Option Addr} {n c : Nat} {xs : List Int} (h : IRd w A n xs) : Calls Tryd.prog 15 #[.slice A n c] w fun e w' => e = .returned (.bool (xs.all inr)) ∧ w = w' := by
  obtain ⟨rfl, hl, h⟩ := h
  by_cases h0 : xs.length = 0
  · have : xs = [] := List.eq_nil_of_length_eq_zero h0
    subst this
    go_enter Tryd.func15, Tryd.ntmps15
    go_wp2_with fail
    go_loop [7] (fun i => i = .int .i64 0) (fun _ => 0)
    case atStart => rfl
    case round =>
      subst hrel
      go_wp2_with fail
      go_ret
      exact ⟨rfl, rfl⟩
  · obtain ⟨g, rfl, hc⟩ := h (by omega)
    have HC := Lib.hid hc
    have HL := Lib.hid hl
    clear h h0 hc hl
    go_enter Tryd.func15, Tryd.ntmps15
    go_wp2_with fail
    go_loop [7] (fun i => ∃ k : Nat, k ≤ xs.length ∧ i = .int .i64 k ∧ Hid ((xs.take k).all inr = true)) (fun i => xs.length - (intOf i).toNat)
    case atStart => exact ⟨0, Nat.zero_le _, rfl, Lib.hid rfl⟩
    case round =>
      obtain ⟨k, hk, rfl, HA⟩ := hrel
      have hl := HL.out
      by_cases hlt : k < xs.length
      · have hcell := HC.out k hlt
        obtain ⟨x, hx⟩ : ∃ x, xs[k] = x := ⟨_, rfl⟩
        rw [hx] at hcell
        have HT : Hid ((xs.take (k + 1)).all inr = inr x) := Lib.hid (by rw [List.take_succ_eq_append_getElem hlt, List.all_append, HA.out, hx]; simp)
        have HN : Hid (inr x = false → xs.all inr = false) := Lib.hid (fun e => by
          rw [List.all_eq_false]; exact ⟨x, by rw [← hx]; exact List.getElem_mem hlt, by simp [e]⟩)
        clear hx
        by_cases h1 : x < 0
        · have HE := Lib.hid (HN.out (by unfold inr; simp; omega))
          go_wp2_with fail
          go_ret
          exact ⟨ret_b HE.out.symm, rfl⟩
        · by_cases h2 : 4611686018427387904 < x
          · have HE := Lib.hid (HN.out (by unfold inr mx; simp; omega))
            go_wp2_with fail
            go_ret
            exact ⟨ret_b HE.out.symm, rfl⟩
          · have HE : Hid (inr x = true) := Lib.hid (by unfold inr mx; simp; omega)
            go_wp2_with fail
            go_round
            case rel => exact ⟨k + 1, hlt, by go_num, Lib.hid (by rw [HT.out, HE.out])⟩
            case measure => simp [intOf]; omega
      · have HE : Hid (xs.all inr = true) := Lib.hid (by have := HA.out; rwa [List.take_of_length_le (by omega)] at this)
        go_wp2_with fail
        go_ret
        exact ⟨ret_b HE.out.symm, rfl⟩
/-- The tree. -/
structure TreeW (w : World) (tp mb : Nat) (T : Tr) : Prop where
  here : w.heap[tp]? = some (.cells #[.map (some mb)] 52 (0, 0))
  map : MapT w mb T
theorem TreeW.below {w w' : World} {tp mb : Nat} {T : Tr} (h : TreeW w tp mb T) (hb : Below w.heap.size w w') : TreeW w' tp mb T :=
  ⟨(hb.block tp (Array.getElem?_eq_some_iff.1 h.here).1).trans h.here, h.map.below hb⟩
theorem TreeW.lt {w : World} {tp mb : Nat} {T : Tr} (h : TreeW w tp mb T) : tp < w.heap.size := (Array.getElem?_eq_some_iff.1 h.here).1
set_option maxHeartbeats 1000000 in
theorem get_any {w : World} {tp mb : Nat} {T : Tr} (h : TreeW w tp mb T) (p : Txt) (hp : p.length ≤ maxLen) :
    Calls Tryd.prog 11 #[.pointer (some ⟨tp, 0, none⟩), .string (B p)] w fun e w' => e = .returned (.tuple #[ndv ((get T p).getD nd0), .bool (get T p).isSome]) ∧ Below w.heap.size w w' := by
  obtain ⟨z, hz⟩ : ∃ z, (get T p).getD nd0 = z := ⟨_, rfl⟩
  obtain ⟨b, hb⟩ : ∃ b, (get T p).isSome = b := ⟨_, rfl⟩
  have c0 := cell_of h.here (j := 0) rfl
  have hlt := h.lt
  have hw1 := box_below w (.cells #[.string ⟨#[]⟩, .string ⟨#[]⟩, .int .i64 0, .int .i64 0, .int .i64 0, .int .i64 0, .int .i64 0, .int .i64 0, .int .i64 0] 40)
  have hlook := look_ok (h.map.below hw1) p hp hz hb
  rw [hz, hb]
  clear hz hb h hp hw1
  go_enter Tryd.func11, Tryd.ntmps11
  go_wp2_with fail
  exact bodyPost_ret (v := .tuple #[.agg #[.string (B z.path), .string (B z.data), .int .i64 z.cr, .int .i64 z.ch, .int .i64 z.kd, .int .i64 z.ver, .int .i64 z.ks, .int .i64 z.own, .int .i64 z.nx], .bool b]) (by simp [results, Tryd.results11, go_sem]) rfl ⟨rfl, box2 w _ _⟩
theorem blk_alloc {w : World} {q : Nat} {o : Obj} (h : w.heap[q]? = some o) (o' : Obj) : (w.alloc o').heap[q]? = some o := ((box_below w o').block q (Array.getElem?_eq_some_iff.1 h).1).trans h
theorem blk_lt {w : World} {q : Nat} {o : Obj} (h : w.heap[q]? = some o) : q < w.heap.size := (Array.getElem?_eq_some_iff.1 h).1
theorem blk_below {w w' : World} {q : Nat} {o : Obj} (h : w.heap[q]? = some o) (hb : Below w.heap.size w w') : w'.heap[q]? = some o := (hb.block q (blk_lt h)).trans h
/-- Two boxes, one behind the other. -/
theorem two_box (w : World) (o1 o2 : Obj) : ∃ w2, w2 = (w.alloc o1).alloc o2 ∧ Below w.heap.size w w2 ∧ w2.heap[w.heap.size]? = some o1 ∧ w2.heap[w.heap.size + 1]? = some o2 ∧ w2.heap.size = w.heap.size + 2 :=
  ⟨_, rfl, box2 w o1 o2, blk_alloc (new_block w o1) o2, by have := new_block (w.alloc o1) o2; simpa using this, by simp⟩
/-- A znode is laid into a box of the call's own. -/
structure Wr (r : Nat) (w w' : World) : Prop where
  below : Below r w w'
  rest : ∀ k, k ≠ r → w'.heap[k]? = w.heap[k]?
theorem Wr.refl (r : Nat) (w : World) : Wr r w w := ⟨Below.refl _ _, fun _ _ => rfl⟩
theorem Wr.set {r : Nat} {w w' : World} (h : Wr r w w') (j : Nat) (v : Value) : Wr r w (w'.setCell ⟨r, j, none⟩ v) :=
  ⟨h.below.setCell (Nat.le_refl r) v, fun k hk => (Go.Deep.blk_setCell_other w' _ _ k hk).trans (h.rest k hk)⟩
theorem Wr.gb {r : Nat} {w w' : World} (h : Wr r w w') : w.grownBy w' (some r) := ⟨h.below.os, h.below.tape, h.below.output, h.below.size, fun k _ hk => h.rest k (by simpa using hk)⟩
def setRow (r : Nat) : World → Nat → List Value → World
  | w, _, [] => w
  | w, j, v :: vs => setRow r (w.setCell ⟨r, j, none⟩ v) (j + 1) vs
theorem setRow_any {r : Nat} {t : TypeId} : ∀ (vs : List Value) {w0 w : World} (j : Nat) (pre rest : List Value), Wr r w0 w → pre.length = j → rest.length = vs.length → w.heap[r]? = some (.cells (pre ++ rest).toArray t (0, 0)) →
    Wr r w0 (setRow r w j vs) ∧ (setRow r w j vs).heap[r]? = some (.cells (pre ++ vs).toArray t (0, 0))
  | [], w0, w, j, pre, rest, hw, _, hl, hb => by
    have : rest = [] := List.eq_nil_of_length_eq_zero hl
    subst this
    exact ⟨hw, hb⟩
  | v :: vs, w0, w, j, pre, rest, hw, hj, hl, hb => by
    cases rest with
    | nil => simp at hl
    | cons x rest =>
      have h1 := heap_setCell_same w r j _ t v hb
      have e : (pre ++ x :: rest).toArray.setIfInBounds j v = ((pre ++ [v]) ++ rest).toArray := by
        apply Array.ext'
        simp [hj.symm]
      rw [e] at h1
      have := setRow_any vs (j + 1) (pre ++ [v]) rest (hw.set j v) (by simp [hj]) (by simpa using hl) h1
      rw [List.append_assoc] at this
      exact this
theorem set_nd {w : World} {r : Nat} {a b c d e f g h i : Value} (hb : w.heap[r]? = some (.cells #[a, b, c, d, e, f, g, h, i] 40 (0, 0))) (z : Nd) :
    Wr r w (((((((((w.setCell ⟨r, 0, none⟩ (.string (B z.path))).setCell ⟨r, 1, none⟩ (.string (B z.data))).setCell ⟨r, 2, none⟩ (.int .i64 z.cr)).setCell ⟨r, 3, none⟩ (.int .i64 z.ch)).setCell ⟨r, 4, none⟩ (.int .i64 z.kd)).setCell ⟨r, 5, none⟩ (.int .i64 z.ver)).setCell ⟨r, 6, none⟩ (.int .i64 z.ks)).setCell ⟨r, 7, none⟩ (.int .i64 z.own)).setCell ⟨r, 8, none⟩ (.int .i64 z.nx)) ∧ (((((((((w.setCell ⟨r, 0, none⟩ (.string (B z.path))).setCell ⟨r, 1, none⟩ (.string (B z.data))).setCell ⟨r, 2, none⟩ (.int .i64 z.cr)).setCell ⟨r, 3, none⟩ (.int .i64 z.ch)).setCell ⟨r, 4, none⟩ (.int .i64 z.kd)).setCell ⟨r, 5, none⟩ (.int .i64 z.ver)).setCell ⟨r, 6, none⟩ (.int .i64 z.ks)).setCell ⟨r, 7, none⟩ (.int .i64 z.own)).setCell ⟨r, 8, none⟩ (.int .i64 z.nx)).heap[r]? = some (.cells #[.string (B z.path), .string (B z.data), .int .i64 z.cr, .int .i64 z.ch, .int .i64 z.kd, .int .i64 z.ver, .int .i64 z.ks, .int .i64 z.own, .int .i64 z.nx] 40 (0, 0)) :=
  setRow_any [.string (B z.path), .string (B z.data), .int .i64 z.cr, .int .i64 z.ch, .int .i64 z.kd, .int .i64 z.ver, .int .i64 z.ks, .int .i64 z.own, .int .i64 z.nx] 0 [] [a, b, c, d, e, f, g, h, i] (Wr.refl r w) rfl rfl hb
/-! ### What is written -/
theorem gb_below {w w' : World} (h : Below w.heap.size w w') (row : Option Nat) : w.grownBy w' row := ⟨h.os, h.tape, h.output, h.size, fun k hk _ => h.block k hk⟩
theorem gb_trans {a b c : World} {x : Nat} (h : a.grownBy b (some x)) (k : b.grownBy c (some x)) : a.grownBy c (some x) := h.andThen k (fun _ hj => .inr hj)
theorem gb_drew {w : World} {row : Option Nat} : w.grownBy w.drew row := ⟨rfl, rfl, rfl, Nat.le_refl _, fun _ _ _ => rfl⟩
theorem gb_to {w w' : World} {x B : Nat} (h : w.grownBy w' (some x)) (hx : B ≤ x) (hw : B ≤ w.heap.size) : Below B w w' := ⟨h.os, h.tape, h.output, h.size, fun k hk => h.block k (by omega) (by simp; omega)⟩
theorem gb_cells {w w' : World} {x k : Nat} (h : w.grownBy w' (some x)) (hk : k ≠ x) {o : Obj} (ho : w.heap[k]? = some o) : w'.heap[k]? = some o := (h.block k (Array.getElem?_eq_some_iff.1 ho).1 (by simpa using hk)).trans ho
theorem own_new {w : World} {g e sz n base : Nat} {cs : Array Value} (h : w.heap[g]? = some (.cells cs e (0, 0))) (hb : base ≤ g) (hn : n ≤ maxLen) (hs : cs.size = n * sz) : w.ownsRow base e sz (.slice (some ⟨g, 0, none⟩) n n) n cs.toList :=
  ⟨by simpa using hs, .inr ⟨g, n, cs, rfl, hb, h, Nat.le_refl _, hn, hs, by rw [List.take_of_length_le (by simp [hs])]⟩⟩
theorem store_nd {w : World} {mb : Nat} {T : Tr} (h : MapT w mb T) (hs : Srt T) (z : Nd) (hp : z.path.length ≤ maxLen) (hl : T.length < 1000) : ∃ w', (Instr.mapUpdate 50 (.map (some mb)) (.string (B z.path)) (.agg #[.string (B z.path), .string (B z.data), .int .i64 z.cr, .int .i64 z.ch, .int .i64 z.kd, .int .i64 z.ver, .int .i64 z.ks, .int .i64 z.own, .int .i64 z.nx])).run Tryd.prog w = .ok () w' ∧ MapT w' mb (put T z) ∧ w.grownBy w' (some mb) := by
  obtain ⟨w', h1, h2, h3⟩ := World.ownsMap.store (t := 50) (e := 40) h law9 Tryd.underlying50 (by unfold maxLen; omega) (key_of z.path hp) (ndR_mk z)
  rw [dm_put hs] at h2
  exact ⟨w', h1, tight h2, h3.grown⟩
theorem del_nd {w : World} {mb : Nat} {T : Tr} (h : MapT w mb T) (p : Txt) (hp : p.length ≤ maxLen) (ty : TypeId) : ∃ w', (Builtin.delete_ #[50, 9] ty #[.map (some mb), .string (B p)]).run Tryd.prog w = .ok (.tuple #[]) w' ∧ MapT w' mb (wout T p) ∧ w.grownBy w' (some mb) := by
  obtain ⟨w', h1, h2, h3⟩ := World.ownsMap.drop (t := 50) (e := 40) h law9 Tryd.underlying50 (key_of p hp) ty
  rw [dm_del] at h2
  exact ⟨w', h1, tight h2, h3.grown⟩
theorem len_nd {w : World} {mb : Nat} {T : Tr} (h : MapT w mb T) (ty : TypeId) : (Builtin.len_ #[50] ty #[.map (some mb)]).run Tryd.prog w = .ok (.int .i64 T.length) w := by
  rw [World.ownsMap.len (t := 50) (e := 40) h Tryd.underlying50 ty, dm_size]
theorem MapT.drew {w : World} {mb : Nat} {T : Tr} (h : MapT w mb T) : MapT w.drew mb T := World.ownsMap.drew h
theorem TreeW.gb {w w' : World} {tp mb x : Nat} {T : Tr} (h : TreeW w tp mb T) (hg : w.grownBy w' (some x)) (h1 : tp ≠ x) (h2 : mb ≠ x) : TreeW w' tp mb T := ⟨gb_cells hg h1 h.here, h.map.of_block (hg.block mb h.map.lt (by simpa using h2))⟩
theorem TreeW.put {w w' : World} {tp mb : Nat} {T T' : Tr} (h : TreeW w tp mb T) (hg : w.grownBy w' (some mb)) (hm : MapT w' mb T') : TreeW w' tp mb T' := ⟨gb_cells hg (h.map.ne_cells h.here) h.here, hm⟩
end Go.Proofs.YtfkhnnmibecbeaaDoor
