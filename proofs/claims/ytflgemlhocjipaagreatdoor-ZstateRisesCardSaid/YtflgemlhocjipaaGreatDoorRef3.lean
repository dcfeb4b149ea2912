/-
  The document's put. Conditions: memory holds the list, and it is not long.
-/
import Derived.Test.YtflgemlhocjipaaGreatDoorRef2
import Derived.Test.YtflgemlhocjipaaGreatDoorCheckP
namespace Go.Proofs.YtflgemlhocjipaaGreatDoor
set_option maxRecDepth 100000
open Go.ChangeShapes Go.WideShapes Go.ChangeAt Go.RowKit Go.Proofs.Zn Go.Proofs.Zt

theorem put_no {S : Tr} {z : Nd} (h : ∀ x ∈ S, x.path < z.path) (R : Tr) : put (S ++ R) z = S ++ put R z := by
  induction S with
  | nil => rfl
  | cons y r ih => rw [List.cons_append, put, if_pos (h y (by simp)), ih (fun x hx => h x (by simp [hx]))]; rfl
theorem put_yes {S : Tr} {z : Nd} (h : ∃ x ∈ S, ¬ x.path < z.path) (x : Nd) : put (S ++ [x]) z = put S z ++ (if x.path = z.path then [] else [x]) := by
  induction S with
  | nil => obtain ⟨x, hx, _⟩ := h; cases hx
  | cons y r ih =>
    rw [List.cons_append, put, put]
    by_cases hy : y.path < z.path
    · rw [if_pos hy, if_pos hy, ih]
      · rfl
      · obtain ⟨u, hu, hn⟩ := h
        rcases List.mem_cons.1 hu with rfl | hu
        · exact absurd hy hn
        · exact ⟨u, hu, hn⟩
    · rw [if_neg hy, if_neg hy]
      have : y :: (r ++ [x]) = (y :: r) ++ [x] := rfl
      rw [this, List.filter_append]
      by_cases hx : x.path = z.path <;> simp [hx]
/-- What put has laid together of the first k znodes. -/
def outP (T : Tr) (z : Nd) (d : Bool) (k : Nat) : Tr := if d then put (T.take k) z else T.take k
structure POk (T : Tr) (z : Nd) (d : Bool) (k : Nat) : Prop where
  no : d = false → ∀ x ∈ T.take k, x.path < z.path
  yes : d = true → ∃ x ∈ T.take k, ¬ x.path < z.path
theorem POk.start (T : Tr) (z : Nd) : POk T z false 0 := ⟨fun _ x hx => by simp at hx, fun h => (by cases h)⟩
theorem put_len_le (T : Tr) (z : Nd) : (put T z).length ≤ T.length + 1 := by
  induction T with
  | nil => simp [put]
  | cons y r ih =>
    rw [put]
    split
    · simp only [List.length_cons]; omega
    · have := List.length_filter_le (fun x : Nd => !(x.path == z.path)) (y :: r)
      simp only [List.length_cons] at this ⊢
      omega
theorem outP_len (T : Tr) (z : Nd) (d : Bool) (k : Nat) : (outP T z d k).length ≤ k + 1 := by
  have h2 := List.length_take_le k T
  cases d
  · show (T.take k).length ≤ k + 1; omega
  · have := put_len_le (T.take k) z
    show (put (T.take k) z).length ≤ k + 1; omega
theorem POk.keep {T : Tr} {z x : Nd} {k : Nat} (h : POk T z false k) (hx : T[k]? = some x) (hl : x.path < z.path) : POk T z false (k + 1) ∧ outP T z false (k + 1) = outP T z false k ++ [x] := by
  obtain ⟨hk, rfl⟩ := List.getElem?_eq_some_iff.1 hx
  have e := List.take_succ_eq_append_getElem hk
  refine ⟨⟨fun _ y hy => ?_, fun h => (by cases h)⟩, e⟩
  rw [e, List.mem_append, List.mem_singleton] at hy
  rcases hy with hy | rfl
  · exact h.no rfl y hy
  · exact hl
theorem POk.hit {T : Tr} {z x : Nd} {k : Nat} (h : POk T z false k) (hx : T[k]? = some x) (hl : ¬ x.path < z.path) : POk T z true (k + 1) ∧ outP T z true (k + 1) = (outP T z false k ++ [z]) ++ (if x.path = z.path then [] else [x]) := by
  obtain ⟨hk, rfl⟩ := List.getElem?_eq_some_iff.1 hx
  have e := List.take_succ_eq_append_getElem hk
  refine ⟨⟨fun h => (by cases h), fun _ => ⟨T[k], by rw [e]; exact List.mem_append_right _ (List.mem_singleton.2 rfl), hl⟩⟩, ?_⟩
  show put (T.take (k + 1)) z = (T.take k ++ [z]) ++ _
  rw [e, put_no (h.no rfl), List.append_assoc]
  congr 1
  rw [put, if_neg hl]
  by_cases hp : T[k].path = z.path <;> simp [hp]
theorem POk.more {T : Tr} {z x : Nd} {k : Nat} (h : POk T z true k) (hx : T[k]? = some x) : POk T z true (k + 1) ∧ outP T z true (k + 1) = outP T z true k ++ (if x.path = z.path then [] else [x]) := by
  obtain ⟨hk, rfl⟩ := List.getElem?_eq_some_iff.1 hx
  have e := List.take_succ_eq_append_getElem hk
  obtain ⟨u, hu, hn⟩ := h.yes rfl
  refine ⟨⟨fun h => (by cases h), fun _ => ⟨u, by rw [e]; exact List.mem_append_left _ hu, hn⟩⟩, ?_⟩
  show put (T.take (k + 1)) z = put (T.take k) z ++ _
  rw [e, put_yes ⟨u, hu, hn⟩]
theorem POk.end {T : Tr} {z : Nd} {d : Bool} {k : Nat} (h : POk T z d k) (hk : T.length ≤ k) : put T z = outP T z d k ++ (if d then [] else [z]) := by
  have e := List.take_of_length_le hk
  cases d
  · show put T z = T.take k ++ [z]
    have := put_no (S := T) (fun x hx => h.no rfl x (by rw [e]; exact hx)) ([] : Tr)
    rw [List.append_nil] at this
    rw [e, this]; rfl
  · show put T z = put (T.take k) z ++ []
    rw [e, List.append_nil]
theorem put_end {w w1 wr : World} {T : Tr} {z : Nd} {d : Bool} {k : Nat} {v : Value} {X : Tr} (hb1 : Below w.heap.size w w1) (ho : wr.ownsRow w1.heap.size 132 9 v X.length (ncells X)) (he : put T z = outP T z d k ++ (if d then [] else [z]))
    (hX : outP T z d k ++ (if d then [] else [z]) = X) (hx : Below w1.heap.size w1 wr) : TrPost (put T z) w (.returned v) wr := by
  rw [he, hX]
  exact ⟨v, rfl, own_base ho hb1.size, hb1.trans (hx.mono hb1.size)⟩
theorem cells_up {w1 wr : World} {b off k : Nat} {x : Nd} (h : ∀ j v, (ncell x)[j]? = some v → w1.cell? ⟨b, off + k * 9 + j, none⟩ = some v) (hx : Below w1.heap.size w1 wr) : ∀ j v, (ncell x)[j]? = some v → wr.cell? ⟨b, off + k * 9 + j, none⟩ = some v :=
  fun j v hv => (hx.cell (p := ⟨b, off + k * 9 + j, none⟩) (cell_lt (h j v hv))).trans (h j v hv)
set_option maxHeartbeats 4000000 in
theorem rput_any {w : World} {A : Option Addr} {n c : Nat} {T : Tr} (h : Rd ncell 9 w A n T) (hn : n ≤ 1000000) (z : Nd) :
    Calls Tryz.prog 168 #[.slice A n c, .agg #[.string (B z.path), .string (B z.data), .int .i64 z.cr, .int .i64 z.ch, .int .i64 z.kd, .int .i64 z.ver, .int .i64 z.ks, .int .i64 z.own, .int .i64 z.nx]] w (TrPost (put T z) w) := by
  obtain ⟨i0, hi, hz0, hz1, hz2⟩ := info_parts info41
  obtain ⟨w1, hw1⟩ : ∃ w1, w1 = w.alloc (.cells #[.string (B z.path), .string (B z.data), .int .i64 z.cr, .int .i64 z.ch, .int .i64 z.kd, .int .i64 z.ver, .int .i64 z.ks, .int .i64 z.own, .int .i64 z.nx] 132) := ⟨_, rfl⟩
  obtain ⟨r, er⟩ : ∃ r, r = w.heap.size := ⟨_, rfl⟩
  have hb1 : Below w.heap.size w w1 := by rw [hw1]; exact box_below w _
  have hr : w1.heap[r]? = some (.cells #[.string (B z.path), .string (B z.data), .int .i64 z.cr, .int .i64 z.ch, .int .i64 z.kd, .int .i64 z.ver, .int .i64 z.ks, .int .i64 z.own, .int .i64 z.nx] 132 (0, 0)) := by rw [hw1, er]; exact new_block w _
  have HR := Lib.hid (h.below hb1)
  have HB1 := Lib.hid hb1
  have HRB := Lib.hid hr
  have HW1 := Lib.hid hw1
  have ER := Lib.hid er
  clear h hw1 er hb1 hr
  go_enter Tryz.func168, Tryz.ntmps168
  go_upto_region 1 with fail
  rw [← HW1.out, ← ER.out]
  go_wp2_with fail
  go_loopw [5, 6, 7] (fun l dn i wr => ∃ (k : Nat) (d : Bool), k ≤ n ∧ i = .int .i64 k ∧ dn = .bool d ∧ Hid (POk T z d k) ∧ Hid (wr.ownsRow w1.heap.size 132 9 l (outP T z d k).length (ncells (outP T z d k))) ∧ Hid (Below w1.heap.size w1 wr)) (fun _ _ i _ => n - (intOf i).toNat)
  case atStart => exact ⟨0, false, Nat.zero_le _, rfl, rfl, Lib.hid (POk.start T z), Lib.hid ⟨rfl, .inl ⟨rfl, rfl⟩⟩, Lib.hid (Below.refl _ _)⟩
  case round =>
    obtain ⟨k, d, hk, rfl, rfl, HP, HO, HX⟩ := hrel
    by_cases hlt : k < n
    · obtain ⟨b, off, x, rfl, hz, hc⟩ := HR.out.at hlt
      have HC := Lib.hid hc
      have HZ := Lib.hid hz
      have hln := outP_len T z d k
      clear hz hc
      cases d with
      | true =>
        obtain ⟨n1, n2⟩ := HP.out.more HZ.out
        have HN1 := Lib.hid n1
        have HN2 := Lib.hid n2
        clear n1 n2
        go_upto_region 6 with fail
        go_quiet (fail)
        obtain ⟨w2, hw2⟩ : ∃ w', w' = wr.drewN nq := ⟨_, rfl⟩
        have HW2 := Lib.hid hw2
        rw [← HW2.out]
        clear hw2
        have HX2 : Hid (Below w1.heap.size w1 w2) := Lib.hid (by rw [HW2.out]; exact below_drewN HX.out _)
        have HO2 := Lib.hid (own_below HO.out (show Below wr.heap.size wr w2 by rw [HW2.out]; exact below_drewN (Below.refl _ _) _))
        by_cases he : x.path = z.path
        · have t1 : (x.path == z.path) = true := by simpa using he
          rw [if_pos he, List.append_nil] at HN2
          clear he
          have hcu := cells_up HC.out HX2.out
          have hrb := blk_below HRB.out HX2.out
          have a0 : w2.cell? ⟨b, off + k * 9, none⟩ = some (.string (B x.path)) := hcu 0 _ rfl
          have q0 := cell_of hrb (j := 0) rfl
          clear hcu hrb
          go_upto_region 9 with fail
          go_quiet (fail)
          obtain ⟨w3, hw3⟩ : ∃ w', w' = w2.drewN nq := ⟨_, rfl⟩
          have HW3 := Lib.hid hw3
          rw [← HW3.out]
          clear hw3
          have HX3 : Hid (Below w1.heap.size w1 w3) := Lib.hid (by rw [HW3.out]; exact below_drewN HX2.out _)
          have HO3 := Lib.hid (own_below HO2.out (show Below w2.heap.size w2 w3 by rw [HW3.out]; exact below_drewN (Below.refl _ _) _))
          clear a0 q0
          go_wp2_with fail
          go_roundw
          case rel => exact ⟨k + 1, true, hlt, by go_num, rfl, HN1, Lib.hid (by rw [HN2.out]; exact HO3.out), HX3⟩
          case measure => simp [intOf]; omega
        · have t1 : (x.path == z.path) = false := by simpa using he
          rw [if_neg he] at HN2
          clear he
          have hcu := cells_up HC.out HX2.out
          have hrb := blk_below HRB.out HX2.out
          have a0 : w2.cell? ⟨b, off + k * 9, none⟩ = some (.string (B x.path)) := hcu 0 _ rfl
          have q0 := cell_of hrb (j := 0) rfl
          clear hcu hrb
          go_upto_region 9 with fail
          go_quiet (fail)
          obtain ⟨w3, hw3⟩ : ∃ w', w' = w2.drewN nq := ⟨_, rfl⟩
          have HW3 := Lib.hid hw3
          rw [← HW3.out]
          clear hw3
          have HX3 : Hid (Below w1.heap.size w1 w3) := Lib.hid (by rw [HW3.out]; exact below_drewN HX2.out _)
          have HO3 := Lib.hid (own_below HO2.out (show Below w2.heap.size w2 w3 by rw [HW3.out]; exact below_drewN (Below.refl _ _) _))
          clear a0 q0
          have hcu := cells_up HC.out HX3.out
          have hrb := blk_below HRB.out HX3.out
          have a0 : w3.cell? ⟨b, off + k * 9, none⟩ = some (.string (B x.path)) := hcu 0 _ rfl
          have a1 : w3.cell? ⟨b, off + k * 9 + 1, none⟩ = some (.string (B x.data)) := hcu 1 _ rfl
          have a2 : w3.cell? ⟨b, off + k * 9 + 2, none⟩ = some (.int .i64 x.cr) := hcu 2 _ rfl
          have a3 : w3.cell? ⟨b, off + k * 9 + 3, none⟩ = some (.int .i64 x.ch) := hcu 3 _ rfl
          have a4 : w3.cell? ⟨b, off + k * 9 + 4, none⟩ = some (.int .i64 x.kd) := hcu 4 _ rfl
          have a5 : w3.cell? ⟨b, off + k * 9 + 5, none⟩ = some (.int .i64 x.ver) := hcu 5 _ rfl
          have a6 : w3.cell? ⟨b, off + k * 9 + 6, none⟩ = some (.int .i64 x.ks) := hcu 6 _ rfl
          have a7 : w3.cell? ⟨b, off + k * 9 + 7, none⟩ = some (.int .i64 x.own) := hcu 7 _ rfl
          have a8 : w3.cell? ⟨b, off + k * 9 + 8, none⟩ = some (.int .i64 x.nx) := hcu 8 _ rfl
          have q0 := cell_of hrb (j := 0) rfl
          clear hcu hrb
          have ho := HO3.out
          have hsz := HX3.out.size
          go_wp2_with (at_builtin; refine wpList_append_own _ rfl _ _ 27 rfl w1.heap.size 132 i0 _ 9 88 Tryz.underlying27 hi hz0 hz1 hz2 rfl (by decide) _ _ _ rfl (ho.alloc _) ⟨w3.heap.size, 0, none⟩ 1 1 (ncell x) rfl rfl (World.news_of_block (new_block w3 _)) (ncell_one x) (by unfold maxLen at *; omega) (by omega) (by simp; omega) ?_; intro v30 w30 hown30 hg30 hnil30)
          have HX30 := Lib.hid ((HX3.out.alloc HX3.out.size _).grown hg30 (by simp; have := HX3.out.size; omega) (fun j hj => (HO3.out.lt j hj).1))
          have HO30 := Lib.hid hown30
          clear hown30 hg30 hnil30 ho
          go_roundw
          case rel => exact ⟨k + 1, true, hlt, by go_num, rfl, HN1, Lib.hid (by rw [HN2.out, ncells_append, List.length_append]; exact HO30.out), HX30⟩
          case measure => simp [intOf]; omega
      | false =>
        by_cases hl : x.path < z.path
        · obtain ⟨n1, n2⟩ := HP.out.keep HZ.out hl
          have HN1 := Lib.hid n1
          have HN2 := Lib.hid n2
          have t1 : (x.path == z.path) = false := by simpa using lt_ne hl
          have t2 : Op.bytesLess x.path z.path = true := by rw [less_dec]; simpa using hl
          clear hl n1 n2
          have hcu := cells_up HC.out HX.out
          have hrb := blk_below HRB.out HX.out
          have a0 : wr.cell? ⟨b, off + k * 9, none⟩ = some (.string (B x.path)) := hcu 0 _ rfl
          have q0 := cell_of hrb (j := 0) rfl
          clear hcu hrb
          go_upto_region 6 with fail
          go_quiet (fail)
          obtain ⟨w2, hw2⟩ : ∃ w', w' = wr.drewN nq := ⟨_, rfl⟩
          have HW2 := Lib.hid hw2
          rw [← HW2.out]
          clear hw2
          have HX2 : Hid (Below w1.heap.size w1 w2) := Lib.hid (by rw [HW2.out]; exact below_drewN HX.out _)
          have HO2 := Lib.hid (own_below HO.out (show Below wr.heap.size wr w2 by rw [HW2.out]; exact below_drewN (Below.refl _ _) _))
          clear a0 q0
          have hcu := cells_up HC.out HX2.out
          have hrb := blk_below HRB.out HX2.out
          have a0 : w2.cell? ⟨b, off + k * 9, none⟩ = some (.string (B x.path)) := hcu 0 _ rfl
          have q0 := cell_of hrb (j := 0) rfl
          clear hcu hrb
          go_upto_region 9 with fail
          go_quiet (fail)
          obtain ⟨w3, hw3⟩ : ∃ w', w' = w2.drewN nq := ⟨_, rfl⟩
          have HW3 := Lib.hid hw3
          rw [← HW3.out]
          clear hw3
          have HX3 : Hid (Below w1.heap.size w1 w3) := Lib.hid (by rw [HW3.out]; exact below_drewN HX2.out _)
          have HO3 := Lib.hid (own_below HO2.out (show Below w2.heap.size w2 w3 by rw [HW3.out]; exact below_drewN (Below.refl _ _) _))
          clear a0 q0
          have hcu := cells_up HC.out HX3.out
          have hrb := blk_below HRB.out HX3.out
          have a0 : w3.cell? ⟨b, off + k * 9, none⟩ = some (.string (B x.path)) := hcu 0 _ rfl
          have a1 : w3.cell? ⟨b, off + k * 9 + 1, none⟩ = some (.string (B x.data)) := hcu 1 _ rfl
          have a2 : w3.cell? ⟨b, off + k * 9 + 2, none⟩ = some (.int .i64 x.cr) := hcu 2 _ rfl
          have a3 : w3.cell? ⟨b, off + k * 9 + 3, none⟩ = some (.int .i64 x.ch) := hcu 3 _ rfl
          have a4 : w3.cell? ⟨b, off + k * 9 + 4, none⟩ = some (.int .i64 x.kd) := hcu 4 _ rfl
          have a5 : w3.cell? ⟨b, off + k * 9 + 5, none⟩ = some (.int .i64 x.ver) := hcu 5 _ rfl
          have a6 : w3.cell? ⟨b, off + k * 9 + 6, none⟩ = some (.int .i64 x.ks) := hcu 6 _ rfl
          have a7 : w3.cell? ⟨b, off + k * 9 + 7, none⟩ = some (.int .i64 x.own) := hcu 7 _ rfl
          have a8 : w3.cell? ⟨b, off + k * 9 + 8, none⟩ = some (.int .i64 x.nx) := hcu 8 _ rfl
          have q0 := cell_of hrb (j := 0) rfl
          clear hcu hrb
          have ho := HO3.out
          have hsz := HX3.out.size
          go_wp2_with (at_builtin; refine wpList_append_own _ rfl _ _ 27 rfl w1.heap.size 132 i0 _ 9 88 Tryz.underlying27 hi hz0 hz1 hz2 rfl (by decide) _ _ _ rfl (ho.alloc _) ⟨w3.heap.size, 0, none⟩ 1 1 (ncell x) rfl rfl (World.news_of_block (new_block w3 _)) (ncell_one x) (by unfold maxLen at *; omega) (by omega) (by simp; omega) ?_; intro v30 w30 hown30 hg30 hnil30)
          have HX30 := Lib.hid ((HX3.out.alloc HX3.out.size _).grown hg30 (by simp; have := HX3.out.size; omega) (fun j hj => (HO3.out.lt j hj).1))
          have HO30 := Lib.hid hown30
          clear hown30 hg30 hnil30 ho
          go_roundw
          case rel => exact ⟨k + 1, false, hlt, by go_num, rfl, HN1, Lib.hid (by rw [HN2.out, ncells_append, List.length_append]; exact HO30.out), HX30⟩
          case measure => simp [intOf]; omega
        · obtain ⟨n1, n2⟩ := HP.out.hit HZ.out hl
          have HN1 := Lib.hid n1
          have HN2 := Lib.hid n2
          have t2 : Op.bytesLess x.path z.path = false := by rw [less_dec]; simpa using hl
          clear hl n1 n2
          have hcu := cells_up HC.out HX.out
          have hrb := blk_below HRB.out HX.out
          have a0 : wr.cell? ⟨b, off + k * 9, none⟩ = some (.string (B x.path)) := hcu 0 _ rfl
          have q0 := cell_of hrb (j := 0) rfl
          clear hcu hrb
          go_upto_region 6 with fail
          go_quiet (fail)
          obtain ⟨w2, hw2⟩ : ∃ w', w' = wr.drewN nq := ⟨_, rfl⟩
          have HW2 := Lib.hid hw2
          rw [← HW2.out]
          clear hw2
          have HX2 : Hid (Below w1.heap.size w1 w2) := Lib.hid (by rw [HW2.out]; exact below_drewN HX.out _)
          have HO2 := Lib.hid (own_below HO.out (show Below wr.heap.size wr w2 by rw [HW2.out]; exact below_drewN (Below.refl _ _) _))
          clear a0 q0
          have hcu := cells_up HC.out HX2.out
          have hrb := blk_below HRB.out HX2.out
          have a0 : w2.cell? ⟨b, off + k * 9, none⟩ = some (.string (B x.path)) := hcu 0 _ rfl
          have q0 := cell_of hrb (j := 0) rfl
          have q1 := cell_of hrb (j := 1) rfl
          have q2 := cell_of hrb (j := 2) rfl
          have q3 := cell_of hrb (j := 3) rfl
          have q4 := cell_of hrb (j := 4) rfl
          have q5 := cell_of hrb (j := 5) rfl
          have q6 := cell_of hrb (j := 6) rfl
          have q7 := cell_of hrb (j := 7) rfl
          have q8 := cell_of hrb (j := 8) rfl
          clear hcu hrb
          have ho := HO2.out
          have hsz := HX2.out.size
          go_upto_region 8 with (at_builtin; refine wpList_append_own _ rfl _ _ 27 rfl w1.heap.size 132 i0 _ 9 88 Tryz.underlying27 hi hz0 hz1 hz2 rfl (by decide) _ _ _ rfl (ho.alloc _) ⟨w2.heap.size, 0, none⟩ 1 1 (ncell z) rfl rfl (World.news_of_block (new_block w2 _)) (ncell_one z) (by unfold maxLen at *; omega) (by omega) (by simp; omega) ?_; intro v20 w20 hown20 hg20 hnil20)
          have HX20 := Lib.hid ((HX2.out.alloc HX2.out.size _).grown hg20 (by simp; have := HX2.out.size; omega) (fun j hj => (HO2.out.lt j hj).1))
          have HO20 := Lib.hid hown20
          clear hown20 hg20 hnil20 ho
          clear a0 q0 q1 q2 q3 q4 q5 q6 q7 q8
          clear hsz
          by_cases he : x.path = z.path
          · have t1 : (x.path == z.path) = true := by simpa using he
            rw [if_pos he, List.append_nil] at HN2
            clear he
            have hcu := cells_up HC.out HX20.out
            have hrb := blk_below HRB.out HX20.out
            have a0 : w20.cell? ⟨b, off + k * 9, none⟩ = some (.string (B x.path)) := hcu 0 _ rfl
            have q0 := cell_of hrb (j := 0) rfl
            clear hcu hrb
            go_upto_region 9 with fail
            go_quiet (fail)
            obtain ⟨w3, hw3⟩ : ∃ w', w' = w20.drewN nq := ⟨_, rfl⟩
            have HW3 := Lib.hid hw3
            rw [← HW3.out]
            clear hw3
            have HX3 : Hid (Below w1.heap.size w1 w3) := Lib.hid (by rw [HW3.out]; exact below_drewN HX20.out _)
            have HO3 := Lib.hid (own_below HO20.out (show Below w20.heap.size w20 w3 by rw [HW3.out]; exact below_drewN (Below.refl _ _) _))
            clear a0 q0
            go_wp2_with fail
            go_roundw
            case rel => exact ⟨k + 1, true, hlt, by go_num, rfl, HN1, Lib.hid (by rw [HN2.out, ncells_append, List.length_append]; exact HO3.out), HX3⟩
            case measure => simp [intOf]; omega
          · have t1 : (x.path == z.path) = false := by simpa using he
            rw [if_neg he] at HN2
            clear he
            have hcu := cells_up HC.out HX20.out
            have hrb := blk_below HRB.out HX20.out
            have a0 : w20.cell? ⟨b, off + k * 9, none⟩ = some (.string (B x.path)) := hcu 0 _ rfl
            have q0 := cell_of hrb (j := 0) rfl
            clear hcu hrb
            go_upto_region 9 with fail
            go_quiet (fail)
            obtain ⟨w3, hw3⟩ : ∃ w', w' = w20.drewN nq := ⟨_, rfl⟩
            have HW3 := Lib.hid hw3
            rw [← HW3.out]
            clear hw3
            have HX3 : Hid (Below w1.heap.size w1 w3) := Lib.hid (by rw [HW3.out]; exact below_drewN HX20.out _)
            have HO3 := Lib.hid (own_below HO20.out (show Below w20.heap.size w20 w3 by rw [HW3.out]; exact below_drewN (Below.refl _ _) _))
            clear a0 q0
            have hcu := cells_up HC.out HX3.out
            have hrb := blk_below HRB.out HX3.out
            have a0 : w3.cell? ⟨b, off + k * 9, none⟩ = some (.string (B x.path)) := hcu 0 _ rfl
            have a1 : w3.cell? ⟨b, off + k * 9 + 1, none⟩ = some (.string (B x.data)) := hcu 1 _ rfl
            have a2 : w3.cell? ⟨b, off + k * 9 + 2, none⟩ = some (.int .i64 x.cr) := hcu 2 _ rfl
            have a3 : w3.cell? ⟨b, off + k * 9 + 3, none⟩ = some (.int .i64 x.ch) := hcu 3 _ rfl
            have a4 : w3.cell? ⟨b, off + k * 9 + 4, none⟩ = some (.int .i64 x.kd) := hcu 4 _ rfl
            have a5 : w3.cell? ⟨b, off + k * 9 + 5, none⟩ = some (.int .i64 x.ver) := hcu 5 _ rfl
            have a6 : w3.cell? ⟨b, off + k * 9 + 6, none⟩ = some (.int .i64 x.ks) := hcu 6 _ rfl
            have a7 : w3.cell? ⟨b, off + k * 9 + 7, none⟩ = some (.int .i64 x.own) := hcu 7 _ rfl
            have a8 : w3.cell? ⟨b, off + k * 9 + 8, none⟩ = some (.int .i64 x.nx) := hcu 8 _ rfl
            have q0 := cell_of hrb (j := 0) rfl
            clear hcu hrb
            have ho := HO3.out
            have hsz := HX3.out.size
            go_wp2_with (at_builtin; refine wpList_append_own _ rfl _ _ 27 rfl w1.heap.size 132 i0 _ 9 88 Tryz.underlying27 hi hz0 hz1 hz2 rfl (by decide) _ _ _ rfl (ho.alloc _) ⟨w3.heap.size, 0, none⟩ 1 1 (ncell x) rfl rfl (World.news_of_block (new_block w3 _)) (ncell_one x) (by unfold maxLen at *; omega) (by omega) (by simp; omega) ?_; intro v30 w30 hown30 hg30 hnil30)
            have HX30 := Lib.hid ((HX3.out.alloc HX3.out.size _).grown hg30 (by simp; have := HX3.out.size; omega) (fun j hj => (HO3.out.lt j hj).1))
            have HO30 := Lib.hid hown30
            clear hown30 hg30 hnil30 ho
            go_roundw
            case rel => exact ⟨k + 1, true, hlt, by go_num, rfl, HN1, Lib.hid (by rw [HN2.out, ncells_append, ncells_append, List.length_append, List.length_append]; exact HO30.out), HX30⟩
            case measure => simp [intOf]; omega
    · have hkn : k = n := by omega
      have HPE := Lib.hid (HP.out.end (by rw [HR.out.len]; omega))
      have hln := outP_len T z d k
      have hsz := HX.out.size
      have hrb := blk_below HRB.out HX.out
      have ho := HO.out
      have q0 := cell_of hrb (j := 0) rfl
      have q1 := cell_of hrb (j := 1) rfl
      have q2 := cell_of hrb (j := 2) rfl
      have q3 := cell_of hrb (j := 3) rfl
      have q4 := cell_of hrb (j := 4) rfl
      have q5 := cell_of hrb (j := 5) rfl
      have q6 := cell_of hrb (j := 6) rfl
      have q7 := cell_of hrb (j := 7) rfl
      have q8 := cell_of hrb (j := 8) rfl
      clear hrb
      cases d with
      | true =>
        have HE := Lib.hid (put_end HB1.out (X := outP T z true k) HO.out HPE.out (by simp) HX.out)
        go_wp2_with fail
        go_ret
        exact HE.out
      | false =>
        go_wp2_with (at_builtin; refine wpList_append_own _ rfl _ _ 27 rfl w1.heap.size 132 i0 _ 9 88 Tryz.underlying27 hi hz0 hz1 hz2 rfl (by decide) _ _ _ rfl (ho.alloc _) ⟨wr.heap.size, 0, none⟩ 1 1 (ncell z) rfl rfl (World.news_of_block (new_block wr _)) (ncell_one z) (by unfold maxLen at *; omega) (by omega) (by simp; omega) ?_; intro v5 w5 hown5 hg5 hnil5)
        have hB5 := (HX.out.alloc hsz _).grown hg5 (by simp; omega) (fun j hj => (HO.out.lt j hj).1)
        have HE := Lib.hid (put_end (d := false) HB1.out (by rw [ncells_append, List.length_append]; exact hown5) HPE.out rfl hB5)
        clear hown5 hg5 hnil5 hB5
        go_wp2_with fail
        go_ret
        exact HE.out
end Go.Proofs.YtflgemlhocjipaaGreatDoor
