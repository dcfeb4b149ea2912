/-
  The document's New, up, without. Conditions: memory holds the list, and it is not long.
  The document's put. Conditions: memory holds the list, and it is not long.
  The document's Owned, Kids, fails. Conditions: memory holds the list, and it is not long.
  The document's Kids. Conditions: memory holds the list; it is not long, nor are its paths.
  The document's Same, SameTexts, SameEvents of rows that are alike. Conditions: memory holds both rows; they are not long.
-/
import Derived.Test.YtflgemlhocjipaaGreatDoorRef1
import Derived.Test.YtflgemlhocjipaaGreatDoorEndP
import Derived.Laws.Cover1
import Derived.Test.YtflgemlhocjipaaGreatDoorCheckP
import Derived.Test.YtflgemlhocjipaaGreatDoorRBase
namespace Go.Proofs.YtflgemlhocjipaaGreatDoor
set_option maxRecDepth 100000
open Go.ChangeShapes Go.WideShapes Go.ChangeAt Go.RowKit Go.Proofs.Zn Go.Proofs.Zt

theorem info41 : (Tryz.prog.info? 132).map (fun i => (i.zero, i.size, i.bytes)) = some (some (.agg #[.string ⟨#[]⟩, .string ⟨#[]⟩, .int .i64 0, .int .i64 0, .int .i64 0, .int .i64 0, .int .i64 0, .int .i64 0, .int .i64 0]), 9, 88) := by kernel_rfl
/-- An answer that is a list of znodes. -/
def TrPost (T : Tr) (w : World) (e : Ending) (w' : World) : Prop := ∃ v, e = .returned v ∧ w'.ownsRow w.heap.size 132 9 v T.length (ncells T) ∧ Below w.heap.size w w'
theorem rnew_any (w : World) : Calls Tryz.prog 41 #[] w (TrPost Zt.new w) := by
  have hb := box_below w (.cells #[.string ⟨#[47]⟩, .string ⟨#[]⟩, .int .i64 0, .int .i64 0, .int .i64 0, .int .i64 0, .int .i64 0, .int .i64 0, .int .i64 0] 132)
  have ho := own_new (base := w.heap.size) (n := 1) (sz := 9) (new_block w (.cells #[.string ⟨#[47]⟩, .string ⟨#[]⟩, .int .i64 0, .int .i64 0, .int .i64 0, .int .i64 0, .int .i64 0, .int .i64 0, .int .i64 0] 132)) (Nat.le_refl _) (by unfold maxLen; omega) rfl
  have HE := Lib.hid hb
  have HO := Lib.hid ho
  clear hb ho
  go_enter Tryz.func41, Tryz.ntmps41
  go_wp2_with fail
  go_ret
  exact ⟨_, rfl, HO.out, HE.out⟩
theorem rup_any (n : Int) (hn : n ≤ 4611686018427387904) (h0 : 0 ≤ n) (w : World) : Calls Tryz.prog 167 #[.int .i64 n] w fun e w' => e = .returned (.int .i64 (up n)) ∧ w = w' := by
  by_cases h : n = 4611686018427387904
  · subst h
    go_enter Tryz.func167, Tryz.ntmps167
    go_wp2_with fail
    go_ret
    exact ⟨rfl, rfl⟩
  · have HU : Hid (up n = n + 1) := Lib.hid (by unfold up mx; rw [if_neg h])
    have h1 : (n == 4611686018427387904) = false := by simpa using h
    have h2 : n < 4611686018427387904 := by omega
    clear h
    go_enter Tryz.func167, Tryz.ntmps167
    go_wp2_with fail
    go_ret
    rw [HU.out]
    exact ⟨rfl, rfl⟩
theorem wout_step {T : Tr} {k : Nat} {z : Nd} (hz : T[k]? = some z) (p : Txt) : wout (T.take (k + 1)) p = wout (T.take k) p ++ (if z.path = p then [] else [z]) := by
  obtain ⟨hk, rfl⟩ := List.getElem?_eq_some_iff.1 hz
  rw [List.take_succ_eq_append_getElem hk]
  unfold wout
  rw [List.filter_append]
  by_cases h : T[k].path = p <;> simp [h]
theorem wout_take_le (T : Tr) (k : Nat) (p : Txt) : (wout (T.take k) p).length ≤ k := by
  have h1 := wout_len_le (T.take k) p
  have h2 := List.length_take_le k T
  omega
set_option maxHeartbeats 2000000 in
theorem rwithout_any {w : World} {A : Option Addr} {n c : Nat} {T : Tr} (h : Rd ncell 9 w A n T) (hn : n ≤ 1000000) (p : Txt) :
    Calls Tryz.prog 170 #[.slice A n c, .string (B p)] w (TrPost (wout T p) w) := by
  obtain ⟨i0, hi, hz0, hz1, hz2⟩ := info_parts info41
  have HR := Lib.hid h
  clear h
  go_enter Tryz.func170, Tryz.ntmps170
  go_wp2_with fail
  go_loopw [5, 6] (fun l i wr => ∃ k : Nat, k ≤ n ∧ i = .int .i64 k ∧ Hid (wr.ownsRow w.heap.size 132 9 l (wout (T.take k) p).length (ncells (wout (T.take k) p))) ∧ Hid (Below w.heap.size w wr)) (fun _ i _ => n - (intOf i).toNat)
  case atStart => exact ⟨0, Nat.zero_le _, rfl, Lib.hid ⟨rfl, .inl ⟨rfl, rfl⟩⟩, Lib.hid (Below.refl _ _)⟩
  case round =>
    obtain ⟨k, hk, rfl, HO, HX⟩ := hrel
    by_cases hlt : k < n
    · obtain ⟨b, off, z, rfl, hz, hc⟩ := (HR.out.below HX.out).at hlt
      have HWS := Lib.hid (wout_step hz p)
      have a0 : wr.cell? ⟨b, off + k * 9, none⟩ = some (.string (B z.path)) := hc 0 _ rfl
      have a1 : wr.cell? ⟨b, off + k * 9 + 1, none⟩ = some (.string (B z.data)) := hc 1 _ rfl
      have a2 : wr.cell? ⟨b, off + k * 9 + 2, none⟩ = some (.int .i64 z.cr) := hc 2 _ rfl
      have a3 : wr.cell? ⟨b, off + k * 9 + 3, none⟩ = some (.int .i64 z.ch) := hc 3 _ rfl
      have a4 : wr.cell? ⟨b, off + k * 9 + 4, none⟩ = some (.int .i64 z.kd) := hc 4 _ rfl
      have a5 : wr.cell? ⟨b, off + k * 9 + 5, none⟩ = some (.int .i64 z.ver) := hc 5 _ rfl
      have a6 : wr.cell? ⟨b, off + k * 9 + 6, none⟩ = some (.int .i64 z.ks) := hc 6 _ rfl
      have a7 : wr.cell? ⟨b, off + k * 9 + 7, none⟩ = some (.int .i64 z.own) := hc 7 _ rfl
      have a8 : wr.cell? ⟨b, off + k * 9 + 8, none⟩ = some (.int .i64 z.nx) := hc 8 _ rfl
      clear hz hc
      by_cases he : z.path = p
      · have t1 : (z.path == p) = true := by simpa using he
        rw [if_pos he, List.append_nil] at HWS
        clear he
        go_wp2_with fail
        go_roundw
        case rel => exact ⟨k + 1, hlt, by go_num, Lib.hid (by rw [HWS.out]; exact HO.out), HX⟩
        case measure => simp [intOf]; omega
      · have t1 : (z.path == p) = false := by simpa using he
        rw [if_neg he] at HWS
        have ho := HO.out
        have hsz := HX.out.size
        have hln := wout_take_le T k p
        clear he
        go_wp2_with (at_builtin; refine wpList_append_own _ rfl _ _ 27 rfl w.heap.size 132 i0 _ 9 88 Tryz.underlying27 hi hz0 hz1 hz2 rfl (by decide) _ _ _ rfl (ho.alloc _) ⟨wr.heap.size, 0, none⟩ 1 1 (ncell z) rfl rfl (World.news_of_block (new_block wr _)) (ncell_one z) (by unfold maxLen at *; omega) (by omega) (by simp; omega) ?_; intro v' w5 hown' hg5 hnil5)
        have hB5 := (HX.out.alloc hsz _).grown hg5 (by simp; omega) (fun j hj => (HO.out.lt j hj).1)
        have HB5 := Lib.hid hB5
        have HO5 := Lib.hid hown'
        clear hown' hg5 hnil5 hB5 ho
        go_roundw
        case rel => exact ⟨k + 1, hlt, by go_num, Lib.hid (by rw [HWS.out, ncells_append, List.length_append]; exact HO5.out), HB5⟩
        case measure => simp [intOf]; omega
    · have hkn : k = n := by omega
      have HE := Lib.hid HO.out
      rw [hkn, List.take_of_length_le (by rw [HR.out.len]; exact Nat.le_refl _)] at HE
      clear hkn
      go_wp2_with fail
      go_ret
      exact ⟨_, rfl, HE.out, HX.out⟩
end Go.Proofs.YtflgemlhocjipaaGreatDoor
namespace Go.Proofs.YtflgemlhocjipaaGreatDoor
set_option maxRecDepth 100000
open Go.ChangeShapes Go.WideShapes Go.ChangeAt Go.RowKit Go.Proofs.Zn Go.Proofs.Zt

theorem put_no {S : Tr} {z : Nd} (h : ∀ x ∈ S, x.path < z.path) (R : Tr) : put (S ++ R) z = S ++ put R z := by
  induction S with
  | nil => rfl
  | cons y r ih => rw [List.cons_append, put, if_pos (h y (by simp)), ih (fun x hx => h x (by simp [hx]))]; rfl
theorem put_yes {S : Tr} {z : Nd} (h : ∃ x ∈ S, ¬ x.path < z.path) (x : Nd) : put (S ++ [x]) z = put S z ++ (if x.path = z.path then [] else [x]) := by
  induction S with
  | nil => obtain ⟨x, hx, _⟩ := h; cases hx
  | cons y r ih =>
    rw [List.cons_append, put, put]
    by_cases hy : y.path < z.path
    · rw [if_pos hy, if_pos hy, ih]
      · rfl
      · obtain ⟨u, hu, hn⟩ := h
        rcases List.mem_cons.1 hu with rfl | hu
        · exact absurd hy hn
        · exact ⟨u, hu, hn⟩
    · rw [if_neg hy, if_neg hy]
      have : y :: (r ++ [x]) = (y :: r) ++ [x] := rfl
      rw [this, List.filter_append]
      by_cases hx : x.path = z.path <;> simp [hx]
/-- What put has laid together of the first k znodes. -/
def outP (T : Tr) (z : Nd) (d : Bool) (k : Nat) : Tr := if d then put (T.take k) z else T.take k
structure POk (T : Tr) (z : Nd) (d : Bool) (k : Nat) : Prop where
  no : d = false → ∀ x ∈ T.take k, x.path < z.path
  yes : d = true → ∃ x ∈ T.take k, ¬ x.path < z.path
theorem POk.start (T : Tr) (z : Nd) : POk T z false 0 := ⟨fun _ x hx => by simp at hx, fun h => (by cases h)⟩
theorem put_len_le (T : Tr) (z : Nd) : (put T z).length ≤ T.length + 1 := by
  induction T with
  | nil => simp [put]
  | cons y r ih =>
    rw [put]
    split
    · simp only [List.length_cons]; omega
    · have := List.length_filter_le (fun x : Nd => !(x.path == z.path)) (y :: r)
      simp only [List.length_cons] at this ⊢
      omega
theorem outP_len (T : Tr) (z : Nd) (d : Bool) (k : Nat) : (outP T z d k).length ≤ k + 1 := by
  have h2 := List.length_take_le k T
  cases d
  · show (T.take k).length ≤ k + 1; omega
  · have := put_len_le (T.take k) z
    show (put (T.take k) z).length ≤ k + 1; omega
theorem POk.keep {T : Tr} {z x : Nd} {k : Nat} (h : POk T z false k) (hx : T[k]? = some x) (hl : x.path < z.path) : POk T z false (k + 1) ∧ outP T z false (k + 1) = outP T z false k ++ [x] := by
  obtain ⟨hk, rfl⟩ := List.getElem?_eq_some_iff.1 hx
  have e := List.take_succ_eq_append_getElem hk
  refine ⟨⟨fun _ y hy => ?_, fun h => (by cases h)⟩, e⟩
  rw [e, List.mem_append, List.mem_singleton] at hy
  rcases hy with hy | rfl
  · exact h.no rfl y hy
  · exact hl
theorem POk.hit {T : Tr} {z x : Nd} {k : Nat} (h : POk T z false k) (hx : T[k]? = some x) (hl : ¬ x.path < z.path) : POk T z true (k + 1) ∧ outP T z true (k + 1) = (outP T z false k ++ [z]) ++ (if x.path = z.path then [] else [x]) := by
  obtain ⟨hk, rfl⟩ := List.getElem?_eq_some_iff.1 hx
  have e := List.take_succ_eq_append_getElem hk
  refine ⟨⟨fun h => (by cases h), fun _ => ⟨T[k], by rw [e]; exact List.mem_append_right _ (List.mem_singleton.2 rfl), hl⟩⟩, ?_⟩
  show put (T.take (k + 1)) z = (T.take k ++ [z]) ++ _
  rw [e, put_no (h.no rfl), List.append_assoc]
  congr 1
  rw [put, if_neg hl]
  by_cases hp : T[k].path = z.path <;> simp [hp]
theorem POk.more {T : Tr} {z x : Nd} {k : Nat} (h : POk T z true k) (hx : T[k]? = some x) : POk T z true (k + 1) ∧ outP T z true (k + 1) = outP T z true k ++ (if x.path = z.path then [] else [x]) := by
  obtain ⟨hk, rfl⟩ := List.getElem?_eq_some_iff.1 hx
  have e := List.take_succ_eq_append_getElem hk
  obtain ⟨u, hu, hn⟩ := h.yes rfl
  refine ⟨⟨fun h => (by cases h), fun _ => ⟨u, by rw [e]; exact List.mem_append_left _ hu, hn⟩⟩, ?_⟩
  show put (T.take (k + 1)) z = put (T.take k) z ++ _
  rw [e, put_yes ⟨u, hu, hn⟩]
theorem POk.end {T : Tr} {z : Nd} {d : Bool} {k : Nat} (h : POk T z d k) (hk : T.length ≤ k) : put T z = outP T z d k ++ (if d then [] else [z]) := by
  have e := List.take_of_length_le hk
  cases d
  · show put T z = T.take k ++ [z]
    have := put_no (S := T) (fun x hx => h.no rfl x (by rw [e]; exact hx)) ([] : Tr)
    rw [List.append_nil] at this
    rw [e, this]; rfl
  · show put T z = put (T.take k) z ++ []
    rw [e, List.append_nil]
theorem put_end {w w1 wr : World} {T : Tr} {z : Nd} {d : Bool} {k : Nat} {v : Value} {X : Tr} (hb1 : Below w.heap.size w w1) (ho : wr.ownsRow w1.heap.size 132 9 v X.length (ncells X)) (he : put T z = outP T z d k ++ (if d then [] else [z]))
    (hX : outP T z d k ++ (if d then [] else [z]) = X) (hx : Below w1.heap.size w1 wr) : TrPost (put T z) w (.returned v) wr := by
  rw [he, hX]
  exact ⟨v, rfl, own_base ho hb1.size, hb1.trans (hx.mono hb1.size)⟩
theorem cells_up {w1 wr : World} {b off k : Nat} {x : Nd} (h : ∀ j v, (ncell x)[j]? = some v → w1.cell? ⟨b, off + k * 9 + j, none⟩ = some v) (hx : Below w1.heap.size w1 wr) : ∀ j v, (ncell x)[j]? = some v → wr.cell? ⟨b, off + k * 9 + j, none⟩ = some v :=
  fun j v hv => (hx.cell (p := ⟨b, off + k * 9 + j, none⟩) (cell_lt (h j v hv))).trans (h j v hv)
set_option maxHeartbeats 4000000 in
theorem rput_any {w : World} {A : Option Addr} {n c : Nat} {T : Tr} (h : Rd ncell 9 w A n T) (hn : n ≤ 1000000) (z : Nd) :
    Calls Tryz.prog 168 #[.slice A n c, .agg #[.string (B z.path), .string (B z.data), .int .i64 z.cr, .int .i64 z.ch, .int .i64 z.kd, .int .i64 z.ver, .int .i64 z.ks, .int .i64 z.own, .int .i64 z.nx]] w (TrPost (put T z) w) := by
  obtain ⟨i0, hi, hz0, hz1, hz2⟩ := info_parts info41
  obtain ⟨w1, hw1⟩ : ∃ w1, w1 = w.alloc (.cells #[.string (B z.path), .string (B z.data), .int .i64 z.cr, .int .i64 z.ch, .int .i64 z.kd, .int .i64 z.ver, .int .i64 z.ks, .int .i64 z.own, .int .i64 z.nx] 132) := ⟨_, rfl⟩
  obtain ⟨r, er⟩ : ∃ r, r = w.heap.size := ⟨_, rfl⟩
  have hb1 : Below w.heap.size w w1 := by rw [hw1]; exact box_below w _
  have hr : w1.heap[r]? = some (.cells #[.string (B z.path), .string (B z.data), .int .i64 z.cr, .int .i64 z.ch, .int .i64 z.kd, .int .i64 z.ver, .int .i64 z.ks, .int .i64 z.own, .int .i64 z.nx] 132 (0, 0)) := by rw [hw1, er]; exact new_block w _
  have HR := Lib.hid (h.below hb1)
  have HB1 := Lib.hid hb1
  have HRB := Lib.hid hr
  have HW1 := Lib.hid hw1
  have ER := Lib.hid er
  clear h hw1 er hb1 hr
  go_enter Tryz.func168, Tryz.ntmps168
  go_upto_region 1 with fail
  rw [← HW1.out, ← ER.out]
  go_wp2_with fail
  go_loopw [5, 6, 7] (fun l dn i wr => ∃ (k : Nat) (d : Bool), k ≤ n ∧ i = .int .i64 k ∧ dn = .bool d ∧ Hid (POk T z d k) ∧ Hid (wr.ownsRow w1.heap.size 132 9 l (outP T z d k).length (ncells (outP T z d k))) ∧ Hid (Below w1.heap.size w1 wr)) (fun _ _ i _ => n - (intOf i).toNat)
  case atStart => exact ⟨0, false, Nat.zero_le _, rfl, rfl, Lib.hid (POk.start T z), Lib.hid ⟨rfl, .inl ⟨rfl, rfl⟩⟩, Lib.hid (Below.refl _ _)⟩
  case round =>
    obtain ⟨k, d, hk, rfl, rfl, HP, HO, HX⟩ := hrel
    by_cases hlt : k < n
    · obtain ⟨b, off, x, rfl, hz, hc⟩ := HR.out.at hlt
      have HC := Lib.hid hc
      have HZ := Lib.hid hz
      have hln := outP_len T z d k
      clear hz hc
      cases d with
      | true =>
        obtain ⟨n1, n2⟩ := HP.out.more HZ.out
        have HN1 := Lib.hid n1
        have HN2 := Lib.hid n2
        clear n1 n2
        go_upto_region 6 with fail
        go_quiet (fail)
        obtain ⟨w2, hw2⟩ : ∃ w', w' = wr.drewN nq := ⟨_, rfl⟩
        have HW2 := Lib.hid hw2
        rw [← HW2.out]
        clear hw2
        have HX2 : Hid (Below w1.heap.size w1 w2) := Lib.hid (by rw [HW2.out]; exact below_drewN HX.out _)
        have HO2 := Lib.hid (own_below HO.out (show Below wr.heap.size wr w2 by rw [HW2.out]; exact below_drewN (Below.refl _ _) _))
        by_cases he : x.path = z.path
        · have t1 : (x.path == z.path) = true := by simpa using he
          rw [if_pos he, List.append_nil] at HN2
          clear he
          have hcu := cells_up HC.out HX2.out
          have hrb := blk_below HRB.out HX2.out
          have a0 : w2.cell? ⟨b, off + k * 9, none⟩ = some (.string (B x.path)) := hcu 0 _ rfl
          have q0 := cell_of hrb (j := 0) rfl
          clear hcu hrb
          go_upto_region 9 with fail
          go_quiet (fail)
          obtain ⟨w3, hw3⟩ : ∃ w', w' = w2.drewN nq := ⟨_, rfl⟩
          have HW3 := Lib.hid hw3
          rw [← HW3.out]
          clear hw3
          have HX3 : Hid (Below w1.heap.size w1 w3) := Lib.hid (by rw [HW3.out]; exact below_drewN HX2.out _)
          have HO3 := Lib.hid (own_below HO2.out (show Below w2.heap.size w2 w3 by rw [HW3.out]; exact below_drewN (Below.refl _ _) _))
          clear a0 q0
          go_wp2_with fail
          go_roundw
          case rel => exact ⟨k + 1, true, hlt, by go_num, rfl, HN1, Lib.hid (by rw [HN2.out]; exact HO3.out), HX3⟩
          case measure => simp [intOf]; omega
        · have t1 : (x.path == z.path) = false := by simpa using he
          rw [if_neg he] at HN2
          clear he
          have hcu := cells_up HC.out HX2.out
          have hrb := blk_below HRB.out HX2.out
          have a0 : w2.cell? ⟨b, off + k * 9, none⟩ = some (.string (B x.path)) := hcu 0 _ rfl
          have q0 := cell_of hrb (j := 0) rfl
          clear hcu hrb
          go_upto_region 9 with fail
          go_quiet (fail)
          obtain ⟨w3, hw3⟩ : ∃ w', w' = w2.drewN nq := ⟨_, rfl⟩
          have HW3 := Lib.hid hw3
          rw [← HW3.out]
          clear hw3
          have HX3 : Hid (Below w1.heap.size w1 w3) := Lib.hid (by rw [HW3.out]; exact below_drewN HX2.out _)
          have HO3 := Lib.hid (own_below HO2.out (show Below w2.heap.size w2 w3 by rw [HW3.out]; exact below_drewN (Below.refl _ _) _))
          clear a0 q0
          have hcu := cells_up HC.out HX3.out
          have hrb := blk_below HRB.out HX3.out
          have a0 : w3.cell? ⟨b, off + k * 9, none⟩ = some (.string (B x.path)) := hcu 0 _ rfl
          have a1 : w3.cell? ⟨b, off + k * 9 + 1, none⟩ = some (.string (B x.data)) := hcu 1 _ rfl
          have a2 : w3.cell? ⟨b, off + k * 9 + 2, none⟩ = some (.int .i64 x.cr) := hcu 2 _ rfl
          have a3 : w3.cell? ⟨b, off + k * 9 + 3, none⟩ = some (.int .i64 x.ch) := hcu 3 _ rfl
          have a4 : w3.cell? ⟨b, off + k * 9 + 4, none⟩ = some (.int .i64 x.kd) := hcu 4 _ rfl
          have a5 : w3.cell? ⟨b, off + k * 9 + 5, none⟩ = some (.int .i64 x.ver) := hcu 5 _ rfl
          have a6 : w3.cell? ⟨b, off + k * 9 + 6, none⟩ = some (.int .i64 x.ks) := hcu 6 _ rfl
          have a7 : w3.cell? ⟨b, off + k * 9 + 7, none⟩ = some (.int .i64 x.own) := hcu 7 _ rfl
          have a8 : w3.cell? ⟨b, off + k * 9 + 8, none⟩ = some (.int .i64 x.nx) := hcu 8 _ rfl
          have q0 := cell_of hrb (j := 0) rfl
          clear hcu hrb
          have ho := HO3.out
          have hsz := HX3.out.size
          go_wp2_with (at_builtin; refine wpList_append_own _ rfl _ _ 27 rfl w1.heap.size 132 i0 _ 9 88 Tryz.underlying27 hi hz0 hz1 hz2 rfl (by decide) _ _ _ rfl (ho.alloc _) ⟨w3.heap.size, 0, none⟩ 1 1 (ncell x) rfl rfl (World.news_of_block (new_block w3 _)) (ncell_one x) (by unfold maxLen at *; omega) (by omega) (by simp; omega) ?_; intro v30 w30 hown30 hg30 hnil30)
          have HX30 := Lib.hid ((HX3.out.alloc HX3.out.size _).grown hg30 (by simp; have := HX3.out.size; omega) (fun j hj => (HO3.out.lt j hj).1))
          have HO30 := Lib.hid hown30
          clear hown30 hg30 hnil30 ho
          go_roundw
          case rel => exact ⟨k + 1, true, hlt, by go_num, rfl, HN1, Lib.hid (by rw [HN2.out, ncells_append, List.length_append]; exact HO30.out), HX30⟩
          case measure => simp [intOf]; omega
      | false =>
        by_cases hl : x.path < z.path
        · obtain ⟨n1, n2⟩ := HP.out.keep HZ.out hl
          have HN1 := Lib.hid n1
          have HN2 := Lib.hid n2
          have t1 : (x.path == z.path) = false := by simpa using lt_ne hl
          have t2 : Op.bytesLess x.path z.path = true := by rw [less_dec]; simpa using hl
          clear hl n1 n2
          have hcu := cells_up HC.out HX.out
          have hrb := blk_below HRB.out HX.out
          have a0 : wr.cell? ⟨b, off + k * 9, none⟩ = some (.string (B x.path)) := hcu 0 _ rfl
          have q0 := cell_of hrb (j := 0) rfl
          clear hcu hrb
          go_upto_region 6 with fail
          go_quiet (fail)
          obtain ⟨w2, hw2⟩ : ∃ w', w' = wr.drewN nq := ⟨_, rfl⟩
          have HW2 := Lib.hid hw2
          rw [← HW2.out]
          clear hw2
          have HX2 : Hid (Below w1.heap.size w1 w2) := Lib.hid (by rw [HW2.out]; exact below_drewN HX.out _)
          have HO2 := Lib.hid (own_below HO.out (show Below wr.heap.size wr w2 by rw [HW2.out]; exact below_drewN (Below.refl _ _) _))
          clear a0 q0
          have hcu := cells_up HC.out HX2.out
          have hrb := blk_below HRB.out HX2.out
          have a0 : w2.cell? ⟨b, off + k * 9, none⟩ = some (.string (B x.path)) := hcu 0 _ rfl
          have q0 := cell_of hrb (j := 0) rfl
          clear hcu hrb
          go_upto_region 9 with fail
          go_quiet (fail)
          obtain ⟨w3, hw3⟩ : ∃ w', w' = w2.drewN nq := ⟨_, rfl⟩
          have HW3 := Lib.hid hw3
          rw [← HW3.out]
          clear hw3
          have HX3 : Hid (Below w1.heap.size w1 w3) := Lib.hid (by rw [HW3.out]; exact below_drewN HX2.out _)
          have HO3 := Lib.hid (own_below HO2.out (show Below w2.heap.size w2 w3 by rw [HW3.out]; exact below_drewN (Below.refl _ _) _))
          clear a0 q0
          have hcu := cells_up HC.out HX3.out
          have hrb := blk_below HRB.out HX3.out
          have a0 : w3.cell? ⟨b, off + k * 9, none⟩ = some (.string (B x.path)) := hcu 0 _ rfl
          have a1 : w3.cell? ⟨b, off + k * 9 + 1, none⟩ = some (.string (B x.data)) := hcu 1 _ rfl
          have a2 : w3.cell? ⟨b, off + k * 9 + 2, none⟩ = some (.int .i64 x.cr) := hcu 2 _ rfl
          have a3 : w3.cell? ⟨b, off + k * 9 + 3, none⟩ = some (.int .i64 x.ch) := hcu 3 _ rfl
          have a4 : w3.cell? ⟨b, off + k * 9 + 4, none⟩ = some (.int .i64 x.kd) := hcu 4 _ rfl
          have a5 : w3.cell? ⟨b, off + k * 9 + 5, none⟩ = some (.int .i64 x.ver) := hcu 5 _ rfl
          have a6 : w3.cell? ⟨b, off + k * 9 + 6, none⟩ = some (.int .i64 x.ks) := hcu 6 _ rfl
          have a7 : w3.cell? ⟨b, off + k * 9 + 7, none⟩ = some (.int .i64 x.own) := hcu 7 _ rfl
          have a8 : w3.cell? ⟨b, off + k * 9 + 8, none⟩ = some (.int .i64 x.nx) := hcu 8 _ rfl
          have q0 := cell_of hrb (j := 0) rfl
          clear hcu hrb
          have ho := HO3.out
          have hsz := HX3.out.size
          go_wp2_with (at_builtin; refine wpList_append_own _ rfl _ _ 27 rfl w1.heap.size 132 i0 _ 9 88 Tryz.underlying27 hi hz0 hz1 hz2 rfl (by decide) _ _ _ rfl (ho.alloc _) ⟨w3.heap.size, 0, none⟩ 1 1 (ncell x) rfl rfl (World.news_of_block (new_block w3 _)) (ncell_one x) (by unfold maxLen at *; omega) (by omega) (by simp; omega) ?_; intro v30 w30 hown30 hg30 hnil30)
          have HX30 := Lib.hid ((HX3.out.alloc HX3.out.size _).grown hg30 (by simp; have := HX3.out.size; omega) (fun j hj => (HO3.out.lt j hj).1))
          have HO30 := Lib.hid hown30
          clear hown30 hg30 hnil30 ho
          go_roundw
          case rel => exact ⟨k + 1, false, hlt, by go_num, rfl, HN1, Lib.hid (by rw [HN2.out, ncells_append, List.length_append]; exact HO30.out), HX30⟩
          case measure => simp [intOf]; omega
        · obtain ⟨n1, n2⟩ := HP.out.hit HZ.out hl
          have HN1 := Lib.hid n1
          have HN2 := Lib.hid n2
          have t2 : Op.bytesLess x.path z.path = false := by rw [less_dec]; simpa using hl
          clear hl n1 n2
          have hcu := cells_up HC.out HX.out
          have hrb := blk_below HRB.out HX.out
          have a0 : wr.cell? ⟨b, off + k * 9, none⟩ = some (.string (B x.path)) := hcu 0 _ rfl
          have q0 := cell_of hrb (j := 0) rfl
          clear hcu hrb
          go_upto_region 6 with fail
          go_quiet (fail)
          obtain ⟨w2, hw2⟩ : ∃ w', w' = wr.drewN nq := ⟨_, rfl⟩
          have HW2 := Lib.hid hw2
          rw [← HW2.out]
          clear hw2
          have HX2 : Hid (Below w1.heap.size w1 w2) := Lib.hid (by rw [HW2.out]; exact below_drewN HX.out _)
          have HO2 := Lib.hid (own_below HO.out (show Below wr.heap.size wr w2 by rw [HW2.out]; exact below_drewN (Below.refl _ _) _))
          clear a0 q0
          have hcu := cells_up HC.out HX2.out
          have hrb := blk_below HRB.out HX2.out
          have a0 : w2.cell? ⟨b, off + k * 9, none⟩ = some (.string (B x.path)) := hcu 0 _ rfl
          have q0 := cell_of hrb (j := 0) rfl
          have q1 := cell_of hrb (j := 1) rfl
          have q2 := cell_of hrb (j := 2) rfl
          have q3 := cell_of hrb (j := 3) rfl
          have q4 := cell_of hrb (j := 4) rfl
          have q5 := cell_of hrb (j := 5) rfl
          have q6 := cell_of hrb (j := 6) rfl
          have q7 := cell_of hrb (j := 7) rfl
          have q8 := cell_of hrb (j := 8) rfl
          clear hcu hrb
          have ho := HO2.out
          have hsz := HX2.out.size
          go_upto_region 8 with (at_builtin; refine wpList_append_own _ rfl _ _ 27 rfl w1.heap.size 132 i0 _ 9 88 Tryz.underlying27 hi hz0 hz1 hz2 rfl (by decide) _ _ _ rfl (ho.alloc _) ⟨w2.heap.size, 0, none⟩ 1 1 (ncell z) rfl rfl (World.news_of_block (new_block w2 _)) (ncell_one z) (by unfold maxLen at *; omega) (by omega) (by simp; omega) ?_; intro v20 w20 hown20 hg20 hnil20)
          have HX20 := Lib.hid ((HX2.out.alloc HX2.out.size _).grown hg20 (by simp; have := HX2.out.size; omega) (fun j hj => (HO2.out.lt j hj).1))
          have HO20 := Lib.hid hown20
          clear hown20 hg20 hnil20 ho
          clear a0 q0 q1 q2 q3 q4 q5 q6 q7 q8
          clear hsz
          by_cases he : x.path = z.path
          · have t1 : (x.path == z.path) = true := by simpa using he
            rw [if_pos he, List.append_nil] at HN2
            clear he
            have hcu := cells_up HC.out HX20.out
            have hrb := blk_below HRB.out HX20.out
            have a0 : w20.cell? ⟨b, off + k * 9, none⟩ = some (.string (B x.path)) := hcu 0 _ rfl
            have q0 := cell_of hrb (j := 0) rfl
            clear hcu hrb
            go_upto_region 9 with fail
            go_quiet (fail)
            obtain ⟨w3, hw3⟩ : ∃ w', w' = w20.drewN nq := ⟨_, rfl⟩
            have HW3 := Lib.hid hw3
            rw [← HW3.out]
            clear hw3
            have HX3 : Hid (Below w1.heap.size w1 w3) := Lib.hid (by rw [HW3.out]; exact below_drewN HX20.out _)
            have HO3 := Lib.hid (own_below HO20.out (show Below w20.heap.size w20 w3 by rw [HW3.out]; exact below_drewN (Below.refl _ _) _))
            clear a0 q0
            go_wp2_with fail
            go_roundw
            case rel => exact ⟨k + 1, true, hlt, by go_num, rfl, HN1, Lib.hid (by rw [HN2.out, ncells_append, List.length_append]; exact HO3.out), HX3⟩
            case measure => simp [intOf]; omega
          · have t1 : (x.path == z.path) = false := by simpa using he
            rw [if_neg he] at HN2
            clear he
            have hcu := cells_up HC.out HX20.out
            have hrb := blk_below HRB.out HX20.out
            have a0 : w20.cell? ⟨b, off + k * 9, none⟩ = some (.string (B x.path)) := hcu 0 _ rfl
            have q0 := cell_of hrb (j := 0) rfl
            clear hcu hrb
            go_upto_region 9 with fail
            go_quiet (fail)
            obtain ⟨w3, hw3⟩ : ∃ w', w' = w20.drewN nq := ⟨_, rfl⟩
            have HW3 := Lib.hid hw3
            rw [← HW3.out]
            clear hw3
            have HX3 : Hid (Below w1.heap.size w1 w3) := Lib.hid (by rw [HW3.out]; exact below_drewN HX20.out _)
            have HO3 := Lib.hid (own_below HO20.out (show Below w20.heap.size w20 w3 by rw [HW3.out]; exact below_drewN (Below.refl _ _) _))
            clear a0 q0
            have hcu := cells_up HC.out HX3.out
            have hrb := blk_below HRB.out HX3.out
            have a0 : w3.cell? ⟨b, off + k * 9, none⟩ = some (.string (B x.path)) := hcu 0 _ rfl
            have a1 : w3.cell? ⟨b, off + k * 9 + 1, none⟩ = some (.string (B x.data)) := hcu 1 _ rfl
            have a2 : w3.cell? ⟨b, off + k * 9 + 2, none⟩ = some (.int .i64 x.cr) := hcu 2 _ rfl
            have a3 : w3.cell? ⟨b, off + k * 9 + 3, none⟩ = some (.int .i64 x.ch) := hcu 3 _ rfl
            have a4 : w3.cell? ⟨b, off + k * 9 + 4, none⟩ = some (.int .i64 x.kd) := hcu 4 _ rfl
            have a5 : w3.cell? ⟨b, off + k * 9 + 5, none⟩ = some (.int .i64 x.ver) := hcu 5 _ rfl
            have a6 : w3.cell? ⟨b, off + k * 9 + 6, none⟩ = some (.int .i64 x.ks) := hcu 6 _ rfl
            have a7 : w3.cell? ⟨b, off + k * 9 + 7, none⟩ = some (.int .i64 x.own) := hcu 7 _ rfl
            have a8 : w3.cell? ⟨b, off + k * 9 + 8, none⟩ = some (.int .i64 x.nx) := hcu 8 _ rfl
            have q0 := cell_of hrb (j := 0) rfl
            clear hcu hrb
            have ho := HO3.out
            have hsz := HX3.out.size
            go_wp2_with (at_builtin; refine wpList_append_own _ rfl _ _ 27 rfl w1.heap.size 132 i0 _ 9 88 Tryz.underlying27 hi hz0 hz1 hz2 rfl (by decide) _ _ _ rfl (ho.alloc _) ⟨w3.heap.size, 0, none⟩ 1 1 (ncell x) rfl rfl (World.news_of_block (new_block w3 _)) (ncell_one x) (by unfold maxLen at *; omega) (by omega) (by simp; omega) ?_; intro v30 w30 hown30 hg30 hnil30)
            have HX30 := Lib.hid ((HX3.out.alloc HX3.out.size _).grown hg30 (by simp; have := HX3.out.size; omega) (fun j hj => (HO3.out.lt j hj).1))
            have HO30 := Lib.hid hown30
            clear hown30 hg30 hnil30 ho
            go_roundw
            case rel => exact ⟨k + 1, true, hlt, by go_num, rfl, HN1, Lib.hid (by rw [HN2.out, ncells_append, ncells_append, List.length_append, List.length_append]; exact HO30.out), HX30⟩
            case measure => simp [intOf]; omega
    · have hkn : k = n := by omega
      have HPE := Lib.hid (HP.out.end (by rw [HR.out.len]; omega))
      have hln := outP_len T z d k
      have hsz := HX.out.size
      have hrb := blk_below HRB.out HX.out
      have ho := HO.out
      have q0 := cell_of hrb (j := 0) rfl
      have q1 := cell_of hrb (j := 1) rfl
      have q2 := cell_of hrb (j := 2) rfl
      have q3 := cell_of hrb (j := 3) rfl
      have q4 := cell_of hrb (j := 4) rfl
      have q5 := cell_of hrb (j := 5) rfl
      have q6 := cell_of hrb (j := 6) rfl
      have q7 := cell_of hrb (j := 7) rfl
      have q8 := cell_of hrb (j := 8) rfl
      clear hrb
      cases d with
      | true =>
        have HE := Lib.hid (put_end HB1.out (X := outP T z true k) HO.out HPE.out (by simp) HX.out)
        go_wp2_with fail
        go_ret
        exact HE.out
      | false =>
        go_wp2_with (at_builtin; refine wpList_append_own _ rfl _ _ 27 rfl w1.heap.size 132 i0 _ 9 88 Tryz.underlying27 hi hz0 hz1 hz2 rfl (by decide) _ _ _ rfl (ho.alloc _) ⟨wr.heap.size, 0, none⟩ 1 1 (ncell z) rfl rfl (World.news_of_block (new_block wr _)) (ncell_one z) (by unfold maxLen at *; omega) (by omega) (by simp; omega) ?_; intro v5 w5 hown5 hg5 hnil5)
        have hB5 := (HX.out.alloc hsz _).grown hg5 (by simp; omega) (fun j hj => (HO.out.lt j hj).1)
        have HE := Lib.hid (put_end (d := false) HB1.out (by rw [ncells_append, List.length_append]; exact hown5) HPE.out rfl hB5)
        clear hown5 hg5 hnil5 hB5
        go_wp2_with fail
        go_ret
        exact HE.out
end Go.Proofs.YtflgemlhocjipaaGreatDoor
namespace Go.Proofs.YtflgemlhocjipaaGreatDoor
set_option maxRecDepth 100000
open Go.ChangeShapes Go.WideShapes Go.ChangeAt Go.RowKit Go.Proofs.Zn Go.Proofs.Zt

theorem owned_step {T : Tr} {k : Nat} {z : Nd} (hz : T[k]? = some z) (s : Int) : owned (T.take (k + 1)) s = owned (T.take k) s ++ (if s ≠ 0 ∧ z.own = s then [z.path] else []) := by
  obtain ⟨hk, rfl⟩ := List.getElem?_eq_some_iff.1 hz
  rw [List.take_succ_eq_append_getElem hk]
  unfold owned
  rw [List.filter_append, List.map_append]
  by_cases h : s ≠ 0 ∧ T[k].own = s
  · rw [if_pos h]; simp [h.1, h.2]
  · rw [if_neg h]
    by_cases h1 : s = 0 <;> by_cases h2 : T[k].own = s <;> simp_all
theorem owned_len (T : Tr) (s : Int) (k : Nat) : (owned (T.take k) s).length ≤ k := by
  have h2 := List.length_take_le k T
  unfold owned
  rw [List.length_map]
  have := List.length_filter_le (fun z : Nd => decide (s ≠ 0) && decide (z.own = s)) (T.take k)
  omega
theorem kids_step {T : Tr} {k : Nat} {z : Nd} (hz : T[k]? = some z) (p : Txt) : kids (T.take (k + 1)) p = kids (T.take k) p ++ (if parentOk z.path = true ∧ parent z.path = p then [base z.path] else []) := by
  obtain ⟨hk, rfl⟩ := List.getElem?_eq_some_iff.1 hz
  rw [List.take_succ_eq_append_getElem hk]
  unfold kids
  rw [List.filter_append, List.map_append]
  by_cases h : parentOk T[k].path = true ∧ parent T[k].path = p
  · rw [if_pos h]; simp [h.1, h.2]
  · rw [if_neg h]
    cases h1 : parentOk T[k].path <;> by_cases h2 : parent T[k].path = p <;> simp_all
theorem rkids_len (T : Tr) (p : Txt) (k : Nat) : (kids (T.take k) p).length ≤ k := by
  have h2 := List.length_take_le k T
  unfold kids
  rw [List.length_map]
  have := List.length_filter_le (fun z : Nd => parentOk z.path && (parent z.path == p)) (T.take k)
  omega
set_option maxHeartbeats 2000000 in
theorem rowned_any {w : World} {A : Option Addr} {n c : Nat} {T : Tr} (h : Rd ncell 9 w A n T) (hn : n ≤ 1000000) (s : Int) :
    Calls Tryz.prog 142 #[.slice A n c, .int .i64 s] w fun e w' => ∃ v, e = .returned v ∧ w'.ownsRow w.heap.size 9 1 v (owned T s).length (scells (owned T s)) ∧ Below w.heap.size w w' := by
  obtain ⟨i0, hi, hz0, hz1, hz2⟩ := info_parts infoS
  have HR := Lib.hid h
  clear h
  go_enter Tryz.func142, Tryz.ntmps142
  go_wp2_with fail
  go_loopw [5, 6] (fun l i wr => ∃ k : Nat, k ≤ n ∧ i = .int .i64 k ∧ Hid (wr.ownsRow w.heap.size 9 1 l (owned (T.take k) s).length (scells (owned (T.take k) s))) ∧ Hid (Below w.heap.size w wr)) (fun _ i _ => n - (intOf i).toNat)
  case atStart => exact ⟨0, Nat.zero_le _, rfl, Lib.hid ⟨rfl, .inl ⟨rfl, rfl⟩⟩, Lib.hid (Below.refl _ _)⟩
  case round =>
    obtain ⟨k, hk, rfl, HO, HX⟩ := hrel
    by_cases hlt : k < n
    · obtain ⟨b, off, z, rfl, hz, hc⟩ := (HR.out.below HX.out).at hlt
      have HWS := Lib.hid (owned_step hz s)
      have a0 : wr.cell? ⟨b, off + k * 9, none⟩ = some (.string (B z.path)) := hc 0 _ rfl
      have a7 : wr.cell? ⟨b, off + k * 9 + 7, none⟩ = some (.int .i64 z.own) := hc 7 _ rfl
      clear hz hc
      by_cases hs : s = 0
      · rw [if_neg (fun h => h.1 hs), List.append_nil] at HWS
        have t0 : (s != 0) = false := by simpa using hs
        clear hs
        go_wp2_with fail
        go_roundw
        case rel => exact ⟨k + 1, hlt, by go_num, Lib.hid (by rw [HWS.out]; exact HO.out), HX⟩
        case measure => simp [intOf]; omega
      · have t0 : (s != 0) = true := by simpa using hs
        by_cases he : z.own = s
        · rw [if_pos ⟨hs, he⟩] at HWS
          have t1 : (z.own == s) = true := by simpa using he
          have ho := HO.out
          have hsz := HX.out.size
          have hln := owned_len T s k
          clear he hs
          go_wp2_with (at_builtin; refine wpList_append_own _ rfl _ _ 40 rfl w.heap.size 9 i0 _ 1 16 Tryz.underlying40 hi hz0 hz1 hz2 rfl (by decide) _ _ _ rfl (ho.alloc _) ⟨wr.heap.size, 0, none⟩ 1 1 (scell z.path) rfl rfl (World.news_of_block (new_block wr _)) (scells_one [z.path]) (by unfold maxLen at *; omega) (by omega) (by simp; omega) ?_; intro v' w5 hown' hg5 hnil5)
          have HB5 := Lib.hid ((HX.out.alloc hsz _).grown hg5 (by simp; omega) (fun j hj => (HO.out.lt j hj).1))
          have HO5 := Lib.hid hown'
          clear hown' hg5 hnil5 ho
          go_roundw
          case rel => exact ⟨k + 1, hlt, by go_num, Lib.hid (by rw [HWS.out, scells_append, List.length_append]; exact HO5.out), HB5⟩
          case measure => simp [intOf]; omega
        · rw [if_neg (fun h => he h.2), List.append_nil] at HWS
          have t1 : (z.own == s) = false := by simpa using he
          clear he hs
          go_wp2_with fail
          go_roundw
          case rel => exact ⟨k + 1, hlt, by go_num, Lib.hid (by rw [HWS.out]; exact HO.out), HX⟩
          case measure => simp [intOf]; omega
    · have hkn : k = n := by omega
      have HE := Lib.hid HO.out
      rw [hkn, List.take_of_length_le (by rw [HR.out.len]; exact Nat.le_refl _)] at HE
      clear hkn
      go_wp2_with fail
      go_ret
      exact ⟨_, rfl, HE.out, HX.out⟩
theorem set_st {w : World} {r : Nat} {a b c d : Value} (hb : w.heap[r]? = some (.cells #[a, b, c, d] 229 (0, 0))) (x y z u : Value) :
    Wr r w ((((w.setCell ⟨r, 0, none⟩ (x)).setCell ⟨r, 1, none⟩ (y)).setCell ⟨r, 2, none⟩ (z)).setCell ⟨r, 3, none⟩ (u)) ∧ ((((w.setCell ⟨r, 0, none⟩ (x)).setCell ⟨r, 1, none⟩ (y)).setCell ⟨r, 2, none⟩ (z)).setCell ⟨r, 3, none⟩ (u)).heap[r]? = some (.cells #[x, y, z, u] 229 (0, 0)) :=
  setRow_any [x, y, z, u] 0 [] [a, b, c, d] (Wr.refl r w) rfl rfl hb
theorem rfails_any (e : Int) (w : World) : Calls Tryz.prog 164 #[.int .i64 e] w fun x w' => x = .returned (.agg #[.slice none 0 0, .string ⟨#[]⟩, .slice none 0 0, .int .i64 e]) ∧ Below w.heap.size w w' := by
  obtain ⟨w1, hw1⟩ : ∃ w1, w1 = w.alloc (.cells #[.slice none 0 0, .string ⟨#[]⟩, .slice none 0 0, .int .i64 0] 229) := ⟨_, rfl⟩
  obtain ⟨r, er⟩ : ∃ r, r = w.heap.size := ⟨_, rfl⟩
  have hb1 : Below w.heap.size w w1 := by rw [hw1]; exact box_below w _
  have hr : w1.heap[r]? = some (.cells #[.slice none 0 0, .string ⟨#[]⟩, .slice none 0 0, .int .i64 0] 229 (0, 0)) := by rw [hw1, er]; exact new_block w _
  obtain ⟨w6, hw6⟩ : ∃ w6, w6 = ((((w1.setCell ⟨r, 0, none⟩ (.slice none 0 0)).setCell ⟨r, 1, none⟩ (.string ⟨#[]⟩)).setCell ⟨r, 2, none⟩ (.slice none 0 0)).setCell ⟨r, 3, none⟩ (.int .i64 e)) := ⟨_, rfl⟩
  obtain ⟨hwr, h6⟩ := set_st hr (.slice none 0 0) (.string ⟨#[]⟩) (.slice none 0 0) (.int .i64 e)
  rw [← hw6] at hwr h6
  have HE : Hid (Below w.heap.size w w6) := Lib.hid (hb1.trans (hwr.below.mono (by rw [er]; exact Nat.le_refl _)))
  have HW1 := Lib.hid hw1
  have HW6 := Lib.hid hw6
  have ER := Lib.hid er
  have q0 := cell_of hr (j := 0) rfl
  have q1 := cell_of hr (j := 1) rfl
  have q2 := cell_of hr (j := 2) rfl
  have q3 := cell_of hr (j := 3) rfl
  have rf0 := frozen_of_row w1 _ 0 _ _ hr
  have rf1 := frozen_of_row w1 _ 1 _ _ hr
  have rf2 := frozen_of_row w1 _ 2 _ _ hr
  have rf3 := frozen_of_row w1 _ 3 _ _ hr
  have t0 := cell_of h6 (j := 0) rfl
  have t1 := cell_of h6 (j := 1) rfl
  have t2 := cell_of h6 (j := 2) rfl
  have t3 := cell_of h6 (j := 3) rfl
  clear hb1 hw1 er hwr hw6 h6 hr
  go_enter Tryz.func164, Tryz.ntmps164
  go_upto_region 1 with fail
  rw [← HW1.out, ← ER.out]
  go_wp2_with fail
  rw [← HW6.out]
  exact bodyPost_ret (v := .agg #[.slice none 0 0, .string ⟨#[]⟩, .slice none 0 0, .int .i64 e]) (by simp [results, Tryz.results164, go_sem, t0, t1, t2, t3]) rfl ⟨rfl, HE.out⟩
end Go.Proofs.YtflgemlhocjipaaGreatDoor
namespace Go.Proofs.YtflgemlhocjipaaGreatDoor
set_option maxRecDepth 100000
open Go.ChangeShapes Go.WideShapes Go.ChangeAt Go.RowKit Go.Proofs.Zn Go.Proofs.Zt

/-- The document's children of a path: none where it is not. -/
def kidsR (T : Tr) (p : Txt) : List Txt := if (get T p).isSome then kids T p else []
def RkPost (T : Tr) (p : Txt) (w : World) (e : Ending) (w' : World) : Prop := ∃ v, e = .returned (.tuple #[v, .bool (get T p).isSome]) ∧ w'.ownsRow w.heap.size 9 1 v (kidsR T p).length (scells (kidsR T p)) ∧ Below w.heap.size w w'
set_option maxHeartbeats 4000000 in
theorem rkids_any {w : World} {A : Option Addr} {n c : Nat} {T : Tr} (h : Rd ncell 9 w A n T) (hn : n ≤ 1000000) (hp : ∀ z ∈ T, z.path.length ≤ 2097152) (p : Txt) :
    Calls Tryz.prog 166 #[.slice A n c, .string (B p)] w (RkPost T p w) := by
  obtain ⟨i0, hi, hz0, hz1, hz2⟩ := info_parts infoS
  have HGE := Lib.hid (rget_any (c := c) h hn p)
  have HR := Lib.hid h
  have HPL := Lib.hid hp
  unfold RgPost ndv at HGE
  obtain ⟨pz, hpz⟩ : ∃ x, (get T p).getD nd0 = x := ⟨_, rfl⟩
  obtain ⟨is, his⟩ : ∃ b, (get T p).isSome = b := ⟨_, rfl⟩
  rw [hpz, his] at HGE
  have HIS := Lib.hid his
  clear h hp hpz his
  go_enter Tryz.func166, Tryz.ntmps166
  go_wp2_with fail
  refine HGE.out.mono ?_
  rintro e w1 ⟨rfl, hb1⟩
  obtain ⟨w2, hw2⟩ : ∃ w2, w2 = w1.alloc (.cells #[.string (B pz.path), .string (B pz.data), .int .i64 pz.cr, .int .i64 pz.ch, .int .i64 pz.kd, .int .i64 pz.ver, .int .i64 pz.ks, .int .i64 pz.own, .int .i64 pz.nx] 132) := ⟨_, rfl⟩
  have hb2 : Below w1.heap.size w1 w2 := by rw [hw2]; exact box_below w1 _
  have HB2 := Lib.hid (hb1.trans (hb2.mono hb1.size))
  have HW2 := Lib.hid hw2
  clear hb1 hb2 hw2
  go_upto_region 2 with fail
  rw [← HW2.out]
  cases is with
  | false =>
    have HE : Hid (RkPost T p w (.returned (.tuple #[.slice none 0 0, .bool false])) w2) := Lib.hid ⟨_, by rw [HIS.out], by unfold kidsR; rw [HIS.out]; exact ⟨rfl, .inl ⟨rfl, rfl⟩⟩, HB2.out⟩
    go_wp2_with fail
    go_loopw [8, 9] (fun l i wr => l = .slice none 0 0 ∧ i = .int .i64 0 ∧ wr = w2) (fun _ _ _ => 0)
    case atStart => exact ⟨rfl, rfl, rfl⟩
    case round =>
      obtain ⟨rfl, rfl, rfl⟩ := hrel
      by_cases h0 : 0 < n
      · go_wp2_with fail
        go_ret2
        exact HE.out
      · go_wp2_with fail
        go_ret2
        exact HE.out
  | true =>
    have HKR : Hid (kidsR T p = kids T p) := Lib.hid (by unfold kidsR; rw [if_pos HIS.out])
    go_wp2_with fail
    go_loopw [8, 9] (fun l i wr => ∃ k : Nat, k ≤ n ∧ i = .int .i64 k ∧ Hid (wr.ownsRow w2.heap.size 9 1 l (kids (T.take k) p).length (scells (kids (T.take k) p))) ∧ Hid (Below w2.heap.size w2 wr)) (fun _ i _ => n - (intOf i).toNat)
    case atStart => exact ⟨0, Nat.zero_le _, rfl, Lib.hid ⟨rfl, .inl ⟨rfl, rfl⟩⟩, Lib.hid (Below.refl _ _)⟩
    case round =>
      obtain ⟨k, hk, rfl, HO, HX⟩ := hrel
      by_cases hlt : k < n
      · obtain ⟨b, off, z, rfl, hz, hc⟩ := (HR.out.below (HB2.out.trans (HX.out.mono HB2.out.size))).at hlt
        have HWS := Lib.hid (kids_step hz p)
        have hzl := HPL.out z (List.mem_of_getElem? hz)
        have HPA := Lib.hid (rparent_any (B z.path) wr (by rw [B_size]; exact hzl))
        have HC := Lib.hid hc
        simp only [LB] at HPA
        obtain ⟨po, hpo⟩ : ∃ b, parentOk z.path = b := ⟨_, rfl⟩
        obtain ⟨pp, hpp⟩ : ∃ b, parent z.path = b := ⟨_, rfl⟩
        obtain ⟨bb, hbb⟩ : ∃ b, base z.path = b := ⟨_, rfl⟩
        rw [hpo, hpp] at HPA
        rw [hpo, hpp, hbb] at HWS
        have HBB := Lib.hid hbb
        have HZL := Lib.hid hzl
        have a0 : wr.cell? ⟨b, off + k * 9, none⟩ = some (.string (B z.path)) := hc 0 _ rfl
        clear hz hc hpo hpp hbb hzl
        go_wp2_with fail
        refine HPA.out.mono ?_
        rintro e w5 ⟨rfl, hb5⟩
        have HX5 := Lib.hid (HX.out.trans (hb5.mono HX.out.size))
        have HO5 := Lib.hid (own_below HO.out hb5)
        have a5 := (hb5.cell (p := ⟨b, off + k * 9, none⟩) (cell_lt a0)).trans a0
        clear hb5 a0
        cases po with
        | false =>
          rw [if_neg (fun h => by cases h.1), List.append_nil] at HWS
          go_wp2_with fail
          go_roundw
          case rel => exact ⟨k + 1, hlt, by go_num, Lib.hid (by rw [HWS.out]; exact HO5.out), HX5⟩
          case measure => simp [intOf]; omega
        | true =>
          by_cases he : pp = p
          · have t1 : (pp == p) = true := by simpa using he
            rw [if_pos ⟨rfl, he⟩] at HWS
            have HBA := Lib.hid (rbase_any (B z.path) w5 (by rw [B_size]; exact HZL.out))
            simp only [LB] at HBA
            rw [HBB.out] at HBA
            clear he
            go_wp2_with fail
            refine HBA.out.mono ?_
            rintro e w6 ⟨rfl, hb6⟩
            have HX6 := Lib.hid (HX5.out.trans (hb6.mono HX5.out.size))
            have HO6 := Lib.hid (own_below HO5.out hb6)
            have ho := HO6.out
            have hsz := HX6.out.size
            have hln := rkids_len T p k
            clear hb6 a5
            go_wp2_with (at_builtin; refine wpList_append_own _ rfl _ _ 40 rfl w2.heap.size 9 i0 _ 1 16 Tryz.underlying40 hi hz0 hz1 hz2 rfl (by decide) _ _ _ rfl (ho.alloc _) ⟨w6.heap.size, 0, none⟩ 1 1 (scell bb) rfl rfl (World.news_of_block (new_block w6 _)) (scells_one [bb]) (by unfold maxLen at *; omega) (by omega) (by simp; omega) ?_; intro v' w7 hown' hg7 hnil7)
            have HB7 := Lib.hid ((HX6.out.alloc hsz _).grown hg7 (by simp; omega) (fun j hj => (HO6.out.lt j hj).1))
            have HO7 := Lib.hid hown'
            clear hown' hg7 hnil7 ho
            go_roundw
            case rel => exact ⟨k + 1, hlt, by go_num, Lib.hid (by rw [HWS.out, scells_append, List.length_append]; exact HO7.out), HB7⟩
            case measure => simp [intOf]; omega
          · have t1 : (pp == p) = false := by simpa using he
            rw [if_neg (fun h => he h.2), List.append_nil] at HWS
            clear he a5
            go_wp2_with fail
            go_roundw
            case rel => exact ⟨k + 1, hlt, by go_num, Lib.hid (by rw [HWS.out]; exact HO5.out), HX5⟩
            case measure => simp [intOf]; omega
      · have hkn : k = n := by omega
        have HE := Lib.hid HO.out
        rw [hkn, List.take_of_length_le (by rw [HR.out.len]; exact Nat.le_refl _), ← HKR.out] at HE
        have HF : Hid (RkPost T p w (.returned (.tuple #[u8, .bool true])) wr) := Lib.hid ⟨_, by rw [HIS.out], own_base HE.out HB2.out.size, HB2.out.trans (HX.out.mono HB2.out.size)⟩
        clear hkn
        go_wp2_with fail
        go_ret2
        exact HF.out
end Go.Proofs.YtflgemlhocjipaaGreatDoor
namespace Go.Proofs.YtflgemlhocjipaaGreatDoor
set_option maxRecDepth 100000
open Go.ChangeShapes Go.WideShapes Go.ChangeAt Go.RowKit Go.Proofs.Zn Go.Proofs.Zt

set_option maxHeartbeats 2000000 in
theorem rsame_any {w : World} {A A2 : Option Addr} {n c c2 : Nat} {l : Tr} (h : Rd ncell 9 w A n l) (h2 : Rd ncell 9 w A2 n l) (hn : n ≤ 1000000) :
    Calls Tryz.prog 48 #[.slice A n c, .slice A2 n c2] w fun e w' => e = .returned (.bool true) ∧ Below w.heap.size w w' := by
  have HR := Lib.hid h
  have HR2 := Lib.hid h2
  clear h h2
  go_enter Tryz.func48, Tryz.ntmps48
  go_wp2_with fail
  go_loopw [5] (fun i wr => ∃ k : Nat, k ≤ n ∧ i = .int .i64 k ∧ Hid (Below w.heap.size w wr)) (fun i _ => n - (intOf i).toNat)
  case atStart => exact ⟨0, Nat.zero_le _, rfl, Lib.hid (Below.refl _ _)⟩
  case round =>
    obtain ⟨k, hk, rfl, HX⟩ := hrel
    by_cases hlt : k < n
    · obtain ⟨b, off, x, rfl, hx, hc⟩ := (HR.out.below HX.out).at hlt
      obtain ⟨b2, off2, x2, rfl, hx2, hc2⟩ := (HR2.out.below HX.out).at hlt
      obtain rfl : x = x2 := Option.some.inj (hx.symm.trans hx2)
      have a0 : wr.cell? ⟨b, off + k * 9, none⟩ = some (.string (B x.path)) := hc 0 _ rfl
      have a1 : wr.cell? ⟨b, off + k * 9 + 1, none⟩ = some (.string (B x.data)) := hc 1 _ rfl
      have a2 : wr.cell? ⟨b, off + k * 9 + 2, none⟩ = some (.int .i64 x.cr) := hc 2 _ rfl
      have a3 : wr.cell? ⟨b, off + k * 9 + 3, none⟩ = some (.int .i64 x.ch) := hc 3 _ rfl
      have a4 : wr.cell? ⟨b, off + k * 9 + 4, none⟩ = some (.int .i64 x.kd) := hc 4 _ rfl
      have a5 : wr.cell? ⟨b, off + k * 9 + 5, none⟩ = some (.int .i64 x.ver) := hc 5 _ rfl
      have a6 : wr.cell? ⟨b, off + k * 9 + 6, none⟩ = some (.int .i64 x.ks) := hc 6 _ rfl
      have a7 : wr.cell? ⟨b, off + k * 9 + 7, none⟩ = some (.int .i64 x.own) := hc 7 _ rfl
      have a8 : wr.cell? ⟨b, off + k * 9 + 8, none⟩ = some (.int .i64 x.nx) := hc 8 _ rfl
      have p0 : wr.cell? ⟨b2, off2 + k * 9, none⟩ = some (.string (B x.path)) := hc2 0 _ rfl
      have p1 : wr.cell? ⟨b2, off2 + k * 9 + 1, none⟩ = some (.string (B x.data)) := hc2 1 _ rfl
      have p2 : wr.cell? ⟨b2, off2 + k * 9 + 2, none⟩ = some (.int .i64 x.cr) := hc2 2 _ rfl
      have p3 : wr.cell? ⟨b2, off2 + k * 9 + 3, none⟩ = some (.int .i64 x.ch) := hc2 3 _ rfl
      have p4 : wr.cell? ⟨b2, off2 + k * 9 + 4, none⟩ = some (.int .i64 x.kd) := hc2 4 _ rfl
      have p5 : wr.cell? ⟨b2, off2 + k * 9 + 5, none⟩ = some (.int .i64 x.ver) := hc2 5 _ rfl
      have p6 : wr.cell? ⟨b2, off2 + k * 9 + 6, none⟩ = some (.int .i64 x.ks) := hc2 6 _ rfl
      have p7 : wr.cell? ⟨b2, off2 + k * 9 + 7, none⟩ = some (.int .i64 x.own) := hc2 7 _ rfl
      have p8 : wr.cell? ⟨b2, off2 + k * 9 + 8, none⟩ = some (.int .i64 x.nx) := hc2 8 _ rfl
      clear hx hx2 hc hc2
      go_upto_region 6 with fail
      go_quiet (fail)
      obtain ⟨w5, hw5⟩ : ∃ w5, w5 = wr.drewN nq := ⟨_, rfl⟩
      have HW5 := Lib.hid hw5
      rw [← HW5.out]
      clear hw5
      have HX5 : Hid (Below w.heap.size w w5) := Lib.hid (by rw [HW5.out]; exact below_drewN HX.out _)
      go_wp2_with fail
      go_roundw
      case rel => exact ⟨k + 1, hlt, by go_num, HX5⟩
      case measure => simp [intOf]; omega
    · go_wp2_with fail
      go_ret
      exact ⟨rfl, HX.out⟩
set_option maxHeartbeats 2000000 in
theorem rsametexts_any {w : World} {A A2 : Option Addr} {n c c2 : Nat} {l : List Txt} (h : Rd scell 1 w A n l) (h2 : Rd scell 1 w A2 n l) (hn : n ≤ 1000000) :
    Calls Tryz.prog 47 #[.slice A n c, .slice A2 n c2] w fun e w' => e = .returned (.bool true) ∧ Below w.heap.size w w' := by
  have HR := Lib.hid h
  have HR2 := Lib.hid h2
  clear h h2
  go_enter Tryz.func47, Tryz.ntmps47
  go_wp2_with fail
  go_loopw [5] (fun i wr => ∃ k : Nat, k ≤ n ∧ i = .int .i64 k ∧ Hid (Below w.heap.size w wr)) (fun i _ => n - (intOf i).toNat)
  case atStart => exact ⟨0, Nat.zero_le _, rfl, Lib.hid (Below.refl _ _)⟩
  case round =>
    obtain ⟨k, hk, rfl, HX⟩ := hrel
    by_cases hlt : k < n
    · obtain ⟨b, off, x, rfl, hx, hc⟩ := (HR.out.below HX.out).at hlt
      obtain ⟨b2, off2, x2, rfl, hx2, hc2⟩ := (HR2.out.below HX.out).at hlt
      obtain rfl : x = x2 := Option.some.inj (hx.symm.trans hx2)
      simp only [Nat.mul_one] at hc hc2
      have a0 : wr.cell? ⟨b, off + k, none⟩ = some (.string (B x)) := hc 0 _ rfl
      have p0 : wr.cell? ⟨b2, off2 + k, none⟩ = some (.string (B x)) := hc2 0 _ rfl
      clear hx hx2 hc hc2
      go_upto_region 6 with fail
      go_quiet (fail)
      obtain ⟨w5, hw5⟩ : ∃ w5, w5 = wr.drewN nq := ⟨_, rfl⟩
      have HW5 := Lib.hid hw5
      rw [← HW5.out]
      clear hw5
      have HX5 : Hid (Below w.heap.size w w5) := Lib.hid (by rw [HW5.out]; exact below_drewN HX.out _)
      go_wp2_with fail
      go_roundw
      case rel => exact ⟨k + 1, hlt, by go_num, HX5⟩
      case measure => simp [intOf]; omega
    · go_wp2_with fail
      go_ret
      exact ⟨rfl, HX.out⟩
set_option maxHeartbeats 2000000 in
theorem rsameevents_any {w : World} {A A2 : Option Addr} {n c c2 : Nat} {l : List Evt} (h : Rd ecell 3 w A n l) (h2 : Rd ecell 3 w A2 n l) (hn : n ≤ 1000000) :
    Calls Tryz.prog 40 #[.slice A n c, .slice A2 n c2] w fun e w' => e = .returned (.bool true) ∧ Below w.heap.size w w' := by
  have HR := Lib.hid h
  have HR2 := Lib.hid h2
  clear h h2
  go_enter Tryz.func40, Tryz.ntmps40
  go_wp2_with fail
  go_loopw [5] (fun i wr => ∃ k : Nat, k ≤ n ∧ i = .int .i64 k ∧ Hid (Below w.heap.size w wr)) (fun i _ => n - (intOf i).toNat)
  case atStart => exact ⟨0, Nat.zero_le _, rfl, Lib.hid (Below.refl _ _)⟩
  case round =>
    obtain ⟨k, hk, rfl, HX⟩ := hrel
    by_cases hlt : k < n
    · obtain ⟨b, off, x, rfl, hx, hc⟩ := (HR.out.below HX.out).at hlt
      obtain ⟨b2, off2, x2, rfl, hx2, hc2⟩ := (HR2.out.below HX.out).at hlt
      obtain rfl : x = x2 := Option.some.inj (hx.symm.trans hx2)
      have a0 : wr.cell? ⟨b, off + k * 3, none⟩ = some (.int .i64 x.s) := hc 0 _ rfl
      have a1 : wr.cell? ⟨b, off + k * 3 + 1, none⟩ = some (.int .i64 x.k) := hc 1 _ rfl
      have a2 : wr.cell? ⟨b, off + k * 3 + 2, none⟩ = some (.string (B x.p)) := hc 2 _ rfl
      have p0 : wr.cell? ⟨b2, off2 + k * 3, none⟩ = some (.int .i64 x.s) := hc2 0 _ rfl
      have p1 : wr.cell? ⟨b2, off2 + k * 3 + 1, none⟩ = some (.int .i64 x.k) := hc2 1 _ rfl
      have p2 : wr.cell? ⟨b2, off2 + k * 3 + 2, none⟩ = some (.string (B x.p)) := hc2 2 _ rfl
      clear hx hx2 hc hc2
      go_upto_region 6 with fail
      go_quiet (fail)
      obtain ⟨w5, hw5⟩ : ∃ w5, w5 = wr.drewN nq := ⟨_, rfl⟩
      have HW5 := Lib.hid hw5
      rw [← HW5.out]
      clear hw5
      have HX5 : Hid (Below w.heap.size w w5) := Lib.hid (by rw [HW5.out]; exact below_drewN HX.out _)
      go_wp2_with fail
      go_roundw
      case rel => exact ⟨k + 1, hlt, by go_num, HX5⟩
      case measure => simp [intOf]; omega
    · go_wp2_with fail
      go_ret
      exact ⟨rfl, HX.out⟩
end Go.Proofs.YtflgemlhocjipaaGreatDoor
