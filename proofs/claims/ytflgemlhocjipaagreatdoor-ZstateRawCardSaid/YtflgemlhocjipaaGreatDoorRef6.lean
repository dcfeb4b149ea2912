/-
  The document's New, up, without. Conditions: memory holds the list, and it is not long.
  The document's put. Conditions: memory holds the list, and it is not long.
  The document's Owned, Kids, fails. Conditions: memory holds the list, and it is not long.
  The document's Kids. Conditions: memory holds the list; it is not long, nor are its paths.
  The document's Same, SameTexts, SameEvents of rows that are alike. Conditions: memory holds both rows; they are not long.
-/
import Derived.Test.YtflgemlhocjipaaGreatDoorRef1
import Derived.Test.YtflgemlhocjipaaGreatDoorEndP
import Derived.Laws.Cover1
import Derived.Test.YtflgemlhocjipaaGreatDoorCheckP
import Derived.Test.YtflgemlhocjipaaGreatDoorRBase
namespace Go.Proofs.YtflgemlhocjipaaGreatDoor
set_option maxRecDepth 100000
open Go.ChangeShapes Go.WideShapes Go.ChangeAt Go.RowKit Go.Proofs.Zn Go.Proofs.Zt

theorem info41 : (Tryz.prog.info? 132).map (fun i => (i.zero, i.size, i.bytes)) = some (some (.agg #[.string ⟨#[]⟩, .string ⟨#[]⟩, .int .i64 0, .int .i64 0, .int .i64 0, .int .i64 0, .int .i64 0, .int .i64 0, .int .i64 0]), 9, 88) := by kernel_rfl
/-- An answer that is a list of znodes. -/
def TrPost (T : Tr) (w : World) (e : Ending) (w' : World) : Prop := ∃ v, e = .returned v ∧ w'.ownsRow w.heap.size 132 9 v T.length (ncells T) ∧ Below w.heap.size w w'
theorem wout_step {T : Tr} {k : Nat} {z : Nd} (hz : T[k]? = some z) (p : Txt) : wout (T.take (k + 1)) p = wout (T.take k) p ++ (if z.path = p then [] else [z]) := by
  obtain ⟨hk, rfl⟩ := List.getElem?_eq_some_iff.1 hz
  rw [List.take_succ_eq_append_getElem hk]
  unfold wout
  rw [List.filter_append]
  by_cases h : T[k].path = p <;> simp [h]
theorem wout_take_le (T : Tr) (k : Nat) (p : Txt) : (wout (T.take k) p).length ≤ k := by
  have h1 := wout_len_le (T.take k) p
  have h2 := List.length_take_le k T
  omega
set_option maxHeartbeats 2000000 in
theorem rwithout_any {w : World} {A : Option Addr} {n c : Nat} {T : Tr} (h : Rd ncell 9 w A n T) (hn : n ≤ 1000000) (p : Txt) :
    Calls Tryz.prog 170 #[.slice A n c, .string (B p)] w (TrPost (wout T p) w) := by
  obtain ⟨i0, hi, hz0, hz1, hz2⟩ := info_parts info41
  have HR := Lib.hid h
  clear h
  go_enter Tryz.func170, Tryz.ntmps170
  go_wp2_with fail
  go_loopw [5, 6] (fun l i wr => ∃ k : Nat, k ≤ n ∧ i = .int .i64 k ∧ Hid (wr.ownsRow w.heap.size 132 9 l (wout (T.take k) p).length (ncells (wout (T.take k) p))) ∧ Hid (Below w.heap.size w wr)) (fun _ i _ => n - (intOf i).toNat)
  case atStart => exact ⟨0, Nat.zero_le _, rfl, Lib.hid ⟨rfl, .inl ⟨rfl, rfl⟩⟩, Lib.hid (Below.refl _ _)⟩
  case round =>
    obtain ⟨k, hk, rfl, HO, HX⟩ := hrel
    by_cases hlt : k < n
    · obtain ⟨b, off, z, rfl, hz, hc⟩ := (HR.out.below HX.out).at hlt
      have HWS := Lib.hid (wout_step hz p)
      have a0 : wr.cell? ⟨b, off + k * 9, none⟩ = some (.string (B z.path)) := hc 0 _ rfl
      have a1 : wr.cell? ⟨b, off + k * 9 + 1, none⟩ = some (.string (B z.data)) := hc 1 _ rfl
      have a2 : wr.cell? ⟨b, off + k * 9 + 2, none⟩ = some (.int .i64 z.cr) := hc 2 _ rfl
      have a3 : wr.cell? ⟨b, off + k * 9 + 3, none⟩ = some (.int .i64 z.ch) := hc 3 _ rfl
      have a4 : wr.cell? ⟨b, off + k * 9 + 4, none⟩ = some (.int .i64 z.kd) := hc 4 _ rfl
      have a5 : wr.cell? ⟨b, off + k * 9 + 5, none⟩ = some (.int .i64 z.ver) := hc 5 _ rfl
      have a6 : wr.cell? ⟨b, off + k * 9 + 6, none⟩ = some (.int .i64 z.ks) := hc 6 _ rfl
      have a7 : wr.cell? ⟨b, off + k * 9 + 7, none⟩ = some (.int .i64 z.own) := hc 7 _ rfl
      have a8 : wr.cell? ⟨b, off + k * 9 + 8, none⟩ = some (.int .i64 z.nx) := hc 8 _ rfl
      clear hz hc
      by_cases he : z.path = p
      · have t1 : (z.path == p) = true := by simpa using he
        rw [if_pos he, List.append_nil] at HWS
        clear he
        go_wp2_with fail
        go_roundw
        case rel => exact ⟨k + 1, hlt, by go_num, Lib.hid (by rw [HWS.out]; exact HO.out), HX⟩
        case measure => simp [intOf]; omega
      · have t1 : (z.path == p) = false := by simpa using he
        rw [if_neg he] at HWS
        have ho := HO.out
        have hsz := HX.out.size
        have hln := wout_take_le T k p
        clear he
        go_wp2_with (at_builtin; refine wpList_append_own _ rfl _ _ 27 rfl w.heap.size 132 i0 _ 9 88 Tryz.underlying27 hi hz0 hz1 hz2 rfl (by decide) _ _ _ rfl (ho.alloc _) ⟨wr.heap.size, 0, none⟩ 1 1 (ncell z) rfl rfl (World.news_of_block (new_block wr _)) (ncell_one z) (by unfold maxLen at *; omega) (by omega) (by simp; omega) ?_; intro v' w5 hown' hg5 hnil5)
        have hB5 := (HX.out.alloc hsz _).grown hg5 (by simp; omega) (fun j hj => (HO.out.lt j hj).1)
        have HB5 := Lib.hid hB5
        have HO5 := Lib.hid hown'
        clear hown' hg5 hnil5 hB5 ho
        go_roundw
        case rel => exact ⟨k + 1, hlt, by go_num, Lib.hid (by rw [HWS.out, ncells_append, List.length_append]; exact HO5.out), HB5⟩
        case measure => simp [intOf]; omega
    · have hkn : k = n := by omega
      have HE := Lib.hid HO.out
      rw [hkn, List.take_of_length_le (by rw [HR.out.len]; exact Nat.le_refl _)] at HE
      clear hkn
      go_wp2_with fail
      go_ret
      exact ⟨_, rfl, HE.out, HX.out⟩
end Go.Proofs.YtflgemlhocjipaaGreatDoor
namespace Go.Proofs.YtflgemlhocjipaaGreatDoor
set_option maxRecDepth 100000
open Go.ChangeShapes Go.WideShapes Go.ChangeAt Go.RowKit Go.Proofs.Zn Go.Proofs.Zt

theorem put_no {S : Tr} {z : Nd} (h : ∀ x ∈ S, x.path < z.path) (R : Tr) : put (S ++ R) z = S ++ put R z := by
  induction S with
  | nil => rfl
  | cons y r ih => rw [List.cons_append, put, if_pos (h y (by simp)), ih (fun x hx => h x (by simp [hx]))]; rfl
theorem put_yes {S : Tr} {z : Nd} (h : ∃ x ∈ S, ¬ x.path < z.path) (x : Nd) : put (S ++ [x]) z = put S z ++ (if x.path = z.path then [] else [x]) := by
  induction S with
  | nil => obtain ⟨x, hx, _⟩ := h; cases hx
  | cons y r ih =>
    rw [List.cons_append, put, put]
    by_cases hy : y.path < z.path
    · rw [if_pos hy, if_pos hy, ih]
      · rfl
      · obtain ⟨u, hu, hn⟩ := h
        rcases List.mem_cons.1 hu with rfl | hu
        · exact absurd hy hn
        · exact ⟨u, hu, hn⟩
    · rw [if_neg hy, if_neg hy]
      have : y :: (r ++ [x]) = (y :: r) ++ [x] := rfl
      rw [this, List.filter_append]
      by_cases hx : x.path = z.path <;> simp [hx]
/-- What put has laid together of the first k znodes. -/
def outP (T : Tr) (z : Nd) (d : Bool) (k : Nat) : Tr := if d then put (T.take k) z else T.take k
structure POk (T : Tr) (z : Nd) (d : Bool) (k : Nat) : Prop where
  no : d = false → ∀ x ∈ T.take k, x.path < z.path
  yes : d = true → ∃ x ∈ T.take k, ¬ x.path < z.path
theorem POk.start (T : Tr) (z : Nd) : POk T z false 0 := ⟨fun _ x hx => by simp at hx, fun h => (by cases h)⟩
theorem POk.keep {T : Tr} {z x : Nd} {k : Nat} (h : POk T z false k) (hx : T[k]? = some x) (hl : x.path < z.path) : POk T z false (k + 1) ∧ outP T z false (k + 1) = outP T z false k ++ [x] := by
  obtain ⟨hk, rfl⟩ := List.getElem?_eq_some_iff.1 hx
  have e := List.take_succ_eq_append_getElem hk
  refine ⟨⟨fun _ y hy => ?_, fun h => (by cases h)⟩, e⟩
  rw [e, List.mem_append, List.mem_singleton] at hy
  rcases hy with hy | rfl
  · exact h.no rfl y hy
  · exact hl
theorem POk.hit {T : Tr} {z x : Nd} {k : Nat} (h : POk T z false k) (hx : T[k]? = some x) (hl : ¬ x.path < z.path) : POk T z true (k + 1) ∧ outP T z true (k + 1) = (outP T z false k ++ [z]) ++ (if x.path = z.path then [] else [x]) := by
  obtain ⟨hk, rfl⟩ := List.getElem?_eq_some_iff.1 hx
  have e := List.take_succ_eq_append_getElem hk
  refine ⟨⟨fun h => (by cases h), fun _ => ⟨T[k], by rw [e]; exact List.mem_append_right _ (List.mem_singleton.2 rfl), hl⟩⟩, ?_⟩
  show put (T.take (k + 1)) z = (T.take k ++ [z]) ++ _
  rw [e, put_no (h.no rfl), List.append_assoc]
  congr 1
  rw [put, if_neg hl]
  by_cases hp : T[k].path = z.path <;> simp [hp]
theorem POk.more {T : Tr} {z x : Nd} {k : Nat} (h : POk T z true k) (hx : T[k]? = some x) : POk T z true (k + 1) ∧ outP T z true (k + 1) = outP T z true k ++ (if x.path = z.path then [] else [x]) := by
  obtain ⟨hk, rfl⟩ := List.getElem?_eq_some_iff.1 hx
  have e := List.take_succ_eq_append_getElem hk
  obtain ⟨u, hu, hn⟩ := h.yes rfl
  refine ⟨⟨fun h => (by cases h), fun _ => ⟨u, by rw [e]; exact List.mem_append_left _ hu, hn⟩⟩, ?_⟩
  show put (T.take (k + 1)) z = put (T.take k) z ++ _
  rw [e, put_yes ⟨u, hu, hn⟩]
theorem POk.end {T : Tr} {z : Nd} {d : Bool} {k : Nat} (h : POk T z d k) (hk : T.length ≤ k) : put T z = outP T z d k ++ (if d then [] else [z]) := by
  have e := List.take_of_length_le hk
  cases d
  · show put T z = T.take k ++ [z]
    have := put_no (S := T) (fun x hx => h.no rfl x (by rw [e]; exact hx)) ([] : Tr)
    rw [List.append_nil] at this
    rw [e, this]; rfl
  · show put T z = put (T.take k) z ++ []
    rw [e, List.append_nil]
end Go.Proofs.YtflgemlhocjipaaGreatDoor
namespace Go.Proofs.YtflgemlhocjipaaGreatDoor
set_option maxRecDepth 100000
open Go.ChangeShapes Go.WideShapes Go.ChangeAt Go.RowKit Go.Proofs.Zn Go.Proofs.Zt

end Go.Proofs.YtflgemlhocjipaaGreatDoor
namespace Go.Proofs.YtflgemlhocjipaaGreatDoor
set_option maxRecDepth 100000
open Go.ChangeShapes Go.WideShapes Go.ChangeAt Go.RowKit Go.Proofs.Zn Go.Proofs.Zt

end Go.Proofs.YtflgemlhocjipaaGreatDoor
namespace Go.Proofs.YtflgemlhocjipaaGreatDoor
set_option maxRecDepth 100000
open Go.ChangeShapes Go.WideShapes Go.ChangeAt Go.RowKit Go.Proofs.Zn Go.Proofs.Zt

set_option maxHeartbeats 2000000 in
theorem rsame_any {w : World} {A A2 : Option Addr} {n c c2 : Nat} {l : Tr} (h : Rd ncell 9 w A n l) (h2 : Rd ncell 9 w A2 n l) (hn : n ≤ 1000000) :
    Calls Tryz.prog 48 #[.slice A n c, .slice A2 n c2] w fun e w' => e = .returned (.bool true) ∧ Below w.heap.size w w' := by
  have HR := Lib.hid h
  have HR2 := Lib.hid h2
  clear h h2
  go_enter Tryz.func48, Tryz.ntmps48
  go_wp2_with fail
  go_loopw [5] (fun i wr => ∃ k : Nat, k ≤ n ∧ i = .int .i64 k ∧ Hid (Below w.heap.size w wr)) (fun i _ => n - (intOf i).toNat)
  case atStart => exact ⟨0, Nat.zero_le _, rfl, Lib.hid (Below.refl _ _)⟩
  case round =>
    obtain ⟨k, hk, rfl, HX⟩ := hrel
    by_cases hlt : k < n
    · obtain ⟨b, off, x, rfl, hx, hc⟩ := (HR.out.below HX.out).at hlt
      obtain ⟨b2, off2, x2, rfl, hx2, hc2⟩ := (HR2.out.below HX.out).at hlt
      obtain rfl : x = x2 := Option.some.inj (hx.symm.trans hx2)
      have a0 : wr.cell? ⟨b, off + k * 9, none⟩ = some (.string (B x.path)) := hc 0 _ rfl
      have a1 : wr.cell? ⟨b, off + k * 9 + 1, none⟩ = some (.string (B x.data)) := hc 1 _ rfl
      have a2 : wr.cell? ⟨b, off + k * 9 + 2, none⟩ = some (.int .i64 x.cr) := hc 2 _ rfl
      have a3 : wr.cell? ⟨b, off + k * 9 + 3, none⟩ = some (.int .i64 x.ch) := hc 3 _ rfl
      have a4 : wr.cell? ⟨b, off + k * 9 + 4, none⟩ = some (.int .i64 x.kd) := hc 4 _ rfl
      have a5 : wr.cell? ⟨b, off + k * 9 + 5, none⟩ = some (.int .i64 x.ver) := hc 5 _ rfl
      have a6 : wr.cell? ⟨b, off + k * 9 + 6, none⟩ = some (.int .i64 x.ks) := hc 6 _ rfl
      have a7 : wr.cell? ⟨b, off + k * 9 + 7, none⟩ = some (.int .i64 x.own) := hc 7 _ rfl
      have a8 : wr.cell? ⟨b, off + k * 9 + 8, none⟩ = some (.int .i64 x.nx) := hc 8 _ rfl
      have p0 : wr.cell? ⟨b2, off2 + k * 9, none⟩ = some (.string (B x.path)) := hc2 0 _ rfl
      have p1 : wr.cell? ⟨b2, off2 + k * 9 + 1, none⟩ = some (.string (B x.data)) := hc2 1 _ rfl
      have p2 : wr.cell? ⟨b2, off2 + k * 9 + 2, none⟩ = some (.int .i64 x.cr) := hc2 2 _ rfl
      have p3 : wr.cell? ⟨b2, off2 + k * 9 + 3, none⟩ = some (.int .i64 x.ch) := hc2 3 _ rfl
      have p4 : wr.cell? ⟨b2, off2 + k * 9 + 4, none⟩ = some (.int .i64 x.kd) := hc2 4 _ rfl
      have p5 : wr.cell? ⟨b2, off2 + k * 9 + 5, none⟩ = some (.int .i64 x.ver) := hc2 5 _ rfl
      have p6 : wr.cell? ⟨b2, off2 + k * 9 + 6, none⟩ = some (.int .i64 x.ks) := hc2 6 _ rfl
      have p7 : wr.cell? ⟨b2, off2 + k * 9 + 7, none⟩ = some (.int .i64 x.own) := hc2 7 _ rfl
      have p8 : wr.cell? ⟨b2, off2 + k * 9 + 8, none⟩ = some (.int .i64 x.nx) := hc2 8 _ rfl
      clear hx hx2 hc hc2
      go_upto_region 6 with fail
      go_quiet (fail)
      obtain ⟨w5, hw5⟩ : ∃ w5, w5 = wr.drewN nq := ⟨_, rfl⟩
      have HW5 := Lib.hid hw5
      rw [← HW5.out]
      clear hw5
      have HX5 : Hid (Below w.heap.size w w5) := Lib.hid (by rw [HW5.out]; exact below_drewN HX.out _)
      go_wp2_with fail
      go_roundw
      case rel => exact ⟨k + 1, hlt, by go_num, HX5⟩
      case measure => simp [intOf]; omega
    · go_wp2_with fail
      go_ret
      exact ⟨rfl, HX.out⟩
set_option maxHeartbeats 2000000 in
theorem rsametexts_any {w : World} {A A2 : Option Addr} {n c c2 : Nat} {l : List Txt} (h : Rd scell 1 w A n l) (h2 : Rd scell 1 w A2 n l) (hn : n ≤ 1000000) :
    Calls Tryz.prog 47 #[.slice A n c, .slice A2 n c2] w fun e w' => e = .returned (.bool true) ∧ Below w.heap.size w w' := by
  have HR := Lib.hid h
  have HR2 := Lib.hid h2
  clear h h2
  go_enter Tryz.func47, Tryz.ntmps47
  go_wp2_with fail
  go_loopw [5] (fun i wr => ∃ k : Nat, k ≤ n ∧ i = .int .i64 k ∧ Hid (Below w.heap.size w wr)) (fun i _ => n - (intOf i).toNat)
  case atStart => exact ⟨0, Nat.zero_le _, rfl, Lib.hid (Below.refl _ _)⟩
  case round =>
    obtain ⟨k, hk, rfl, HX⟩ := hrel
    by_cases hlt : k < n
    · obtain ⟨b, off, x, rfl, hx, hc⟩ := (HR.out.below HX.out).at hlt
      obtain ⟨b2, off2, x2, rfl, hx2, hc2⟩ := (HR2.out.below HX.out).at hlt
      obtain rfl : x = x2 := Option.some.inj (hx.symm.trans hx2)
      simp only [Nat.mul_one] at hc hc2
      have a0 : wr.cell? ⟨b, off + k, none⟩ = some (.string (B x)) := hc 0 _ rfl
      have p0 : wr.cell? ⟨b2, off2 + k, none⟩ = some (.string (B x)) := hc2 0 _ rfl
      clear hx hx2 hc hc2
      go_upto_region 6 with fail
      go_quiet (fail)
      obtain ⟨w5, hw5⟩ : ∃ w5, w5 = wr.drewN nq := ⟨_, rfl⟩
      have HW5 := Lib.hid hw5
      rw [← HW5.out]
      clear hw5
      have HX5 : Hid (Below w.heap.size w w5) := Lib.hid (by rw [HW5.out]; exact below_drewN HX.out _)
      go_wp2_with fail
      go_roundw
      case rel => exact ⟨k + 1, hlt, by go_num, HX5⟩
      case measure => simp [intOf]; omega
    · go_wp2_with fail
      go_ret
      exact ⟨rfl, HX.out⟩
end Go.Proofs.YtflgemlhocjipaaGreatDoor
