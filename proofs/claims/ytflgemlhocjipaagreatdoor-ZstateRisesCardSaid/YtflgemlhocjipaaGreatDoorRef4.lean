/-
  The document's Owned, Kids, fails. Conditions: memory holds the list, and it is not long.
-/
import Derived.Test.YtflgemlhocjipaaGreatDoorRef3
import Derived.Test.YtflgemlhocjipaaGreatDoorRBase
import Derived.Test.YtflgemlhocjipaaGreatDoorRPart
namespace Go.Proofs.YtflgemlhocjipaaGreatDoor
set_option maxRecDepth 100000
open Go.ChangeShapes Go.WideShapes Go.ChangeAt Go.RowKit Go.Proofs.Zn Go.Proofs.Zt

theorem owned_step {T : Tr} {k : Nat} {z : Nd} (hz : T[k]? = some z) (s : Int) : owned (T.take (k + 1)) s = owned (T.take k) s ++ (if s ≠ 0 ∧ z.own = s then [z.path] else []) := by
  obtain ⟨hk, rfl⟩ := List.getElem?_eq_some_iff.1 hz
  rw [List.take_succ_eq_append_getElem hk]
  unfold owned
  rw [List.filter_append, List.map_append]
  by_cases h : s ≠ 0 ∧ T[k].own = s
  · rw [if_pos h]; simp [h.1, h.2]
  · rw [if_neg h]
    by_cases h1 : s = 0 <;> by_cases h2 : T[k].own = s <;> simp_all
theorem owned_len (T : Tr) (s : Int) (k : Nat) : (owned (T.take k) s).length ≤ k := by
  have h2 := List.length_take_le k T
  unfold owned
  rw [List.length_map]
  have := List.length_filter_le (fun z : Nd => decide (s ≠ 0) && decide (z.own = s)) (T.take k)
  omega
theorem kids_step {T : Tr} {k : Nat} {z : Nd} (hz : T[k]? = some z) (p : Txt) : kids (T.take (k + 1)) p = kids (T.take k) p ++ (if parentOk z.path = true ∧ parent z.path = p then [base z.path] else []) := by
  obtain ⟨hk, rfl⟩ := List.getElem?_eq_some_iff.1 hz
  rw [List.take_succ_eq_append_getElem hk]
  unfold kids
  rw [List.filter_append, List.map_append]
  by_cases h : parentOk T[k].path = true ∧ parent T[k].path = p
  · rw [if_pos h]; simp [h.1, h.2]
  · rw [if_neg h]
    cases h1 : parentOk T[k].path <;> by_cases h2 : parent T[k].path = p <;> simp_all
theorem rkids_len (T : Tr) (p : Txt) (k : Nat) : (kids (T.take k) p).length ≤ k := by
  have h2 := List.length_take_le k T
  unfold kids
  rw [List.length_map]
  have := List.length_filter_le (fun z : Nd => parentOk z.path && (parent z.path == p)) (T.take k)
  omega
set_option maxHeartbeats 2000000 in
theorem rowned_any {w : World} {A : Option Addr} {n c : Nat} {T : Tr} (h : Rd ncell 9 w A n T) (hn : n ≤ 1000000) (s : Int) :
    Calls Tryz.prog 142 #[.slice A n c, .int .i64 s] w fun e w' => ∃ v, e = .returned v ∧ w'.ownsRow w.heap.size 9 1 v (owned T s).length (scells (owned T s)) ∧ Below w.heap.size w w' := by
  obtain ⟨i0, hi, hz0, hz1, hz2⟩ := info_parts infoS
  have HR := Lib.hid h
  clear h
  go_enter Tryz.func142, Tryz.ntmps142
  go_wp2_with fail
  go_loopw [5, 6] (fun l i wr => ∃ k : Nat, k ≤ n ∧ i = .int .i64 k ∧ Hid (wr.ownsRow w.heap.size 9 1 l (owned (T.take k) s).length (scells (owned (T.take k) s))) ∧ Hid (Below w.heap.size w wr)) (fun _ i _ => n - (intOf i).toNat)
  case atStart => exact ⟨0, Nat.zero_le _, rfl, Lib.hid ⟨rfl, .inl ⟨rfl, rfl⟩⟩, Lib.hid (Below.refl _ _)⟩
  case round =>
    obtain ⟨k, hk, rfl, HO, HX⟩ := hrel
    by_cases hlt : k < n
    · obtain ⟨b, off, z, rfl, hz, hc⟩ := (HR.out.below HX.out).at hlt
      have HWS := Lib.hid (owned_step hz s)
      have a0 : wr.cell? ⟨b, off + k * 9, none⟩ = some (.string (B z.path)) := hc 0 _ rfl
      have a7 : wr.cell? ⟨b, off + k * 9 + 7, none⟩ = some (.int .i64 z.own) := hc 7 _ rfl
      clear hz hc
      by_cases hs : s = 0
      · rw [if_neg (fun h => h.1 hs), List.append_nil] at HWS
        have t0 : (s != 0) = false := by simpa using hs
        clear hs
        go_wp2_with fail
        go_roundw
        case rel => exact ⟨k + 1, hlt, by go_num, Lib.hid (by rw [HWS.out]; exact HO.out), HX⟩
        case measure => simp [intOf]; omega
      · have t0 : (s != 0) = true := by simpa using hs
        by_cases he : z.own = s
        · rw [if_pos ⟨hs, he⟩] at HWS
          have t1 : (z.own == s) = true := by simpa using he
          have ho := HO.out
          have hsz := HX.out.size
          have hln := owned_len T s k
          clear he hs
          go_wp2_with (at_builtin; refine wpList_append_own _ rfl _ _ 40 rfl w.heap.size 9 i0 _ 1 16 Tryz.underlying40 hi hz0 hz1 hz2 rfl (by decide) _ _ _ rfl (ho.alloc _) ⟨wr.heap.size, 0, none⟩ 1 1 (scell z.path) rfl rfl (World.news_of_block (new_block wr _)) (scells_one [z.path]) (by unfold maxLen at *; omega) (by omega) (by simp; omega) ?_; intro v' w5 hown' hg5 hnil5)
          have HB5 := Lib.hid ((HX.out.alloc hsz _).grown hg5 (by simp; omega) (fun j hj => (HO.out.lt j hj).1))
          have HO5 := Lib.hid hown'
          clear hown' hg5 hnil5 ho
          go_roundw
          case rel => exact ⟨k + 1, hlt, by go_num, Lib.hid (by rw [HWS.out, scells_append, List.length_append]; exact HO5.out), HB5⟩
          case measure => simp [intOf]; omega
        · rw [if_neg (fun h => he h.2), List.append_nil] at HWS
          have t1 : (z.own == s) = false := by simpa using he
          clear he hs
          go_wp2_with fail
          go_roundw
          case rel => exact ⟨k + 1, hlt, by go_num, Lib.hid (by rw [HWS.out]; exact HO.out), HX⟩
          case measure => simp [intOf]; omega
    · have hkn : k = n := by omega
      have HE := Lib.hid HO.out
      rw [hkn, List.take_of_length_le (by rw [HR.out.len]; exact Nat.le_refl _)] at HE
      clear hkn
      go_wp2_with fail
      go_ret
      exact ⟨_, rfl, HE.out, HX.out⟩
theorem set_st {w : World} {r : Nat} {a b c d : Value} (hb : w.heap[r]? = some (.cells #[a, b, c, d] 229 (0, 0))) (x y z u : Value) :
    Wr r w ((((w.setCell ⟨r, 0, none⟩ (x)).setCell ⟨r, 1, none⟩ (y)).setCell ⟨r, 2, none⟩ (z)).setCell ⟨r, 3, none⟩ (u)) ∧ ((((w.setCell ⟨r, 0, none⟩ (x)).setCell ⟨r, 1, none⟩ (y)).setCell ⟨r, 2, none⟩ (z)).setCell ⟨r, 3, none⟩ (u)).heap[r]? = some (.cells #[x, y, z, u] 229 (0, 0)) :=
  setRow_any [x, y, z, u] 0 [] [a, b, c, d] (Wr.refl r w) rfl rfl hb
theorem rfails_any (e : Int) (w : World) : Calls Tryz.prog 164 #[.int .i64 e] w fun x w' => x = .returned (.agg #[.slice none 0 0, .string ⟨#[]⟩, .slice none 0 0, .int .i64 e]) ∧ Below w.heap.size w w' := by
  obtain ⟨w1, hw1⟩ : ∃ w1, w1 = w.alloc (.cells #[.slice none 0 0, .string ⟨#[]⟩, .slice none 0 0, .int .i64 0] 229) := ⟨_, rfl⟩
  obtain ⟨r, er⟩ : ∃ r, r = w.heap.size := ⟨_, rfl⟩
  have hb1 : Below w.heap.size w w1 := by rw [hw1]; exact box_below w _
  have hr : w1.heap[r]? = some (.cells #[.slice none 0 0, .string ⟨#[]⟩, .slice none 0 0, .int .i64 0] 229 (0, 0)) := by rw [hw1, er]; exact new_block w _
  obtain ⟨w6, hw6⟩ : ∃ w6, w6 = ((((w1.setCell ⟨r, 0, none⟩ (.slice none 0 0)).setCell ⟨r, 1, none⟩ (.string ⟨#[]⟩)).setCell ⟨r, 2, none⟩ (.slice none 0 0)).setCell ⟨r, 3, none⟩ (.int .i64 e)) := ⟨_, rfl⟩
  obtain ⟨hwr, h6⟩ := set_st hr (.slice none 0 0) (.string ⟨#[]⟩) (.slice none 0 0) (.int .i64 e)
  rw [← hw6] at hwr h6
  have HE : Hid (Below w.heap.size w w6) := Lib.hid (hb1.trans (hwr.below.mono (by rw [er]; exact Nat.le_refl _)))
  have HW1 := Lib.hid hw1
  have HW6 := Lib.hid hw6
  have ER := Lib.hid er
  have q0 := cell_of hr (j := 0) rfl
  have q1 := cell_of hr (j := 1) rfl
  have q2 := cell_of hr (j := 2) rfl
  have q3 := cell_of hr (j := 3) rfl
  have rf0 := frozen_of_row w1 _ 0 _ _ hr
  have rf1 := frozen_of_row w1 _ 1 _ _ hr
  have rf2 := frozen_of_row w1 _ 2 _ _ hr
  have rf3 := frozen_of_row w1 _ 3 _ _ hr
  have t0 := cell_of h6 (j := 0) rfl
  have t1 := cell_of h6 (j := 1) rfl
  have t2 := cell_of h6 (j := 2) rfl
  have t3 := cell_of h6 (j := 3) rfl
  clear hb1 hw1 er hwr hw6 h6 hr
  go_enter Tryz.func164, Tryz.ntmps164
  go_upto_region 1 with fail
  rw [← HW1.out, ← ER.out]
  go_wp2_with fail
  rw [← HW6.out]
  exact bodyPost_ret (v := .agg #[.slice none 0 0, .string ⟨#[]⟩, .slice none 0 0, .int .i64 e]) (by simp [results, Tryz.results164, go_sem, t0, t1, t2, t3]) rfl ⟨rfl, HE.out⟩
end Go.Proofs.YtflgemlhocjipaaGreatDoor
