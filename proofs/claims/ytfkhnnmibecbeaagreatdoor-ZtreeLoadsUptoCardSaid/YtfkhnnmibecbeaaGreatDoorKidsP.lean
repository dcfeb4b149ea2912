/-
  What Kids returns. Condition: the tree is good.
-/
import Derived.Test.YtfkhnnmibecbeaaGreatDoorDoP
import Derived.Test.YtfkhnnmibecbeaaGreatDoorPartB
namespace Go.Proofs.YtfkhnnmibecbeaaGreatDoor
set_option maxRecDepth 100000
open Go.ChangeShapes Go.WideShapes Go.ChangeAt Go.RowKit Go.Proofs.Zn Go.Proofs.Zt

theorem own_set {w : World} {base e n c g : Nat} {xs : List Value} (h : w.ownsRow base e 1 (.slice (some ⟨g, 0, none⟩) n c) n xs) (k : Nat) (v : Value) : (w.setCell ⟨g, k, none⟩ v).ownsRow base e 1 (.slice (some ⟨g, 0, none⟩) n c) n (xs.set k v) := by
  rcases h.2 with ⟨hn, _⟩ | ⟨g', cap, cur, e1, hb, hg, h1, h2, h3, h4⟩
  · cases hn
  · injection e1 with e1 _ e3
    injection e1 with e1
    injection e1 with e1 _ _
    subst e1 e3
    refine ⟨by rw [List.length_set]; exact h.1, .inr ⟨g, c, _, rfl, hb, heap_setCell_same w g k _ e v hg, h1, h2, by rw [Array.size_setIfInBounds]; exact h3, ?_⟩⟩
    rw [Array.toList_setIfInBounds, List.take_set, h4]
theorem own_frozen {w : World} {base e sz n c g : Nat} {xs : List Value} (h : w.ownsRow base e sz (.slice (some ⟨g, 0, none⟩) n c) n xs) (k : Nat) : w.frozen? ⟨g, k, none⟩ = false := by
  rcases h.2 with ⟨hn, _⟩ | ⟨g', cap, cur, e1, hb, hg, h1, h2, h3, h4⟩
  · cases hn
  · injection e1 with e1 _ e3
    injection e1 with e1
    injection e1 with e1 _ _
    subst e1 e3
    exact frozen_of_row w g k _ _ hg
def kidsA (T : Tr) (p : Txt) : List Txt := if (get T p).isSome = true then kids T p else []
def KiPost (T : Tr) (p : Txt) (w : World) (e : Ending) (w' : World) : Prop := ∃ v, e = .returned (.tuple #[v, .bool (get T p).isSome]) ∧ w'.ownsRow w.heap.size 9 1 v (kidsA T p).length (scells (kidsA T p)) ∧ Below w.heap.size w w'
def mixed (xs : Tr) (k : Nat) : List Txt := (xs.take k).map (fun z => base z.path) ++ (xs.drop k).map (·.path)
theorem mixed_step {xs : Tr} {k : Nat} (h : k < xs.length) {z : Nd} (hz : xs[k] = z) : (scells (mixed xs k)).set k (.string (B (base z.path))) = scells (mixed xs (k + 1)) := by
  rw [scells_map, scells_map, mixed, mixed, List.drop_eq_getElem_cons h, List.take_succ_eq_append_getElem h, hz]
  simp only [List.map_append, List.map_cons, List.map_nil, List.append_assoc, List.cons_append, List.nil_append]
  rw [List.set_append_right _ _ (by simp; omega)]
  simp [Nat.min_eq_left (Nat.le_of_lt h)]
theorem mixed_at {xs : Tr} {k : Nat} (h : k < xs.length) {z : Nd} (hz : xs[k] = z) : (scells (mixed xs k))[k]? = some (.string (B z.path)) := by
  rw [scells_map, mixed, List.drop_eq_getElem_cons h, hz]
  simp only [List.map_append, List.map_cons]
  rw [List.getElem?_append_right (by simp; omega)]
  simp [Nat.min_eq_left (Nat.le_of_lt h)]
theorem mixed_len (xs : Tr) (k : Nat) : (mixed xs k).length = xs.length := by
  unfold mixed
  simp only [List.length_append, List.length_map, List.length_take, List.length_drop]
  omega
set_option maxHeartbeats 4000000 in
theorem kids_any {w : World} {tp mb : Nat} {T : Tr} (h : TreeW w tp mb T) (hg : Zt.Good T) (p : Txt) (hp : p.length ≤ maxLen) :
    Calls Tryz.prog 20 #[.pointer (some ⟨tp, 0, none⟩), .string (B p)] w (KiPost T p w) := by
  obtain ⟨z, hz⟩ : ∃ z, (get T p).getD nd0 = z := ⟨_, rfl⟩
  obtain ⟨b, hb⟩ : ∃ b, (get T p).isSome = b := ⟨_, rfl⟩
  obtain ⟨w1, hw1⟩ : ∃ w1, w1 = w.alloc (.cells #[.string (B z.path), .string (B z.data), .int .i64 z.cr, .int .i64 z.ch, .int .i64 z.kd, .int .i64 z.ver, .int .i64 z.ks, .int .i64 z.own, .int .i64 z.nx] 41) := ⟨_, rfl⟩
  have hb1 : Below w.heap.size w w1 := by rw [hw1]; exact box_below w _
  have hlook := look_ok h.map p hp hz hb
  have d0 := cell_of h.here (j := 0) rfl
  have HT1 := Lib.hid (h.below hb1)
  have HG := Lib.hid hg
  have HB1 := Lib.hid hb1
  have HW1 := Lib.hid hw1
  have HBB := Lib.hid hb
  clear h hg hp hz hb hw1 hb1
  go_enter Tryz.func20, Tryz.ntmps20
  go_upto_region 2 with fail
  rw [← HW1.out]
  clear hlook d0
  cases b with
  | false =>
    have HE : Hid (KiPost T p w (.returned (.tuple #[.slice none 0 0, .bool false])) w1) := Lib.hid ⟨_, by rw [HBB.out], by unfold kidsA; rw [HBB.out]; exact ⟨rfl, .inl ⟨rfl, rfl⟩⟩, HB1.out⟩
    go_wp2_with fail
    go_ret2
    exact HE.out
  | true =>
    have HKA : Hid (kidsA T p = kids T p) := Lib.hid (by unfold kidsA; rw [if_pos HBB.out])
    have HCO := Lib.hid (childOf_any p w1)
    have hb2 := box_below w1 (.cells #[.string (B p)] 9)
    obtain ⟨w2, hw2⟩ : ∃ w2, w2 = w1.alloc (.cells #[.string (B p)] 9) := ⟨_, rfl⟩
    obtain ⟨cb, ecb⟩ : ∃ q, q = w1.heap.size := ⟨_, rfl⟩
    have hcb : w2.heap[cb]? = some (.cells #[.string (B p)] 9 (0, 0)) := by rw [hw2, ecb]; exact new_block w1 _
    rw [← hw2] at hb2
    rw [← hw2, ← ecb] at HCO
    have HRI := Lib.hid (risingK (HT1.out.below hb2) HG.out p cb hcb)
    have HB2 := Lib.hid (HB1.out.trans (hb2.mono HB1.out.size))
    clear hb2 hw2 ecb hcb
    go_wp2_with fail
    refine HCO.out.mono ?_
    rintro e w2' ⟨rfl, rfl⟩
    go_wp2_with fail
    refine HRI.out.mono ?_
    rintro e w3 ⟨v, rfl, hrow, hb3⟩
    obtain ⟨xs, hxs⟩ : ∃ xs, sel (isKid p) T = xs := ⟨_, rfl⟩
    rw [hxs] at hrow
    have HXS := Lib.hid hxs
    have HVAL : Hid (∀ y ∈ xs, y.path.length ≤ 488) := Lib.hid (fun y hy => by rw [← hxs] at hy; exact len_le (HG.out.each y (List.mem_filter.1 hy).1).path)
    have HXL : Hid (xs.length ≤ 200) := Lib.hid (by rw [← hxs]; exact Nat.le_trans (List.length_filter_le _ _) HG.out.len)
    have HB3 := Lib.hid (HB2.out.trans (hb3.mono HB2.out.size))
    obtain ⟨A, cp, rfl, -, -, -⟩ := own_form hrow
    have HROW : Hid (w3.ownsRow w2.heap.size 9 1 (.slice A xs.length cp) xs.length (scells (mixed xs 0))) := Lib.hid (by rw [show mixed xs 0 = paths xs from by simp [mixed, paths]]; exact hrow)
    clear hrow hb3 hxs
    go_wp2_with fail
    go_loopw [27] (fun i wr => ∃ k : Nat, k ≤ xs.length ∧ i = .int .i64 k ∧ Hid (wr.ownsRow w2.heap.size 9 1 (.slice A xs.length cp) xs.length (scells (mixed xs k))) ∧ Hid (Below w.heap.size w wr)) (fun i _ => xs.length - (intOf i).toNat)
    case atStart => exact ⟨0, Nat.zero_le _, rfl, HROW, HB3⟩
    case round =>
      obtain ⟨k, hk, rfl, HO, HX⟩ := hrel
      have hxl := HXL.out
      by_cases hlt : k < xs.length
      · obtain ⟨y, hy⟩ : ∃ y, xs[k] = y := ⟨_, rfl⟩
        have hym : y ∈ xs := by rw [← hy]; exact List.getElem_mem hlt
        have ho := HO.out
        obtain ⟨A', c', e1, -, -, hA⟩ := own_form ho
        obtain ⟨g, hgA⟩ := hA (by omega)
        injection e1 with e1 _ e3
        subst e1 e3
        subst hgA
        have c0 := own_cell ho k _ (mixed_at hlt hy)
        have f0 := own_frozen ho k
        have HBA := Lib.hid (base_any (B y.path) wr (by rw [B_size]; have := HVAL.out y hym; omega))
        simp only [LB] at HBA
        have HMS := Lib.hid (mixed_step hlt hy)
        have HGE : Hid (w2.heap.size ≤ g) := Lib.hid (own_ge ho g rfl)
        have HGL : Hid (g < wr.heap.size) := Lib.hid (ho.lt g rfl).2
        obtain ⟨u, hu⟩ : ∃ u, base y.path = u := ⟨_, rfl⟩
        rw [hu] at HBA HMS
        clear hy hym hu ho hA
        go_wp2_with fail
        refine HBA.out.mono ?_
        rintro e w4 ⟨rfl, hb4⟩
        have ho4 := own_below HO.out hb4
        have hs4 := own_set ho4 k (.string (B u))
        rw [HMS.out] at hs4
        have c4 := (hb4.cell (p := ⟨g, k, none⟩) HGL.out).trans c0
        have f4 := own_frozen ho4 k
        have HB5 : Hid (Below w.heap.size w (w4.setCell ⟨g, k, none⟩ (.string (B u)))) := Lib.hid ((HX.out.trans (hb4.mono HX.out.size)).setCell (Nat.le_trans HB2.out.size HGE.out) _)
        have HO5 := Lib.hid hs4
        clear hb4 ho4 hs4 c0 f0
        go_wp2_with fail
        go_roundw
        case rel => exact ⟨k + 1, hlt, by go_num, HO5, HB5⟩
        case measure => simp [intOf]; omega
      · have hkn : k = xs.length := by omega
        have hkl : kids T p = mixed xs k := by
          rw [hkn, ← HXS.out]
          simp [mixed, kids, sel]
          rfl
        have HE : Hid (KiPost T p w (.returned (.tuple #[.slice A xs.length cp, .bool true])) wr) := Lib.hid ⟨_, by rw [HBB.out], by rw [HKA.out, hkl, mixed_len]; exact own_base HO.out HB2.out.size, HX.out⟩
        clear hkn hkl
        go_wp2_with fail
        go_ret2
        exact HE.out
end Go.Proofs.YtfkhnnmibecbeaaGreatDoor
