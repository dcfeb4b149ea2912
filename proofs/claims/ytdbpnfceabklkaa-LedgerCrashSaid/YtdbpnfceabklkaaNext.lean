/-
  What ledger's number.next returns: the number that follows; older memory is as it was. Condition: the number has eight bytes.
-/
import Derived.Test.YtdbpnfceabklkaaRecs
namespace Go.Proofs.Ytdbpnfceabklkaa
open Go.ChangeShapes Go.WideShapes Go.ChangeAt Go.RowKit

def Z8 : Array Value := Array.replicate 8 (.int .u8 0)
theorem size70 : (Try.prog.info? 70).map (·.size) = some 8 := by kernel_rfl
theorem info70 : (Try.prog.info? 70).map (fun i => (i.zero, i.size, i.bytes)) = some (some (.agg Z8), 8, 8) := by kernel_rfl
/-- The bytes of a number whose first ones were carried over. -/
def car (l : List Int) (k : Nat) : List Int := List.replicate k 0 ++ l.drop k
theorem car_len (l : List Int) (k : Nat) (hk : k ≤ l.length) : (car l k).length = l.length := by simp [car]; omega
theorem nxt_car : ∀ (l : List Int) (k : Nat), k ≤ l.length → (∀ i, i < k → l.getD i 0 = 255) → nxt l = List.replicate k 0 ++ nxt (l.drop k)
  | _, 0, _, _ => rfl
  | [], k + 1, h, _ => by simp at h
  | x :: l, k + 1, h, hh => by
    have h0 : x = 255 := hh 0 (by omega)
    have ih := nxt_car l k (by simpa using h) (fun i hi => hh (i + 1) (by omega))
    subst h0
    simp only [nxt, if_true, List.replicate_succ, List.cons_append, List.drop_succ_cons, ih]
theorem car_stop {l : List Int} {k : Nat} (hk : k < l.length) (hh : ∀ i, i < k → l.getD i 0 = 255) (hx : l.getD k 0 ≠ 255) : (car l k).set k (l.getD k 0 + 1) = nxt l := by
  rw [nxt_car l k (by omega) hh]
  unfold car
  have e : l.drop k = l.getD k 0 :: l.drop (k + 1) := by rw [getD_eq _ hk, List.drop_eq_getElem_cons hk]
  obtain ⟨x, hxe⟩ : ∃ x, x = l.getD k 0 := ⟨_, rfl⟩
  rw [← hxe] at hx e ⊢
  rw [e, List.set_append_right _ _ (by simp)]
  simp [nxt, hx]
theorem car_next {l : List Int} {k : Nat} (hk : k < l.length) : (car l k).set k 0 = car l (k + 1) := by
  unfold car
  have e : l.drop k = l.getD k 0 :: l.drop (k + 1) := by rw [getD_eq _ hk, List.drop_eq_getElem_cons hk]
  rw [e, List.set_append_right _ _ (by simp), List.replicate_succ', List.append_assoc]
  simp
theorem car_end {l : List Int} (hh : ∀ i, i < l.length → l.getD i 0 = 255) : car l l.length = nxt l := by
  rw [nxt_car l l.length (Nat.le_refl _) hh]
  simp [car, nxt]
theorem car_at {l : List Int} {k : Nat} : (car l k).getD k 0 = l.getD k 0 := by
  unfold car
  rw [append_getD_right _ _ _ (by simp), drop_getD]; simp
theorem ints_set (l : List Int) (k : Nat) (x : Int) : (ints l).toArray.setIfInBounds k (.int .u8 x) = (ints (l.set k x)).toArray := by
  simp [ints, List.setIfInBounds_toArray]
/-- What the loop keeps. -/
def NRel (w : World) (l : List Int) (vk : Value) (wr : World) : Prop :=
  ∃ k : Nat, k ≤ 8 ∧ vk = .int .i64 (k : Int) ∧ (∀ i, i < k → l.getD i 0 = 255) ∧ wr.heap[w.heap.size]? = some (.cells (ints (car l k)).toArray 70 (0, 0)) ∧ wr.heap[w.heap.size + 1]? = some (.cells Z8 70 (0, 0)) ∧ Below w.heap.size w wr
theorem z8_lit : #[Value.int IntKind.u8 0, Value.int IntKind.u8 0, Value.int IntKind.u8 0, Value.int IntKind.u8 0, Value.int IntKind.u8 0, Value.int IntKind.u8 0, Value.int IntKind.u8 0, Value.int IntKind.u8 0] = Z8 := by kernel_rfl
/-- A row known whole, from its head. -/
theorem range_whole {w : World} {g : Nat} {cs : List Value} {t : TypeId} {fr : Nat × Nat} (h : w.heap[g]? = some (.cells cs.toArray t fr)) : w.rangeAt g 0 cs := fun j v hv => by
  rw [Nat.zero_add, cell_of_row w g j _ t fr h, List.getElem?_toArray]; exact hv
theorem there_whole {w : World} {g : Nat} {cs : Array Value} {t : TypeId} {n : Nat} (h : w.heap[g]? = some (.cells cs t (0, 0))) (hn : n ≤ cs.size) : w.there g 0 n := fun j hj => by
  refine ⟨?_, frozen_of_row w g _ _ _ h⟩
  rw [Nat.zero_add, cell_of_row w g j _ t _ h, Array.getElem?_eq_getElem (by omega)]; rfl
/-- A whole row laid over anew. -/
theorem set_whole {w : World} {g : Nat} {cs : Array Value} {vs : List Value} {t : TypeId} (h : w.heap[g]? = some (.cells cs t (0, 0))) (hn : vs.length = cs.size) : (w.setCells g 0 vs).heap[g]? = some (.cells vs.toArray t (0, 0)) := by
  have := setCells_splice (t := t) vs 0 cs.toList w (by simpa using h) (by have e : cs.toList.length = cs.size := Array.length_toList; omega)
  rw [this]
  simp [splice, hn]
theorem results_c {fn : Func} {p : Tmp} {T : TypeId} {d : TypeDesc} (h : fn.results = #[.cell p T]) (hd : Try.prog.underlying T = some d) (hr : d.isRow = true) (tmps : Array Value) (w : World) (g : Nat) (cs : List Value) (hi : (Try.prog.info? T).map (·.size) = some cs.length)
    (hp : tmps.getD p undef = .pointer (some ⟨g, 0, none⟩)) (hg : w.heap[g]? = some (.cells cs.toArray T (0, 0))) : (results fn tmps).run Try.prog w = .ok (.agg cs.toArray) w := by
  have hp' : tmps[p]?.getD undef = .pointer (some ⟨g, 0, none⟩) := by simpa using hp
  have r2 := run_loadVar_mid (P := Try.prog) w g 0 T cs d (range_whole hg) hd hr hi
  simp [results, h, hp', asAddr, r2]
/-- The way out. -/
theorem next_end {w wt : World} {l : List Int} (hN : Nok l) (h1 : wt.heap[w.heap.size + 1]? = some (.cells Z8 70 (0, 0))) (hb : Below w.heap.size w wt) :
    (wt.setCells (w.heap.size + 1) 0 (ints (nxt l))).heap[w.heap.size + 1]? = some (.cells (ints (nxt l)).toArray 70 (0, 0)) ∧ Below w.heap.size w (wt.setCells (w.heap.size + 1) 0 (ints (nxt l))) := by
  refine ⟨set_whole h1 (by rw [ints_length, nxt_len, hN.1]; kernel_rfl), hb.grown (setCells_grown _ _ _) hb.size (fun k hk => by injection hk with hk; omega)⟩
theorem next_any (C : Array Value) (l : List Int) (w : World) (hN : Nok l) (hC : C = (ints l).toArray) :
    Calls Try.prog 48 #[.agg C] w fun e w' => e = .returned (.agg (ints (nxt l)).toArray) ∧ Below w.heap.size w w' := by
  have HN := Lib.hid hN
  have HC := Lib.hid hC
  have HSZ : Hid ((Try.prog.info? 70).map (·.size) = some (ints (nxt l)).length) := Lib.hid (by rw [ints_length, nxt_len, hN.1]; exact size70)
  have HS2 : Hid ((Try.prog.info? 70).map (·.size) = some (ints (nxt l)).toArray.size) := Lib.hid (by rw [List.size_toArray]; exact HSZ.out)
  have HON : Hid ((ints (nxt l)).toArray.all (·.oneCell') = true) := Lib.hid (all_oneCell_toArray (ints_one _))
  have HZS : Hid ((ints (nxt l)).toArray.size ≤ Z8.size) := Lib.hid (by rw [List.size_toArray, ints_length, nxt_len, hN.1]; decide +kernel)
  clear hC hN
  go_enter Try.func48, Try.ntmps48
  go_wp2
  rw [z8_lit]
  go_loopw [3, 4] (fun _ vk wr => NRel w l vk wr) (fun _ vk _ => 8 - (intOf vk).toNat)
  case atStart =>
    have h := new_block (w.alloc (.cells C 70)) (.cells Z8 70)
    rw [show (w.alloc (.cells C 70)).heap.size = w.heap.size + 1 by simp] at h
    exact ⟨0, by decide, rfl, fun i hi => by omega, (Below.heap_alloc _ _ _ (by simp)).trans (by rw [new_block w, HC.out]; rfl), h, (box_below w _).alloc (by simp) _⟩
  case round =>
    obtain ⟨k, hk, rfl, hh, h1, h2, hb⟩ := hrel
    by_cases hlt : k < 8
    · have hkl : k < l.length := by rw [HN.out.1]; exact hlt
      obtain ⟨x, hx⟩ : ∃ x, x = l.getD k 0 := ⟨_, rfl⟩
      have hxb := bys_getD HN.out.2 k
      rw [← hx] at hxb
      obtain ⟨x0, x1⟩ := hxb
      have hcell : wr.cell? ⟨w.heap.size, k, none⟩ = some (.int .u8 x) := by
        rw [cell_of_row wr _ k _ _ _ h1, List.getElem?_toArray]
        unfold ints
        rw [List.getElem?_map, List.getElem?_eq_getElem (by rw [car_len _ _ (by omega)]; exact hkl), hx, ← car_at, getD_eq _ (by rw [car_len _ _ (by omega)]; exact hkl)]; rfl
      have hfz := frozen_of_row wr w.heap.size k _ _ h1
      have hk0 : (0 : Int) ≤ (k : Int) := by omega
      have hk1 : (k : Int) < 8 := by omega
      have hset : ∀ y : Int, (wr.setCell ⟨w.heap.size, k, none⟩ (.int .u8 y)).heap[w.heap.size]? = some (.cells (ints ((car l k).set k y)).toArray 70 (0, 0)) ∧ (wr.setCell ⟨w.heap.size, k, none⟩ (.int .u8 y)).heap[w.heap.size + 1]? = some (.cells Z8 70 (0, 0)) ∧ Below w.heap.size w (wr.setCell ⟨w.heap.size, k, none⟩ (.int .u8 y)) := fun y => by
        refine ⟨?_, ?_, hb.setCell (Nat.le_refl _) _⟩
        · rw [heap_setCell_same wr w.heap.size k _ 70 _ h1, ints_set]
        · rw [heap_setCell_other wr _ _ _ (by simp)]; exact h2
      have HST := Lib.hid hset
      have HH := Lib.hid hh
      have HX := Lib.hid hx
      clear h1 h2 hb hh hx hset
      by_cases hx255 : x = 255
      · subst hx255
        have HNX : Hid (NRel w l (.int .i64 ((k : Int) + 1)) (wr.setCell ⟨w.heap.size, k, none⟩ (.int .u8 0))) := Lib.hid ⟨k + 1, by omega, by go_num, fun i hi => by
          by_cases e : i = k
          · subst e; exact HX.out.symm
          · exact HH.out i (by omega), by rw [← car_next hkl]; exact (HST.out 0).1, (HST.out 0).2⟩
        go_wp2
        go_roundw
        case rel => exact HNX.out
        case measure => simp [intOf] <;> omega
      · have hx2 : x ≤ 254 := by omega
        have HNE : Hid (x ≠ 255) := Lib.hid hx255
        have hne : (x + 1 == 0) = false := by simp; omega
        have hne2 : (x + 1 != 0) = true := by simp; omega
        have HE : Hid ((car l k).set k (x + 1) = nxt l) := Lib.hid (by rw [HX.out]; exact car_stop hkl HH.out (by rw [← HX.out]; exact HNE.out))
        have HP : Hid ((wr.setCell ⟨w.heap.size, k, none⟩ (.int .u8 (x + 1))).heap[w.heap.size]? = some (.cells (ints (nxt l)).toArray 70 (0, 0))) := Lib.hid (by have h := (HST.out (x + 1)).1; rwa [HE.out] at h)
        have HRG := Lib.hid (range_whole HP.out)
        have HTH := Lib.hid (there_whole (HST.out (x + 1)).2.1 HZS.out)
        have HEND := Lib.hid (next_end HN.out (HST.out (x + 1)).2.1 (HST.out (x + 1)).2.2)
        clear hx255
        go_wp2_with (first
          | ((with_reducible refine wpList_load_mid rfl 70 (.tmp 1) rfl w.heap.size 0 ?_ (ints (nxt l)) (.array 8 5) HRG.out Try.underlying70 ?_ HSZ.out ?_); rfl; rfl)
          | ((with_reducible refine wpList_store_mid rfl 70 (.tmp 2) (.tmp 17) rfl (w.heap.size + 1) 0 (ints (nxt l)).toArray ?_ ?_ HTH.out HS2.out HON.out ?_); rfl; rfl)
          | fail)
        exact bodyPost_ret (v := .agg (ints (nxt l)).toArray) (results_c rfl Try.underlying70 rfl _ _ (w.heap.size + 1) (ints (nxt l)) HSZ.out rfl (by exact HEND.out.1)) rfl ⟨rfl, HEND.out.2⟩
    · obtain rfl : k = 8 := by omega
      have HP : Hid (wr.heap[w.heap.size]? = some (.cells (ints (nxt l)).toArray 70 (0, 0))) := Lib.hid (by
        have e : car l 8 = nxt l := by have := car_end (l := l) (fun i hi => hh i (by rw [HN.out.1] at hi; exact hi)); rwa [HN.out.1] at this
        rw [← e]; exact h1)
      have HRG := Lib.hid (range_whole HP.out)
      have HTH := Lib.hid (there_whole h2 HZS.out)
      have HEND := Lib.hid (next_end HN.out h2 hb)
      clear h1 h2 hb hh
      go_wp2_with (first
        | ((with_reducible refine wpList_load_mid rfl 70 (.tmp 1) rfl w.heap.size 0 ?_ (ints (nxt l)) (.array 8 5) HRG.out Try.underlying70 ?_ HSZ.out ?_); rfl; rfl)
        | ((with_reducible refine wpList_store_mid rfl 70 (.tmp 2) (.tmp 17) rfl (w.heap.size + 1) 0 (ints (nxt l)).toArray ?_ ?_ HTH.out HS2.out HON.out ?_); rfl; rfl)
        | fail)
      exact bodyPost_ret (v := .agg (ints (nxt l)).toArray) (results_c rfl Try.underlying70 rfl _ _ (w.heap.size + 1) (ints (nxt l)) HSZ.out rfl (by exact HEND.out.1)) rfl ⟨rfl, HEND.out.2⟩
end Go.Proofs.Ytdbpnfceabklkaa
