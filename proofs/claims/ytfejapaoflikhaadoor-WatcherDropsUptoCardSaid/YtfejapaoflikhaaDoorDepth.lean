/-
  What Depth and Valid return of any text. Condition: the text's length.
-/
import Derived.Test.YtfejapaoflikhaaDoorSplit
namespace Go.Proofs.YtfejapaoflikhaaDoor
open Go.ChangeShapes Go.WideShapes Go.ChangeAt Go.RowKit Go.Proofs.Zn

/-- A text as the program holds it. -/
abbrev B (l : Txt) : ByteArray := ⟨l.toArray⟩
theorem LB (l : Txt) : L (B l) = l := by simp
theorem BL (s : ByteArray) : B (L s) = s := by simp
theorem B_size (l : Txt) : (B l).size = l.length := by rw [Lib.size_eq]
theorem L_len (s : ByteArray) : (L s).length = s.size := (Lib.size_eq s).symm
theorem toL (s : ByteArray) : s.toList = L s := Lib.toList_data s

theorem names_no {l : Txt} (h0 : l ≠ [47]) (h : l.head? ≠ some 47) : names l = none := by rw [names, if_neg h0, if_neg h]
theorem names_bad {l : Txt} (h0 : l ≠ [47]) (h : okB (splitS l.tail) = false) : names l = none := by
  rw [names, if_neg h0]
  split
  · rw [h]; rfl
  · rfl
theorem names_good {l : Txt} (h0 : l ≠ [47]) (h1 : l.head? = some 47) (h : okB (splitS l.tail) = true) : names l = some (splitS l.tail) := by
  rw [names, if_neg h0, if_pos h1, if_pos h]
theorem ok_long {ps : List Txt} (h : 9 ≤ ps.length) : okB ps = false := by
  cases hh : okB ps
  · rfl
  · have := (ok_iff ps).1 hh; omega
theorem ok_one {ps : List Txt} {p : Txt} (h : p ∈ ps) (hp : nameB p = false) : okB ps = false := by
  cases hh : okB ps
  · rfl
  · have := ((ok_iff ps).1 hh).1 p h; rw [hp] at this; cases this

theorem head_prefix (l : Txt) : Lib.hasPrefix l [47] = (l.head? == some 47) := by
  unfold Lib.hasPrefix
  cases l with
  | nil => rfl
  | cons c t =>
    rw [Bool.eq_iff_iff]
    simp [List.isPrefixOf]
    exact eq_comm
theorem cut_yes (s : ByteArray) (w : World) (h : (L s).head? = some 47) :
    Calls Tryd.prog 46 #[.string s, .string ⟨#[47]⟩] w fun e w' => e = .returned (.tuple #[.string (B (L s).tail), .bool true]) ∧ w' = w := by
  refine (strings_CutPrefix s ⟨#[47]⟩ w).mono ?_
  have hp : Lib.hasPrefix (L s) [47] = true := by rw [head_prefix, h]; rfl
  have ht : Lib.trimPrefix (L s) [47] = (L s).tail := by rw [Lib.trimPrefix, if_pos hp]; simp
  rintro e w' ⟨rfl, rfl⟩
  refine ⟨?_, rfl⟩
  show Ending.returned (.tuple #[.string ⟨(Lib.trimPrefix (L s) [47]).toArray⟩, .bool (Lib.hasPrefix (L s) [47])]) = _
  rw [hp, ht]
theorem cut_no (s : ByteArray) (w : World) (h : (L s).head? ≠ some 47) :
    Calls Tryd.prog 46 #[.string s, .string ⟨#[47]⟩] w fun e w' => e = .returned (.tuple #[.string s, .bool false]) ∧ w' = w := by
  refine (strings_CutPrefix s ⟨#[47]⟩ w).mono ?_
  have hp : Lib.hasPrefix (L s) [47] = false := by rw [head_prefix]; simpa using h
  have ht : Lib.trimPrefix (L s) [47] = L s := by rw [Lib.trimPrefix, if_neg (by rw [hp]; decide)]
  rintro e w' ⟨rfl, rfl⟩
  refine ⟨?_, rfl⟩
  show Ending.returned (.tuple #[.string ⟨(Lib.trimPrefix (L s) [47]).toArray⟩, .bool (Lib.hasPrefix (L s) [47])]) = _
  rw [hp, ht]
theorem ret_int {a b : Int} (h : a = b) : Ending.returned (.int .i64 a) = .returned (.int .i64 b) := by rw [h]
theorem box_below (w : World) (o : Obj) : Below w.heap.size w (w.alloc o) := (Below.refl _ _).alloc (Nat.le_refl _) _

set_option maxHeartbeats 1000000 in
theorem depth_slash (s : ByteArray) (w : World) (h : L s = [47]) : Calls Tryd.prog 38 #[.string s] w fun e w' => e = .returned (.int .i64 (depth (L s))) ∧ Below w.heap.size w w' := by
  have hd : depth (L s) = 0 := by rw [h]; rfl
  rw [hd]
  have h0 : (s.toList == [47]) = true := by rw [toL, h]; rfl
  go_enter Tryd.func38, Tryd.ntmps38
  go_wp2
  go_ret
  exact ⟨rfl, Below.refl _ _⟩
set_option maxHeartbeats 1000000 in
theorem depth_no (s : ByteArray) (w : World) (hs : s.size ≤ 4611686018427387904) (h0 : L s ≠ [47]) (h : (L s).head? ≠ some 47) : Calls Tryd.prog 38 #[.string s] w fun e w' => e = .returned (.int .i64 (depth (L s))) ∧ Below w.heap.size w w' := by
  have hd : depth (L s) = -1 := depth_none (names_no h0 h)
  rw [hd]
  have h0 : (s.toList == [47]) = false := by rw [toL]; simpa using h0
  have H := Lib.hid h
  clear hd h
  go_enter Tryd.func38, Tryd.ntmps38
  go_wp2_with fail
  refine (cut_no _ _ H.out).mono ?_
  rintro e w' ⟨rfl, rfl⟩
  go_wp2_with fail
  refine (splitn_any _ _ hs).mono ?_
  rintro e w1 ⟨done, N, rfl, rfl, h1, h2, h3⟩
  go_wp2
  go_ret
  exact ⟨rfl, box_below _ _⟩
theorem piece_le {l p : Txt} (h : p ∈ splitS l) : p.length ≤ l.length := by
  have h1 := congrArg List.length (flat_split l)
  have h2 : ∀ ps : List Txt, p ∈ ps → p.length + 1 ≤ (flat ps).length := by
    intro ps
    induction ps with
    | nil => intro h; cases h
    | cons q qs ih =>
      intro h
      simp only [flat, List.cons_append, List.length_cons, List.length_append]
      rcases List.mem_cons.1 h with rfl | h
      · omega
      · have := ih h; omega
  have := h2 _ h
  simp only [List.length_cons] at h1
  omega
/-- The pieces' cells. -/
theorem cells_at {done : List ByteArray} {N i : Nat} (hi : i < done.length) : (Lib.cellsOf done N)[i]? = some (.string (done.getD i ByteArray.empty)) := by
  unfold Lib.cellsOf
  rw [List.getElem?_toArray, List.getElem?_append_left (by simpa using hi), List.getElem?_map, List.getElem?_eq_getElem hi, List.getD_eq_getElem?_getD, List.getElem?_eq_getElem hi]
  rfl
theorem all_take {done : List ByteArray} {k : Nat} {b : ByteArray} (h : k < done.length) (e : done.getD k ByteArray.empty = b) (ha : (done.take k).all (fun x => nameB (L x)) = true) (hb : nameB (L b) = true) : (done.take (k + 1)).all (fun x => nameB (L x)) = true := by
  rw [List.getD_eq_getElem?_getD, List.getElem?_eq_getElem h] at e
  rw [List.take_succ_eq_append_getElem h, List.all_append, ha]
  simp at e
  simp [e, hb]
theorem mem_at {done : List ByteArray} {k : Nat} {b : ByteArray} (h : k < done.length) (e : done.getD k ByteArray.empty = b) : b ∈ done := by
  rw [List.getD_eq_getElem?_getD, List.getElem?_eq_getElem h] at e
  simp at e
  rw [← e]; exact List.getElem_mem h
theorem pcs_le {s b : ByteArray} {done : List ByteArray} (hP : Pcs s done) (hb : b ∈ done) (h8 : done.length ≤ 8) : b.size ≤ s.size := by
  rcases hP with ⟨h, _⟩ | ⟨h, _⟩
  · rw [← L_len, ← L_len]
    exact piece_le (by rw [← h]; exact List.mem_map_of_mem hb)
  · omega
theorem pcs_bad {s b : ByteArray} {done : List ByteArray} (hP : Pcs (B (L s).tail) done) (h0 : L s ≠ [47]) (hb : b ∈ done) (hn : nameB (L b) = false) (h8 : done.length ≤ 8) : depth (L s) = -1 := by
  rcases hP with ⟨h, _⟩ | ⟨h, _⟩
  · rw [LB] at h
    exact depth_none (names_bad h0 (ok_one (by rw [← h]; exact List.mem_map_of_mem hb) hn))
  · omega
theorem pcs_long {s : ByteArray} {done : List ByteArray} (hP : Pcs (B (L s).tail) done) (h0 : L s ≠ [47]) (h8 : ¬ done.length ≤ 8) : depth (L s) = -1 := by
  refine depth_none (names_bad h0 (ok_long ?_))
  rcases hP with ⟨h, _⟩ | ⟨_, h⟩
  · rw [LB] at h
    rw [← h, List.length_map]; omega
  · rwa [LB] at h
theorem pcs_good {s : ByteArray} {done : List ByteArray} (hP : Pcs (B (L s).tail) done) (h0 : L s ≠ [47]) (h1 : (L s).head? = some 47) (h8 : done.length ≤ 8) (ha : done.all (fun x => nameB (L x)) = true) : depth (L s) = done.length := by
  rcases hP with ⟨h, _⟩ | ⟨h, _⟩
  · rw [LB] at h
    rw [depth_some (names_good h0 h1 ((ok_iff _).2 ⟨fun p hp => ?_, by rw [← h, List.length_map]; exact h8⟩)), ← h, List.length_map]
    rw [← h] at hp
    obtain ⟨x, hx, rfl⟩ := List.mem_map.1 hp
    exact List.all_eq_true.1 ha x hx
  · omega
set_option maxHeartbeats 2000000 in
theorem depth_yes (s : ByteArray) (w : World) (hs : s.size ≤ 4611686018427387904) (h0 : L s ≠ [47]) (h : (L s).head? = some 47) : Calls Tryd.prog 38 #[.string s] w fun e w' => e = .returned (.int .i64 (depth (L s))) ∧ Below w.heap.size w w' := by
  have H0 := Lib.hid h0
  have hq : (s.toList == [47]) = false := by rw [toL]; simpa using h0
  have H := Lib.hid h
  have hts : (B (L s).tail).size ≤ 4611686018427387904 := by rw [B_size, List.length_tail, L_len]; omega
  clear h h0
  go_enter Tryd.func38, Tryd.ntmps38
  go_wp2_with fail
  refine (cut_yes _ _ H.out).mono ?_
  rintro e w' ⟨rfl, rfl⟩
  go_wp2_with fail
  refine (splitn_any _ _ hts).mono ?_
  rintro e w1 ⟨done, N, rfl, rfl, h1, h2, HP⟩
  by_cases h8 : done.length ≤ 8
  · have h8' : (done.length : Int) ≤ 8 := by omega
    go_wp2
    go_loopw [26] (fun i wr => ∃ k : Nat, k ≤ done.length ∧ i = .int .i64 k ∧ Below (w'.heap.size + 1) (w'.alloc (.cells (Lib.cellsOf done N) 9)) wr ∧ Hid ((done.take k).all (fun x => nameB (L x)) = true)) (fun i _ => done.length - (intOf i).toNat)
    case atStart => exact ⟨0, Nat.zero_le _, rfl, Below.refl _ _, Lib.hid rfl⟩
    case round =>
      obtain ⟨k, hk, rfl, hB, HA⟩ := hrel
      have HBB := Lib.hid hB
      clear hB
      by_cases hlt : k < done.length
      · obtain ⟨b, hb⟩ : ∃ b, done.getD k ByteArray.empty = b := ⟨_, rfl⟩
        have hc : wr.cell? ⟨w'.heap.size, k, none⟩ = some (.string b) := by
          rw [HBB.out.cell (p := ⟨w'.heap.size, k, none⟩) (by simp), ← hb, ← cells_at hlt]
          exact World.cell?_alloc_new _ _ _ _
        have hbl := pcs_le HP.out (mem_at hlt hb) h8
        have Hb := Lib.hid hb
        obtain ⟨r, hr⟩ : ∃ r, nameB (L b) = r := ⟨_, rfl⟩
        have HR := Lib.hid hr
        clear hb hr
        go_wp2_with fail
        refine (name_any b wr (by unfold maxLen; omega)).mono ?_
        rintro e w2 ⟨rfl, hb2⟩
        have HB2 := Lib.hid (HBB.out.trans (hb2.mono (by have := HBB.out.size; simpa using this)))
        clear hb2
        rw [HR.out]
        go_wp2
        · have hr : r = false := by cases r <;> simp_all
          have HD := pcs_bad HP.out H0.out (mem_at hlt Hb.out) (by rw [HR.out, hr]) h8
          go_ret
          exact ⟨ret_int HD.symm, (box_below _ _).trans (HB2.out.mono (by simp))⟩
        · have hr : r = true := by cases r <;> simp_all
          go_roundw
          case rel => exact ⟨k + 1, hlt, by go_num, HB2.out, Lib.hid (all_take hlt Hb.out HA.out (by rw [HR.out, hr]))⟩
          case measure => simp [intOf]; omega
      · have e : k = done.length := by omega
        have HD := Lib.hid (pcs_good HP.out H0.out H.out h8 (by have := HA.out; rwa [e, List.take_length] at this))
        go_wp2
        go_ret
        exact ⟨ret_int HD.out.symm, (box_below _ _).trans (HBB.out.mono (by simp))⟩
  · have h8' : ¬ (done.length : Int) ≤ 8 := by omega
    have HD := Lib.hid (pcs_long HP.out H0.out h8)
    go_wp2
    go_ret
    exact ⟨ret_int HD.out.symm, box_below _ _⟩
theorem depth_any (s : ByteArray) (w : World) (hs : s.size ≤ 4611686018427387904) : Calls Tryd.prog 38 #[.string s] w fun e w' => e = .returned (.int .i64 (depth (L s))) ∧ Below w.heap.size w w' := by
  by_cases h0 : L s = [47]
  · exact depth_slash s w h0
  · by_cases h : (L s).head? = some 47
    · exact depth_yes s w hs h0 h
    · exact depth_no s w hs h0 h
set_option maxHeartbeats 1000000 in
theorem valid_any (s : ByteArray) (w : World) (hs : s.size ≤ 4611686018427387904) : Calls Tryd.prog 30 #[.string s] w fun e w' => e = .returned (.bool (valid (L s))) ∧ Below w.heap.size w w' := by
  have H := Lib.hid (valid_depth (L s))
  go_enter Tryd.func30, Tryd.ntmps30
  go_wp2_with fail
  refine (depth_any _ _ hs).mono ?_
  rintro e w' ⟨rfl, hb⟩
  have HB := Lib.hid hb
  clear hb
  go_wp2
  go_ret
  exact ⟨ret_bool H.out.symm, HB.out⟩
end Go.Proofs.YtfejapaoflikhaaDoor
