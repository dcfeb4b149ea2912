/-
  The document's file in memory; what its fits, on and with return. No condition.
-/
import Derived.Test.YtoallenigfbkpaaTNeed
namespace Go.Proofs.Ytoallenigfbkpaa
set_option maxRecDepth 100000
open Go.ChangeShapes Go.WideShapes Go.ChangeAt Go.RowKit Go.Proofs.Sg

/-- The document's file: all bytes, and which blocks are there. -/
structure DF (w : World) (A : Option Addr) (c : Nat) (A2 : Option Addr) (c2 : Nat) (S : Sh) : Prop where
  bytes : w.ownsRow 0 5 1 (.slice A S.n c) S.n (bcells (bs S.f S.n))
  blocks : w.ownsRow 0 3 1 (.slice A2 S.K.length c2) S.K.length (ncells S.K)
theorem DF.below {w w' : World} {A A2 : Option Addr} {c c2 : Nat} {S : Sh} (h : DF w A c A2 c2 S) (hb : Below w.heap.size w w') : DF w' A c A2 c2 S := ⟨own_below h.bytes hb, own_below h.blocks hb⟩
theorem DF.sk {w w' : World} {A A2 : Option Addr} {c c2 : Nat} {S : Sh} (h : DF w A c A2 c2 S) {B sp mb : Nat} {T : Sh} (hk : SK w w' sp mb) (hs : SW w B sp mb T) : DF w' A c A2 c2 S := ⟨hk.own hs h.bytes (by decide), hk.own hs h.blocks (by decide)⟩
theorem own_le {w : World} {base e sz n m c : Nat} {A : Option Addr} {xs : List Value} (h : w.ownsRow base e sz (.slice A m c) n xs) : n ≤ c ∧ c ≤ maxLen := by
  obtain ⟨A', c', e1, h1, h2, -⟩ := own_form h
  injection e1 with _ _ e3
  subst e3
  exact ⟨h1, h2⟩
theorem DF.rdB {w : World} {A A2 : Option Addr} {c c2 : Nat} {S : Sh} (h : DF w A c A2 c2 S) : Rd bcell 1 w A S.n (bs S.f S.n) := Rd.of_own h.bytes (fun _ _ => rfl) (by omega)
theorem DF.rdK {w : World} {A A2 : Option Addr} {c c2 : Nat} {S : Sh} (h : DF w A c A2 c2 S) : Rd ncell 1 w A2 S.K.length S.K := Rd.of_own h.blocks (fun _ _ => rfl) (by omega)
/-- The value. -/
def dv (A : Option Addr) (n c : Nat) (A2 : Option Addr) (m c2 : Nat) : Value := .agg #[.slice A n c, .slice A2 m c2]
theorem ncell_get {w : World} {A : Option Addr} {n i : Nat} {K : List Nat} (h : Rd ncell 1 w A n K) (hi : i < n) : ∃ b off k, A = some ⟨b, off, none⟩ ∧ K[i]? = some k ∧ w.cell? ⟨b, off + i, none⟩ = some (.int .i64 (k : Int)) := by
  obtain ⟨b, off, k, h1, h2, h3⟩ := h.at hi
  exact ⟨b, off, k, h1, h2, by have := h3 0 _ rfl; simpa using this⟩
theorem take_snoc {α : Type} {l : List α} {i : Nat} {x : α} (h : l[i]? = some x) : l.take (i + 1) = l.take i ++ [x] := by
  obtain ⟨hi, e⟩ := List.getElem?_eq_some_iff.1 h
  rw [List.take_succ_eq_append_getElem hi, e]
theorem rfits_any (p : Int) (n : Nat) (w : World) : Calls Try.prog 33 #[.int .i64 p, .int .i64 (n : Int)] w fun e w' => e = .returned (.bool (ft p n)) ∧ w = w' := by
  obtain ⟨r, hr⟩ : ∃ r, ft p n = r := ⟨_, rfl⟩
  rw [hr]
  by_cases h0 : 0 ≤ p
  · by_cases h1 : (n : Int) ≤ 1048576
    · obtain ⟨b, hb⟩ : ∃ b, decide (p ≤ 1048576 - (n : Int)) = b := ⟨_, rfl⟩
      have HE : Hid (b = r) := Lib.hid (by
        rw [← hr, ← hb, Bool.eq_iff_iff, ft_iff, decide_eq_true_eq]
        omega)
      have h0' : decide (0 ≤ p) = true := by simpa using h0
      have h1' : decide ((n : Int) ≤ 1048576) = true := by simpa using h1
      have h2 : IntKind.i64.wrap (1048576 - (n : Int)) = 1048576 - (n : Int) := by rw [IntKind.wrap_i64]; omega
      clear h0 hr
      go_enter Try.func33, Try.ntmps33
      go_wp2_with fail
      go_ret
      exact ⟨ret_b HE.out, rfl⟩
    · have HE : Hid (false = r) := Lib.hid (by
        rw [← hr]
        have : ¬ ft p n = true := fun h => by have := ft_iff.1 h; omega
        simpa using this)
      have h0' : decide (0 ≤ p) = true := by simpa using h0
      have h1' : decide ((n : Int) ≤ 1048576) = false := by simpa using h1
      clear h0 hr
      go_enter Try.func33, Try.ntmps33
      go_wp2_with fail
      go_ret
      exact ⟨ret_b HE.out, rfl⟩
  · have HE : Hid (false = r) := Lib.hid (by
      rw [← hr]
      have : ¬ ft p n = true := fun h => by have := ft_iff.1 h; omega
      simpa using this)
    have h0' : decide (0 ≤ p) = false := by simpa using h0
    clear h0 hr
    go_enter Try.func33, Try.ntmps33
    go_wp2_with fail
    go_ret
    exact ⟨ret_b HE.out, rfl⟩
set_option maxHeartbeats 4000000 in
theorem on_any {w : World} {A A2 : Option Addr} {c c2 m : Nat} {K : List Nat} (hR : Rd ncell 1 w A2 m K) (hm : m ≤ 1000000) (n k : Nat) : Calls Try.prog 35 #[dv A n c A2 m c2, .int .i64 (k : Int)] w fun e w' => e = .returned (.bool (decide (k ∈ K))) ∧ Below w.heap.size w w' := by
  obtain ⟨r, hr⟩ : ∃ r, decide (k ∈ K) = r := ⟨_, rfl⟩
  rw [hr]
  have HRR := Lib.hid hr
  clear hr
  obtain ⟨w1, hw1⟩ : ∃ w1, w1 = w.alloc (.cells #[.slice A n c, .slice A2 m c2] 30) := ⟨_, rfl⟩
  obtain ⟨q, eq⟩ : ∃ q, q = w.heap.size := ⟨_, rfl⟩
  have hb1 : Below w.heap.size w w1 := by rw [hw1]; exact box_below w _
  have hq : w1.heap[q]? = some (.cells #[.slice A n c, .slice A2 m c2] 30 (0, 0)) := by rw [hw1, eq]; exact new_block w _
  have HR := Lib.hid (hR.below hb1)
  have HL := Lib.hid hR.len
  have HW1 := Lib.hid hw1
  have EQ := Lib.hid eq
  have HB1 := Lib.hid hb1
  have q1 := cell_of hq (j := 1) rfl
  unfold dv
  clear hR hw1 eq hb1 hq
  go_enter Try.func35, Try.ntmps35
  go_upto_region 1 with fail
  rw [← HW1.out, ← EQ.out]
  go_wp2_with fail
  go_loopw [5] (fun i wr => ∃ j : Nat, j ≤ m ∧ i = .int .i64 j ∧ Hid (k ∉ K.take j) ∧ wr = w1) (fun i _ => m - (intOf i).toNat)
  case atStart => exact ⟨0, Nat.zero_le _, rfl, Lib.hid (by simp), rfl⟩
  case round =>
    obtain ⟨j, hj, rfl, HNO, rfl⟩ := hrel
    by_cases hlt : j < m
    · obtain ⟨b, off, x, rfl, hx, c0⟩ := ncell_get HR.out hlt
      have hk0 : (0 : Int) ≤ (j : Int) := by omega
      have hki : (j : Int) < (m : Int) := by omega
      have hwk : IntKind.i64.wrap ((j : Int) + 1) = (j : Int) + 1 := by rw [IntKind.wrap_i64]; omega
      obtain ⟨kI, hkI⟩ : ∃ z : Int, (k : Int) = z := ⟨_, rfl⟩
      obtain ⟨xI, hxI⟩ : ∃ z : Int, (x : Int) = z := ⟨_, rfl⟩
      rw [hxI] at c0
      rw [hkI]
      by_cases he : x = k
      · have he' : (xI == kI) = true := by simp only [beq_iff_eq]; omega
        have HH : Hid (true = r) := Lib.hid (by
          rw [← HRR.out]
          symm
          simp only [decide_eq_true_eq]
          rw [← he]; exact List.mem_of_getElem? hx)
        clear hx hxI hkI he
        go_wp2_with fail
        go_ret
        exact ⟨ret_b HH.out, HB1.out⟩
      · have he' : (xI == kI) = false := by simp only [beq_eq_false_iff_ne]; omega
        have HNO2 : Hid (k ∉ K.take (j + 1)) := Lib.hid (by
          rw [take_snoc hx, List.mem_append, List.mem_singleton]
          rintro (h | h)
          · exact HNO.out h
          · exact he h.symm)
        clear hx hxI hkI he
        go_wp2_with fail
        go_roundw
        case rel => exact ⟨j + 1, by omega, by go_num, HNO2, trivial⟩
        case measure => simp [intOf]; omega
    · obtain rfl : j = m := by omega
      have hki : ¬ (j : Int) < (j : Int) := by omega
      have HH : Hid (false = r) := Lib.hid (by
        have h := HNO.out
        rw [← HRR.out]
        symm
        rw [List.take_of_length_le (by rw [HL.out]; exact Nat.le_refl _)] at h
        simpa using h)
      go_wp2_with fail
      go_ret
      exact ⟨ret_b HH.out, HB1.out⟩
/-! ### with -/
/-- Numbers of the caller's own. -/
def NuPost (w : World) (K : List Nat) (e : Ending) (w' : World) : Prop := ∃ v, e = .returned v ∧ w'.ownsRow w.heap.size 3 1 v K.length (ncells K) ∧ Below w.heap.size w w'
theorem lt_of_take {K : List Nat} (h : Srt K) {i x : Nat} (hx : K[i]? = some x) : ∀ y ∈ K.take i, y < x := fun y hy => by
  obtain ⟨j, hj, rfl⟩ := List.getElem_of_mem hy
  rw [List.length_take] at hj
  obtain ⟨hi, rfl⟩ := List.getElem?_eq_some_iff.1 hx
  rw [List.getElem_take]
  exact (List.pairwise_iff_getElem.1 h) j i (by omega) hi (by omega)
set_option maxHeartbeats 4000000 in
theorem with_any {w : World} {A : Option Addr} {c m : Nat} {K : List Nat} (hR : Rd ncell 1 w A m K) (hs : Srt K) (hm : m ≤ 1000000) (k : Nat) : Calls Try.prog 34 #[.slice A m c, .int .i64 (k : Int)] w (NuPost w (ins k K)) := by
  obtain ⟨i0, hi, hz0, hz1, hz2⟩ := info_parts infoI
  have HR := Lib.hid hR
  have HL := Lib.hid hR.len
  have HS := Lib.hid hs
  clear hR hs
  go_enter Try.func34, Try.ntmps34
  go_wp2_with fail
  go_loopw [5, 6, 7] (fun u d i wr => ∃ (j : Nat) (o : List Nat) (f : Bool), j ≤ m ∧ i = .int .i64 j ∧ d = .bool f ∧ Hid ((f = false → o = K.take j ∧ ∀ x ∈ K.take j, x < k) ∧ (f = true → o = ins k (K.take j) ∧ ∀ i x, j ≤ i → K[i]? = some x → k ≤ x)) ∧ Hid (wr.ownsRow w.heap.size 3 1 u o.length (ncells o)) ∧ Hid (Below w.heap.size w wr)) (fun _ _ i _ => m - (intOf i).toNat)
  case atStart => exact ⟨0, [], false, Nat.zero_le _, rfl, rfl, Lib.hid ⟨fun _ => ⟨by simp, by simp⟩, fun h => by cases h⟩, Lib.hid (World.ownsRow_nil _ _ _ _), Lib.hid (Below.refl _ _)⟩
  case round =>
    obtain ⟨j, o, f, hj, rfl, rfl, HF, HO, HX⟩ := hrel
    by_cases hlt : j < m
    · obtain ⟨b, off, x, rfl, hx, c0⟩ := ncell_get (HR.out.below HX.out) hlt
      have hk0 : (0 : Int) ≤ (j : Int) := by omega
      have hki : (j : Int) < (m : Int) := by omega
      have hwk : IntKind.i64.wrap ((j : Int) + 1) = (j : Int) + 1 := by rw [IntKind.wrap_i64]; omega
      obtain ⟨kI, hkI⟩ : ∃ z : Int, (k : Int) = z := ⟨_, rfl⟩
      obtain ⟨xI, hxI⟩ : ∃ z : Int, (x : Int) = z := ⟨_, rfl⟩
      rw [hxI] at c0
      have HXY := Lib.hid hx
      have hol : o.length ≤ j + 1 := by
        have hl := HL.out
        cases f with
        | false => have := (HF.out.1 rfl).1; rw [this, List.length_take]; omega
        | true =>
          have h1 := (HF.out.2 rfl).1
          have h2 := len_ins_le (K := K.take j) (List.Pairwise.take HS.out) k
          rw [h1]
          rw [List.length_take] at h2
          omega
      have HOL : Hid (o.length + 2 ≤ 1000003) := Lib.hid (by omega)
      have HTK := Lib.hid (take_snoc hx)
      have HLT := Lib.hid (lt_of_take HS.out hx)
      have HUP : Hid (∀ i y, j ≤ i → K[i]? = some y → x ≤ y) := Lib.hid (fun i y hi hy => by
        rcases Nat.eq_or_lt_of_le hi with h1 | h1
        · subst h1; rw [hx] at hy; injection hy with hy; omega
        · have := lt_of_take HS.out hy x (by
            rw [← (List.getElem?_eq_some_iff.1 hx).2]
            have hj2 : j < (K.take i).length := by rw [List.length_take]; have := HL.out; omega
            rw [← List.getElem_take (h := hj2)]
            exact List.getElem_mem _)
          omega)
      have HKI := Lib.hid hkI
      have HXI := Lib.hid hxI
      rw [hkI]
      cases f with
      | true =>
        have HFT := Lib.hid (HF.out.2 rfl)
        by_cases he : x = k
        · have he' : (xI != kI) = false := by simp only [bne_eq_false_iff_eq]; omega
          have HN : Hid ((true = false → o = K.take (j + 1) ∧ ∀ x ∈ K.take (j + 1), x < k) ∧ (true = true → o = ins k (K.take (j + 1)) ∧ ∀ i x, j + 1 ≤ i → K[i]? = some x → k ≤ x)) := Lib.hid ⟨fun h => (by cases h), fun _ => ⟨by rw [HTK.out, he, ins_snoc_same]; exact HFT.out.1, fun i y hi hy => HFT.out.2 i y (by omega) hy⟩⟩
          clear hx hxI hkI he hol
          go_wp2_with fail
          go_roundw
          case rel => exact ⟨j + 1, o, true, by omega, by go_num, rfl, HN, HO, HX⟩
          case measure => simp [intOf]; omega
        · have he' : (xI != kI) = true := by simp only [bne_iff_ne, ne_eq]; omega
          have hkx : k < x := by have := HFT.out.2 j x (Nat.le_refl _) hx; omega
          have HN : Hid ((true = false → o ++ [x] = K.take (j + 1) ∧ ∀ x ∈ K.take (j + 1), x < k) ∧ (true = true → o ++ [x] = ins k (K.take (j + 1)) ∧ ∀ i x, j + 1 ≤ i → K[i]? = some x → k ≤ x)) := Lib.hid ⟨fun h => (by cases h), fun _ => ⟨by rw [HTK.out, ins_snoc hkx, ← HFT.out.1], fun i y hi hy => HFT.out.2 i y (by omega) hy⟩⟩
          clear hx hxI hkI he hol hkx
          go_wp2_with (at_builtin; refine wpList_append_own _ rfl _ _ 28 rfl w.heap.size 3 i0 _ 1 8 Try.underlying28 hi hz0 hz1 hz2 rfl (by decide) _ o.length (ncells o) rfl (HO.out.alloc _) ⟨wr.heap.size, 0, none⟩ 1 1 [.int .i64 xI] rfl rfl (World.news_of_block (new_block wr _)) (fun u hu => by rcases List.mem_singleton.1 hu with rfl; rfl) (by have := HOL.out;  unfold maxLen; omega) (by have := HOL.out;  omega) (by have := HX.out.size;  simp; omega) ?_; intro v5 w5 hown' hg5 hnil5)
          have HO5 : Hid (w5.ownsRow w.heap.size 3 1 v5 (o ++ [x]).length (ncells (o ++ [x]))) := Lib.hid (by
            rw [ncells_append, List.length_append]
            have e : ncells [x] = [.int .i64 xI] := by simp [ncells, ncell, HXI.out]
            rw [e]; exact hown')
          have HX5 : Hid (Below w.heap.size w w5) := Lib.hid ((HX.out.alloc HX.out.size _).grown hg5 (by have := HX.out.size; simp; omega) (fun j hj => (HO.out.lt j hj).1))
          clear hown' hg5 hnil5
          go_roundw
          case rel => exact ⟨j + 1, (o ++ [x]), true, by omega, by go_num, rfl, HN, HO5, HX5⟩
          case measure => simp [intOf]; omega
      | false =>
        have HFF := Lib.hid (HF.out.1 rfl)
        by_cases hkx : k ≤ x
        · have hkx' : decide (kI ≤ xI) = true := by simp only [decide_eq_true_eq]; omega
          have HUK : Hid (∀ i y, j + 1 ≤ i → K[i]? = some y → k ≤ y) := Lib.hid (fun i y hi hy => by have := HUP.out i y (by omega) hy; omega)
          have HIN : Hid (ins k (K.take j) = o ++ [k]) := Lib.hid (by rw [HFF.out.1]; exact ins_end HFF.out.2)
          by_cases he : x = k
          · have he' : (xI != kI) = false := by simp only [bne_eq_false_iff_eq]; omega
            have HN : Hid ((true = false → o ++ [k] = K.take (j + 1) ∧ ∀ x ∈ K.take (j + 1), x < k) ∧ (true = true → o ++ [k] = ins k (K.take (j + 1)) ∧ ∀ i x, j + 1 ≤ i → K[i]? = some x → k ≤ x)) := Lib.hid ⟨fun h => (by cases h), fun _ => ⟨by rw [HTK.out, he, ins_snoc_same]; exact HIN.out.symm, HUK.out⟩⟩
            clear hx hxI hkI he hol hkx
            go_upto_region 8 with (at_builtin; refine wpList_append_own _ rfl _ _ 28 rfl w.heap.size 3 i0 _ 1 8 Try.underlying28 hi hz0 hz1 hz2 rfl (by decide) _ o.length (ncells o) rfl (HO.out.alloc _) ⟨wr.heap.size, 0, none⟩ 1 1 [.int .i64 kI] rfl rfl (World.news_of_block (new_block wr _)) (fun u hu => by rcases List.mem_singleton.1 hu with rfl; rfl) (by have := HOL.out;  unfold maxLen; omega) (by have := HOL.out;  omega) (by have := HX.out.size;  simp; omega) ?_; intro v5 w5 hown' hg5 hnil5)
            have HO5 : Hid (w5.ownsRow w.heap.size 3 1 v5 (o ++ [k]).length (ncells (o ++ [k]))) := Lib.hid (by
              rw [ncells_append, List.length_append]
              have e : ncells [k] = [.int .i64 kI] := by simp [ncells, ncell, HKI.out]
              rw [e]; exact hown')
            have HX5 : Hid (Below w.heap.size w w5) := Lib.hid ((HX.out.alloc HX.out.size _).grown hg5 (by have := HX.out.size; simp; omega) (fun j hj => (HO.out.lt j hj).1))
            clear hown' hg5 hnil5
            have c1 : w5.cell? ⟨b, off + j, none⟩ = some (.int .i64 xI) := by
              obtain ⟨b', o', y, e1, e2, e3⟩ := ncell_get (HR.out.below HX5.out) hlt
              injection e1 with e1
              injection e1 with e1 e4
              subst e1; subst e4
              rw [HXY.out] at e2
              injection e2 with e2
              rw [e3, ← e2, HXI.out]
            go_wp2_with fail
            go_roundw
            case rel => exact ⟨j + 1, (o ++ [k]), true, by omega, by go_num, rfl, HN, HO5, HX5⟩
            case measure => simp [intOf]; omega
          · have he' : (xI != kI) = true := by simp only [bne_iff_ne, ne_eq]; omega
            have hkx2 : k < x := by omega
            have HN : Hid ((true = false → o ++ [k] ++ [x] = K.take (j + 1) ∧ ∀ x ∈ K.take (j + 1), x < k) ∧ (true = true → o ++ [k] ++ [x] = ins k (K.take (j + 1)) ∧ ∀ i x, j + 1 ≤ i → K[i]? = some x → k ≤ x)) := Lib.hid ⟨fun h => (by cases h), fun _ => ⟨by rw [HTK.out, ins_snoc hkx2, HIN.out], HUK.out⟩⟩
            clear hx hxI hkI he hol hkx hkx2
            go_upto_region 8 with (at_builtin; refine wpList_append_own _ rfl _ _ 28 rfl w.heap.size 3 i0 _ 1 8 Try.underlying28 hi hz0 hz1 hz2 rfl (by decide) _ o.length (ncells o) rfl (HO.out.alloc _) ⟨wr.heap.size, 0, none⟩ 1 1 [.int .i64 kI] rfl rfl (World.news_of_block (new_block wr _)) (fun u hu => by rcases List.mem_singleton.1 hu with rfl; rfl) (by have := HOL.out;  unfold maxLen; omega) (by have := HOL.out;  omega) (by have := HX.out.size;  simp; omega) ?_; intro v5 w5 hown' hg5 hnil5)
            have HO5 : Hid (w5.ownsRow w.heap.size 3 1 v5 (o ++ [k]).length (ncells (o ++ [k]))) := Lib.hid (by
              rw [ncells_append, List.length_append]
              have e : ncells [k] = [.int .i64 kI] := by simp [ncells, ncell, HKI.out]
              rw [e]; exact hown')
            have HX5 : Hid (Below w.heap.size w w5) := Lib.hid ((HX.out.alloc HX.out.size _).grown hg5 (by have := HX.out.size; simp; omega) (fun j hj => (HO.out.lt j hj).1))
            clear hown' hg5 hnil5
            have c1 : w5.cell? ⟨b, off + j, none⟩ = some (.int .i64 xI) := by
              obtain ⟨b', o', y, e1, e2, e3⟩ := ncell_get (HR.out.below HX5.out) hlt
              injection e1 with e1
              injection e1 with e1 e4
              subst e1; subst e4
              rw [HXY.out] at e2
              injection e2 with e2
              rw [e3, ← e2, HXI.out]
            have HOL5 : Hid ((o ++ [k]).length + 1 ≤ 1000003) := Lib.hid (by rw [List.length_append]; exact HOL.out)
            go_wp2_with (at_builtin; refine wpList_append_own _ rfl _ _ 28 rfl w.heap.size 3 i0 _ 1 8 Try.underlying28 hi hz0 hz1 hz2 rfl (by decide) _ (o ++ [k]).length (ncells (o ++ [k])) rfl (HO5.out.alloc _) ⟨w5.heap.size, 0, none⟩ 1 1 [.int .i64 xI] rfl rfl (World.news_of_block (new_block w5 _)) (fun u hu => by rcases List.mem_singleton.1 hu with rfl; rfl) (by have := HOL.out; have := HOL5.out; have := HX5.out.size; unfold maxLen; omega) (by have := HOL.out; have := HOL5.out; have := HX5.out.size; omega) (by have := HX.out.size; have := HOL5.out; have := HX5.out.size; simp; omega) ?_; intro v6 w6 hown' hg5 hnil5)
            have HO6 : Hid (w6.ownsRow w.heap.size 3 1 v6 (o ++ [k] ++ [x]).length (ncells (o ++ [k] ++ [x]))) := Lib.hid (by
              rw [ncells_append, List.length_append]
              have e : ncells [x] = [.int .i64 xI] := by simp [ncells, ncell, HXI.out]
              rw [e]; exact hown')
            have HX6 : Hid (Below w.heap.size w w6) := Lib.hid ((HX5.out.alloc HX5.out.size _).grown hg5 (by have := HX5.out.size; simp; omega) (fun j hj => (HO5.out.lt j hj).1))
            clear hown' hg5 hnil5
            go_roundw
            case rel => exact ⟨j + 1, (o ++ [k] ++ [x]), true, by omega, by go_num, rfl, HN, HO6, HX6⟩
            case measure => simp [intOf]; omega
        · have hkx' : decide (kI ≤ xI) = false := by simp only [decide_eq_false_iff_not]; omega
          have he' : (xI != kI) = true := by simp only [bne_iff_ne, ne_eq]; omega
          have HN : Hid ((false = false → o ++ [x] = K.take (j + 1) ∧ ∀ x ∈ K.take (j + 1), x < k) ∧ (false = true → o ++ [x] = ins k (K.take (j + 1)) ∧ ∀ i x, j + 1 ≤ i → K[i]? = some x → k ≤ x)) := Lib.hid ⟨fun _ => ⟨by rw [HTK.out, ← HFF.out.1], fun y hy => by
            rw [HTK.out, List.mem_append, List.mem_singleton] at hy
            rcases hy with hy | hy
            · exact HFF.out.2 y hy
            · omega⟩, fun h => (by cases h)⟩
          clear hx hxI hkI hol hkx
          go_wp2_with (at_builtin; refine wpList_append_own _ rfl _ _ 28 rfl w.heap.size 3 i0 _ 1 8 Try.underlying28 hi hz0 hz1 hz2 rfl (by decide) _ o.length (ncells o) rfl (HO.out.alloc _) ⟨wr.heap.size, 0, none⟩ 1 1 [.int .i64 xI] rfl rfl (World.news_of_block (new_block wr _)) (fun u hu => by rcases List.mem_singleton.1 hu with rfl; rfl) (by have := HOL.out;  unfold maxLen; omega) (by have := HOL.out;  omega) (by have := HX.out.size;  simp; omega) ?_; intro v5 w5 hown' hg5 hnil5)
          have HO5 : Hid (w5.ownsRow w.heap.size 3 1 v5 (o ++ [x]).length (ncells (o ++ [x]))) := Lib.hid (by
            rw [ncells_append, List.length_append]
            have e : ncells [x] = [.int .i64 xI] := by simp [ncells, ncell, HXI.out]
            rw [e]; exact hown')
          have HX5 : Hid (Below w.heap.size w w5) := Lib.hid ((HX.out.alloc HX.out.size _).grown hg5 (by have := HX.out.size; simp; omega) (fun j hj => (HO.out.lt j hj).1))
          clear hown' hg5 hnil5
          go_roundw
          case rel => exact ⟨j + 1, (o ++ [x]), false, by omega, by go_num, rfl, HN, HO5, HX5⟩
          case measure => simp [intOf]; omega
    · obtain rfl : j = m := by omega
      have hki : ¬ (j : Int) < (j : Int) := by omega
      have htk : K.take j = K := List.take_of_length_le (by rw [HL.out]; exact Nat.le_refl _)
      obtain ⟨kI, hkI⟩ : ∃ z : Int, (k : Int) = z := ⟨_, rfl⟩
      cases f with
      | true =>
        have HE : Hid (NuPost w (ins k K) (.returned u5) wr) := Lib.hid (by
          have h := HO.out
          rw [(HF.out.2 rfl).1, htk] at h
          exact ⟨_, rfl, h, HX.out⟩)
        clear htk hkI
        go_wp2_with fail
        go_ret
        exact HE.out
      | false =>
        have HOE : Hid (o = K ∧ ins k K = K ++ [k]) := Lib.hid ⟨by rw [(HF.out.1 rfl).1, htk], ins_end (by have := (HF.out.1 rfl).2; rwa [htk] at this)⟩
        have HOL : Hid (o.length + 1 ≤ 1000003) := Lib.hid (by rw [HOE.out.1, HL.out]; omega)
        have HKK := Lib.hid hkI
        rw [hkI]
        clear htk hkI
        go_wp2_with (at_builtin; refine wpList_append_own _ rfl _ _ 28 rfl w.heap.size 3 i0 _ 1 8 Try.underlying28 hi hz0 hz1 hz2 rfl (by decide) _ o.length (ncells o) rfl (HO.out.alloc _) ⟨wr.heap.size, 0, none⟩ 1 1 [.int .i64 kI] rfl rfl (World.news_of_block (new_block wr _)) (fun u hu => by rcases List.mem_singleton.1 hu with rfl; rfl) (by have := HOL.out; unfold maxLen; omega) (by have := HOL.out; omega) (by have := HX.out.size; simp; omega) ?_; intro v' w5 hown' hg5 hnil5)
        have HE : Hid (NuPost w (ins k K) (.returned v') w5) := Lib.hid (by
          have e1 := HOE.out.1
          subst e1
          rw [HOE.out.2]
          refine ⟨v', rfl, ?_, (HX.out.alloc HX.out.size _).grown hg5 (by have := HX.out.size; simp; omega) (fun j hj => (HO.out.lt j hj).1)⟩
          rw [ncells_append, List.length_append]
          have e : ncells [k] = [.int .i64 kI] := by simp [ncells, ncell, HKK.out]
          rw [e]; exact hown')
        clear hown' hg5 hnil5
        go_wp2_with fail
        go_ret
        exact HE.out
end Go.Proofs.Ytoallenigfbkpaa
