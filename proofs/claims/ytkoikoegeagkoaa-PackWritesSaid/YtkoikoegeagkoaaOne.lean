/-
  What the document's own function for one field's bytes returns: the bytes, or what is amiss. No condition.
-/
import Derived.Test.YtkoikoegeagkoaaEnc
import Derived.Test.YtkoikoegeagkoaaKinds
namespace Go.Proofs.Ytkoikoegeagkoaa
open Go.ChangeShapes Go.WideShapes Go.ChangeAt Go.RowKit

def oneB (f : Fld) : List Int := if ams f = 0 then byts f else []
def OnePost (w : World) (f : Fld) (e : Ending) (w' : World) : Prop :=
  ∃ (A : Option Addr) (n c : Nat), e = .returned (.tuple #[.slice A n c, .int .i64 (ams f)]) ∧ n = (oneB f).length ∧ Reads .u8 w' A n (oneB f) ∧ n ≤ c ∧ c ≤ maxLen ∧ Below w.heap.size w w'
theorem one_bad {w w' : World} {f : Fld} {a : Int} (h : ams f = a) (ha : a ≠ 0) (hb : Below w.heap.size w w') : OnePost w f (.returned (.tuple #[.slice none 0 0, .int .i64 a])) w' := by
  have e : oneB f = [] := by unfold oneB; rw [if_neg (by rw [h]; exact ha)]
  refine ⟨none, 0, 0, by rw [h], by rw [e]; rfl, ?_, by omega, by unfold maxLen; omega, hb⟩
  rw [e]; exact ⟨rfl, fun h => absurd h (by omega)⟩
theorem one_good {w w' : World} {f : Fld} {v : Value} {n : Nat} {zs : List Int} (h : ams f = 0) (hz : zs = byts f) (ho : w'.ownsRow w.heap.size 5 1 v n (zs.map (Value.int .u8))) (hb : Below w.heap.size w w') : OnePost w f (.returned (.tuple #[v, .int .i64 0])) w' := by
  have e : oneB f = byts f := by unfold oneB; rw [if_pos h]
  subst hz
  have hl : n = (byts f).length := by have := ho.1; rw [List.length_map] at this; omega
  obtain ⟨A, c, rfl, h1, h2, h3⟩ := own_reads ho
  exact ⟨A, n, c, by rw [h], by rw [e]; exact hl, by rw [e]; exact h1, h2, h3, hb⟩
theorem box_below (w : World) (o : Obj) : Below w.heap.size w (w.alloc o) := (Below.refl _ _).alloc (Nat.le_refl _) _
theorem boxbox_below (w : World) (o p : Obj) : Below w.heap.size w ((w.alloc o).alloc p) := (box_below w o).alloc (by simp) p
theorem not_empty {s : ByteArray} (hs : s.size ≠ 0) : s.toList.isEmpty = false := by
  rw [ByteArray.toList_eq]
  have : 0 < s.data.toList.length := by show 0 < s.size; omega
  cases hh : s.data.toList with
  | nil => rw [hh] at this; simp at this
  | cons a l => rfl
theorem one_three_n (n : Int) (s : ByteArray) (w : World) (hn : n ≠ 0) :
    Calls Try.prog 21 #[.agg #[.int .i64 3, .int .i64 n, .string s]] w (OnePost w ⟨3, n, s⟩) := by
  have HA : Hid (ams ⟨3, n, s⟩ = 21) := Lib.hid (by unfold ams grt; simp; omega)
  have h1 : (n != 0) = true := by simpa using hn
  clear hn
  go_enter Try.func21, Try.ntmps21
  go_wp2
  go_ret2
  exact one_bad HA.out (by decide) (box_below _ _)
theorem one_three_long (s : ByteArray) (w : World) (hs : 1024 < s.size) :
    Calls Try.prog 21 #[.agg #[.int .i64 3, .int .i64 0, .string s]] w (OnePost w ⟨3, 0, s⟩) := by
  have HA : Hid (ams ⟨3, 0, s⟩ = 22) := Lib.hid (by unfold ams grt; simp; omega)
  have h1 : (1024 : Int) < (s.size : Int) := by omega
  go_enter Try.func21, Try.ntmps21
  go_wp2
  go_ret2
  exact one_bad HA.out (by decide) (box_below _ _)
theorem one_three_end {w w1 : World} {s : ByteArray} {v1 : Value} {o p : Obj} (hs : s.size ≤ 1024) (h1 : w1.ownsRow w.heap.size 5 1 v1 (2 + s.size) ([.int .u8 ((s.size : Int) / 256), .int .u8 ((s.size : Int) % 256)] ++ Lib.strCells s))
    (h2 : ((w.alloc o).alloc p).grownBy w1 (Value.ownBlock (.slice (some ⟨w.heap.size + 1, 0, none⟩) 2 2))) : w1.ownsRow w.heap.size 5 1 v1 (2 + s.size) ((byts ⟨3, 0, s⟩).map (Value.int .u8)) ∧ Below w.heap.size w w1 := by
  refine ⟨?_, (boxbox_below w o p).grown h2 (by simp; omega) (fun k hk => by simp [Value.ownBlock] at hk; omega)⟩
  have e : byts ⟨3, 0, s⟩ = (s.size : Int) / 256 % 256 :: (s.size : Int) % 256 :: sb s := rfl
  have e2 : (s.size : Int) / 256 % 256 = (s.size : Int) / 256 := by omega
  rw [strCells_sb] at h1
  rw [e, e2]
  exact h1
theorem one_three (s : ByteArray) (w : World) (hs : s.size ≤ 1024) :
    Calls Try.prog 21 #[.agg #[.int .i64 3, .int .i64 0, .string s]] w (OnePost w ⟨3, 0, s⟩) := by
  have HA : Hid (ams ⟨3, 0, s⟩ = 0) := Lib.hid (by unfold ams grt; simp; omega)
  have h1 : ¬ (1024 : Int) < (s.size : Int) := by omega
  have h2 : (s.size : Int) ≤ 1024 := by omega
  have h3 : (0 : Int) ≤ (s.size : Int) := by omega
  obtain ⟨i0, hi, hz0, hz1, hz2⟩ := info_parts info5
  have HO : Hid (((w.alloc (.cells #[.int .i64 3, .int .i64 0, .string s] 40)).alloc (.cells #[.int .u8 ((s.size : Int) / 256), .int .u8 ((s.size : Int) % 256)] 5)).ownsRow w.heap.size 5 1 (.slice (some ⟨w.heap.size + 1, 0, none⟩) 2 2) 2 [.int .u8 ((s.size : Int) / 256), .int .u8 ((s.size : Int) % 256)]) := Lib.hid (by
    have h := World.ownsRow_lit (base := w.heap.size) (e := 5) (size := 1) (w.alloc (.cells #[.int .i64 3, .int .i64 0, .string s] 40)) #[.int .u8 ((s.size : Int) / 256), .int .u8 ((s.size : Int) % 256)] 2 (by simp) (by unfold maxLen; omega) rfl
    rw [show (w.alloc (.cells #[.int .i64 3, .int .i64 0, .string s] 40)).heap.size = w.heap.size + 1 by simp] at h
    exact h)
  have h63 : 2 + s.size ≤ maxLen := by unfold maxLen; omega
  have h47 : 2 + s.size ≤ 140737488355328 := by omega
  have hsz : w.heap.size ≤ ((w.alloc (.cells #[.int .i64 3, .int .i64 0, .string s] 40)).alloc (.cells #[.int .u8 ((s.size : Int) / 256), .int .u8 ((s.size : Int) % 256)] 5)).heap.size := by simp; omega
  go_enter Try.func21, Try.ntmps21
  go_wp2_with (at_builtin; refine Lib.wpList_append_own_string _ rfl (.tmp 27) (.tmp 29) 24 9 rfl w.heap.size 5 i0 Try.underlying24 Try.underlying9 hi hz0 hz1 hz2 (.slice (some ⟨w.heap.size + 1, 0, none⟩) 2 2) 2 [.int .u8 ((s.size : Int) / 256), .int .u8 ((s.size : Int) % 256)] rfl HO.out s rfl h63 h47 hsz ?_; intro v1 w1 h1 h2 _; have HX := Lib.hid (one_three_end hs h1 h2); clear h1 h2)
  go_ret2
  exact one_good HA.out rfl HX.out.1 HX.out.2
theorem one_str (k n : Int) (s : ByteArray) (w : World) (hk : k ≠ 3) (hs : s.size ≠ 0) :
    Calls Try.prog 21 #[.agg #[.int .i64 k, .int .i64 n, .string s]] w (OnePost w ⟨k, n, s⟩) := by
  have HA : Hid (ams ⟨k, n, s⟩ = 21) := Lib.hid (by unfold ams; rw [if_pos (.inr (.inr ⟨hs, hk⟩))])
  have h1 : (k == 3) = false := by simpa using hk
  have h2 := not_empty hs
  clear hk hs
  go_enter Try.func21, Try.ntmps21
  go_wp2
  go_ret2
  exact one_bad HA.out (by decide) (box_below _ _)
theorem one_neg (k n : Int) (w : World) (hk : k ≠ 3) (hn : n < 0) :
    Calls Try.prog 21 #[.agg #[.int .i64 k, .int .i64 n, .string ⟨#[]⟩]] w (OnePost w ⟨k, n, ⟨#[]⟩⟩) := by
  have HA : Hid (ams ⟨k, n, ⟨#[]⟩⟩ = 21) := Lib.hid (by unfold ams; rw [if_pos (.inl hn)])
  have h1 : (k == 3) = false := by simpa using hk
  clear hk
  go_enter Try.func21, Try.ntmps21
  go_wp2
  go_ret2
  exact one_bad HA.out (by decide) (box_below _ _)
theorem one_no (k n : Int) (w : World) (h0 : 0 ≤ n) (hk : k ≠ 3) (hg : grt k < n) (h1 : k = 1 → ¬ n ≤ 255) (h4 : k = 4 → ¬ n ≤ 1) (h2 : k = 2 → ¬ n ≤ 4611686018427387904) :
    Calls Try.prog 21 #[.agg #[.int .i64 k, .int .i64 n, .string ⟨#[]⟩]] w (OnePost w ⟨k, n, ⟨#[]⟩⟩) := by
  have HA : Hid (ams ⟨k, n, ⟨#[]⟩⟩ = 21) := Lib.hid (by unfold ams; rw [if_pos (.inr (.inl hg))])
  have hn0 : ¬ n < 0 := by omega
  by_cases k1 : k = 1
  · subst k1
    have h1' := h1 rfl
    clear h1 h2 h4 hg hk
    go_enter Try.func21, Try.ntmps21
    go_wp2
    go_ret2
    exact one_bad HA.out (by decide) (box_below _ _)
  by_cases k4 : k = 4
  · subst k4
    have h1' := h4 rfl
    clear h1 h2 h4 hg hk
    go_enter Try.func21, Try.ntmps21
    go_wp2
    go_ret2
    exact one_bad HA.out (by decide) (box_below _ _)
  by_cases k2 : k = 2
  · subst k2
    have h1' := h2 rfl
    clear h1 h2 h4 hg hk
    go_enter Try.func21, Try.ntmps21
    go_wp2
    go_ret2
    exact one_bad HA.out (by decide) (box_below _ _)
  · have t1 : (k == 1) = false := by simpa using k1
    have t2 : (k == 2) = false := by simpa using k2
    have t3 : (k == 3) = false := by simpa using hk
    have t4 : (k == 4) = false := by simpa using k4
    clear h1 h2 h4 hg hk k1 k2 k4
    go_enter Try.func21, Try.ntmps21
    go_wp2
    go_ret2
    exact one_bad HA.out (by decide) (box_below _ _)
theorem one_byte (k n : Int) (w : World) (h : ams ⟨k, n, ⟨#[]⟩⟩ = 0) (h1 : byts ⟨k, n, ⟨#[]⟩⟩ = [n]) (o : Obj) (g : Nat) (hg : g = w.heap.size + 1) :
    OnePost w ⟨k, n, ⟨#[]⟩⟩ (.returned (.tuple #[.slice (some ⟨g, 0, none⟩) 1 1, .int .i64 0])) ((w.alloc o).alloc (.cells #[.int .u8 n] 5)) := by
  subst hg
  refine one_good (n := 1) h h1.symm ?_ (boxbox_below w o _)
  have h := World.ownsRow_lit (base := w.heap.size) (e := 5) (size := 1) (w.alloc o) #[.int .u8 n] 1 (by simp) (by unfold maxLen; omega) rfl
  rw [show (w.alloc o).heap.size = w.heap.size + 1 by simp] at h
  exact h
theorem one_small (n : Int) (w : World) (h0 : 0 ≤ n) (h1 : n ≤ 255) :
    Calls Try.prog 21 #[.agg #[.int .i64 1, .int .i64 n, .string ⟨#[]⟩]] w (OnePost w ⟨1, n, ⟨#[]⟩⟩) := by
  have HA : Hid (ams ⟨1, n, ⟨#[]⟩⟩ = 0) := Lib.hid (by unfold ams grt; simp [size_empty]; omega)
  have HB : Hid (byts ⟨1, n, ⟨#[]⟩⟩ = [n]) := Lib.hid (by unfold byts; simp; omega)
  have hn0 : ¬ n < 0 := by omega
  go_enter Try.func21, Try.ntmps21
  go_wp2
  go_ret2
  exact one_byte 1 n w HA.out HB.out _ _ rfl
theorem one_switch (n : Int) (w : World) (h0 : 0 ≤ n) (h1 : n ≤ 1) :
    Calls Try.prog 21 #[.agg #[.int .i64 4, .int .i64 n, .string ⟨#[]⟩]] w (OnePost w ⟨4, n, ⟨#[]⟩⟩) := by
  have HA : Hid (ams ⟨4, n, ⟨#[]⟩⟩ = 0) := Lib.hid (by unfold ams grt; simp [size_empty]; omega)
  have HB : Hid (byts ⟨4, n, ⟨#[]⟩⟩ = [n]) := Lib.hid (by unfold byts; simp; omega)
  have hn0 : ¬ n < 0 := by omega
  go_enter Try.func21, Try.ntmps21
  go_wp2
  go_ret2
  exact one_byte 4 n w HA.out HB.out _ _ rfl
/-- What the loop keeps: of eight bytes the last ones are laid. -/
def ORel (w : World) (n : Int) (vn vi : Value) (wr : World) : Prop :=
  ∃ (r : Nat) (m : Int) (ys : List Int), r ≤ 8 ∧ vi = .int .i64 ((r : Int) - 1) ∧ vn = .int .i64 m ∧ 0 ≤ m ∧ m ≤ big ∧ m = n / 256 ^ (8 - r) ∧
    wr.ownsRow w.heap.size 5 1 (.slice (some ⟨w.heap.size + 1, 0, none⟩) 8 8) 8 (ys.map (Value.int .u8)) ∧ (∀ i, r ≤ i → i < 8 → ys.getD i 0 = (be8 n).getD i 0) ∧ Below w.heap.size w wr
theorem be8_at (n : Int) (q : Nat) (hq : q < 8) : (be8 n).getD q 0 = n / 256 ^ (8 - (q + 1)) % 256 := by
  match q, hq with
  | 0, _ | 1, _ | 2, _ | 3, _ | 4, _ | 5, _ | 6, _ | 7, _ => simp [be8]
theorem dig_next (n : Int) (q : Nat) (hq : q < 8) : n / 256 ^ (8 - (q + 1)) / 256 = n / 256 ^ (8 - q) := by
  have e : 8 - q = 8 - (q + 1) + 1 := by omega
  rw [e, Int.pow_succ, Int.ediv_ediv_of_nonneg (Int.le_of_lt (Int.pow_pos (by decide)))]
theorem one_round {w wr : World} {n m : Int} {q : Nat} {ys : List Int} (hq : q < 8) (h0 : 0 ≤ m) (h1 : m ≤ big) (hm : m = n / 256 ^ (8 - (q + 1))) (ho : wr.ownsRow w.heap.size 5 1 (.slice (some ⟨w.heap.size + 1, 0, none⟩) 8 8) 8 (ys.map (Value.int .u8)))
    (hy : ∀ i, q + 1 ≤ i → i < 8 → ys.getD i 0 = (be8 n).getD i 0) (hb : Below w.heap.size w wr) : ORel w n (.int .i64 (m / 256)) (.int .i64 ((q : Int) - 1)) (wr.setCell ⟨w.heap.size + 1, q, none⟩ (.int .u8 (m % 256))) := by
  have hl : ys.length = 8 := by have := ho.1; rw [List.length_map] at this; omega
  unfold big at h1
  refine ⟨q, m / 256, ys.set q (m % 256), by omega, rfl, rfl, by omega, by unfold big; omega, by rw [hm, dig_next n q hq], ?_, fun i hi hi8 => ?_, hb.setCell (p := ⟨w.heap.size + 1, q, none⟩) (by simp) _⟩
  · have h := (ho.stored q (.int .u8 (m % 256))).1
    rw [List.map_set]
    exact h
  · rw [List.getD_eq_getElem?_getD, List.getElem?_set]
    by_cases hqi : q = i
    · rw [if_pos hqi, if_pos (by omega)]
      subst hqi
      rw [be8_at n q hq, ← hm]; rfl
    · rw [if_neg hqi, ← List.getD_eq_getElem?_getD]; exact hy i (by omega) hi8
set_option maxHeartbeats 1000000 in
theorem one_whole (n : Int) (w : World) (h0 : 0 ≤ n) (h1 : n ≤ 4611686018427387904) :
    Calls Try.prog 21 #[.agg #[.int .i64 2, .int .i64 n, .string ⟨#[]⟩]] w (OnePost w ⟨2, n, ⟨#[]⟩⟩) := by
  have HA : Hid (ams ⟨2, n, ⟨#[]⟩⟩ = 0) := Lib.hid (by unfold ams grt big; simp [size_empty]; omega)
  have hn0 : ¬ n < 0 := by omega
  obtain ⟨i0, hi, hz0, hz1, hz2⟩ := info_parts info5
  have hmk : ∀ w : World, (Instr.makeSlice 24 (.int .i64 8) (.int .i64 8)).run Try.prog w = .ok (.slice (some ⟨w.heap.size, 0, none⟩) 8 8) (w.alloc (.cells #[.int .u8 0, .int .u8 0, .int .u8 0, .int .u8 0, .int .u8 0, .int .u8 0, .int .u8 0, .int .u8 0] 5)) := fun w => by
    have h := run_make (w := w) (P := Try.prog) 24 5 i0 (.int .u8 0) Try.underlying24 hi hz0 .i64 .i64 8 8 (by decide) (by decide) (by rw [hz2]; decide) (by decide)
    have e : madeCells (Value.int .u8 0).cells ((8 : Int).toNat * i0.size) = #[.int .u8 0, .int .u8 0, .int .u8 0, .int .u8 0, .int .u8 0, .int .u8 0, .int .u8 0, .int .u8 0] := by
      rw [hz1]; kernel_rfl
    rw [e] at h
    exact h
  have HO : Hid (((w.alloc (.cells #[.int .i64 2, .int .i64 n, .string ⟨#[]⟩] 40)).alloc (.cells #[.int .u8 0, .int .u8 0, .int .u8 0, .int .u8 0, .int .u8 0, .int .u8 0, .int .u8 0, .int .u8 0] 5)).ownsRow w.heap.size 5 1 (.slice (some ⟨w.heap.size + 1, 0, none⟩) 8 8) 8 ((List.replicate 8 (0 : Int)).map (Value.int .u8))) := Lib.hid (by
    have h := World.ownsRow_lit (base := w.heap.size) (e := 5) (size := 1) (w.alloc (.cells #[.int .i64 2, .int .i64 n, .string ⟨#[]⟩] 40)) #[.int .u8 0, .int .u8 0, .int .u8 0, .int .u8 0, .int .u8 0, .int .u8 0, .int .u8 0, .int .u8 0] 8 (by simp) (by unfold maxLen; omega) rfl
    rw [show (w.alloc (.cells #[.int .i64 2, .int .i64 n, .string ⟨#[]⟩] 40)).heap.size = w.heap.size + 1 by simp] at h
    exact h)
  go_enter Try.func21, Try.ntmps21
  go_wp2
  go_loopw [5, 6] (fun vn vi wr => ORel w n vn vi wr) (fun _ i _ => (intOf i + 1).toNat)
  case atStart => exact ⟨8, n, List.replicate 8 0, by omega, rfl, rfl, h0, h1, by simp, HO.out, fun i hi hi8 => by omega, boxbox_below _ _ _⟩
  case round =>
    obtain ⟨r, m, ys, hr, rfl, rfl, hm0, hm1, hm, hown, hy, hb⟩ := hrel
    unfold big at hm1
    have HM := Lib.hid hm
    have HO2 := Lib.hid hown
    have HY := Lib.hid hy
    have HB := Lib.hid hb
    clear hm hown hy hb
    cases r with
    | zero =>
      go_wp2
      go_ret2
      have hl : ys.length = 8 := by have := HO2.out.1; rw [List.length_map] at this; omega
      exact one_good HA.out (ext_getD (ys := byts ⟨2, n, ⟨#[]⟩⟩) (by rw [hl]; rfl) (fun j hj => HY.out j (by omega) (by omega))) HO2.out HB.out
    | succ q =>
      have e1 : ((q + 1 : Nat) : Int) - 1 = (q : Int) := by omega
      rw [e1]
      have gx : wr.cell? ⟨w.heap.size + 1, q, none⟩ = some (.int .u8 (ys.getD q 0)) := by
        have : q < ys.length := by have := HO2.out.1; rw [List.length_map] at this; omega
        rw [HO2.out.cellAt q (by omega), List.getElem?_map, List.getD_eq_getElem?_getD, List.getElem?_eq_getElem this]
        rfl
      have gf : wr.frozen? ⟨w.heap.size + 1, q, none⟩ = false := HO2.out.frozenAt q
      clear e1
      go_wp2
      go_roundw
      case rel => exact one_round (by omega) hm0 hm1 HM.out HO2.out HY.out HB.out
      case measure => simp [intOf]
theorem one_any (f : Fld) (w : World) : Calls Try.prog 21 #[.agg #[.int .i64 f.k, .int .i64 f.n, .string f.s]] w (OnePost w f) := by
  obtain ⟨k, n, s⟩ := f
  by_cases h3 : k = 3
  · subst h3
    by_cases hn : n = 0
    · subst hn
      by_cases hs : 1024 < s.size
      · exact one_three_long s w hs
      · exact one_three s w (by omega)
    · exact one_three_n n s w hn
  by_cases hs : s.size = 0
  · have e := size_zero hs
    subst e
    by_cases hn : n < 0
    · exact one_neg k n w h3 hn
    by_cases a1 : k = 1 ∧ n ≤ 255
    · obtain ⟨rfl, h⟩ := a1
      exact one_small n w (by omega) h
    by_cases a2 : k = 2 ∧ n ≤ 4611686018427387904
    · obtain ⟨rfl, h⟩ := a2
      exact one_whole n w (by omega) h
    by_cases a4 : k = 4 ∧ n ≤ 1
    · obtain ⟨rfl, h⟩ := a4
      exact one_switch n w (by omega) h
    refine one_no k n w (by omega) h3 ?_ (fun h => by omega) (fun h => by omega) (fun h => by omega)
    unfold grt big
    split
    · omega
    · split
      · omega
      · split <;> omega
  · exact one_str k n s w h3 hs
end Go.Proofs.Ytkoikoegeagkoaa
