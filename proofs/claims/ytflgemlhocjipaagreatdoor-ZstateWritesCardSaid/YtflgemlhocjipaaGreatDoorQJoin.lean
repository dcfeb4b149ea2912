/-
  What the document's own function for one field's bytes returns: the bytes, or what is amiss. No condition.
  What the document's own Encode returns of a slice of fields: their bytes, or the error of the first field with which something is amiss. Condition: the slice holds no more than 2^32 fields.
  What pack.join and the document's own number return of a slice of bytes that reads: the number that they are, the highest first, as far as 64 bits go. No condition.
-/
import Derived.Test.YtflgemlhocjipaaGreatDoorQKinds
namespace Go.Proofs.YtflgemlhocjipaaGreatDoor.Pq
set_option maxRecDepth 100000
open Go.ChangeShapes Go.WideShapes Go.ChangeAt Go.RowKit

def oneB (f : Fld) : List Int := if ams f = 0 then byts f else []
def OnePost (w : World) (f : Fld) (e : Ending) (w' : World) : Prop :=
  ∃ (A : Option Addr) (n c : Nat), e = .returned (.tuple #[.slice A n c, .int .i64 (ams f)]) ∧ n = (oneB f).length ∧ Reads .u8 w' A n (oneB f) ∧ n ≤ c ∧ c ≤ maxLen ∧ Below w.heap.size w w'
theorem one_bad {w w' : World} {f : Fld} {a : Int} (h : ams f = a) (ha : a ≠ 0) (hb : Below w.heap.size w w') : OnePost w f (.returned (.tuple #[.slice none 0 0, .int .i64 a])) w' := by
  have e : oneB f = [] := by unfold oneB; rw [if_neg (by rw [h]; exact ha)]
  refine ⟨none, 0, 0, by rw [h], by rw [e]; rfl, ?_, by omega, by unfold maxLen; omega, hb⟩
  rw [e]; exact ⟨rfl, fun h => absurd h (by omega)⟩
theorem one_good {w w' : World} {f : Fld} {v : Value} {n : Nat} {zs : List Int} (h : ams f = 0) (hz : zs = byts f) (ho : w'.ownsRow w.heap.size 5 1 v n (zs.map (Value.int .u8))) (hb : Below w.heap.size w w') : OnePost w f (.returned (.tuple #[v, .int .i64 0])) w' := by
  have e : oneB f = byts f := by unfold oneB; rw [if_pos h]
  subst hz
  have hl : n = (byts f).length := by have := ho.1; rw [List.length_map] at this; omega
  obtain ⟨A, c, rfl, h1, h2, h3⟩ := own_reads ho
  exact ⟨A, n, c, by rw [h], by rw [e]; exact hl, by rw [e]; exact h1, h2, h3, hb⟩
theorem box_below (w : World) (o : Obj) : Below w.heap.size w (w.alloc o) := (Below.refl _ _).alloc (Nat.le_refl _) _
theorem boxbox_below (w : World) (o p : Obj) : Below w.heap.size w ((w.alloc o).alloc p) := (box_below w o).alloc (by simp) p
theorem not_empty {s : ByteArray} (hs : s.size ≠ 0) : s.toList.isEmpty = false := by
  rw [ByteArray.toList_eq]
  have : 0 < s.data.toList.length := by show 0 < s.size; omega
  cases hh : s.data.toList with
  | nil => rw [hh] at this; simp at this
  | cons a l => rfl
theorem one_three_n (n : Int) (s : ByteArray) (w : World) (hn : n ≠ 0) :
    Calls Tryz.prog 97 #[.agg #[.int .i64 3, .int .i64 n, .string s]] w (OnePost w ⟨3, n, s⟩) := by
  have HA : Hid (ams ⟨3, n, s⟩ = 21) := Lib.hid (by unfold ams grt; simp; omega)
  have h1 : (n != 0) = true := by simpa using hn
  clear hn
  go_enter Tryz.func97, Tryz.ntmps97
  go_wp2
  go_ret2
  exact one_bad HA.out (by decide) (box_below _ _)
theorem one_three_long (s : ByteArray) (w : World) (hs : 1024 < s.size) :
    Calls Tryz.prog 97 #[.agg #[.int .i64 3, .int .i64 0, .string s]] w (OnePost w ⟨3, 0, s⟩) := by
  have HA : Hid (ams ⟨3, 0, s⟩ = 22) := Lib.hid (by unfold ams grt; simp; omega)
  have h1 : (1024 : Int) < (s.size : Int) := by omega
  go_enter Tryz.func97, Tryz.ntmps97
  go_wp2
  go_ret2
  exact one_bad HA.out (by decide) (box_below _ _)
theorem one_three_end {w w1 : World} {s : ByteArray} {v1 : Value} {o p : Obj} (hs : s.size ≤ 1024) (h1 : w1.ownsRow w.heap.size 5 1 v1 (2 + s.size) ([.int .u8 ((s.size : Int) / 256), .int .u8 ((s.size : Int) % 256)] ++ Lib.strCells s))
    (h2 : ((w.alloc o).alloc p).grownBy w1 (Value.ownBlock (.slice (some ⟨w.heap.size + 1, 0, none⟩) 2 2))) : w1.ownsRow w.heap.size 5 1 v1 (2 + s.size) ((byts ⟨3, 0, s⟩).map (Value.int .u8)) ∧ Below w.heap.size w w1 := by
  refine ⟨?_, (boxbox_below w o p).grown h2 (by simp; omega) (fun k hk => by simp [Value.ownBlock] at hk; omega)⟩
  have e : byts ⟨3, 0, s⟩ = (s.size : Int) / 256 % 256 :: (s.size : Int) % 256 :: sb s := rfl
  have e2 : (s.size : Int) / 256 % 256 = (s.size : Int) / 256 := by omega
  rw [strCells_sb] at h1
  rw [e, e2]
  exact h1
theorem one_three (s : ByteArray) (w : World) (hs : s.size ≤ 1024) :
    Calls Tryz.prog 97 #[.agg #[.int .i64 3, .int .i64 0, .string s]] w (OnePost w ⟨3, 0, s⟩) := by
  have HA : Hid (ams ⟨3, 0, s⟩ = 0) := Lib.hid (by unfold ams grt; simp; omega)
  have h1 : ¬ (1024 : Int) < (s.size : Int) := by omega
  have h2 : (s.size : Int) ≤ 1024 := by omega
  have h3 : (0 : Int) ≤ (s.size : Int) := by omega
  obtain ⟨i0, hi, hz0, hz1, hz2⟩ := info_parts info5
  have HO : Hid (((w.alloc (.cells #[.int .i64 3, .int .i64 0, .string s] 112)).alloc (.cells #[.int .u8 ((s.size : Int) / 256), .int .u8 ((s.size : Int) % 256)] 5)).ownsRow w.heap.size 5 1 (.slice (some ⟨w.heap.size + 1, 0, none⟩) 2 2) 2 [.int .u8 ((s.size : Int) / 256), .int .u8 ((s.size : Int) % 256)]) := Lib.hid (by
    have h := World.ownsRow_lit (base := w.heap.size) (e := 5) (size := 1) (w.alloc (.cells #[.int .i64 3, .int .i64 0, .string s] 112)) #[.int .u8 ((s.size : Int) / 256), .int .u8 ((s.size : Int) % 256)] 2 (by simp) (by unfold maxLen; omega) rfl
    rw [show (w.alloc (.cells #[.int .i64 3, .int .i64 0, .string s] 112)).heap.size = w.heap.size + 1 by simp] at h
    exact h)
  have h63 : 2 + s.size ≤ maxLen := by unfold maxLen; omega
  have h47 : 2 + s.size ≤ 140737488355328 := by omega
  have hsz : w.heap.size ≤ ((w.alloc (.cells #[.int .i64 3, .int .i64 0, .string s] 112)).alloc (.cells #[.int .u8 ((s.size : Int) / 256), .int .u8 ((s.size : Int) % 256)] 5)).heap.size := by simp; omega
  go_enter Tryz.func97, Tryz.ntmps97
  go_wp2_with (at_builtin; refine Lib.wpList_append_own_string _ rfl (.tmp 27) (.tmp 29) 54 9 rfl w.heap.size 5 i0 Tryz.underlying54 Tryz.underlying9 hi hz0 hz1 hz2 (.slice (some ⟨w.heap.size + 1, 0, none⟩) 2 2) 2 [.int .u8 ((s.size : Int) / 256), .int .u8 ((s.size : Int) % 256)] rfl HO.out s rfl h63 h47 hsz ?_; intro v1 w1 h1 h2 _; have HX := Lib.hid (one_three_end hs h1 h2); clear h1 h2)
  go_ret2
  exact one_good HA.out rfl HX.out.1 HX.out.2
theorem one_str (k n : Int) (s : ByteArray) (w : World) (hk : k ≠ 3) (hs : s.size ≠ 0) :
    Calls Tryz.prog 97 #[.agg #[.int .i64 k, .int .i64 n, .string s]] w (OnePost w ⟨k, n, s⟩) := by
  have HA : Hid (ams ⟨k, n, s⟩ = 21) := Lib.hid (by unfold ams; rw [if_pos (.inr (.inr ⟨hs, hk⟩))])
  have h1 : (k == 3) = false := by simpa using hk
  have h2 := not_empty hs
  clear hk hs
  go_enter Tryz.func97, Tryz.ntmps97
  go_wp2
  go_ret2
  exact one_bad HA.out (by decide) (box_below _ _)
theorem one_neg (k n : Int) (w : World) (hk : k ≠ 3) (hn : n < 0) :
    Calls Tryz.prog 97 #[.agg #[.int .i64 k, .int .i64 n, .string ⟨#[]⟩]] w (OnePost w ⟨k, n, ⟨#[]⟩⟩) := by
  have HA : Hid (ams ⟨k, n, ⟨#[]⟩⟩ = 21) := Lib.hid (by unfold ams; rw [if_pos (.inl hn)])
  have h1 : (k == 3) = false := by simpa using hk
  clear hk
  go_enter Tryz.func97, Tryz.ntmps97
  go_wp2
  go_ret2
  exact one_bad HA.out (by decide) (box_below _ _)
theorem one_no (k n : Int) (w : World) (h0 : 0 ≤ n) (hk : k ≠ 3) (hg : grt k < n) (h1 : k = 1 → ¬ n ≤ 255) (h4 : k = 4 → ¬ n ≤ 1) (h2 : k = 2 → ¬ n ≤ 4611686018427387904) :
    Calls Tryz.prog 97 #[.agg #[.int .i64 k, .int .i64 n, .string ⟨#[]⟩]] w (OnePost w ⟨k, n, ⟨#[]⟩⟩) := by
  have HA : Hid (ams ⟨k, n, ⟨#[]⟩⟩ = 21) := Lib.hid (by unfold ams; rw [if_pos (.inr (.inl hg))])
  have hn0 : ¬ n < 0 := by omega
  by_cases k1 : k = 1
  · subst k1
    have h1' := h1 rfl
    clear h1 h2 h4 hg hk
    go_enter Tryz.func97, Tryz.ntmps97
    go_wp2
    go_ret2
    exact one_bad HA.out (by decide) (box_below _ _)
  by_cases k4 : k = 4
  · subst k4
    have h1' := h4 rfl
    clear h1 h2 h4 hg hk
    go_enter Tryz.func97, Tryz.ntmps97
    go_wp2
    go_ret2
    exact one_bad HA.out (by decide) (box_below _ _)
  by_cases k2 : k = 2
  · subst k2
    have h1' := h2 rfl
    clear h1 h2 h4 hg hk
    go_enter Tryz.func97, Tryz.ntmps97
    go_wp2
    go_ret2
    exact one_bad HA.out (by decide) (box_below _ _)
  · have t1 : (k == 1) = false := by simpa using k1
    have t2 : (k == 2) = false := by simpa using k2
    have t3 : (k == 3) = false := by simpa using hk
    have t4 : (k == 4) = false := by simpa using k4
    clear h1 h2 h4 hg hk k1 k2 k4
    go_enter Tryz.func97, Tryz.ntmps97
    go_wp2
    go_ret2
    exact one_bad HA.out (by decide) (box_below _ _)
theorem one_byte (k n : Int) (w : World) (h : ams ⟨k, n, ⟨#[]⟩⟩ = 0) (h1 : byts ⟨k, n, ⟨#[]⟩⟩ = [n]) (o : Obj) (g : Nat) (hg : g = w.heap.size + 1) :
    OnePost w ⟨k, n, ⟨#[]⟩⟩ (.returned (.tuple #[.slice (some ⟨g, 0, none⟩) 1 1, .int .i64 0])) ((w.alloc o).alloc (.cells #[.int .u8 n] 5)) := by
  subst hg
  refine one_good (n := 1) h h1.symm ?_ (boxbox_below w o _)
  have h := World.ownsRow_lit (base := w.heap.size) (e := 5) (size := 1) (w.alloc o) #[.int .u8 n] 1 (by simp) (by unfold maxLen; omega) rfl
  rw [show (w.alloc o).heap.size = w.heap.size + 1 by simp] at h
  exact h
theorem one_small (n : Int) (w : World) (h0 : 0 ≤ n) (h1 : n ≤ 255) :
    Calls Tryz.prog 97 #[.agg #[.int .i64 1, .int .i64 n, .string ⟨#[]⟩]] w (OnePost w ⟨1, n, ⟨#[]⟩⟩) := by
  have HA : Hid (ams ⟨1, n, ⟨#[]⟩⟩ = 0) := Lib.hid (by unfold ams grt; simp [size_empty]; omega)
  have HB : Hid (byts ⟨1, n, ⟨#[]⟩⟩ = [n]) := Lib.hid (by unfold byts; simp; omega)
  have hn0 : ¬ n < 0 := by omega
  go_enter Tryz.func97, Tryz.ntmps97
  go_wp2
  go_ret2
  exact one_byte 1 n w HA.out HB.out _ _ rfl
theorem one_switch (n : Int) (w : World) (h0 : 0 ≤ n) (h1 : n ≤ 1) :
    Calls Tryz.prog 97 #[.agg #[.int .i64 4, .int .i64 n, .string ⟨#[]⟩]] w (OnePost w ⟨4, n, ⟨#[]⟩⟩) := by
  have HA : Hid (ams ⟨4, n, ⟨#[]⟩⟩ = 0) := Lib.hid (by unfold ams grt; simp [size_empty]; omega)
  have HB : Hid (byts ⟨4, n, ⟨#[]⟩⟩ = [n]) := Lib.hid (by unfold byts; simp; omega)
  have hn0 : ¬ n < 0 := by omega
  go_enter Tryz.func97, Tryz.ntmps97
  go_wp2
  go_ret2
  exact one_byte 4 n w HA.out HB.out _ _ rfl
/-- What the loop keeps: of eight bytes the last ones are laid. -/
def ORel (w : World) (n : Int) (vn vi : Value) (wr : World) : Prop :=
  ∃ (r : Nat) (m : Int) (ys : List Int), r ≤ 8 ∧ vi = .int .i64 ((r : Int) - 1) ∧ vn = .int .i64 m ∧ 0 ≤ m ∧ m ≤ big ∧ m = n / 256 ^ (8 - r) ∧
    wr.ownsRow w.heap.size 5 1 (.slice (some ⟨w.heap.size + 1, 0, none⟩) 8 8) 8 (ys.map (Value.int .u8)) ∧ (∀ i, r ≤ i → i < 8 → ys.getD i 0 = (be8 n).getD i 0) ∧ Below w.heap.size w wr
theorem be8_at (n : Int) (q : Nat) (hq : q < 8) : (be8 n).getD q 0 = n / 256 ^ (8 - (q + 1)) % 256 := by
  match q, hq with
  | 0, _ | 1, _ | 2, _ | 3, _ | 4, _ | 5, _ | 6, _ | 7, _ => simp [be8]
theorem dig_next (n : Int) (q : Nat) (hq : q < 8) : n / 256 ^ (8 - (q + 1)) / 256 = n / 256 ^ (8 - q) := by
  have e : 8 - q = 8 - (q + 1) + 1 := by omega
  rw [e, Int.pow_succ, Int.ediv_ediv_of_nonneg (Int.le_of_lt (Int.pow_pos (by decide)))]
theorem one_round {w wr : World} {n m : Int} {q : Nat} {ys : List Int} (hq : q < 8) (h0 : 0 ≤ m) (h1 : m ≤ big) (hm : m = n / 256 ^ (8 - (q + 1))) (ho : wr.ownsRow w.heap.size 5 1 (.slice (some ⟨w.heap.size + 1, 0, none⟩) 8 8) 8 (ys.map (Value.int .u8)))
    (hy : ∀ i, q + 1 ≤ i → i < 8 → ys.getD i 0 = (be8 n).getD i 0) (hb : Below w.heap.size w wr) : ORel w n (.int .i64 (m / 256)) (.int .i64 ((q : Int) - 1)) (wr.setCell ⟨w.heap.size + 1, q, none⟩ (.int .u8 (m % 256))) := by
  have hl : ys.length = 8 := by have := ho.1; rw [List.length_map] at this; omega
  unfold big at h1
  refine ⟨q, m / 256, ys.set q (m % 256), by omega, rfl, rfl, by omega, by unfold big; omega, by rw [hm, dig_next n q hq], ?_, fun i hi hi8 => ?_, hb.setCell (p := ⟨w.heap.size + 1, q, none⟩) (by simp) _⟩
  · have h := (ho.stored q (.int .u8 (m % 256))).1
    rw [List.map_set]
    exact h
  · rw [List.getD_eq_getElem?_getD, List.getElem?_set]
    by_cases hqi : q = i
    · rw [if_pos hqi, if_pos (by omega)]
      subst hqi
      rw [be8_at n q hq, ← hm]; rfl
    · rw [if_neg hqi, ← List.getD_eq_getElem?_getD]; exact hy i (by omega) hi8
set_option maxHeartbeats 1000000 in
theorem one_whole (n : Int) (w : World) (h0 : 0 ≤ n) (h1 : n ≤ 4611686018427387904) :
    Calls Tryz.prog 97 #[.agg #[.int .i64 2, .int .i64 n, .string ⟨#[]⟩]] w (OnePost w ⟨2, n, ⟨#[]⟩⟩) := by
  have HA : Hid (ams ⟨2, n, ⟨#[]⟩⟩ = 0) := Lib.hid (by unfold ams grt big; simp [size_empty]; omega)
  have hn0 : ¬ n < 0 := by omega
  obtain ⟨i0, hi, hz0, hz1, hz2⟩ := info_parts info5
  have hmk : ∀ w : World, (Instr.makeSlice 54 (.int .i64 8) (.int .i64 8)).run Tryz.prog w = .ok (.slice (some ⟨w.heap.size, 0, none⟩) 8 8) (w.alloc (.cells #[.int .u8 0, .int .u8 0, .int .u8 0, .int .u8 0, .int .u8 0, .int .u8 0, .int .u8 0, .int .u8 0] 5)) := fun w => by
    have h := run_make (w := w) (P := Tryz.prog) 54 5 i0 (.int .u8 0) Tryz.underlying54 hi hz0 .i64 .i64 8 8 (by decide) (by decide) (by rw [hz2]; decide) (by decide)
    have e : madeCells (Value.int .u8 0).cells ((8 : Int).toNat * i0.size) = #[.int .u8 0, .int .u8 0, .int .u8 0, .int .u8 0, .int .u8 0, .int .u8 0, .int .u8 0, .int .u8 0] := by
      rw [hz1]; kernel_rfl
    rw [e] at h
    exact h
  have HO : Hid (((w.alloc (.cells #[.int .i64 2, .int .i64 n, .string ⟨#[]⟩] 112)).alloc (.cells #[.int .u8 0, .int .u8 0, .int .u8 0, .int .u8 0, .int .u8 0, .int .u8 0, .int .u8 0, .int .u8 0] 5)).ownsRow w.heap.size 5 1 (.slice (some ⟨w.heap.size + 1, 0, none⟩) 8 8) 8 ((List.replicate 8 (0 : Int)).map (Value.int .u8))) := Lib.hid (by
    have h := World.ownsRow_lit (base := w.heap.size) (e := 5) (size := 1) (w.alloc (.cells #[.int .i64 2, .int .i64 n, .string ⟨#[]⟩] 112)) #[.int .u8 0, .int .u8 0, .int .u8 0, .int .u8 0, .int .u8 0, .int .u8 0, .int .u8 0, .int .u8 0] 8 (by simp) (by unfold maxLen; omega) rfl
    rw [show (w.alloc (.cells #[.int .i64 2, .int .i64 n, .string ⟨#[]⟩] 112)).heap.size = w.heap.size + 1 by simp] at h
    exact h)
  go_enter Tryz.func97, Tryz.ntmps97
  go_wp2
  go_loopw [5, 6] (fun vn vi wr => ORel w n vn vi wr) (fun _ i _ => (intOf i + 1).toNat)
  case atStart => exact ⟨8, n, List.replicate 8 0, by omega, rfl, rfl, h0, h1, by simp, HO.out, fun i hi hi8 => by omega, boxbox_below _ _ _⟩
  case round =>
    obtain ⟨r, m, ys, hr, rfl, rfl, hm0, hm1, hm, hown, hy, hb⟩ := hrel
    unfold big at hm1
    have HM := Lib.hid hm
    have HO2 := Lib.hid hown
    have HY := Lib.hid hy
    have HB := Lib.hid hb
    clear hm hown hy hb
    cases r with
    | zero =>
      go_wp2
      go_ret2
      have hl : ys.length = 8 := by have := HO2.out.1; rw [List.length_map] at this; omega
      exact one_good HA.out (ext_getD (ys := byts ⟨2, n, ⟨#[]⟩⟩) (by rw [hl]; rfl) (fun j hj => HY.out j (by omega) (by omega))) HO2.out HB.out
    | succ q =>
      have e1 : ((q + 1 : Nat) : Int) - 1 = (q : Int) := by omega
      rw [e1]
      have gx : wr.cell? ⟨w.heap.size + 1, q, none⟩ = some (.int .u8 (ys.getD q 0)) := by
        have : q < ys.length := by have := HO2.out.1; rw [List.length_map] at this; omega
        rw [HO2.out.cellAt q (by omega), List.getElem?_map, List.getD_eq_getElem?_getD, List.getElem?_eq_getElem this]
        rfl
      have gf : wr.frozen? ⟨w.heap.size + 1, q, none⟩ = false := HO2.out.frozenAt q
      clear e1
      go_wp2
      go_roundw
      case rel => exact one_round (by omega) hm0 hm1 HM.out HO2.out HY.out HB.out
      case measure => simp [intOf]
theorem one_any (f : Fld) (w : World) : Calls Tryz.prog 97 #[.agg #[.int .i64 f.k, .int .i64 f.n, .string f.s]] w (OnePost w f) := by
  obtain ⟨k, n, s⟩ := f
  by_cases h3 : k = 3
  · subst h3
    by_cases hn : n = 0
    · subst hn
      by_cases hs : 1024 < s.size
      · exact one_three_long s w hs
      · exact one_three s w (by omega)
    · exact one_three_n n s w hn
  by_cases hs : s.size = 0
  · have e := size_zero hs
    subst e
    by_cases hn : n < 0
    · exact one_neg k n w h3 hn
    by_cases a1 : k = 1 ∧ n ≤ 255
    · obtain ⟨rfl, h⟩ := a1
      exact one_small n w (by omega) h
    by_cases a2 : k = 2 ∧ n ≤ 4611686018427387904
    · obtain ⟨rfl, h⟩ := a2
      exact one_whole n w (by omega) h
    by_cases a4 : k = 4 ∧ n ≤ 1
    · obtain ⟨rfl, h⟩ := a4
      exact one_switch n w (by omega) h
    refine one_no k n w (by omega) h3 ?_ (fun h => by omega) (fun h => by omega) (fun h => by omega)
    unfold grt big
    split
    · omega
    · split
      · omega
      · split <;> omega
  · exact one_str k n s w h3 hs
end Go.Proofs.YtflgemlhocjipaaGreatDoor.Pq
namespace Go.Proofs.YtflgemlhocjipaaGreatDoor.Pq
set_option maxRecDepth 100000
open Go.ChangeShapes Go.WideShapes Go.ChangeAt Go.RowKit

theorem ints_cells {K : IntKind} {w : World} {b off len : Nat} {zs : List Int} (hR : Reads K w (some ⟨b, off, none⟩) len zs) : ∀ j u, (zs.map (Value.int K))[j]? = some u → w.cell? (Addr.add ⟨b, off, none⟩ j) = some u := by
  intro j u hu
  obtain ⟨h1, h2⟩ := hR
  rw [List.getElem?_map] at hu
  have hj : j < zs.length := by
    rcases Nat.lt_or_ge j zs.length with h | h
    · exact h
    · rw [List.getElem?_eq_none h] at hu; cases hu
  obtain ⟨b', off', e, hc⟩ := h2 (by omega)
  have e' := Option.some.inj e
  injection e' with eb eo
  subst eb eo
  rw [Go.WideShapes.add_plain, hc j (by omega)]
  rw [List.getElem?_eq_getElem hj] at hu
  rw [← hu, List.getD_eq_getElem?_getD, List.getElem?_eq_getElem hj]
  rfl
theorem ints_one (K : IntKind) (zs : List Int) : ∀ u ∈ zs.map (Value.int K), u.oneCell' = true := by
  intro u hu
  obtain ⟨z, _, rfl⟩ := List.mem_map.1 hu
  rfl
/-- Bytes that read, nil ones too, laid behind a row of the call's own. -/
theorem run_append_rd (w : World) (base ty : Nat) (i : TypeInfo) (hi : Tryz.prog.info? 5 = some i) (hz : i.zero = some (.int .u8 0)) (hsize : i.size = 1) (hby : i.bytes = 1)
    (v : Value) (n : Nat) (xs : List Value) (hown : w.ownsRow base 5 1 v n xs) (A : Option Addr) (m c : Nat) (zs : List Int) (hr : Reads .u8 w A m zs) (h47 : n + m ≤ 140737488355328) (hbase : base ≤ w.heap.size) :
    ∃ v' w', (Builtin.append_ #[54, 54] ty #[v, .slice A m c]).run Tryz.prog w = .ok v' w' ∧ w'.ownsRow base 5 1 v' (n + m) (xs ++ zs.map (Value.int .u8)) ∧ w.grownBy w' v.ownBlock := by
  rcases A with _ | ad
  · have hm : m = 0 := by
      rcases Nat.eq_zero_or_pos m with h0 | h0
      · exact h0
      · obtain ⟨b, off, h, _⟩ := hr.2 h0
        cases h
    subst hm
    have hn : zs = [] := List.eq_nil_of_length_eq_zero hr.1
    subst hn
    refine ⟨v, w, ?_, by simpa using hown, World.grownBy.refl w _⟩
    rcases hown.2 with ⟨rfl, rfl⟩ | ⟨g, cap, cur, rfl, _, _, hnc, _⟩
    · simp [Builtin.append_, run_underlying Tryz.underlying54, sizeOf, typeInfo, hi, Builtin.lenOf, Builtin.firstCells]
    · simp [Builtin.append_, run_underlying Tryz.underlying54, sizeOf, typeInfo, hi, Builtin.lenOf, Builtin.firstCells, hnc, storeCells]
  · have hcells : ∀ j u, (zs.map (Value.int .u8))[j]? = some u → w.cell? (ad.add j) = some u := by
      intro j u hu
      rcases Nat.eq_zero_or_pos m with h0 | h0
      · have hn : zs = [] := List.eq_nil_of_length_eq_zero (hr.1.trans h0)
        subst hn
        simp at hu
      · obtain ⟨b, off, h, _⟩ := hr.2 h0
        injection h with h
        subst h
        exact ints_cells hr j u hu
    obtain ⟨v', w', hrun, h2, h3, _⟩ := run_append_own (P := Tryz.prog) w base 54 ty 5 i (.int .u8 0) 1 1 Tryz.underlying54 hi hz hsize hby rfl (by decide) v n xs hown ad m c (zs.map (Value.int .u8)) (by rw [List.length_map, hr.1, Nat.mul_one]) hcells (ints_one .u8 zs) (by unfold maxLen; omega) (by omega) hbase
    exact ⟨v', w', hrun, h2, h3⟩
theorem wpList_append_rd {w : World} {ops : Array Oper} {rest : List Oper} {o : Oper} {a : Act} {Q : Exit → Act → World → Prop} (hgd : o.guard = none) (s x : Operand)
    (ho : o.op = .call { callee := .builtin .append, args := #[s, x], argTypes := #[54, 54] })
    (base : Nat) (i : TypeInfo) (hi : Tryz.prog.info? 5 = some i) (hz : i.zero = some (.int .u8 0)) (hsize : i.size = 1) (hby : i.bytes = 1)
    (v : Value) (n : Nat) (xs : List Value) (hs : a.eval s = v) (hown : w.ownsRow base 5 1 v n xs) (A : Option Addr) (m c : Nat) (zs : List Int) (hx : a.eval x = .slice A m c) (hr : Reads .u8 w A m zs) (h47 : n + m ≤ 140737488355328) (hbase : base ≤ w.heap.size)
    (h : ∀ v' w', w'.ownsRow base 5 1 v' (n + m) (xs ++ zs.map (Value.int .u8)) → w.grownBy w' v.ownBlock → wpList Tryz.prog ops Q rest (a.put o.dst v') w') : wpList Tryz.prog ops Q (o :: rest) a w := by
  refine wpList_plain hgd fun K hK => ?_
  obtain ⟨v', w', hrun, h2, h3⟩ := run_append_rd w base o.type i hi hz hsize hby v n xs hown A m c zs hr h47 hbase
  unfold Oper.wp execOp
  simp only [ho, resolve, invoke, builtin, Sem.run_bind, Sem.run_pure, Result.andThen_ok, List.map_toArray, List.map_cons, List.map_nil, hs, hx, hrun]
  exact hK _ _ (h v' w' h2 h3)
theorem renc_next {w wr w1 w2 : World} {len k n m : Nat} {fs : List Fld} {f : Fld} {v v2 : Value} (hl : fs.length = len) (hk : k < len) (he : errL (fs.take k) = 0) (hf : f = fs.getD k z0) (ha : ams f = 0) (hn : n = (bytL (fs.take k)).length) (hm : m = (oneB f).length)
    (ho1 : w1.ownsRow w.heap.size 5 1 v n ((bytL (fs.take k)).map (Value.int .u8))) (hb : Below w.heap.size w wr) (hb1 : Below wr.heap.size wr w1)
    (ho : w2.ownsRow w.heap.size 5 1 v2 (n + m) ((bytL (fs.take k)).map (Value.int .u8) ++ (oneB f).map (Value.int .u8))) (hg : w1.grownBy w2 v.ownBlock) : ERel w len fs v2 (.int .i64 ((k : Int) + 1)) w2 := by
  have e : oneB f = byts f := by unfold oneB; rw [if_pos ha]
  rw [e] at ho hm
  rw [← List.map_append, hm] at ho
  have hbs : Below w.heap.size w w1 := hb.trans (hb1.mono hb.size)
  refine enc_round (wr := w) hl hk he hf ha hn ho (Below.refl _ _) (hbs.grown hg hbs.size (own_ge ho1))
set_option maxHeartbeats 1000000 in
theorem rencode_any (ad : Option Addr) (len cap : Nat) (fs : List Fld) (w : World) (hR : FReads w ad len fs) (hm : len ≤ 4294967296) :
    Calls Tryz.prog 56 #[.slice ad len cap] w (EncPost w fs) := by
  obtain ⟨i0, hi, hz0, hz1, hz2⟩ := info_parts info5
  have hl := hR.1
  have HL := Lib.hid hl
  have HR := Lib.hid hR
  clear hR hl
  go_enter Tryz.func56, Tryz.ntmps56
  go_wp2
  go_loopw [4, 5] (fun v i wr => ERel w len fs v i wr) (fun _ i _ => len - (intOf i).toNat)
  case atStart => exact ⟨0, 0, by omega, rfl, rfl, rfl, World.ownsRow_nil _ _ _ _, Below.refl _ _⟩
  case round =>
    obtain ⟨k, n, hk, rfl, he, hn, hown, hb⟩ := hrel
    have HE := Lib.hid he
    have HN := Lib.hid hn
    have HO := Lib.hid hown
    have HB := Lib.hid hb
    have hbase := hb.size
    clear he hn hown hb
    by_cases hlt : k < len
    · obtain ⟨b, off, rfl, hc⟩ := (HR.out.kept HB.out).2 (by omega)
      obtain ⟨h1, h2, h3⟩ := hc k hlt
      obtain ⟨f, hf⟩ : ∃ f, f = fs.getD k z0 := ⟨_, rfl⟩
      rw [← hf] at h1 h2 h3
      have HF := Lib.hid hf
      clear hc hf
      go_wp2_with fail
      refine (one_any f _).mono ?_
      rintro e w1 ⟨A, m, c, rfl, hm1, hrd, hmc, hcm, hb1⟩
      obtain ⟨a, ha⟩ : ∃ a, a = ams f := ⟨_, rfl⟩
      rw [← ha]
      have HA := Lib.hid ha
      have HB1 := Lib.hid hb1
      have HM := Lib.hid hm1
      have HRD := Lib.hid hrd
      have HO1 : Hid (w1.ownsRow w.heap.size 5 1 u4 n ((bytL (fs.take k)).map (Value.int .u8))) := Lib.hid (own_below HO.out hb1)
      have hb1s := hb1.size
      have hnb : n ≤ 1026 * len := by
        have h1 := bytL_len HE.out
        have h2 : (fs.take k).length ≤ len := by rw [List.length_take]; omega
        have h3 : 1026 * (fs.take k).length ≤ 1026 * len := Nat.mul_le_mul_left _ h2
        rw [HN.out]; omega
      have hmb : m ≤ 1026 := by
        rw [HM.out]; unfold oneB
        split
        · rename_i hz; exact byts_len hz
        · simp
      clear ha hb1 hm1 hrd
      by_cases hz : a = 0
      · have hz' : (a != 0) = false := by simpa using hz
        have HZ : Hid (ams f = 0) := Lib.hid (by rw [← HA.out]; exact hz)
        have h47 : n + m ≤ 140737488355328 := by omega
        have hsz : w.heap.size ≤ w1.heap.size := by omega
        clear hz
        go_wp2_with (at_builtin; refine wpList_append_rd rfl (.tmp 25) (.tmp 26) rfl w.heap.size i0 hi hz0 hz1 hz2 u4 n ((bytL (fs.take k)).map (Value.int .u8)) rfl HO1.out A m c (oneB f) rfl HRD.out h47 hsz ?_; intro v2 w2 h4 h5; have HX := Lib.hid (renc_next HL.out hlt HE.out HF.out HZ.out HN.out HM.out HO1.out HB.out HB1.out h4 h5); clear h4 h5)
        go_roundw
        case rel => exact HX.out
        case measure => simp [intOf]; omega
      · have hz' : (a != 0) = true := by simpa using hz
        have HZ := Lib.hid hz
        clear hz
        go_wp2
        go_ret2
        exact enc_bad HL.out hlt HE.out (by rw [← HF.out]; exact HA.out) HZ.out (HB.out.trans (HB1.out.mono hbase))
    · obtain rfl : len = k := by omega
      go_wp2
      go_ret2
      exact enc_end HL.out HE.out HN.out HO.out HB.out
end Go.Proofs.YtflgemlhocjipaaGreatDoor.Pq
namespace Go.Proofs.YtflgemlhocjipaaGreatDoor.Pq
set_option maxRecDepth 100000
open Go.ChangeShapes Go.WideShapes Go.ChangeAt Go.RowKit

theorem join_bits (N z : Int) (h0 : 0 ≤ z) (h1 : z ≤ 255) : bits .or .i64 (wrap64 (wrap64 N * 256)) z = wrap64 (N * 256 + z) := by
  have e : bits .or .i64 (wrap64 (wrap64 N * 256)) z = IntKind.i64.wrap (((BitVec.ofInt 64 (wrap64 (wrap64 N * 256)) ||| BitVec.ofInt 64 z).toNat : Nat) : Int) := rfl
  rw [e, IntKind.wrap_i64, BitVec.toNat_or, BitVec.toNat_ofInt, BitVec.toNat_ofInt]
  have e1 : (wrap64 (wrap64 N * 256) % ((2 ^ 64 : Nat) : Int)).toNat = (N % 72057594037927936).toNat <<< 8 := by
    rw [Nat.shiftLeft_eq]; unfold wrap64; simp only [Nat.reducePow]; omega
  have e2 : (z % ((2 ^ 64 : Nat) : Int)).toNat = z.toNat := by simp only [Nat.reducePow]; omega
  rw [e1, e2, ← Nat.shiftLeft_add_eq_or_of_lt (show z.toNat < 2 ^ 8 by omega), Nat.shiftLeft_eq]
  unfold wrap64
  omega
theorem num_snoc (l : List Int) (z : Int) : num (l ++ [z]) = num l * 256 + z := by simp [num]
theorem take_next (zs : List Int) (k : Nat) (h : k < zs.length) : zs.take (k + 1) = zs.take k ++ [zs.getD k 0] := by
  rw [List.take_succ_eq_append_getElem h, List.getD_eq_getElem?_getD, List.getElem?_eq_getElem h]; rfl
theorem num_next (zs : List Int) (k : Nat) (h : k < zs.length) : num (zs.take (k + 1)) = num (zs.take k) * 256 + zs.getD k 0 := by rw [take_next zs k h, num_snoc]
theorem bys_getD {zs : List Int} (h : Bys zs) (k : Nat) : 0 ≤ zs.getD k 0 ∧ zs.getD k 0 ≤ 255 := by
  rw [List.getD_eq_getElem?_getD]
  by_cases hk : k < zs.length
  · rw [List.getElem?_eq_getElem hk]; exact h _ (List.getElem_mem hk)
  · rw [List.getElem?_eq_none (by omega)]; decide
theorem join_any (ad : Option Addr) (len cap : Nat) (zs : List Int) (w : World) (hR : Reads .u8 w ad len zs) (hB : Bys zs) (hm : len ≤ 9223372036854775807) :
    Calls Tryz.prog 158 #[.slice ad len cap] w fun e w' => e = .returned (.int .i64 (wrap64 (num zs))) ∧ w = w' := by
  have hl := hR.1
  have HL := Lib.hid hl
  have HR := Lib.hid hR
  have HB := Lib.hid hB
  clear hR hB hl
  go_enter Tryz.func158, Tryz.ntmps158
  go_wp2
  go_loop [3, 8] (fun c i => ∃ (k : Nat) (n : Int), k ≤ len ∧ i = .int .i64 k ∧ c = .int .i64 n ∧ n = wrap64 (num (zs.take k))) (fun _ i => len - (intOf i).toNat)
  case atStart => exact ⟨0, 0, Nat.zero_le _, rfl, rfl, by simp [num, wrap64]⟩
  case round =>
    obtain ⟨k, n, hk, rfl, rfl, hn⟩ := hrel
    have HN := Lib.hid hn
    clear hn
    by_cases hlt : k < len
    · obtain ⟨b, off, rfl, hcell⟩ := HR.out.2 (by omega)
      have hx := hcell k hlt
      have hz := bys_getD HB.out k
      obtain ⟨z, hzz⟩ : ∃ z, z = zs.getD k 0 := ⟨_, rfl⟩
      rw [← hzz] at hx hz
      have hz0 := hz.1
      have hz1 := hz.2
      obtain ⟨y, hy⟩ : ∃ y, y = wrap64 (num (zs.take (k + 1))) := ⟨_, rfl⟩
      have HY := Lib.hid hy
      have e1 : bits .or .i64 (wrap64 (n * 256)) z = y := by
        rw [hy, num_next zs k (by rw [HL.out]; exact hlt), ← hzz, HN.out, join_bits _ _ hz0 hz1]
      clear hzz hz hcell hy
      go_wp2
      go_round
      case rel => exact ⟨k + 1, y, by omega, by go_num, rfl, HY.out⟩
      case measure => simp [intOf]; omega
    · obtain rfl : k = len := by omega
      go_wp2
      go_ret
      exact ⟨ret_i64 (by rw [HN.out, List.take_of_length_le (by rw [HL.out]; exact Nat.le_refl _)]), rfl⟩
theorem ret_u64 {a b : Int} (h : a = b) : Ending.returned (.int .u64 a) = .returned (.int .u64 b) := by rw [h]
theorem number_any (ad : Option Addr) (len cap : Nat) (zs : List Int) (w : World) (hR : Reads .u8 w ad len zs) (hB : Bys zs) (hm : len ≤ 9223372036854775807) :
    Calls Tryz.prog 102 #[.slice ad len cap] w fun e w' => e = .returned (.int .u64 (num zs % 18446744073709551616)) ∧ w = w' := by
  have hl := hR.1
  have HL := Lib.hid hl
  have HR := Lib.hid hR
  have HB := Lib.hid hB
  clear hR hB hl
  go_enter Tryz.func102, Tryz.ntmps102
  go_wp2
  go_loop [3, 4] (fun c i => ∃ (k : Nat) (n : Int), k ≤ len ∧ i = .int .i64 k ∧ c = .int .u64 n ∧ 0 ≤ n ∧ n = num (zs.take k) % 18446744073709551616) (fun _ i => len - (intOf i).toNat)
  case atStart => exact ⟨0, 0, Nat.zero_le _, rfl, rfl, by omega, rfl⟩
  case round =>
    obtain ⟨k, n, hk, rfl, rfl, hn0, hn⟩ := hrel
    have HN := Lib.hid hn
    clear hn
    by_cases hlt : k < len
    · obtain ⟨b, off, rfl, hcell⟩ := HR.out.2 (by omega)
      have hx := hcell k hlt
      have hz := bys_getD HB.out k
      obtain ⟨z, hzz⟩ : ∃ z, z = zs.getD k 0 := ⟨_, rfl⟩
      rw [← hzz] at hx hz
      have hz0 := hz.1
      have hz1 := hz.2
      obtain ⟨y, hy⟩ : ∃ y, y = num (zs.take (k + 1)) % 18446744073709551616 := ⟨_, rfl⟩
      have hy0 : 0 ≤ y := by omega
      have HY := Lib.hid hy
      have e1 : IntKind.u64.wrap (IntKind.u64.wrap (n * 256) + z) = y := by
        have := HN.out
        rw [hy, num_next zs k (by rw [HL.out]; exact hlt), ← hzz, IntKind.wrap_u64, IntKind.wrap_u64]; omega
      clear hzz hz hcell hy
      go_wp2
      go_round
      case rel => exact ⟨k + 1, y, by omega, by go_num, rfl, hy0, HY.out⟩
      case measure => simp [intOf]; omega
    · obtain rfl : k = len := by omega
      go_wp2
      go_ret
      exact ⟨ret_u64 (by rw [HN.out, List.take_of_length_le (by rw [HL.out]; exact Nat.le_refl _)]), rfl⟩
end Go.Proofs.YtflgemlhocjipaaGreatDoor.Pq
