/-
  What the law on the xor of three texts returns: true, and older memory is us it was. Condition: the table's cells hold what its initialiser lays; each text takes no more bytes than any input may.
-/
import Derived.Test.YtcobgidmmfliaaaDoorWalk8
import Derived.Deep.RegionHeld3
namespace Go.Proofs.YtcobgidmmfliaaaDoor
open Go.ChangeShapes Go.WideShapes Go.ChangeAt Go.RowKit Go.Proofs.Crc

theorem xor6 (r s t a b c : BitVec 32) : r ^^^ s ^^^ t ^^^ (a ^^^ b ^^^ c) = r ^^^ a ^^^ (s ^^^ b) ^^^ (t ^^^ c) := by
  ext i; simp only [BitVec.getElem_xor]; cases r[i] <;> cases s[i] <;> cases t[i] <;> cases a[i] <;> cases b[i] <;> cases c[i] <;> rfl
theorem fd_xor3 (r s t : BitVec 32) (us bs cs xs : List Int) (ha : xs.length = us.length) (hb : xs.length = bs.length) (hc : xs.length = cs.length)
    (hx : ∀ i, i < xs.length → B (xs.getD i 0) = B (us.getD i 0) ^^^ B (bs.getD i 0) ^^^ B (cs.getD i 0)) :
    fd (r ^^^ s ^^^ t) xs = fd r us ^^^ fd s bs ^^^ fd t cs := by
  induction xs generalizing r s t us bs cs with
  | nil =>
    obtain rfl : us = [] := List.eq_nil_of_length_eq_zero ha.symm
    obtain rfl : bs = [] := List.eq_nil_of_length_eq_zero hb.symm
    obtain rfl : cs = [] := List.eq_nil_of_length_eq_zero hc.symm
    rfl
  | cons x xs ih =>
    match us, bs, cs, ha, hb, hc with
    | a :: us, b :: bs, c :: cs, ha, hb, hc =>
      have h0 : B x = B a ^^^ B b ^^^ B c := hx 0 (by simp)
      have e : ∀ (s : BitVec 32) (z : Int) (l : List Int), fd s (z :: l) = fd (stpN 8 (s ^^^ B z)) l := fun _ _ _ => rfl
      have e2 : stpN 8 ((r ^^^ s ^^^ t) ^^^ B x) = stpN 8 (r ^^^ B a) ^^^ stpN 8 (s ^^^ B b) ^^^ stpN 8 (t ^^^ B c) := by
        rw [h0, ← stpN_xor, ← stpN_xor, xor6]
      rw [e, e, e, e, e2]
      exact ih _ _ _ us bs cs (by simpa using ha) (by simpa using hb) (by simpa using hc) (fun i hi => hx (i + 1) (by simpa using hi))
theorem more_xor3 (us bs cs xs : List Int) (ha : xs.length = us.length) (hb : xs.length = bs.length) (hc : xs.length = cs.length)
    (hx : ∀ i, i < xs.length → B (xs.getD i 0) = B (us.getD i 0) ^^^ B (bs.getD i 0) ^^^ B (cs.getD i 0)) :
    more 0#32 xs = more 0#32 us ^^^ more 0#32 bs ^^^ more 0#32 cs := by
  have h := fd_xor3 (~~~ 0#32) (~~~ 0#32) (~~~ 0#32) us bs cs xs ha hb hc hx
  have e : (~~~ 0#32) ^^^ (~~~ 0#32) ^^^ (~~~ 0#32) = ~~~ 0#32 := by decide
  rw [e] at h
  unfold more
  rw [h]
  ext i
  simp only [BitVec.getElem_not, BitVec.getElem_xor]
  cases (fd (~~~ 0#32) us)[i] <;> cases (fd (~~~ 0#32) bs)[i] <;> cases (fd (~~~ 0#32) cs)[i] <;> rfl
/-- What the loop keeps: of the first bytes the xor is laid. -/
def XRel (w : World) (g n : Nat) (us bs cs : List Int) (i : Value) (wr : World) : Prop :=
  ∃ (k : Nat) (ys : List Int), k ≤ n ∧ i = .int .i64 k ∧ (∀ j, 0 ≤ ys.getD j 0 ∧ ys.getD j 0 ≤ 255) ∧
    wr.ownsRow w.heap.size 5 1 (.slice (some ⟨g, 0, none⟩) n n) n (ys.map (Value.int .u8)) ∧ (∀ j, j < k → B (ys.getD j 0) = B (us.getD j 0) ^^^ B (bs.getD j 0) ^^^ B (cs.getD j 0)) ∧ Below w.heap.size w wr
theorem xors_round {w wr : World} {g n k : Nat} {us bs cs ys : List Int} {a b c : Int} (hk : k < n) (ha : a = us.getD k 0) (hb : b = bs.getD k 0) (hc : c = cs.getD k 0)
    (ba : 0 ≤ a ∧ a ≤ 255) (bb : 0 ≤ b ∧ b ≤ 255) (bc : 0 ≤ c ∧ c ≤ 255) (hys : ∀ j, 0 ≤ ys.getD j 0 ∧ ys.getD j 0 ≤ 255)
    (hown : wr.ownsRow w.heap.size 5 1 (.slice (some ⟨g, 0, none⟩) n n) n (ys.map (Value.int .u8))) (hx : ∀ j, j < k → B (ys.getD j 0) = B (us.getD j 0) ^^^ B (bs.getD j 0) ^^^ B (cs.getD j 0))
    (hbel : Below w.heap.size w wr) (hg : w.heap.size ≤ g) :
    XRel w g n us bs cs (.int .i64 ((k : Int) + 1)) (wr.setCell ⟨g, k, none⟩ (.int .u8 (bits .xor .u8 (bits .xor .u8 a b) c))).drew := by
  have hl : ys.length = n := by have := hown.1; rw [List.length_map] at this; omega
  obtain ⟨x1, x2, x3⟩ := byte_xor a b ba bb
  obtain ⟨z1, z2, z3⟩ := byte_xor (bits .xor .u8 a b) c ⟨x2, x3⟩ bc
  refine ⟨k + 1, ys.set k (bits .xor .u8 (bits .xor .u8 a b) c), by omega, by go_num, fun i => ?_, ?_, fun j hj => ?_, (hbel.setCell (p := ⟨g, k, none⟩) hg _).drew⟩
  · rw [List.getD_eq_getElem?_getD, List.getElem?_set]
    by_cases hij : k = i
    · rw [if_pos hij, if_pos (by omega)]; exact ⟨z2, z3⟩
    · rw [if_neg hij, ← List.getD_eq_getElem?_getD]; exact hys i
  · have h := (hown.stored k (.int .u8 (bits .xor .u8 (bits .xor .u8 a b) c))).1
    rw [List.map_set]
    exact h
  · rw [List.getD_eq_getElem?_getD (l := ys.set k _), List.getElem?_set]
    by_cases hij : k = j
    · rw [if_pos hij, if_pos (by omega)]
      subst hij
      show B (bits .xor .u8 (bits .xor .u8 a b) c) = _
      rw [z1, x1, ha, hb, hc]
    · rw [if_neg hij, ← List.getD_eq_getElem?_getD]; exact hx j (by omega)
theorem reads_take {w : World} {ad : Option Addr} {len n : Nat} {zs : List Int} (hR : Reads w ad len zs) (hn : n ≤ len) : Reads w ad n (zs.take n) := by
  obtain ⟨h1, h2, h3⟩ := hR
  refine ⟨by rw [List.length_take]; omega, fun hp => ?_, fun i => ?_⟩
  · obtain ⟨b, off, rfl, hc⟩ := h2 (by omega)
    refine ⟨b, off, rfl, fun i hi => ?_⟩
    rw [hc i (by omega), List.getD_eq_getElem?_getD, List.getD_eq_getElem?_getD, List.getElem?_take, if_pos hi]
  · rw [List.getD_eq_getElem?_getD, List.getElem?_take]
    by_cases hi : i < n
    · rw [if_pos hi, ← List.getD_eq_getElem?_getD]; exact h3 i
    · rw [if_neg hi]; decide
theorem getD_zeros8 (k i : Nat) : (List.replicate k (0 : Int)).getD i 0 = 0 := by
  rw [List.getD_eq_getElem?_getD, List.getElem?_replicate]
  split <;> rfl
theorem run_min {P : Program} (ts : Array TypeId) (t : TypeId) (x y z n : Nat) (hn : n = min x (min y z)) (w : World) :
    (Builtin.min_ ts t #[.int .i64 (x : Int), .int .i64 (y : Int), .int .i64 (z : Int)]).run P w = .ok (.int .i64 (n : Int)) w := by
  have e : (if (z : Int) < (if (y : Int) < (x : Int) then (y : Int) else (x : Int)) then (z : Int) else (if (y : Int) < (x : Int) then (y : Int) else (x : Int))) = (n : Int) := by
    split <;> split at * <;> omega
  rw [← e]
  simp [Builtin.min_, Builtin.min2]
theorem getD_take (zs : List Int) (n i : Nat) (h : i < n) : (zs.take n).getD i 0 = zs.getD i 0 := by
  rw [List.getD_eq_getElem?_getD, List.getD_eq_getElem?_getD, List.getElem?_take, if_pos h]
theorem xors_end {n len0 len1 len2 : Nat} {ys zs0 zs1 zs2 : List Int} (h0 : n ≤ len0) (h1 : n ≤ len1) (h2 : n ≤ len2) (l0 : zs0.length = len0) (l1 : zs1.length = len1) (l2 : zs2.length = len2) (hl : ys.length = n)
    (hx : ∀ j, j < n → B (ys.getD j 0) = B (zs0.getD j 0) ^^^ B (zs1.getD j 0) ^^^ B (zs2.getD j 0)) :
    (U (more 0#32 ys) == bits .xor .u32 (bits .xor .u32 (U (more 0#32 (zs0.take n))) (U (more 0#32 (zs1.take n)))) (U (more 0#32 (zs2.take n)))) = true := by
  rw [bits_xor, bits_xor, more_xor3 (zs0.take n) (zs1.take n) (zs2.take n) ys (by rw [List.length_take]; omega) (by rw [List.length_take]; omega) (by rw [List.length_take]; omega) (fun i hi => by
    rw [getD_take _ _ _ (by omega), getD_take _ _ _ (by omega), getD_take _ _ _ (by omega)]
    exact hx i (by omega))]
  exact beq_self_eq_true _
/-- What holds of the world while the sums are reckoned. -/
def XS (w : World) (n : Nat) (ad0 ad1 ad2 : Option Addr) (ys zs0 zs1 zs2 : List Int) (w' : World) : Prop :=
  Table w' ∧ Reads w' (some ⟨w.heap.size, 0, none⟩) n ys ∧ Reads w' ad0 n (zs0.take n) ∧ Reads w' ad1 n (zs1.take n) ∧ Reads w' ad2 n (zs2.take n) ∧ Below w.heap.size w w' ∧ n ≤ 9223372036854775807
theorem xs_kept {w : World} {n : Nat} {ad0 ad1 ad2 : Option Addr} {ys zs0 zs1 zs2 : List Int} {w' w2 : World} (h : XS w n ad0 ad1 ad2 ys zs0 zs1 zs2 w') (hb : Below w'.heap.size w' w2) : XS w n ad0 ad1 ad2 ys zs0 zs1 zs2 w2 := by
  obtain ⟨h1, h2, h3, h4, h5, h6, h7⟩ := h
  exact ⟨table_below h1 hb (table_lt h1), reads_kept h2 hb, reads_kept h3 hb, reads_kept h4 hb, reads_kept h5 hb, h6.trans (hb.mono h6.size), h7⟩
theorem sum_x {w : World} {n : Nat} {ad0 ad1 ad2 : Option Addr} {ys zs0 zs1 zs2 : List Int} {W : World} (h : XS w n ad0 ad1 ad2 ys zs0 zs1 zs2 W) :
    Calls Tryd.prog 11 #[.slice (some ⟨w.heap.size, 0, none⟩) n n] W fun e w' => e = .returned (.int .u32 (U (more 0#32 ys))) ∧ W = w' :=
  sum_any _ _ _ _ _ h.2.1 h.1 h.2.2.2.2.2.2
theorem sum_y {w : World} {n cap : Nat} {ad ad0 ad1 ad2 : Option Addr} {ys zs zs0 zs1 zs2 : List Int} {W : World} (h : XS w n ad0 ad1 ad2 ys zs0 zs1 zs2 W) (hR : Reads W ad n (zs.take n)) :
    Calls Tryd.prog 11 #[.slice ad n cap] W fun e w' => e = .returned (.int .u32 (U (more 0#32 (zs.take n)))) ∧ W = w' :=
  sum_any _ _ _ _ _ hR h.1 h.2.2.2.2.2.2
theorem sum_y0 {w : World} {n cap : Nat} {ad0 ad1 ad2 : Option Addr} {ys zs0 zs1 zs2 : List Int} {W : World} (h : XS w n ad0 ad1 ad2 ys zs0 zs1 zs2 W) :
    Calls Tryd.prog 11 #[.slice ad0 n cap] W fun e w' => e = .returned (.int .u32 (U (more 0#32 (zs0.take n)))) ∧ W = w' := sum_y h h.2.2.1
theorem sum_y1 {w : World} {n cap : Nat} {ad0 ad1 ad2 : Option Addr} {ys zs0 zs1 zs2 : List Int} {W : World} (h : XS w n ad0 ad1 ad2 ys zs0 zs1 zs2 W) :
    Calls Tryd.prog 11 #[.slice ad1 n cap] W fun e w' => e = .returned (.int .u32 (U (more 0#32 (zs1.take n)))) ∧ W = w' := sum_y h h.2.2.2.1
theorem sum_y2 {w : World} {n cap : Nat} {ad0 ad1 ad2 : Option Addr} {ys zs0 zs1 zs2 : List Int} {W : World} (h : XS w n ad0 ad1 ad2 ys zs0 zs1 zs2 W) :
    Calls Tryd.prog 11 #[.slice ad2 n cap] W fun e w' => e = .returned (.int .u32 (U (more 0#32 (zs2.take n)))) ∧ W = w' := sum_y h h.2.2.2.2.1
set_option maxHeartbeats 2000000 in
theorem xors_at (ad0 ad1 ad2 : Option Addr) (len0 cap0 len1 cap1 len2 cap2 n : Nat) (zs0 zs1 zs2 : List Int) (w : World) (hR0 : Reads w ad0 len0 zs0) (hR1 : Reads w ad1 len1 zs1) (hR2 : Reads w ad2 len2 zs2) (hT : Table w)
    (hlc0 : len0 ≤ cap0) (hlc1 : len1 ≤ cap1) (hlc2 : len2 ≤ cap2) (hr0 : cap0 ≤ 140737488351232)
    (hn : n = min len0 (min len1 len2)) :
    Calls Tryd.prog 9 #[.slice ad0 len0 cap0, .slice ad1 len1 cap1, .slice ad2 len2 cap2] w fun e w' => e = .returned (.bool true) ∧ Below w.heap.size w w' := by
  obtain ⟨i0, hi, hz0, hz1, hz2⟩ := info_parts info5
  have hmin := fun ts t (w : World) => run_min (P := Tryd.prog) ts t len0 len1 len2 n hn w
  have hmk := fun (w : World) => run_make (w := w) (P := Tryd.prog) 22 5 i0 (.int .u8 0) Tryd.underlying22 hi hz0 .i64 .i64 (n : Int) (n : Int) (by omega) (Int.le_refl _) (by rw [hz2]; omega) (by omega)
  have HR0 := Lib.hid hR0
  have HR1 := Lib.hid hR1
  have HR2 := Lib.hid hR2
  have HT := Lib.hid hT
  have hn0 : n ≤ len0 := by omega
  have hn1 : n ≤ len1 := by omega
  have hn2 : n ≤ len2 := by omega
  have HO : Hid ((w.alloc (.cells (madeCells #[.int .u8 0] n) 5)).ownsRow w.heap.size 5 1 (.slice (some ⟨w.heap.size, 0, none⟩) n n) n ((List.replicate n 0).map (Value.int .u8))) := Lib.hid (by
    have h := World.ownsRow_lit (base := w.heap.size) (e := 5) (size := 1) w (madeCells #[.int .u8 0] n) n (Nat.le_refl _) (by unfold maxLen; omega) (by rw [size_madeCells, Nat.mul_one])
    rw [toList_madeCells_one] at h
    rw [List.map_replicate]
    exact h)
  have hc0' : (n : Int) ≤ (cap0 : Int) := by omega
  have hc1' : (n : Int) ≤ (cap1 : Int) := by omega
  have hc2' : (n : Int) ≤ (cap2 : Int) := by omega
  have hnn : (0 : Int) ≤ (n : Int) := by omega
  clear hR0 hR1 hR2 hT hn
  go_enter Tryd.func9, Tryd.ntmps9
  go_wp2_with fail
  go_loopw [21] (fun i wr => XRel w w.heap.size n zs0 zs1 zs2 i wr) (fun i _ => n - (intOf i).toNat)
  case atStart =>
    exact ⟨0, List.replicate n 0, by omega, rfl, fun i => by rw [getD_zeros8]; decide, HO.out, fun j hj => absurd hj (by omega), (Below.refl _ _).alloc (Nat.le_refl _) _⟩
  case round =>
    obtain ⟨k, ys, hk, rfl, hys, hown, hx, hb⟩ := hrel
    have HY := Lib.hid hys
    have HO2 := Lib.hid hown
    have HX := Lib.hid hx
    have HB := Lib.hid hb
    clear hys hown hx hb
    by_cases hkn : k < n
    · obtain ⟨b0, off0, rfl, hc0⟩ := (reads_kept HR0.out HB.out).2.1 (by omega)
      obtain ⟨b1, off1, rfl, hc1⟩ := (reads_kept HR1.out HB.out).2.1 (by omega)
      obtain ⟨b2, off2, rfl, hc2⟩ := (reads_kept HR2.out HB.out).2.1 (by omega)
      have g0 := hc0 k (by omega)
      have g1 := hc1 k (by omega)
      have g2 := hc2 k (by omega)
      obtain ⟨a, ha⟩ : ∃ a, a = zs0.getD k 0 := ⟨_, rfl⟩
      obtain ⟨b, hb'⟩ : ∃ a, a = zs1.getD k 0 := ⟨_, rfl⟩
      obtain ⟨c, hc⟩ : ∃ a, a = zs2.getD k 0 := ⟨_, rfl⟩
      rw [← ha] at g0
      rw [← hb'] at g1
      rw [← hc] at g2
      have hl0 : (k : Int) < (len0 : Int) := by omega
      have hl1 : (k : Int) < (len1 : Int) := by omega
      have hl2 : (k : Int) < (len2 : Int) := by omega
      have hln : (k : Int) < (n : Int) := by omega
      have gx : wr.cell? ⟨w.heap.size, k, none⟩ = some (.int .u8 (ys.getD k 0)) := by
        have : k < ys.length := by have := HO2.out.1; rw [List.length_map] at this; omega
        rw [HO2.out.cellAt k (by omega), List.getElem?_map, List.getD_eq_getElem?_getD, List.getElem?_eq_getElem this]
        rfl
      have gf : wr.frozen? ⟨w.heap.size, k, none⟩ = false := HO2.out.frozenAt k
      have HA := Lib.hid ha
      have HBB := Lib.hid hb'
      have HC := Lib.hid hc
      clear ha hb' hc hc0 hc1 hc2
      go_wp2_with fail
      go_region
      go_wp2_with fail
      go_roundw
      case rel => exact xors_round hkn HA.out HBB.out HC.out (by rw [HA.out]; exact HR0.out.2.2 k) (by rw [HBB.out]; exact HR1.out.2.2 k) (by rw [HC.out]; exact HR2.out.2.2 k) HY.out HO2.out HX.out HB.out (Nat.le_refl _)
      case measure => simp [intOf]; omega
    · obtain rfl : n = k := by omega
      have HTW := Lib.hid (table_below HT.out HB.out (table_lt HT.out))
      have HS : Hid (XS w n ad0 ad1 ad2 ys zs0 zs1 zs2 wr.drew) := Lib.hid ⟨HTW.out, reads_own HO2.out HY.out, reads_take (reads_kept HR0.out HB.out.drew) hn0, reads_take (reads_kept HR1.out HB.out.drew) hn1, reads_take (reads_kept HR2.out HB.out.drew) hn2, HB.out.drew, by omega⟩
      have HFIN : Hid ((U (more 0#32 ys) == bits .xor .u32 (bits .xor .u32 (U (more 0#32 (zs0.take n))) (U (more 0#32 (zs1.take n)))) (U (more 0#32 (zs2.take n)))) = true) := Lib.hid (xors_end hn0 hn1 hn2 HR0.out.1 HR1.out.1 HR2.out.1 (by have := HO2.out.1; rw [List.length_map] at this; omega) HX.out)
      go_wp2_with fail
      go_region_held3 (fun w' => XS w n ad0 ad1 ad2 ys zs0 zs1 zs2 w') (first | exact HS.out | assumption)
        (first
          | (go_at_call 10; refine (alive_any _ ?_).mono ?_; exact HTW.out; rintro e w2 ⟨rfl, hb2⟩; have hs2 := xs_kept HS.out hb2)
          | (go_at_call 11; (with_reducible refine (sum_x (w := w) (n := n) (ad0 := ad0) (ad1 := ad1) (ad2 := ad2) (ys := ys) (zs0 := zs0) (zs1 := zs1) (zs2 := zs2) ?_).mono ?_); assumption; rintro e w3 ⟨rfl, rfl⟩)
          | (go_at_call 11; (with_reducible refine (sum_y0 (w := w) (n := n) (cap := cap0) (ad0 := ad0) (ad1 := ad1) (ad2 := ad2) (ys := ys) (zs0 := zs0) (zs1 := zs1) (zs2 := zs2) ?_).mono ?_); assumption; rintro e w3 ⟨rfl, rfl⟩)
          | (go_at_call 11; (with_reducible refine (sum_y1 (w := w) (n := n) (cap := cap1) (ad0 := ad0) (ad1 := ad1) (ad2 := ad2) (ys := ys) (zs0 := zs0) (zs1 := zs1) (zs2 := zs2) ?_).mono ?_); assumption; rintro e w3 ⟨rfl, rfl⟩)
          | (go_at_call 11; (with_reducible refine (sum_y2 (w := w) (n := n) (cap := cap2) (ad0 := ad0) (ad1 := ad1) (ad2 := ad2) (ys := ys) (zs0 := zs0) (zs1 := zs1) (zs2 := zs2) ?_).mono ?_); assumption; rintro e w3 ⟨rfl, rfl⟩))
      go_wp2_with fail
      go_ret
      exact ⟨ret_bool8 HFIN.out, hs2.2.2.2.2.2.1⟩
theorem law_xors (ad0 ad1 ad2 : Option Addr) (len0 cap0 len1 cap1 len2 cap2 : Nat) (zs0 zs1 zs2 : List Int) (w : World) (hR0 : Reads w ad0 len0 zs0) (hR1 : Reads w ad1 len1 zs1) (hR2 : Reads w ad2 len2 zs2) (hT : Table w)
    (hlc0 : len0 ≤ cap0) (hlc1 : len1 ≤ cap1) (hlc2 : len2 ≤ cap2) (hr0 : cap0 ≤ 140737488351232) :
    Calls Tryd.prog 9 #[.slice ad0 len0 cap0, .slice ad1 len1 cap1, .slice ad2 len2 cap2] w fun e w' => e = .returned (.bool true) ∧ Below w.heap.size w w' :=
  xors_at ad0 ad1 ad2 len0 cap0 len1 cap1 len2 cap2 _ zs0 zs1 zs2 w hR0 hR1 hR2 hT hlc0 hlc1 hlc2 hr0 rfl
end Go.Proofs.YtcobgidmmfliaaaDoor
