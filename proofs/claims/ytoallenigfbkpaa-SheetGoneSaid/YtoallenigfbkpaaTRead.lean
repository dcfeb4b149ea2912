/-
  What Read returns: the bytes that the file has there, in memory of their own. No condition.
-/
import Derived.Test.YtoallenigfbkpaaTProg
namespace Go.Proofs.Ytoallenigfbkpaa
set_option maxRecDepth 100000
open Go.ChangeShapes Go.WideShapes Go.ChangeAt Go.RowKit Go.Proofs.Sg

/-- Bytes of the caller's own. -/
def ByPost (w : World) (l : List UInt8) (e : Ending) (w' : World) : Prop := ∃ v, e = .returned v ∧ w'.ownsRow w.heap.size 5 1 v l.length (bcells l) ∧ Below w.heap.size w w'
/-- What has been read of so many, zeros behind. -/
def rp (S : Sh) (P N d : Nat) : List UInt8 := (((bs S.f S.n).drop P).take d) ++ List.replicate (N - d) 0
theorem rp_len {S : Sh} {P N d : Nat} (h : P + N ≤ S.n) (hd : d ≤ N) : (rp S P N d).length = N := by
  unfold rp; rw [List.length_append, List.length_take, List.length_drop, bs_len, List.length_replicate]; omega
theorem rp_step {S : Sh} {P N d m : Nat} (h : P + N ≤ S.n) (hd : d + m ≤ N) (hb : (P + d) % 16 + m ≤ 16) :
    spl (rp S P N d) d (((bk S.f ((P + d) / 16)).drop ((P + d) % 16)).take m) = rp S P N (d + m) := by
  have hl : (((bk S.f ((P + d) / 16)).drop ((P + d) % 16)).take m).length = m := by rw [List.length_take, List.length_drop, bk_len]; omega
  apply List.ext_getElem?
  intro j
  rw [spl_get (by rw [hl, rp_len h (by omega)]; omega), hl]
  unfold rp
  by_cases h1 : d ≤ j ∧ j < d + m
  · rw [if_pos h1, List.getElem?_take_of_lt (by omega), List.getElem?_drop, bk_get _ _ (by omega), List.getElem?_append_left (by rw [List.length_take, List.length_drop, bs_len]; omega), List.getElem?_take_of_lt h1.2, List.getElem?_drop, bs_get _ (by omega)]
    congr 2; omega
  · rw [if_neg h1]
    rcases Nat.lt_or_ge j d with h2 | h2
    · rw [List.getElem?_append_left (by rw [List.length_take, List.length_drop, bs_len]; omega), List.getElem?_append_left (by rw [List.length_take, List.length_drop, bs_len]; omega), List.getElem?_take_of_lt h2, List.getElem?_take_of_lt (by omega)]
    · rw [List.getElem?_append_right (by rw [List.length_take, List.length_drop, bs_len]; omega), List.getElem?_append_right (by rw [List.length_take, List.length_drop, bs_len]; omega), List.length_take, List.length_take, List.length_drop, bs_len, List.getElem?_replicate, List.getElem?_replicate]
      by_cases h3 : j < N
      · rw [if_pos (by omega), if_pos (by omega)]
      · rw [if_neg (by omega), if_neg (by omega)]
theorem rp_end {S : Sh} {P N : Nat} : rp S P N N = ((bs S.f S.n).drop P).take N := by
  unfold rp; rw [Nat.sub_self, List.replicate_zero, List.append_nil]
/-- A block by value, in the block that was made last. -/
theorem make_bytes (N : Nat) (hN : N ≤ 1048576) (w : World) : ∃ C : Array Value, (Instr.makeSlice 27 (.int .i64 (N : Int)) (.int .i64 (N : Int))).run Try.prog w = .ok (.slice (some ⟨w.heap.size, 0, none⟩) N N) (w.alloc (.cells C 5)) ∧
    (w.alloc (.cells C 5)).ownsRow w.heap.size 5 1 (.slice (some ⟨w.heap.size, 0, none⟩) N N) N (bcells (List.replicate N 0)) := by
  obtain ⟨i0, hi, hz0, hz1, hz2⟩ := info_parts infoB
  have h := run_make (P := Try.prog) w 27 5 i0 (.int .u8 0) Try.underlying27 hi hz0 .i64 .i64 (N : Int) (N : Int) (by omega) (by omega) (by rw [hz2]; omega) (by omega)
  rw [hz1] at h
  refine ⟨madeCells #[.int .u8 0] (N * 1), by simpa [Value.cells] using h, ?_⟩
  have e : (madeCells #[Value.int .u8 0] (N * 1)).toList = bcells (List.replicate N 0) := by
    apply List.ext_getElem?
    intro j
    rw [bcells_get, List.getElem?_replicate]
    by_cases hj : j < N <;> simp [madeCells, hj, Nat.mod_one]
  have ho := own_new (sz := 1) (n := N) (base := w.heap.size) (new_block w (.cells (madeCells #[Value.int .u8 0] (N * 1)) 5)) (Nat.le_refl _) (by unfold maxLen; omega) (by simp [madeCells])
  rw [e] at ho
  exact ho
theorem copy_out {w : World} {B g N c d q i m : Nat} {f : Byt} {k : Nat} {l : List UInt8} (ho : w.ownsRow B 5 1 (.slice (some ⟨g, 0, none⟩) N c) N (bcells l)) (hq : w.heap[q]? = some (.cells (bv f k) 61 (0, 0))) (hd : d + m ≤ N) (hm : m = min (16 - i) (N - d)) (hi : i < 16) :
    ∃ w', (∀ ty, (Builtin.copy_ #[27, 27] ty #[.slice (some ⟨g, d, none⟩) (N - d) (c - d), .slice (some ⟨q, i, none⟩) (16 - i) (16 - i)]).run Try.prog w = .ok (.int .i64 (m : Int)) w') ∧
      w'.ownsRow B 5 1 (.slice (some ⟨g, 0, none⟩) N c) N (bcells (spl l d (((bk f k).drop i).take m))) ∧ w.grownBy w' (some g) := by
  obtain ⟨cur, hg, hB, hnc, hcm, hcs, ht, hx⟩ := own_at ho
  have hsl : (((bk f k).drop i).take m).length = m := by rw [List.length_take, List.length_drop, bk_len]; omega
  have hcl : (bcells (((bk f k).drop i).take m)).length = Nat.min (16 - i) (N - d) * 1 := by
    rw [bcells_length, hsl, hm, Nat.mul_one]
  refine ⟨w.setCells g d (bcells (((bk f k).drop i).take m)), fun ty => ?_, ?_, setCells_grown _ _ _⟩
  · have h := run_copy_size (P := Try.prog) w 27 27 ty 5 g d (N - d) (c - d) ⟨q, i, none⟩ (16 - i) (16 - i) 1 (bcells (((bk f k).drop i).take m)) Try.underlying27 sizeB hcl (fun j v hv => by
      rw [Go.WideShapes.add_plain, cell_of_row w q _ _ _ _ hq]
      unfold bv
      rw [List.getElem?_toArray]
      rw [← bcells_take, ← bcells_drop] at hv
      have hj : j < m := by
        have := (List.getElem?_eq_some_iff.1 hv).1
        rw [bcells_drop, bcells_take, bcells_length, hsl] at this
        exact this
      rwa [List.getElem?_take_of_lt hj, List.getElem?_drop] at hv) (fun j hj => by
        rw [bcells_length, hsl] at hj
        rw [cell_of_row w g _ _ _ _ hg, Array.getElem?_eq_getElem (by omega)]; rfl) (fun j hj => frozen_of_row w g _ _ _ hg) (bcells_one _)
    rw [h]
    have : Nat.min (16 - i) (N - d) = m := hm.symm
    rw [this]; rfl
  · have h := own_set_cells ho d (bcells (((bk f k).drop i).take m)) (by rw [bcells_length, hsl]; omega)
    rw [bcells_spl] at h
    exact h
set_option maxHeartbeats 4000000 in
theorem read_any {w : World} {B sp mb : Nat} {S : Sh} (h : SW w B sp mb S) (p m : Int) (hp : p ≤ 9223372036854775807) : Calls Try.prog 14 #[.pointer (some ⟨sp, 0, none⟩), .int .i64 p, .int .i64 m] w (ByPost w (rd S p m)) := by
  have d0 := cell_of h.here (j := 0) rfl
  have HNIL : Hid (∀ l : List UInt8, l = [] → ByPost w l (.returned (.slice none 0 0)) w) := Lib.hid (fun l e => by subst e; exact ⟨_, rfl, World.ownsRow_nil _ _ _ _, Below.refl _ _⟩)
  obtain ⟨z, hz⟩ : ∃ z : Int, (S.n : Int) = z := ⟨_, rfl⟩
  have HZ := Lib.hid hz
  rw [hz] at d0
  have hb0 : decide (p < 0) = decide (p < 0) := rfl
  by_cases h0 : p < 0
  · have HE : Hid (rd S p m = []) := Lib.hid (by unfold rd; rw [if_pos (.inl h0)])
    have h0' : decide (p < 0) = true := by simpa using h0
    clear h hz h0 hb0
    go_enter Try.func14, Try.ntmps14
    go_wp2_with fail
    go_ret
    exact HNIL.out _ HE.out
  · have h0' : decide (p < 0) = false := by simpa using h0
    by_cases h1 : m < 0
    · have HE : Hid (rd S p m = []) := Lib.hid (by unfold rd; rw [if_pos (.inr (.inl h1))])
      have h1' : decide (m < 0) = true := by simpa using h1
      clear h hz h0 h1 hb0
      go_enter Try.func14, Try.ntmps14
      go_wp2_with fail
      go_ret
      exact HNIL.out _ HE.out
    · have h1' : decide (m < 0) = false := by simpa using h1
      by_cases h2 : z ≤ p
      · have HE : Hid (rd S p m = []) := Lib.hid (by unfold rd; rw [if_pos (.inr (.inr (by rw [hz]; exact h2)))])
        have h2' : decide (z ≤ p) = true := by simpa using h2
        clear h hz h0 h1 h2 hb0
        go_enter Try.func14, Try.ntmps14
        go_wp2_with fail
        go_ret
        exact HNIL.out _ HE.out
      · have h2' : decide (z ≤ p) = false := by simpa using h2
        have hlim := h.good.lim
        obtain ⟨P, hP⟩ : ∃ P : Nat, p = (P : Int) := ⟨p.toNat, by omega⟩
        subst hP
        obtain ⟨N, hN⟩ : ∃ N : Nat, (N : Int) = min m (z - (P : Int)) := ⟨(min m (z - (P : Int))).toNat, by omega⟩
        have hPN : P + N ≤ S.n := by omega
        have HPN := Lib.hid hPN
        have HE : Hid (rd S (P : Int) m = rp S P N N) := Lib.hid (by
          rw [rp_end]
          unfold rd
          rw [if_neg (by omega), Int.toNat_natCast]
          by_cases hm : m ≤ z - (P : Int)
          · have : m.toNat = N := by omega
            rw [this]
          · rw [List.take_of_length_le (by rw [List.length_drop, bs_len]; omega), List.take_of_length_le (by rw [List.length_drop, bs_len]; omega)])
        have hw1 : IntKind.i64.wrap (z - (P : Int)) = z - (P : Int) := by rw [IntKind.wrap_i64]; omega
        have hmin : min m (z - (P : Int)) = (N : Int) := hN.symm
        have HN : Hid (N ≤ 1048576) := Lib.hid (by omega)
        have HPL : Hid (P + N ≤ 1048576) := Lib.hid (by omega)
        obtain ⟨C, hmk, hrow⟩ := make_bytes N HN.out w
        obtain ⟨w1, hw1e⟩ : ∃ w1, w1 = w.alloc (.cells C 5) := ⟨_, rfl⟩
        obtain ⟨g, hge⟩ : ∃ g, g = w.heap.size := ⟨_, rfl⟩
        have hb1 : Below w.heap.size w w1 := by rw [hw1e]; exact box_below w _
        have HS := Lib.hid h
        rw [← hw1e] at hmk hrow
        rw [← hge] at hmk
        have HROW : Hid (w1.ownsRow w.heap.size 5 1 (.slice (some ⟨g, 0, none⟩) N N) N (bcells (rp S P N 0))) := Lib.hid (by rw [hge]; simpa [rp] using hrow)
        have HB1 := Lib.hid hb1
        have HGW : Hid (w.heap.size ≤ g ∧ g < w1.heap.size) := Lib.hid ⟨by omega, by rw [hw1e, hge]; simp⟩
        clear h hz h0 h1 h2 hb0 hN hlim hPN hrow hw1e hge hb1
        go_enter Try.func14, Try.ntmps14
        go_wp2_with fail
        go_loopw [8] (fun i wr => ∃ d : Nat, d ≤ N ∧ i = .int .i64 d ∧ Hid (wr.ownsRow w.heap.size 5 1 (.slice (some ⟨g, 0, none⟩) N N) N (bcells (rp S P N d))) ∧ Hid (Below w.heap.size w wr)) (fun i _ => N - (intOf i).toNat)
        case atStart => exact ⟨0, Nat.zero_le _, rfl, HROW, HB1⟩
        case round =>
          obtain ⟨d, hd, rfl, HO, HB⟩ := hrel
          by_cases hlt : d < N
          · have hdi : (d : Int) < (N : Int) := by omega
            obtain ⟨x, hx⟩ : ∃ x, P + d = x := ⟨_, rfl⟩
            have hwx : IntKind.i64.wrap ((P : Int) + (d : Int)) = (x : Int) := by rw [IntKind.wrap_i64]; have := HPL.out; have := HN.out; omega
            have HPC := Lib.hid (place_any x (by have := HPL.out; have := HN.out; omega) wr)
            obtain ⟨k, hk⟩ : ∃ k, x / 16 = k := ⟨_, rfl⟩
            obtain ⟨i, hi⟩ : ∃ i, x % 16 = i := ⟨_, rfl⟩
            rw [hk, hi] at HPC
            obtain ⟨mm, hmm⟩ : ∃ mm, mm = min (16 - i) (N - d) := ⟨_, rfl⟩
            have hs := HS.out.below HB.out
            have e1 := cell_of hs.here (j := 1) rfl
            have hlook := (hs.map.look (k := k) (by have := HPL.out; have := HN.out; omega)).2
            obtain ⟨bvk, hbv⟩ : ∃ b, b = bv S.f k := ⟨_, rfl⟩
            rw [← hbv] at hlook
            have HSZ : Hid ((Try.prog.info? 61).map (·.size) = some bvk.size) := Lib.hid (by rw [hbv, bv_size]; exact sizeK)
            have HZZ : Hid (Z16.size = bvk.size) := Lib.hid (by rw [hbv, bv_size]; rfl)
            have HON : Hid (bvk.all (·.oneCell') = true) := Lib.hid (by rw [hbv]; exact bv_one _ _)
            obtain ⟨q, hq⟩ : ∃ q, q = wr.heap.size := ⟨_, rfl⟩
            obtain ⟨w2, hw2⟩ : ∃ w2, w2 = wr.alloc (.cells bvk 61) := ⟨_, rfl⟩
            have hb2 : Below wr.heap.size wr w2 := by rw [hw2]; exact box_below wr _
            have hq2 : w2.heap[q]? = some (.cells (bv S.f k) 61 (0, 0)) := by rw [hw2, hq, hbv]; exact new_block wr _
            obtain ⟨w3, hcp, ho3, hg3⟩ := copy_out (w := w2.drew) (f := S.f) (k := k) (own_below HO.out (hb2.drew)) (q := q) hq2 (d := d) (i := i) (m := mm) (by omega) hmm (by omega)
            have hst := rp_step (S := S) (P := P) (N := N) (d := d) (m := mm) HPN.out (by omega) (by rw [hx, hi]; omega)
            rw [hx, hk, hi] at hst
            rw [hst] at ho3
            have HO3 := Lib.hid ho3
            have HB3 : Hid (Below w.heap.size w w3) := Lib.hid (((HB.out.trans (hb2.mono HB.out.size)).drew).trans (gb_to hg3 HGW.out.1 (by have := HB.out.size; have := hb2.size; show _ ≤ w2.heap.size; omega)))
            have hs1 := arr_from q i (by omega)
            have hs2 := bytes_from g 0 N N d hlt (Nat.le_refl _)
            rw [Nat.zero_add] at hs2
            obtain ⟨y, hy⟩ : ∃ y, d + mm = y := ⟨_, rfl⟩
            have hwd : IntKind.i64.wrap ((d : Int) + (mm : Int)) = (y : Int) := by rw [IntKind.wrap_i64]; have := HN.out; omega
            have HMM : Hid (y ≤ N ∧ d < y) := Lib.hid (by omega)
            rw [hy] at HO3
            have HW2 := Lib.hid hw2
            have HQ := Lib.hid hq
            clear hy hx hk hi hmm hs hbv hq hw2 hb2 hq2 ho3 hg3 hst hd
            go_wp2_with fail
            refine HPC.out.mono ?_
            rintro e w' ⟨rfl, rfl⟩
            go_wp2_with (first
              | (with_reducible refine wpList_allocK rfl rfl ?_)
              | ((with_reducible refine wpList_store_new rfl 61 (.tmp 11) (.tmp 51) rfl Z16 bvk ?_ ?_ HSZ.out HZZ.out HON.out ?_); rfl; rfl)
              | fail)
            rw [← HW2.out, ← HQ.out]
            go_region
            simp only [List.getElem_toArray, List.getElem_cons_succ, List.getElem_cons_zero, Act.put, List.setIfInBounds_toArray, List.set_cons_succ, List.set_cons_zero]
            go_wp2_with fail
            go_roundw
            case rel => exact ⟨y, HMM.out.1, rfl, HO3, HB3⟩
            case measure => simp [intOf]; have := HMM.out; omega
          · obtain rfl : d = N := by omega
            have hdi : ¬ (d : Int) < (d : Int) := by omega
            have HF : Hid (ByPost w (rd S (P : Int) m) (.returned (.slice (some ⟨g, 0, none⟩) d d)) wr) := Lib.hid (by
              rw [HE.out]
              exact ⟨_, rfl, by rw [rp_len HPN.out (Nat.le_refl _)]; exact HO.out, HB.out⟩)
            go_wp2_with fail
            go_ret
            exact HF.out
end Go.Proofs.Ytoallenigfbkpaa
