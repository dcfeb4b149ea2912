/-
  What ledger.read returns of a sector that there is, on a disk that lives: its bytes. No condition.
-/
import Derived.Test.YtdbpnfceabklkaaPlg
namespace Go.Proofs.Ytdbpnfceabklkaa
open Go.ChangeShapes Go.WideShapes Go.ChangeAt Go.RowKit

theorem lread_start (w : World) : ((w.alloc (.cells Z64 86)).alloc (.cells Z64 86)).heap[w.heap.size]? = some (.cells Z64 86 (0, 0)) ∧ ((w.alloc (.cells Z64 86)).alloc (.cells Z64 86)).heap[w.heap.size + 1]? = some (.cells Z64 86 (0, 0)) ∧ Below w.heap.size w ((w.alloc (.cells Z64 86)).alloc (.cells Z64 86)) := by
  have h := new_block (w.alloc (.cells Z64 86)) (.cells Z64 86)
  rw [show (w.alloc (.cells Z64 86)).heap.size = w.heap.size + 1 by simp] at h
  exact ⟨(Below.heap_alloc _ _ _ (by simp)).trans (new_block w _), h, (box_below w _).alloc (by simp) _⟩
theorem lread_mid {w w3 w4 : World} {s : List Int} (hb : Below w.heap.size w w3) (h0 : w3.heap[w.heap.size]? = some (.cells Z64 86 (0, 0))) (h1 : w4.heap[w.heap.size + 1]? = some (.cells (ints s).toArray 86 (0, 0))) (hg : w3.grownBy w4 (some (w.heap.size + 1))) :
    w4.heap[w.heap.size + 1]? = some (.cells (ints s).toArray 86 (0, 0)) ∧ w4.heap[w.heap.size]? = some (.cells Z64 86 (0, 0)) ∧ Below w.heap.size w w4 :=
  ⟨h1, (hg.block _ (Array.getElem?_eq_some_iff.1 h0).1 (fun e => by injection e with e; omega)).trans h0, hb.grown hg hb.size (fun k e => by injection e with e; omega)⟩
theorem lread_end {w w4 : World} {s : List Int} (hs : s.length = 64) (h : w4.heap[w.heap.size + 1]? = some (.cells (ints s).toArray 86 (0, 0)) ∧ w4.heap[w.heap.size]? = some (.cells Z64 86 (0, 0)) ∧ Below w.heap.size w w4) :
    (w4.setCells w.heap.size 0 (ints s)).heap[w.heap.size]? = some (.cells (ints s).toArray 86 (0, 0)) ∧ Below w.heap.size w (w4.setCells w.heap.size 0 (ints s)) :=
  ⟨set_whole h.2.1 (by rw [ints_length, hs, z64_size]), h.2.2.grown (setCells_grown _ _ _) h.2.2.size (fun k hk => by injection hk with hk; omega)⟩
set_option maxRecDepth 100000 in
theorem lread_any (B q p n : Nat) (G : Lg) (bv : Value) (D : Dk) (w : World) (hD : PDisk w B p D) (h : LCells w q p G bv) (hd : D.dead = false) (hn : n < D.firm.length) :
    Calls Try.prog 52 #[.pointer (some ⟨q, 0, none⟩), .int .i64 (n : Int)] w fun e w' => e = .returned (.agg (ints ((cur D).getD n [])).toArray) ∧ Below w.heap.size w w' := by
  obtain ⟨w2, hw2⟩ : ∃ w2, w2 = (w.alloc (.cells Z64 86)).alloc (.cells Z64 86) := ⟨_, rfl⟩
  have hst := lread_start w
  rw [← hw2] at hst
  have HST := Lib.hid hst
  have hok : Dok D := by obtain ⟨_, _, _, h⟩ := hD; exact h.ok
  have HS : Hid (Sok ((cur D).getD n [])) := Lib.hid (lok_getD (cur_ok hok) (by rw [cur_len]; exact hn))
  obtain ⟨s, hs⟩ : ∃ s, s = (cur D).getD n [] := ⟨_, rfl⟩
  have HR := Lib.hid (read_any B p D (n : Int) w2 (hD.kept hst.2.2))
  have HDR := Lib.hid (do_read hd hn)
  rw [← hs] at HS HDR ⊢
  have c0 : w2.cell? ⟨q, 0, none⟩ = some (.pointer (some ⟨p, 0, none⟩)) := (hst.2.2.cell (p := ⟨q, 0, none⟩) (cell_lt h.c0)).trans h.c0
  have HL : Hid ((ints s).length = 64) := Lib.hid (by rw [ints_length]; exact HS.out.1)
  have HSZ : Hid ((Try.prog.info? 86).map (·.size) = some (ints s).length) := Lib.hid (by rw [HL.out]; exact size86)
  have HS2 : Hid ((Try.prog.info? 86).map (·.size) = some (ints s).toArray.size) := Lib.hid (by rw [List.size_toArray, HL.out]; exact size86)
  have HON : Hid ((ints s).toArray.all (·.oneCell') = true) := Lib.hid (all_oneCell_toArray (ints_one _))
  clear hst hs hD h hok hd hn
  go_enter Try.func52, Try.ntmps52
  go_upto_region 2 with (first | (with_reducible refine wpList_alloc86 rfl rfl ?_) | fail)
  have hz1 : (w.alloc (.cells Z64 86)).heap.size = w.heap.size + 1 := by simp
  rw [hz1, ← hw2]
  clear hw2 hz1
  go_wp2_with fail
  refine HR.out.mono ?_
  rintro e w3 ⟨A, len, c, rfl, hrd, -, -, hb3, -⟩
  rw [HDR.out] at hrd ⊢
  have hlen : len = 64 := by rw [← hrd.1]; exact HS.out.1
  subst hlen
  have HRD := Lib.hid hrd
  have HB3 := Lib.hid (HST.out.2.2.trans (hb3.mono HST.out.2.2.size))
  have HG0 : Hid (w3.heap[w.heap.size]? = some (.cells Z64 86 (0, 0))) := Lib.hid ((hb3.block _ (Array.getElem?_eq_some_iff.1 HST.out.1).1).trans HST.out.1)
  have HG1 : Hid (w3.heap[w.heap.size + 1]? = some (.cells (ints (List.replicate 64 0)).toArray 86 (0, 0))) := Lib.hid (((hb3.block _ (Array.getElem?_eq_some_iff.1 HST.out.2.1).1).trans HST.out.2.1).trans (by rw [← z64_list]))
  have HMN : Hid ((ints s).length = Nat.min 64 64) := Lib.hid HL.out
  have HFT : Hid (0 + (ints s).length ≤ (ints (List.replicate 64 0)).length) := Lib.hid (by rw [HL.out, ints_length, List.length_replicate]; decide)
  have HSP : Hid (splice (ints (List.replicate 64 0)) 0 (ints s) = ints s) := Lib.hid (by have e := HS.out.1; rw [splice_ints]; simp [e])
  have HLE : Hid ((ints s).toArray.size ≤ Z64.size) := Lib.hid (by rw [List.size_toArray, HL.out, z64_size]; exact Nat.le_refl _)
  have c0' : w3.cell? ⟨q, 0, none⟩ = some (.pointer (some ⟨p, 0, none⟩)) := (hb3.cell (p := ⟨q, 0, none⟩) (cell_lt c0)).trans c0
  clear hb3 hrd c0
  go_wp2_with (first
    | ((with_reducible refine wpList_copy_grown rfl (.tmp 17) (.tmp 18) rfl (some ⟨w.heap.size + 1, 0, none⟩) A 64 64 64 c ?_ ?_ (w.heap.size + 1) 0 (ints (List.replicate 64 0)) 86 HG1.out (ints s) HMN.out (fun _ => ⟨rfl, reads_cells HRD.out (by decide)⟩) HFT.out (ints_one s) ?_); rfl; rfl; intro w4 hg4 hgr4; have HX := Lib.hid (lread_mid HB3.out HG0.out (by rw [HSP.out] at hg4; exact hg4) hgr4); clear hg4 hgr4; have HRG := Lib.hid (range_whole HX.out.1); have HTH := Lib.hid (there_whole HX.out.2.1 HLE.out); have HEND := Lib.hid (lread_end HS.out.1 HX.out))
    | ((with_reducible refine wpList_load_mid rfl 86 (.tmp 5) rfl (w.heap.size + 1) 0 ?_ (ints s) (.array 64 5) HRG.out Try.underlying86 ?_ HSZ.out ?_); rfl; rfl)
    | ((with_reducible refine wpList_store_mid rfl 86 (.tmp 4) (.tmp 20) rfl w.heap.size 0 (ints s).toArray ?_ ?_ HTH.out HS2.out HON.out ?_); rfl; rfl)
    | fail)
  exact bodyPost_ret (v := .agg (ints s).toArray) (results_c rfl Try.underlying86 rfl _ _ w.heap.size (ints s) HSZ.out rfl (by exact HEND.out.1)) rfl ⟨rfl, HEND.out.2⟩
end Go.Proofs.Ytdbpnfceabklkaa
