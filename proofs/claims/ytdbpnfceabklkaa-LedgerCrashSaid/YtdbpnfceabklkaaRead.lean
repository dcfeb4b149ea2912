/-
  What Read returns: the sector's bytes in memory of their own; or what is amiss. No condition.
-/
import Derived.Test.YtdbpnfceabklkaaWrite
namespace Go.Proofs.Ytdbpnfceabklkaa
set_option maxRecDepth 100000
open Go.ChangeShapes Go.WideShapes Go.ChangeAt Go.RowKit

/-- What Read leaves. -/
def RdPost (w : World) (D : Dk) (n : Int) (e : Ending) (w' : World) : Prop :=
  ∃ A len c, e = .returned (.tuple #[.slice A len c, .int .i64 (doD D 1 n 0 []).2.2]) ∧ Reads w' A len (doD D 1 n 0 []).2.1 ∧ len ≤ c ∧ c ≤ 64 ∧ Below w.heap.size w w' ∧
    (0 < len → ∃ g, A = some ⟨g, 0, none⟩ ∧ w.heap.size ≤ g ∧ w'.heap[g]? = some (.cells (ints (doD D 1 n 0 []).2.1).toArray 87 (0, 0)))
theorem do_read_bad {D : Dk} {n : Int} (h : amiss D n ≠ 0) : doD D 1 n 0 [] = (D, [], amiss D n) := by
  unfold doD
  rw [if_neg (by decide), if_neg (by decide), if_neg (by decide)]
  unfold amiss at h ⊢
  by_cases hd : D.dead = true
  · rw [if_pos hd, if_pos hd]
  · rw [if_neg hd] at h ⊢
    rw [if_neg (by decide), if_neg hd]
    by_cases hn : n < 0 ∨ (D.firm.length : Int) ≤ n
    · rw [if_pos hn, if_pos (by omega)]
    · rw [if_neg hn] at h; exact absurd rfl h
theorem amiss_zero {D : Dk} {n : Int} (h : amiss D n = 0) : D.dead = false ∧ 0 ≤ n ∧ n < (D.firm.length : Int) := by
  unfold amiss at h
  by_cases hd : D.dead = true
  · rw [if_pos hd] at h; cases h
  · rw [if_neg hd] at h
    by_cases hn : n < 0 ∨ (D.firm.length : Int) ≤ n
    · rw [if_pos hn] at h; cases h
    · exact ⟨by cases e : D.dead <;> simp_all, by omega, by omega⟩
theorem do_read {D : Dk} {n : Nat} (hd : D.dead = false) (hn : n < D.firm.length) : doD D 1 (n : Int) 0 [] = (D, (cur D).getD n [], 0) := by
  unfold doD
  rw [if_neg (by decide), if_neg (by decide), if_neg (by decide), if_neg (by simp [hd]), if_neg (by decide), if_neg (by omega), if_pos rfl]
  rfl
theorem ints_read {w : World} {g : Nat} {s : List Int} {t : TypeId} (hs : Sok s) (hg : w.heap[g]? = some (.cells (ints s).toArray t (0, 0))) : Reads w (some ⟨g, 0, none⟩) 64 s :=
  reads_mk hs.1 (fun _ => ⟨g, 0, rfl, fun i hi => by
    rw [Nat.zero_add, cell_of_row w g i _ t _ hg, getD_eq _ (by rw [hs.1]; exact hi)]
    simp [ints, hs.1, hi]⟩) hs.2
theorem read_end {w : World} {D : Dk} {n : Nat} (hok : Dok D) (hd : D.dead = false) (hn : n < D.firm.length) (C : Array Value) (hC : C = (ints ((cur D).getD n [])).toArray) : RdPost w D (n : Int) (.returned (.tuple #[.slice (some ⟨w.heap.size, 0, none⟩) 64 64, .int .i64 0])) (w.alloc (.cells C 87)) := by
  have e := do_read hd hn
  have hs : Sok ((cur D).getD n []) := lok_getD (cur_ok hok) (by rw [cur_len]; exact hn)
  have hb : (w.alloc (.cells C 87)).heap[w.heap.size]? = some (.cells (ints ((cur D).getD n [])).toArray 87 (0, 0)) := by rw [← hC]; exact new_block w _
  refine ⟨_, 64, 64, by rw [e], by rw [e]; exact ints_read hs hb, Nat.le_refl _, Nat.le_refl _, box_below _ _, fun _ => ⟨_, rfl, Nat.le_refl _, by rw [e]; exact hb⟩⟩
theorem read_any (B p : Nat) (D : Dk) (n : Int) (w : World) (h : PDisk w B p D) : Calls Try.prog 30 #[.pointer (some ⟨p, 0, none⟩), .int .i64 n] w (RdPost w D n) := by
  obtain ⟨a, ha⟩ : ∃ a, a = amiss D n := ⟨_, rfl⟩
  have HAM : Hid (Calls Try.prog 43 #[.pointer (some ⟨p, 0, none⟩), .int .i64 n] w fun e w' => e = .returned (.int .i64 a) ∧ w = w') := Lib.hid (by rw [ha]; exact amiss_any B p D n w h)
  by_cases h0 : a = 0
  · subst h0
    obtain ⟨hd, h1, h2⟩ := amiss_zero ha.symm
    obtain ⟨m, rfl⟩ : ∃ m : Nat, n = (m : Int) := ⟨n.toNat, by omega⟩
    obtain ⟨sv, wv, left, h⟩ := h
    obtain ⟨S, c, rfl, -, -, hg⟩ := own_form h.secs
    obtain ⟨g, rfl⟩ := hg (by omega)
    have H := Lib.hid h
    have HD := Lib.hid hd
    have HN : Hid (m < D.firm.length) := Lib.hid (by omega)
    obtain ⟨c0, -, -, -⟩ := h.cell
    obtain ⟨cs, hcs⟩ : ∃ cs, cs = ints ((cur D).getD m []) := ⟨_, rfl⟩
    have HRG : Hid (w.rangeAt g (m * 64) cs) := Lib.hid (by rw [hcs]; exact sec_range h.secs h.ok HN.out)
    have hcl : cs.length = 64 := by rw [hcs]; exact sec_len h.ok HN.out
    have HCL : Hid ((Try.prog.info? 87).map (·.size) = some cs.length) := Lib.hid (by rw [hcl]; exact size66)
    have HC2 : Hid ((Try.prog.info? 87).map (·.size) = some cs.toArray.size) := Lib.hid (by rw [List.size_toArray, hcl]; exact size66)
    have HZS : Hid (Z64.size = cs.toArray.size) := Lib.hid (by rw [z64_size, List.size_toArray, hcl])
    have HON : Hid (cs.toArray.all (·.oneCell') = true) := Lib.hid (all_oneCell_toArray (by rw [hcs]; exact ints_one _))
    obtain ⟨C, hC⟩ : ∃ C, C = cs.toArray := ⟨_, rfl⟩
    rw [← hC] at HC2 HZS HON
    have HCC := Lib.hid hC
    have HCE : Hid (C = (ints ((cur D).getD m [])).toArray) := Lib.hid (by rw [hC, hcs])
    clear h ha hd hcs hcl hC
    go_enter Try.func30, Try.ntmps30
    go_wp2_with fail
    refine HAM.out.mono ?_
    rintro e w' ⟨rfl, rfl⟩
    go_wp2_with (first
      | ((with_reducible refine wpList_load_mid rfl 87 (.tmp 19) rfl g (m * 64) ?_ cs (.array 64 5) HRG.out Try.underlying87 ?_ HCL.out ?_); rfl; rfl; rw [← HCC.out])
      | (with_reducible refine wpList_alloc66 rfl rfl ?_)
      | ((with_reducible refine wpList_store_new rfl 87 (.tmp 7) (.tmp 20) rfl Z64 C ?_ ?_ HC2.out HZS.out HON.out ?_); rfl; rfl)
      | fail)
    go_ret2
    exact read_end H.out.ok HD.out HN.out C HCE.out
  · have h1 : (a != 0) = true := by simpa using h0
    have HX : Hid (doD D 1 n 0 [] = (D, [], a)) := Lib.hid (by rw [ha] at h0 ⊢; exact do_read_bad h0)
    clear h ha h0
    go_enter Try.func30, Try.ntmps30
    go_wp2_with fail
    refine HAM.out.mono ?_
    rintro e w' ⟨rfl, rfl⟩
    go_wp2
    go_ret2
    exact ⟨none, 0, 0, by rw [HX.out]; rfl, by rw [HX.out]; exact reads_none _, Nat.le_refl _, by decide, Below.refl _ _, fun h => absurd h (by decide)⟩
end Go.Proofs.Ytdbpnfceabklkaa
