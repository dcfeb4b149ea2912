/-
  What the document's All returns: all sectors as they were written last. Condition: not too many sectors.
-/
import Derived.Test.YtogofgfdkkjnlaaRMem
namespace Go.Proofs.Ytogofgfdkkjnlaa
open Go.ChangeShapes Go.WideShapes Go.ChangeAt Go.RowKit

/-- What All leaves. -/
def AlPost (w : World) (D : Dk) (e : Ending) (w' : World) : Prop := ∃ v, e = .returned v ∧ w'.ownsRow w.heap.size 9 1 v D.firm.length (strs (cur D)) ∧ Below w.heap.size w w'
/-- What the loop keeps: the box of the disk, the row so far. -/
def ARel (w : World) (fv wv : Value) (D : Dk) (vo vi : Value) (wr : World) : Prop :=
  ∃ (k : Nat) (A : Option Addr) (c : Nat), k ≤ D.firm.length ∧ vi = .int .i64 k ∧ vo = .slice A k c ∧ wr.heap[w.heap.size]? = some (.cells #[fv, wv, .int .i64 D.armed, .bool D.dead] 28 (0, 0)) ∧ wr.ownsRow w.heap.size 9 1 vo k (strs ((cur D).take k)) ∧ Below w.heap.size w wr
theorem all_round {w wr w1 w2 : World} {fv wv : Value} {D : Dk} {k : Nat} {A A2 : Option Addr} {c c2 : Nat} {S : ByteArray} (hk : k < D.firm.length) (h0 : wr.heap[w.heap.size]? = some (.cells #[fv, wv, .int .i64 D.armed, .bool D.dead] 28 (0, 0)))
    (hr : wr.ownsRow w.heap.size 9 1 (.slice A k c) k (strs ((cur D).take k))) (hb : Below w.heap.size w wr) (hb1 : Below wr.heap.size wr w1) (hS : S = strOfNums ((cur D).getD k []))
    (h2 : w2.ownsRow w.heap.size 9 1 (.slice A2 (k + 1) c2) (k + 1) (strs ((cur D).take k) ++ [.string S])) (hg : (w1.alloc (.cells #[.string S] 9)).grownBy w2 (Value.slice A k c).ownBlock) : ARel w fv wv D (.slice A2 (k + 1) c2) (.int .i64 ((k : Int) + 1)) w2 := by
  have hba : Below wr.heap.size wr (w1.alloc (.cells #[.string S] 9)) := hb1.alloc hb1.size _
  have hra := own_below hr hba
  have hl := lt_of_block h0
  have h1 := (hba.block _ hl).trans h0
  have hlt : k < (cur D).length := by rw [cur_len]; exact hk
  refine ⟨k + 1, A2, c2, by omega, by go_num, rfl, ?_, ?_, (hb.trans (hba.mono hb.size)).grown hg (by have := hba.size; have := hb.size; omega) (own_ge hra)⟩
  · rw [hg.block _ (lt_of_block h1) (fun e => own_ne hra h1 (by decide) e.symm)]; exact h1
  · have e : strs ((cur D).take (k + 1)) = strs ((cur D).take k) ++ [.string S] := by
      rw [List.take_succ_eq_append_getElem hlt, hS, getD_eq _ hlt, strs, strs, List.map_append]; rfl
    rw [e]; exact h2
set_option maxHeartbeats 1000000 in
theorem rall_any (B : Nat) (fv wv : Value) (D : Dk) (w : World) (h : RDisk w B fv wv D) (hn : D.firm.length ≤ 65536) : Calls Try.prog 14 #[.agg #[fv, wv, .int .i64 D.armed, .bool D.dead]] w (AlPost w D) := by
  have H := Lib.hid h
  obtain ⟨Af, cf, rfl, -, -, -⟩ := own_form h.firm
  obtain ⟨Aw, cw, rfl, -, -, -⟩ := own_form h.wait
  have HST : Hid (ARel w (.slice Af D.firm.length cf) (.slice Aw D.wait.length cw) D (.slice none 0 0) (.int .i64 0) (w.alloc (.cells #[.slice Af D.firm.length cf, .slice Aw D.wait.length cw, .int .i64 D.armed, .bool D.dead] 28))) := Lib.hid
    ⟨0, none, 0, Nat.zero_le _, rfl, rfl, new_block w _, World.ownsRow_nil _ _ _ _, box_below w _⟩
  clear h
  go_enter Try.func14, Try.ntmps14
  go_wp2
  go_loopw [3, 4] (fun vo vi wr => ARel w (.slice Af D.firm.length cf) (.slice Aw D.wait.length cw) D vo vi wr) (fun _ vi _ => D.firm.length - (intOf vi).toNat)
  case atStart => exact HST.out
  case round =>
    obtain ⟨k, A, c, hk, rfl, rfl, h0, hr, hb⟩ := hrel
    have HR := Lib.hid hr
    have HB := Lib.hid hb
    have H0 := Lib.hid h0
    have q0 := cell_of h0 (j := 0) rfl
    have q1 := cell_of h0 (j := 1) rfl
    have q2 := cell_of h0 (j := 2) rfl
    have q3 := cell_of h0 (j := 3) rfl
    by_cases hlt : k < D.firm.length
    · have HC := Lib.hid (rread_any B _ _ D k wr (H.out.kept hb) hlt)
      have hk0 : (0 : Int) ≤ (k : Int) := by omega
      have hk1 : (k : Int) < (D.firm.length : Int) := by omega
      obtain ⟨i0, hi, hz0, hz1, hz2⟩ := info_parts info9
      obtain ⟨S, hS⟩ : ∃ S, S = strOfNums ((cur D).getD k []) := ⟨_, rfl⟩
      have HS := Lib.hid hS
      clear hr hb h0 hS
      go_wp2_with fail
      refine HC.out.mono ?_
      rintro e w1 ⟨rfl, hb1⟩
      rw [← HS.out]
      have HB1 := Lib.hid hb1
      have HO := Lib.hid ((own_below HR.out hb1).alloc (.cells #[.string S] 9))
      have HBS : Hid (w.heap.size ≤ (w1.alloc (.cells #[.string S] 9)).heap.size) := Lib.hid (by have := HB.out.size; have := hb1.size; simp; omega)
      have HM : Hid (k + 1 ≤ maxLen) := Lib.hid (by unfold maxLen; omega)
      have HM2 : Hid ((k + 1) * 16 ≤ 140737488355328) := Lib.hid (by omega)
      have HNW : Hid (∀ j u, [Value.string S][j]? = some u → (w1.alloc (.cells #[.string S] 9)).cell? ((⟨w1.heap.size, 0, none⟩ : Addr).add j) = some u) := Lib.hid (World.news_of_block' (new_block w1 _))
      have HON : Hid (∀ u ∈ [Value.string S], u.oneCell' = true) := Lib.hid (fun u hu => by rcases List.mem_singleton.1 hu with rfl; rfl)
      clear hb1
      go_wp2_with (first
        | (at_builtin; refine wpList_append_own (P := Try.prog) _ rfl (.tmp 12) (.tmp 16) 25 rfl w.heap.size 9 i0 (.string ⟨#[]⟩) 1 16 Try.underlying25 hi hz0 hz1 hz2 rfl (by decide) (.slice A k c) k (strs ((cur D).take k)) rfl HO.out ⟨w1.heap.size, 0, none⟩ 1 1 [.string S] rfl rfl HNW.out HON.out HM.out HM2.out HBS.out ?_; intro v2 w2 h2 h3 _; obtain ⟨A2, c2, rfl, -, -, -⟩ := own_form h2; have HX := Lib.hid (all_round hlt H0.out HR.out HB.out HB1.out HS.out h2 h3); clear h2 h3)
        | fail)
      go_roundw
      case rel => exact HX.out
      case measure => simp [intOf] <;> omega
    · obtain rfl : D.firm.length = k := by omega
      rw [List.take_of_length_le (by rw [cur_len]; exact Nat.le_refl _)] at hr
      have HR2 := Lib.hid hr
      clear hr hb h0 HR
      go_wp2
      go_ret
      exact ⟨_, rfl, HR2.out, HB.out⟩
end Go.Proofs.Ytogofgfdkkjnlaa
