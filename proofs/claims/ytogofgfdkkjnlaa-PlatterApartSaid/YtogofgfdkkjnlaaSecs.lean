/-
  What the law's sectors returns of a disk that lives: all sectors as they were written last. Condition: not too many sectors.
-/
import Derived.Test.YtogofgfdkkjnlaaRead
import Derived.Test.YtogofgfdkkjnlaaRMem
namespace Go.Proofs.Ytogofgfdkkjnlaa
open Go.ChangeShapes Go.WideShapes Go.ChangeAt Go.RowKit

/-- What sectors leaves. -/
def SePost (w : World) (D : Dk) (e : Ending) (w' : World) : Prop := ∃ v, e = .returned v ∧ w'.ownsRow w.heap.size 9 1 v D.firm.length (strs (cur D)) ∧ Below w.heap.size w w'
def SRel (w : World) (D : Dk) (vo vi : Value) (wr : World) : Prop :=
  ∃ (k : Nat) (A : Option Addr) (c : Nat), k ≤ D.firm.length ∧ vi = .int .i64 k ∧ vo = .slice A k c ∧ wr.ownsRow w.heap.size 9 1 vo k (strs ((cur D).take k)) ∧ Below w.heap.size w wr
theorem secs_round {w wr w1 w2 : World} {D : Dk} {k : Nat} {A A2 : Option Addr} {c c2 : Nat} {S : ByteArray} (hk : k < D.firm.length)
    (hr : wr.ownsRow w.heap.size 9 1 (.slice A k c) k (strs ((cur D).take k))) (hb : Below w.heap.size w wr) (hb1 : Below wr.heap.size wr w1) (hS : S = strOfNums ((cur D).getD k []))
    (h2 : w2.ownsRow w.heap.size 9 1 (.slice A2 (k + 1) c2) (k + 1) (strs ((cur D).take k) ++ [.string S])) (hg : (w1.alloc (.cells #[.string S] 9)).grownBy w2 (Value.slice A k c).ownBlock) : SRel w D (.slice A2 (k + 1) c2) (.int .i64 ((k : Int) + 1)) w2 := by
  have hba : Below wr.heap.size wr (w1.alloc (.cells #[.string S] 9)) := hb1.alloc hb1.size _
  have hra := own_below hr hba
  have hlt : k < (cur D).length := by rw [cur_len]; exact hk
  refine ⟨k + 1, A2, c2, by omega, by go_num, rfl, ?_, (hb.trans (hba.mono hb.size)).grown hg (by have := hba.size; have := hb.size; omega) (own_ge hra)⟩
  have e : strs ((cur D).take (k + 1)) = strs ((cur D).take k) ++ [.string S] := by
    rw [List.take_succ_eq_append_getElem hlt, hS, getD_eq _ hlt, strs, strs, List.map_append]; rfl
  rw [e]; exact h2
set_option maxHeartbeats 1000000 in
theorem secs_any (B p : Nat) (D : Dk) (w : World) (h : PDisk w B p D) (hd : D.dead = false) (hn : D.firm.length ≤ 65536) : Calls Try.prog 20 #[.pointer (some ⟨p, 0, none⟩)] w (SePost w D) := by
  have H := Lib.hid h
  have HD := Lib.hid hd
  have HM := Lib.hid (many_any B p D w h)
  clear h hd
  go_enter Try.func20, Try.ntmps20
  go_wp2_with fail
  refine HM.out.mono ?_
  rintro e w' ⟨rfl, rfl⟩
  go_wp2
  go_loopw [3, 9] (fun vo vi wr => SRel w D vo vi wr) (fun _ vi _ => D.firm.length - (intOf vi).toNat)
  case atStart => exact ⟨0, none, 0, Nat.zero_le _, rfl, rfl, World.ownsRow_nil _ _ _ _, Below.refl _ _⟩
  case round =>
    obtain ⟨k, A, c, hk, rfl, rfl, hr, hb⟩ := hrel
    have HR := Lib.hid hr
    have HB := Lib.hid hb
    by_cases hlt : k < D.firm.length
    · have HC := Lib.hid (read_any B p D (k : Int) wr (H.out.kept hb))
      have hk0 : (0 : Int) ≤ (k : Int) := by omega
      have hk1 : (k : Int) < (D.firm.length : Int) := by omega
      obtain ⟨i0, hi, hz0, hz1, hz2⟩ := info_parts info9
      obtain ⟨S, hS⟩ : ∃ S, S = strOfNums ((cur D).getD k []) := ⟨_, rfl⟩
      have HS := Lib.hid hS
      have HDO := Lib.hid (do_read HD.out hlt)
      clear hr hb hS
      go_wp2_with fail
      refine HC.out.mono ?_
      rintro e w1 ⟨A1, l1, c1, rfl, hr1, -, -, hb1, -⟩
      rw [HDO.out] at hr1 ⊢
      have hcv := conv_reads (c := c1) hr1
      rw [← HS.out] at hcv
      have HB1 := Lib.hid hb1
      have HO := Lib.hid ((own_below HR.out hb1).alloc (.cells #[.string S] 9))
      have HBS : Hid (w.heap.size ≤ (w1.alloc (.cells #[.string S] 9)).heap.size) := Lib.hid (by have := HB.out.size; have := hb1.size; simp; omega)
      have HM : Hid (k + 1 ≤ maxLen) := Lib.hid (by unfold maxLen; omega)
      have HM2 : Hid ((k + 1) * 16 ≤ 140737488355328) := Lib.hid (by omega)
      have HNW : Hid (∀ j u, [Value.string S][j]? = some u → (w1.alloc (.cells #[.string S] 9)).cell? ((⟨w1.heap.size, 0, none⟩ : Addr).add j) = some u) := Lib.hid (World.news_of_block' (new_block w1 _))
      have HON : Hid (∀ u ∈ [Value.string S], u.oneCell' = true) := Lib.hid (fun u hu => by rcases List.mem_singleton.1 hu with rfl; rfl)
      clear hb1 hr1
      go_wp2_with (first
        | (at_builtin; refine wpList_append_own (P := Try.prog) _ rfl (.tmp 18) (.tmp 21) 25 rfl w.heap.size 9 i0 (.string ⟨#[]⟩) 1 16 Try.underlying25 hi hz0 hz1 hz2 rfl (by decide) (.slice A k c) k (strs ((cur D).take k)) rfl HO.out ⟨w1.heap.size, 0, none⟩ 1 1 [.string S] rfl rfl HNW.out HON.out HM.out HM2.out HBS.out ?_; intro v2 w2 h2 h3 _; obtain ⟨A2, c2, rfl, -, -, -⟩ := own_form h2; have HX := Lib.hid (secs_round hlt HR.out HB.out HB1.out HS.out h2 h3); clear h2 h3)
        | fail)
      go_roundw
      case rel => exact HX.out
      case measure => simp [intOf] <;> omega
    · obtain rfl : D.firm.length = k := by omega
      rw [List.take_of_length_le (by rw [cur_len]; exact Nat.le_refl _)] at hr
      have HR2 := Lib.hid hr
      clear hr hb HR
      go_wp2
      go_ret
      exact ⟨_, rfl, HR2.out, HB.out⟩
end Go.Proofs.Ytogofgfdkkjnlaa
