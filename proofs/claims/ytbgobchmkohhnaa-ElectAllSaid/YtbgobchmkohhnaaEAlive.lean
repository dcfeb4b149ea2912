/-
  The laws' own alive returns true. No condition.
-/
import Derived.Test.YtbgobchmkohhnaaERef
namespace Go.Proofs.Ytbgobchmkohhnaa
set_option maxRecDepth 100000
open Go.ChangeShapes Go.WideShapes Go.ChangeAt Go.RowKit Go.Proofs.Rk Go.Proofs.El

theorem new_yes {s m p : Int} (h : okN s m p = true) (w : World) : Calls Try.prog 9 #[.int .i64 s, .int .i64 m, .int .i64 p] w fun e w' => ∃ tp, e = .returned (.tuple #[.pointer (some ⟨tp, 0, none⟩), .int .i64 0]) ∧ TimW w' tp (newT s m p) ∧ w.heap.size ≤ tp ∧ Below w.heap.size w w' := by
  refine (new_any s m p w).mono fun e w' he => ?_
  unfold NewPost at he
  rw [h, if_pos rfl] at he
  exact he
theorem new_no {s m p : Int} (h : okN s m p = false) (w : World) : Calls Try.prog 9 #[.int .i64 s, .int .i64 m, .int .i64 p] w fun e w' => e = .returned (.tuple #[.pointer none, .int .i64 1]) ∧ w = w' := by
  refine (new_any s m p w).mono fun e w' he => ?_
  unfold NewPost at he
  rw [h, if_neg (by simp)] at he
  exact he
theorem Wr.on {r : Nat} {w0 w w' : World} (h : Wr r w w') (hb : Below w0.heap.size w0 w) (hr : w0.heap.size ≤ r) : Below w0.heap.size w0 w' := hb.trans (gb_to h.gb hr hb.size)
theorem tick_is {w : World} {p : Nat} {t T : Tm} {l n : Bool} (h : TimW w p t) (hg : El.Good t) (b : Bool) (h1 : leadT t b = l) (h2 : nudgeT t b = n) (h3 : tickT t b = T) : Calls Try.prog 14 #[.pointer (some ⟨p, 0, none⟩), .bool b] w fun e w' => e = .returned (.tuple #[.bool l, .bool n]) ∧ TimW w' p T ∧ Wr p w w' := by
  refine (tick_any h hg b).mono fun e w' he => ?_
  unfold TkPost at he
  rw [h1, h2, h3] at he
  exact he
set_option maxHeartbeats 4000000 in
theorem alive_any (w : World) : Calls Try.prog 11 #[] w fun e w' => e = .returned (.bool true) ∧ Below w.heap.size w w' := by
  have HN := Lib.hid (fun W => new_yes (s := 1) (m := 3) (p := 2) (by decide) W)
  have e0 : newT 1 3 2 = ⟨2, 10, 0, 6⟩ := rfl
  rw [e0] at HN
  clear e0
  go_enter Try.func11, Try.ntmps11
  go_wp2_with fail
  refine (HN.out _).mono ?_
  rintro e w1 ⟨tp, rfl, ht, hge, hb⟩
  have HL1 := Lib.hid (limit_any ht)
  have HT1 := Lib.hid ht
  have HB1 := Lib.hid hb
  have HGE := Lib.hid hge
  clear ht hge hb
  go_wp2_with fail
  refine HL1.out.mono ?_
  rintro e w2 ⟨rfl, rfl⟩
  go_wp2_with fail
  go_loopw [22] (fun i wr => ∃ (k : Nat), k ≤ 5 ∧ i = .int .i64 k ∧ Hid (TimW wr tp ⟨2, 10, (k : Int), 6⟩) ∧ Hid (Below w.heap.size w wr)) (fun i _ => 5 - (intOf i).toNat)
  case atStart => exact ⟨0, Nat.zero_le _, rfl, HT1, HB1⟩
  case round =>
    obtain ⟨k, hk, rfl, HR, HX⟩ := hrel
    by_cases hlt : k < 5
    · have hki : (k : Int) < 5 := by omega
      have hwk : IntKind.i64.wrap ((k : Int) + 1) = (k : Int) + 1 := by rw [IntKind.wrap_i64]; omega
      have HTK := Lib.hid (tick_is (l := false) (n := false) (T := ⟨2, 10, (k : Int) + 1, 6⟩) HR.out ⟨by simp, by simp, by simp, by simp, by simp, by simp only; omega, by simp, by simp⟩ false (by unfold leadT; simp; omega) (by unfold nudgeT; simp) (by unfold tickT; simp; omega))
      go_wp2_with fail
      refine HTK.out.mono ?_
      rintro e w3 ⟨rfl, h3, h4⟩
      have HB3 := Lib.hid (h4.on HX.out HGE.out)
      have HT3 := Lib.hid h3
      clear h3 h4
      go_wp2_with fail
      go_roundw
      case rel => exact ⟨k + 1, by omega, by go_num, HT3, HB3⟩
      case measure => simp [intOf]; omega
    · obtain rfl : k = 5 := by omega
      have HTK := Lib.hid (tick_is (l := true) (n := false) (T := ⟨2, 10, 0, 16⟩) HR.out ⟨by simp, by simp, by simp, by simp, by simp, by simp, by simp, by simp⟩ false (by decide) (by decide) (by rfl))
      go_wp2_with fail
      refine HTK.out.mono ?_
      rintro e w3 ⟨rfl, h3, h4⟩
      have HB3 := Lib.hid (h4.on HX.out HGE.out)
      have HW3 := Lib.hid (wait_any h3)
      clear h3 h4
      go_wp2_with fail
      refine HW3.out.mono ?_
      rintro e w4 ⟨rfl, rfl⟩
      go_wp2_with fail
      go_ret
      exact ⟨rfl, HB3.out⟩
end Go.Proofs.Ytbgobchmkohhnaa
