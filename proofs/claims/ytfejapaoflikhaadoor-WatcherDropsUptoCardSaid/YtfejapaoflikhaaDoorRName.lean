/-
  What the document's own test says of one name: the same. No condition but a text's length.
-/
import Derived.Test.YtfejapaoflikhaaDoorName
namespace Go.Proofs.YtfejapaoflikhaaDoor
open Go.ChangeShapes Go.WideShapes Go.ChangeAt Go.RowKit Go.Proofs.Zn

theorem name_tail {s : ByteArray} (h : s.data.toList.all letterB = true) : nameB s.data.toList = (decide ((1 : Int) ≤ s.size) && decide ((s.size : Int) ≤ 60) && !(s.toList == [46]) && !(s.toList == [46, 46])) := by
  have e1 : decide (1 ≤ s.data.toList.length) = decide ((1 : Int) ≤ s.size) := by rw [decide_eq_decide, ← Lib.size_eq]; omega
  have e2 : decide (s.data.toList.length ≤ 60) = decide ((s.size : Int) ≤ 60) := by rw [decide_eq_decide, ← Lib.size_eq]; omega
  unfold nameB
  rw [h, e1, e2, Lib.toList_data, Bool.true_and]
set_option maxHeartbeats 1000000 in
theorem rname_any (s : ByteArray) (w : World) (hs : s.size ≤ maxLen) : Calls Tryd.prog 45 #[.string s] w fun e w' => e = .returned (.bool (nameB s.data.toList)) ∧ w' = w := by
  unfold maxLen at hs
  go_enter Tryd.func45, Tryd.ntmps45
  go_wp2
  go_loop [3] (fun i => ∃ k : Nat, k ≤ s.size ∧ i = .int .i64 k ∧ Hid ((s.data.toList.take k).all letterB = true)) (fun i => s.size - (intOf i).toNat)
  case atStart => exact ⟨0, Nat.zero_le _, rfl, Lib.hid (by simp)⟩
  case round =>
    obtain ⟨k, hk, rfl, HA⟩ := hrel
    by_cases hlt : k < s.size
    · obtain ⟨b, hb⟩ : ∃ b, letterB s[k] = b := ⟨_, rfl⟩
      have HB := Lib.hid hb
      clear hb
      go_wp2_with ((with_reducible refine (rletter_any _ _).mono ?_); rintro e w' ⟨rfl, rfl⟩; rw [HB.out])
      · have hb : b = false := by cases b <;> simp_all
        have HB' := HB.out
        rw [hb] at HB'
        have e : nameB s.data.toList = false := by simp [nameB, all_bad hlt HB']
        go_ret
        exact ⟨ret_bool e.symm, rfl⟩
      · have hb : b = true := by cases b <;> simp_all
        have HB' := HB.out
        rw [hb] at HB'
        go_round
        case rel => exact ⟨k + 1, hlt, by go_num, Lib.hid (all_snoc hlt HA.out HB')⟩
        case measure => simp [intOf]; omega
    · have HN := Lib.hid (name_tail (all_done hlt HA.out))
      go_wp2
      all_goals
        go_ret
        exact ⟨ret_bool (by rw [HN.out]; clear HN; simp_all; try omega), rfl⟩
end Go.Proofs.YtfejapaoflikhaaDoor
