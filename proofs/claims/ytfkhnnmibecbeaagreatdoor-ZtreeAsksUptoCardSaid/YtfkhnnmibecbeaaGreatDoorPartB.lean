/-
  What Base returns of any text. Condition: its length.
-/
import Derived.Test.YtfkhnnmibecbeaaGreatDoorPart
namespace Go.Proofs.YtfkhnnmibecbeaaGreatDoor
open Go.ChangeShapes Go.WideShapes Go.ChangeAt Go.RowKit Go.Proofs.Zn

set_option maxHeartbeats 1000000 in
theorem base_any (s : ByteArray) (w : World) (hs : s.size ≤ 140737488355328) : Calls Tryz.prog 41 #[.string s] w fun e w' => e = .returned (.string (B (base (L s)))) ∧ Below w.heap.size w w' := by
  cases hv : valid (L s)
  · have hb : base (L s) = [] := by
      unfold valid at hv
      unfold base
      cases hn : names (L s) <;> simp_all
    rw [hb]
    have HV := Lib.hid hv
    clear hv hb
    go_enter Tryz.func41, Tryz.ntmps41
    go_wp2_with fail
    refine (valid_any _ _ (by omega)).mono ?_
    rintro e w1 ⟨rfl, hb⟩
    rw [HV.out]
    have HB := Lib.hid hb
    clear hb
    go_wp2
    go_ret
    exact ⟨rfl, HB.out⟩
  · obtain ⟨a, b, e, hf, hb, -⟩ := valid_cut hv
    have hsz : s.size = a.length + 1 + b.length := by rw [← L_len, e]; simp; omega
    have HE : Hid (s.extract (a.length + 1) s.size = B (base (L s))) := Lib.hid (by rw [ext_from, hb]; conv => lhs; rw [e]
                                                                                    simp)
    have HV := Lib.hid hv
    have EE := Lib.hid e
    have HS := Lib.hid hsz
    have h1 : (0 : Int) ≤ (a.length : Int) + 1 := by omega
    have h2 : (a.length : Int) + 1 ≤ s.size := by omega
    have h3 : s.size ≤ 281474976710656 := by omega
    clear hv hb hsz e
    go_enter Tryz.func41, Tryz.ntmps41
    go_wp2_with fail
    refine (valid_any _ _ (by omega)).mono ?_
    rintro e w1 ⟨rfl, hb⟩
    rw [HV.out]
    have HB := Lib.hid hb
    clear hb
    go_wp2_with fail
    refine (last_any EE.out hf _ (by omega)).mono ?_
    rintro e w2 ⟨rfl, rfl⟩
    go_wp2_with fail
    rw [HE.out]
    refine (clone_any _ _ ?_).mono ?_
    · rw [← HE.out, ByteArray.size_extract]; omega
    rintro e w3 ⟨rfl, hb⟩
    have HB3 := Lib.hid (HB.out.trans (hb.mono HB.out.size))
    clear hb
    go_wp2
    go_ret
    exact ⟨rfl, HB3.out⟩
end Go.Proofs.YtfkhnnmibecbeaaGreatDoor
