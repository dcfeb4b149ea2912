/-
  What the document's Base returns of any text. Condition: it has at most 2^21 bytes.
-/
import Derived.Test.YtflgemlhocjipaaGreatDoorRPart
namespace Go.Proofs.YtflgemlhocjipaaGreatDoor
set_option maxRecDepth 100000
open Go.ChangeShapes Go.WideShapes Go.ChangeAt Go.RowKit Go.Proofs.Zn

set_option maxHeartbeats 1000000 in
theorem rbase_any (s : ByteArray) (w : World) (hs : s.size ≤ 2097152) : Calls Tryz.prog 192 #[.string s] w fun e w' => e = .returned (.string (B (base (L s)))) ∧ Below w.heap.size w w' := by
  rcases hn : names (L s) with _ | ps
  · have hd : base (L s) = [] := by unfold base; rw [hn]
    have HV := valid_no hn
    rw [hd]
    clear hn hd
    go_enter Tryz.func192, Tryz.ntmps192
    go_wp2_with fail
    refine (rnames_any s _ hs).mono ?_
    rintro e w1 ⟨v, rfl, hb, -⟩
    rw [HV.out]
    have HB := Lib.hid hb
    clear hb
    go_wp2_with fail
    go_ret
    exact ⟨rfl, HB.out⟩
  rcases List.eq_nil_or_concat ps with rfl | ⟨init, b, rfl⟩
  · have hd : base (L s) = [] := by unfold base; rw [hn]; rfl
    have HV := valid_yes hn
    have HN := Lib.hid hn
    rw [hd]
    clear hn hd
    go_enter Tryz.func192, Tryz.ntmps192
    go_wp2_with fail
    refine (rnames_any s _ hs).mono ?_
    rintro e w1 ⟨v, rfl, hb, hx⟩
    obtain ⟨A, c, rfl, hr⟩ := hx _ HN.out
    rw [HV.out]
    have HB := Lib.hid hb
    have HR := Lib.hid hr
    clear hb hx hr
    go_wp2_with fail
    go_ret
    exact ⟨rfl, HB.out⟩
  · rw [List.concat_eq_append] at hn
    have hd : base (L s) = b := by unfold base; rw [hn]; simp
    have HV := valid_yes hn
    have HN := Lib.hid hn
    rw [hd]
    have hpn : (init ++ [b]).length = init.length + 1 := by simp
    have h8 := ((ok_iff _).1 (names_join HN.out).2).2
    rw [hpn] at h8
    have h8' : (init.length : Int) ≤ 8 := by omega
    obtain ⟨N, hN⟩ : ∃ N, (init ++ [b]).length = N := ⟨_, rfl⟩
    have hN1 : (N : Int) - 1 = (init.length : Int) := by omega
    have hN0 : ((N : Int) == 0) = false := by rw [beq_eq_false_iff_ne]; omega
    have hlt : (init.length : Int) < N := by omega
    have hNN := Lib.hid hN
    clear hn hd hpn hN
    go_enter Tryz.func192, Tryz.ntmps192
    go_wp2_with fail
    refine (rnames_any s _ hs).mono ?_
    rintro e w1 ⟨v, rfl, hb, hx⟩
    obtain ⟨A, c, rfl, hr⟩ := hx _ HN.out
    rw [HV.out]
    have HB := Lib.hid hb
    rw [hNN.out] at hr ⊢
    obtain ⟨-, -, -, hcell⟩ := hr
    obtain ⟨bb, off, rfl, hcl⟩ := hcell (by omega)
    have hc := hcl init.length b (by simp)
    clear hb hx hcell hcl
    go_wp2_with fail
    go_ret
    exact ⟨rfl, HB.out⟩
end Go.Proofs.YtflgemlhocjipaaGreatDoor
