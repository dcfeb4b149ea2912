/-
  What the document's own Valid, Depth, Base, Parent, Join, Under, Number tell of any texts: the same as the program. Condition: the texts have at most 2^20 bytes.
  What the document's Base returns of any text. Condition: it has at most 2^21 bytes.
-/
import Derived.Test.YtflgemlhocjipaaGreatDoorRNames
namespace Go.Proofs.YtflgemlhocjipaaGreatDoor
set_option maxRecDepth 100000
open Go.ChangeShapes Go.WideShapes Go.ChangeAt Go.RowKit Go.Proofs.Zn

theorem flat_take {ps : List Txt} {j : Nat} {x : Txt} (h : ps[j]? = some x) : flat (ps.take (j + 1)) = flat (ps.take j) ++ 47 :: x := by
  rw [List.take_add_one, h, flat_append]; simp [flat]
theorem flat_take_le (ps : List Txt) (j : Nat) : (flat (ps.take j)).length ≤ (flat ps).length := by
  conv => rhs; rw [← List.take_append_drop j ps]
  rw [flat_append, List.length_append]; omega
theorem flat_ok {ps : List Txt} (h : okB ps = true) : (flat ps).length ≤ 488 := by
  have h' := (ok_iff ps).1 h
  have : ∀ qs : List Txt, (∀ p ∈ qs, nameB p = true) → (flat qs).length ≤ 61 * qs.length := by
    intro qs
    induction qs with
    | nil => intro _; simp [flat]
    | cons q qs ih =>
      intro hq
      have h1 := name_pos (hq q (by simp))
      have h2 := ih (fun p hp => hq p (by simp [hp]))
      simp only [flat, List.cons_append, List.length_cons, List.length_append]
      omega
  have := this ps h'.1
  omega
set_option maxHeartbeats 2000000 in
theorem rpath_any (A : Option Addr) (n c : Nat) (ps : List Txt) (w : World) (h : SRd w A n c ps) (hl : (flat ps).length ≤ 1000000) :
    Calls Tryz.prog 110 #[.slice A n c] w fun e w' => e = .returned (.string (B (joinP ps))) ∧ w' = w := by
  obtain ⟨rfl, hlc, hcm, hcell⟩ := h
  by_cases h0 : ps.length = 0
  · obtain rfl : ps = [] := List.eq_nil_of_length_eq_zero h0
    go_enter Tryz.func110, Tryz.ntmps110
    go_wp2_with fail
    go_ret
    exact ⟨rfl, rfl⟩
  · obtain ⟨b, off, rfl, hcl⟩ := hcell (by omega)
    have HC := Lib.hid hcl
    have hz : ((ps.length : Int) == 0) = false := by rw [beq_eq_false_iff_ne]; omega
    have HJ : Hid (joinP ps = flat ps) := Lib.hid (by rw [joinP, if_neg (fun e => h0 (by rw [e]; rfl))])
    clear hcell hcl h0
    go_enter Tryz.func110, Tryz.ntmps110
    go_wp2_with fail
    go_loop [3, 4] (fun o i => ∃ j : Nat, j ≤ ps.length ∧ i = .int .i64 j ∧ o = .string (B (flat (ps.take j)))) (fun _ i => ps.length - (intOf i).toNat)
    case atStart => exact ⟨0, Nat.zero_le _, rfl, rfl⟩
    case round =>
      obtain ⟨j, hj, rfl, rfl⟩ := hrel
      by_cases hlt : j < ps.length
      · obtain ⟨x, hx⟩ : ∃ x, ps[j]? = some x := ⟨_, List.getElem?_eq_getElem hlt⟩
        have hcj := HC.out j x hx
        have hf := flat_take hx
        have hle := flat_take_le ps (j + 1)
        rw [hf, List.length_append, List.length_cons] at hle
        have HF := Lib.hid hf
        have hs1 : ∀ w, (Op.stringOp .add (B (flat (ps.take j))) ⟨#[47]⟩).run Tryz.prog w = .ok (.string (B (flat (ps.take j) ++ [47]))) w := add_any _ _ _ (by rw [LB, LB]) (by rw [B_size]; show _ + 1 ≤ _; omega)
        have hs2 : ∀ w, (Op.stringOp .add (B (flat (ps.take j) ++ [47])) (B x)).run Tryz.prog w = .ok (.string (B (flat (ps.take j) ++ 47 :: x))) w := add_any _ _ _ (by rw [LB, LB, LB]; simp) (by rw [B_size, B_size, List.length_append]; simp; omega)
        clear hx hf
        go_wp2_with fail
        go_round
        case rel => exact ⟨j + 1, hlt, by go_num, by rw [HF.out]⟩
        case measure => simp [intOf]; omega
      · have e : j = ps.length := by omega
        have HE : Hid (flat (ps.take j) = joinP ps) := Lib.hid (by rw [HJ.out, e, List.take_length])
        clear e
        go_wp2_with fail
        go_ret
        exact ⟨ret_string (by rw [HE.out]), rfl⟩
set_option maxHeartbeats 1000000 in
theorem rnames_any (s : ByteArray) (w : World) (hs : s.size ≤ 2097152) : Calls Tryz.prog 109 #[.string s] w (NmPost s w) := by
  by_cases h0 : L s = []
  · exact rnames_empty s w h0
  by_cases h1 : (L s).head? = some 47
  · by_cases hn : L s = [47]
    · exact rnames_root s w hn
    · exact rnames_main s w hn h1 hs
  · exact rnames_head s w h0 h1
set_option maxHeartbeats 1000000 in
theorem rvalid_any (s : ByteArray) (w : World) (hs : s.size ≤ 2097152) : Calls Tryz.prog 65 #[.string s] w fun e w' => e = .returned (.bool (valid (L s))) ∧ Below w.heap.size w w' := by
  go_enter Tryz.func65, Tryz.ntmps65
  go_wp2_with fail
  refine (rnames_any s _ hs).mono ?_
  rintro e w1 ⟨v, rfl, hb, -⟩
  have HB := Lib.hid hb
  clear hb
  go_wp2_with fail
  go_ret
  exact ⟨rfl, HB.out⟩
theorem valid_no {l : Txt} (h : names l = none) : Hid (valid l = false) := Lib.hid (by unfold valid; rw [h]; rfl)
theorem valid_yes {l : Txt} {ps : List Txt} (h : names l = some ps) : Hid (valid l = true) := Lib.hid (by unfold valid; rw [h]; rfl)
theorem to_any {w : World} {A : Option Addr} {n c : Nat} {ps : List Txt} (h : SRd w A n c ps) (m : Nat) (hm : m ≤ n) :
    ∃ A', (∀ W : World, (Instr.slice 40 (.slice A n c) none (some (.int .i64 (m : Int))) none).run Tryz.prog W = .ok (.slice A' m c) W) ∧ SRd w A' m c (ps.take m) := by
  obtain ⟨i0, hi, hz0, hz1, hz2⟩ := info_parts info9
  have e : Tryz.prog.elem 40 = 9 := by kernel_rfl
  have hc := h.2.1
  refine ⟨if c = 0 then A else A.map (·.add (0 * 1)), fun W => ?_, ?_⟩
  · rw [run_slice_h (P := Tryz.prog) (w := W) 40 A n c Tryz.underlying40 .i64 (m : Int) (by omega) (by omega)]
    simp [e, sizeOf, typeInfo, hi, hz1, sliced]
  · obtain ⟨h1, h2, h3, h4⟩ := h.take m hm
    refine ⟨h1, h2, h3, fun hp => ?_⟩
    obtain ⟨b, off, rfl, hcl⟩ := h4 hp
    exact ⟨b, off, by rw [if_neg (by omega)]; simp [Go.WideShapes.add_plain], hcl⟩
set_option maxHeartbeats 1000000 in
theorem rparent_any (s : ByteArray) (w : World) (hs : s.size ≤ 2097152) : Calls Tryz.prog 66 #[.string s] w fun e w' => e = .returned (.tuple #[.string (B (parent (L s))), .bool (parentOk (L s))]) ∧ Below w.heap.size w w' := by
  rcases hn : names (L s) with _ | ps
  · have hd : parent (L s) = [] := by unfold parent; rw [hn]
    have hp : parentOk (L s) = false := by unfold parentOk; rw [hn]
    have HV := valid_no hn
    rw [hd, hp]
    clear hn hd hp
    go_enter Tryz.func66, Tryz.ntmps66
    go_wp2_with fail
    refine (rnames_any s _ hs).mono ?_
    rintro e w1 ⟨v, rfl, hb, -⟩
    rw [HV.out]
    have HB := Lib.hid hb
    clear hb
    go_wp2_with fail
    go_ret2
    exact ⟨rfl, HB.out⟩
  rcases List.eq_nil_or_concat ps with rfl | ⟨init, b, rfl⟩
  · have hd : parent (L s) = [] := by unfold parent; rw [hn]; rfl
    have hp : parentOk (L s) = false := by unfold parentOk; rw [hn]; rfl
    have HV := valid_yes hn
    have HN := Lib.hid hn
    rw [hd, hp]
    clear hn hd hp
    go_enter Tryz.func66, Tryz.ntmps66
    go_wp2_with fail
    refine (rnames_any s _ hs).mono ?_
    rintro e w1 ⟨v, rfl, hb, hx⟩
    obtain ⟨A, c, rfl, hr⟩ := hx _ HN.out
    rw [HV.out]
    have HB := Lib.hid hb
    have HR := Lib.hid hr
    clear hb hx hr
    go_wp2_with fail
    go_ret2
    exact ⟨rfl, HB.out⟩
  · rw [List.concat_eq_append] at hn
    have hd : parent (L s) = joinP init := by unfold parent; rw [hn]; simp
    have hp : parentOk (L s) = true := by unfold parentOk; rw [hn]; simp
    have ho : okB init = true := by have := ok_dropLast (names_join hn).2; simpa using this
    have HF := Lib.hid (flat_ok ho)
    have HV := valid_yes hn
    have HN := Lib.hid hn
    rw [hd, hp]
    have hpn : (init ++ [b]).length = init.length + 1 := by simp
    have h8 := ((ok_iff _).1 (names_join HN.out).2).2
    rw [hpn] at h8
    have h8' : (init.length : Int) ≤ 8 := by omega
    obtain ⟨N, hN⟩ : ∃ N, (init ++ [b]).length = N := ⟨_, rfl⟩
    have hN1 : (N : Int) - 1 = (init.length : Int) := by omega
    have hN0 : ((N : Int) == 0) = false := by rw [beq_eq_false_iff_ne]; omega
    have hlt : init.length ≤ N := by omega
    have hNN := Lib.hid hN
    clear hn hd hpn hN hp ho
    go_enter Tryz.func66, Tryz.ntmps66
    go_wp2_with fail
    refine (rnames_any s _ hs).mono ?_
    rintro e w1 ⟨v, rfl, hb, hx⟩
    obtain ⟨A, c, rfl, hr⟩ := hx _ HN.out
    rw [HV.out]
    have HB := Lib.hid hb
    rw [hNN.out] at hr ⊢
    obtain ⟨A', hsl, hr'⟩ := to_any hr init.length hlt
    rw [List.take_append_of_le_length (Nat.le_refl _), List.take_length] at hr'
    have HR := Lib.hid hr'
    clear hr'
    clear hb hx hr
    go_wp2_with fail
    refine (rpath_any A' init.length c init _ HR.out (by have := HF.out; omega)).mono ?_
    rintro e w2 ⟨rfl, rfl⟩
    go_wp2_with fail
    go_ret2
    exact ⟨rfl, HB.out⟩
end Go.Proofs.YtflgemlhocjipaaGreatDoor
namespace Go.Proofs.YtflgemlhocjipaaGreatDoor
set_option maxRecDepth 100000
open Go.ChangeShapes Go.WideShapes Go.ChangeAt Go.RowKit Go.Proofs.Zn

end Go.Proofs.YtflgemlhocjipaaGreatDoor
