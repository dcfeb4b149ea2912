/-
  What the document's Need, Long, Sure, Same return. Conditions: no more than 100000 records, none longer than an int tells (Need: than 4096).
-/
import Derived.Test.YtdbpnfceabklkaaMeth3
namespace Go.Proofs.Ytdbpnfceabklkaa
set_option maxRecDepth 100000
open Go.ChangeShapes Go.WideShapes Go.ChangeAt Go.RowKit

theorem toList_inj {a b : ByteArray} (h : a.toList = b.toList) : a = b := by
  rw [ByteArray.toList_eq, ByteArray.toList_eq] at h
  obtain ⟨⟨x⟩⟩ := a
  obtain ⟨⟨y⟩⟩ := b
  have h' : x = y := h
  rw [h']
theorem ret_b {a b : Bool} (h : a = b) : Ending.returned (.bool a) = Ending.returned (.bool b) := by rw [h]
theorem need_any (A : Option Addr) (n c : Nat) (l : List (List Int)) (w : World) (hS : SReads w A n l) (hn : n ≤ 100000) (hz : ∀ s ∈ l, s.length ≤ 4096) :
    Calls Try.prog 31 #[.slice A n c] w fun e w' => e = .returned (.int .i64 (need l : Int)) ∧ w = w' := by
  have HS := Lib.hid hS
  have HL := Lib.hid hS.1
  have HZ := Lib.hid hz
  clear hS hz
  go_enter Try.func31, Try.ntmps31
  go_wp2_with fail
  go_loop [3, 4] (fun vn vk => ∃ k t : Nat, k ≤ n ∧ vk = .int .i64 k ∧ t = need (l.take k) ∧ vn = .int .i64 (t : Int)) (fun _ vk => n - (intOf vk).toNat)
  case atStart => exact ⟨0, 0, Nat.zero_le _, rfl, rfl, rfl⟩
  case round =>
    obtain ⟨k, t, hk, rfl, ht, rfl⟩ := hrel
    have htb : t ≤ 410000000 := by
      have h1 := need_le (l := l.take k) (fun s hs => HZ.out s (List.mem_of_mem_take hs))
      have h2 : (l.take k).length ≤ k := List.length_take_le _ _
      omega
    have HT := Lib.hid ht
    clear ht
    by_cases hlt : k < n
    · obtain ⟨b, off, rfl, hc⟩ := HS.out.2.1 (by omega)
      have hck := hc k hlt
      obtain ⟨S, hS⟩ : ∃ S, S = strOfNums (l.getD k []) := ⟨_, rfl⟩
      rw [← hS] at hck
      have hmem : l.getD k [] ∈ l := by rw [getD_eq _ (by rw [HL.out]; exact hlt)]; exact List.getElem_mem _
      have hsz : S.size = (l.getD k []).length := by rw [hS, str_size]
      have hsb : S.size ≤ 4096 := by rw [hsz]; exact HZ.out _ hmem
      have hNS : Hid (need (l.take (k + 1)) = need (l.take k) + (S.size + 4)) := Lib.hid (by rw [need_take_succ l k (by rw [HL.out]; exact hlt), hsz])
      have hk0 : (0 : Int) ≤ (k : Int) := by omega
      have hk1 : (k : Int) < (n : Int) := by omega
      clear hc hS hmem hsz
      go_wp2_with fail
      go_round
      case rel => exact ⟨k + 1, t + (S.size + 4), by omega, by go_num, by rw [hNS.out, HT.out], by go_num⟩
      case measure => simp [intOf]; omega
    · obtain rfl : k = n := by omega
      have hk1 : ¬ (k : Int) < (k : Int) := by omega
      go_wp2_with fail
      go_ret
      exact ⟨ret_i (by rw [HT.out, List.take_of_length_le (by rw [HL.out]; exact Nat.le_refl _)]), rfl⟩
theorem long_any (A : Option Addr) (n c : Nat) (l : List (List Int)) (w : World) (hS : SReads w A n l) (hn : n ≤ 100000) (hz : ∀ s ∈ l, s.length ≤ 9223372036854775807) :
    Calls Try.prog 33 #[.slice A n c] w fun e w' => e = .returned (.bool (decide (∃ s ∈ l, 4096 < s.length))) ∧ w = w' := by
  have HS := Lib.hid hS
  have HL := Lib.hid hS.1
  have HZ := Lib.hid hz
  obtain ⟨r, hr⟩ : ∃ r, r = decide (∃ s ∈ l, 4096 < s.length) := ⟨_, rfl⟩
  rw [← hr]
  have HR := Lib.hid hr
  clear hS hz hr
  go_enter Try.func33, Try.ntmps33
  go_wp2_with fail
  go_loop [3] (fun vk => ∃ k : Nat, k ≤ n ∧ vk = .int .i64 k ∧ ∀ s ∈ l.take k, s.length ≤ 4096) (fun vk => n - (intOf vk).toNat)
  case atStart => exact ⟨0, Nat.zero_le _, rfl, fun s hs => by simp at hs⟩
  case round =>
    obtain ⟨k, hk, rfl, hsm⟩ := hrel
    have HSM := Lib.hid hsm
    clear hsm
    by_cases hlt : k < n
    · obtain ⟨b, off, rfl, hc⟩ := HS.out.2.1 (by omega)
      have hck := hc k hlt
      obtain ⟨S, hS⟩ : ∃ S, S = strOfNums (l.getD k []) := ⟨_, rfl⟩
      rw [← hS] at hck
      have hmem : l.getD k [] ∈ l := by rw [getD_eq _ (by rw [HL.out]; exact hlt)]; exact List.getElem_mem _
      have hsz : S.size = (l.getD k []).length := by rw [hS, str_size]
      have hsb : (S.size : Int) ≤ 9223372036854775807 := by have := HZ.out _ hmem; omega
      have HTK : Hid (l.take (k + 1) = l.take k ++ [l.getD k []]) := Lib.hid (by rw [List.take_succ_eq_append_getElem (by rw [HL.out]; exact hlt), getD_eq _ (by rw [HL.out]; exact hlt)])
      have HSZ := Lib.hid hsz
      have HME := Lib.hid hmem
      have hk0 : (0 : Int) ≤ (k : Int) := by omega
      have hk1 : (k : Int) < (n : Int) := by omega
      clear hc hS hmem hsz
      by_cases hlong : (4096 : Int) < (S.size : Int)
      · have HRR : Hid (r = true) := Lib.hid (by rw [HR.out]; exact decide_eq_true ⟨_, HME.out, by rw [← HSZ.out]; omega⟩)
        go_wp2_with fail
        go_ret
        exact ⟨ret_b HRR.out.symm, rfl⟩
      · go_wp2_with fail
        go_round
        case rel => exact ⟨k + 1, by omega, by go_num, fun s hs => by
          rw [HTK.out] at hs
          rcases List.mem_append.1 hs with hs | hs
          · exact HSM.out s hs
          · rcases List.mem_singleton.1 hs with rfl; rw [← HSZ.out]; omega⟩
        case measure => simp [intOf]; omega
    · obtain rfl : k = n := by omega
      have hk1 : ¬ (k : Int) < (k : Int) := by omega
      have HRR : Hid (r = false) := Lib.hid (by
        rw [HR.out]
        refine decide_eq_false ?_
        rintro ⟨s, hs, h⟩
        have := HSM.out s (by rw [List.take_of_length_le (by rw [HL.out]; exact Nat.le_refl _)]; exact hs)
        omega)
      go_wp2_with fail
      go_ret
      exact ⟨ret_b HRR.out.symm, rfl⟩
theorem sure_any (many : Nat) (w : World) (h1 : many ≤ 100000) :
    Calls Try.prog 22 #[.int .i64 (many : Int)] w fun e w' => e = .returned (.int .i64 (32 * ((many : Int) - 2) - 128)) ∧ w = w' := by
  have h2 : (0 : Int) ≤ (many : Int) := by omega
  have h3 : (many : Int) ≤ 100000 := by omega
  have e1 : IntKind.i64.wrap ((many : Int) - 2) = (many : Int) - 2 := by rw [IntKind.wrap_i64]; omega
  have e2 : IntKind.i64.wrap (32 * ((many : Int) - 2)) = 32 * ((many : Int) - 2) := by rw [IntKind.wrap_i64]; omega
  have e3 : IntKind.i64.wrap (32 * ((many : Int) - 2) - 128) = 32 * ((many : Int) - 2) - 128 := by rw [IntKind.wrap_i64]; omega
  go_enter Try.func22, Try.ntmps22
  go_wp2_with fail
  go_ret
  exact ⟨rfl, rfl⟩
theorem drewN_two (w : World) (a b : Nat) : (w.drewN a).drewN b = w.drewN (a + b) := by simp [World.drewN, Nat.add_assoc]
theorem same_any (A A' : Option Addr) (n n' c c' : Nat) (l l' : List (List Int)) (w : World) (hS : SReads w A n l) (hS' : SReads w A' n' l') (hn : n ≤ 100000000) :
    Calls Try.prog 17 #[.slice A n c, .slice A' n' c'] w fun e w' => e = .returned (.bool (decide (l = l'))) ∧ ∃ k, w' = w.drewN k := by
  have HS := Lib.hid hS
  have HS' := Lib.hid hS'
  have HL := Lib.hid hS.1
  have HL' := Lib.hid hS'.1
  obtain ⟨r, hr⟩ : ∃ r, r = decide (l = l') := ⟨_, rfl⟩
  rw [← hr]
  have HR := Lib.hid hr
  clear hS hS' hr
  by_cases hnn : n = n'
  · subst hnn
    go_enter Try.func17, Try.ntmps17
    go_wp2_with fail
    go_loopw [5] (fun vk wr => ∃ k m : Nat, k ≤ n ∧ vk = .int .i64 k ∧ l.take k = l'.take k ∧ wr = w.drewN m) (fun vk _ => n - (intOf vk).toNat)
    case atStart => exact ⟨0, 0, Nat.zero_le _, rfl, rfl, rfl⟩
    case round =>
      obtain ⟨k, m, hk, rfl, htk, hwr⟩ := hrel
      have HTK := Lib.hid htk
      have HWR := Lib.hid hwr
      have hcell : ∀ x, wr.cell? x = w.cell? x := fun x => by rw [hwr]; rfl
      clear htk hwr
      by_cases hlt : k < n
      · obtain ⟨b, off, rfl, hc⟩ := HS.out.2.1 (by omega)
        obtain ⟨b', off', rfl, hc'⟩ := HS'.out.2.1 (by omega)
        have hck := (hcell _).trans (hc k hlt)
        have hck' := (hcell _).trans (hc' k hlt)
        obtain ⟨S, hS⟩ : ∃ S, S = strOfNums (l.getD k []) := ⟨_, rfl⟩
        obtain ⟨S', hS'⟩ : ∃ S', S' = strOfNums (l'.getD k []) := ⟨_, rfl⟩
        rw [← hS] at hck
        rw [← hS'] at hck'
        have hB : ∀ (x : List (List Int)), (∀ s ∈ x, Bys s) → x.length = n → Bys (x.getD k []) := fun x h hx => h _ (by rw [getD_eq _ (by omega)]; exact List.getElem_mem _)
        have hEQ : Hid (S = S' ↔ l.getD k [] = l'.getD k []) := Lib.hid ⟨fun e => str_inj (hB l HS.out.2.2 HL.out) (hB l' HS'.out.2.2 HL'.out) (by rw [← hS, ← hS', e]), fun e => by rw [hS, hS', e]⟩
        have hk0 : (0 : Int) ≤ (k : Int) := by omega
        have hk1 : (k : Int) < (n : Int) := by omega
        clear hc hc' hS hS' hB hcell
        by_cases he : S = S'
        · subst he
          have HE := Lib.hid (hEQ.out.1 rfl)
          clear hEQ
          go_wp2_with fail
          go_quiet (fail)
          go_wp2_with fail
          go_round
          case rel => exact ⟨k + 1, _, by omega, by go_num, by rw [List.take_succ_eq_append_getElem (by rw [HL.out]; exact hlt), List.take_succ_eq_append_getElem (by rw [HL'.out]; exact hlt), HTK.out, ← getD_eq [] (by rw [HL.out]; exact hlt), ← getD_eq [] (by rw [HL'.out]; exact hlt), HE.out], by rw [HWR.out]; exact drewN_two _ _ _⟩
          case measure => simp [intOf]; omega
        · have hb : (S.toList == S'.toList) = false := by
            rw [beq_eq_false_iff_ne]; exact fun e => he (toList_inj e)
          have HRR : Hid (r = false) := Lib.hid (by rw [HR.out]; exact decide_eq_false (fun e => he (hEQ.out.2 (by rw [e]))))
          clear hEQ he
          go_wp2_with fail
          go_quiet (fail)
          go_wp2_with fail
          go_ret
          exact ⟨ret_b HRR.out.symm, _, by rw [HWR.out]; exact drewN_two _ _ _⟩
      · obtain rfl : k = n := by omega
        have hk1 : ¬ (k : Int) < (k : Int) := by omega
        have HRR : Hid (r = true) := Lib.hid (by
          rw [HR.out]
          have := HTK.out
          rw [List.take_of_length_le (by rw [HL.out]; exact Nat.le_refl _), List.take_of_length_le (by rw [HL'.out]; exact Nat.le_refl _)] at this
          exact decide_eq_true this)
        go_wp2_with fail
        go_ret
        exact ⟨ret_b HRR.out.symm, _, HWR.out⟩
  · have hne : ((n : Int) != (n' : Int)) = true := by rw [bne_iff_ne]; omega
    have hne2 : ¬ (n : Int) = (n' : Int) := by omega
    have HRR : Hid (r = false) := Lib.hid (by
      rw [HR.out]
      exact decide_eq_false (fun e => hnn (by rw [← HL.out, ← HL'.out, e])))
    go_enter Try.func17, Try.ntmps17
    go_wp2_with fail
    go_ret
    exact ⟨ret_b HRR.out.symm, 0, rfl⟩
end Go.Proofs.Ytdbpnfceabklkaa
