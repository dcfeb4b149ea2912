/-
  What the law's fair returns of an answer that is as the document says. Conditions: no more than 100000 records, none longer than an int tells; not too many sectors.
-/
import Derived.Test.YtdbpnfceabklkaaRun
namespace Go.Proofs.Ytdbpnfceabklkaa
set_option maxRecDepth 100000
open Go.ChangeShapes Go.WideShapes Go.ChangeAt Go.RowKit

structure FairOk (k : Int) (s : Nat) (all : List (List Int)) (many : Nat) (r e : Int) : Prop where
  app : k = 0 → (4096 < s ∧ e = 52) ∨ (s ≤ 4096 ∧ ((e = 51 ∧ r < (s : Int)) ∨ (e = 0 ∧ (s : Int) ≤ r)))
  rep : k = 2 → ((∃ x ∈ all, 4096 < x.length) ∧ e = 52) ∨ ((¬ ∃ x ∈ all, 4096 < x.length) ∧ (e = 0 ∨ (e = 51 ∧ 32 * ((many : Int) - 2) - 128 < (need all : Int))))
  no : k ≠ 0 → k ≠ 2 → e = 0
theorem fair_ok {k : Int} {s all} {many sz nd : Nat} {bs : List Int} (hsz : sz = (many - 2) / 2) (h4 : 4 ≤ many) {e : Int} (hr : nd ≤ sz * 64)
    (he : e = (if k = 0 then amissL false nd [bs] sz else if k = 2 then amissL false 0 all sz else 0)) (hs : bs.length = s) : FairOk k s all many (roomL sz nd) e := by
  refine ⟨fun k0 => ?_, fun k2 => ?_, fun k0 k2 => by rw [he, if_neg k0, if_neg k2]⟩
  · rw [if_pos k0] at he
    have hb : s ≤ 4096 ∨ 4096 < s := by omega
    rcases hb with hb | hb
    · refine .inr ⟨hb, ?_⟩
      have e1 : ¬ ∃ x ∈ [bs], 4096 < x.length := by
        rintro ⟨x, hx, h⟩
        rcases List.mem_singleton.1 hx with rfl; omega
      unfold amissL at he
      rw [if_neg (by decide), if_neg e1, need_one, hs] at he
      unfold roomL
      by_cases h0 : sz * 64 < nd + (s + 4)
      · rw [if_pos h0] at he; left; refine ⟨he, ?_⟩; omega
      · rw [if_neg h0] at he; right; refine ⟨he, ?_⟩; omega
    · refine .inl ⟨hb, ?_⟩
      unfold amissL at he
      rw [if_neg (by decide), if_pos ⟨bs, by simp, by omega⟩] at he
      exact he
  · rw [if_neg (by omega), if_pos k2] at he
    unfold amissL at he
    rw [if_neg (by decide)] at he
    by_cases h0 : ∃ x ∈ all, 4096 < x.length
    · rw [if_pos h0] at he; exact .inl ⟨h0, he⟩
    · rw [if_neg h0] at he
      refine .inr ⟨h0, ?_⟩
      by_cases h1 : sz * 64 < 0 + need all
      · rw [if_pos h1] at he; right; refine ⟨he, ?_⟩; omega
      · rw [if_neg h1] at he; exact .inl he
set_option maxHeartbeats 4000000 in
theorem fair_any (k : Int) (S : ByteArray) (A : Option Addr) (n c : Nat) (all : List (List Int)) (many : Nat) (r e : Int) (w : World) (hS : SReads w A n all) (hn : n ≤ 100000) (hz : ∀ s ∈ all, s.length ≤ 9223372036854775807) (hss : S.size ≤ 9223372036854775807) (hm : many ≤ 100000) (hF : FairOk k S.size all many r e) :
    Calls Try.prog 16 #[.agg #[.int .i64 k, .string S, .slice A n c], .int .i64 (many : Int), .int .i64 r, .int .i64 e] w fun e' w' => e' = .returned (.bool true) ∧ Below w.heap.size w w' := by
  obtain ⟨w1, hw1⟩ : ∃ w1, w1 = w.alloc (.cells #[.int .i64 k, .string S, .slice A n c] 33) := ⟨_, rfl⟩
  have hb1 : Below w.heap.size w w1 := by rw [hw1]; exact box_below w _
  have hbx : w1.heap[w.heap.size]? = some (.cells #[.int .i64 k, .string S, .slice A n c] 33 (0, 0)) := by rw [hw1]; exact new_block w _
  have HW1 := Lib.hid hw1
  have HBX := Lib.hid hbx
  have HB1 := Lib.hid hb1
  have HSR := Lib.hid (hS.kept hb1)
  have HFO := Lib.hid hF
  have HZ := Lib.hid hz
  have hs1 : (S.size : Int) ≤ 9223372036854775807 := by omega
  have hs0 : (0 : Int) ≤ (S.size : Int) := by omega
  clear hS hF hb1 hbx hw1 hz hss
  by_cases k0 : k = 0
  · subst k0
    rcases HFO.out.app rfl with ⟨h1, rfl⟩ | ⟨h1, ⟨rfl, h2⟩ | ⟨rfl, h2⟩⟩
    · have h1' : (4096 : Int) < (S.size : Int) := by omega
      go_enter Try.func16, Try.ntmps16
      go_upto_region 1 with fail
      rw [← HW1.out]
      have o0 := cell_of HBX.out (j := 0) rfl
      have o1 := cell_of HBX.out (j := 1) rfl
      go_wp2_with fail
      go_ret
      exact ⟨rfl, HB1.out⟩
    · have h1' : ¬ (4096 : Int) < (S.size : Int) := by omega
      have h2' : decide (r < (S.size : Int)) = true := decide_eq_true h2
      go_enter Try.func16, Try.ntmps16
      go_upto_region 1 with fail
      rw [← HW1.out]
      have o0 := cell_of HBX.out (j := 0) rfl
      have o1 := cell_of HBX.out (j := 1) rfl
      go_wp2_with fail
      go_ret
      exact ⟨rfl, HB1.out⟩
    · have h1' : ¬ (4096 : Int) < (S.size : Int) := by omega
      have h2' : decide (r < (S.size : Int)) = false := decide_eq_false (by omega)
      go_enter Try.func16, Try.ntmps16
      go_upto_region 1 with fail
      rw [← HW1.out]
      have o0 := cell_of HBX.out (j := 0) rfl
      have o1 := cell_of HBX.out (j := 1) rfl
      go_wp2_with fail
      go_ret
      exact ⟨rfl, HB1.out⟩
  · by_cases k2 : k = 2
    · subst k2
      obtain ⟨lg, hlg⟩ : ∃ b, b = decide (∃ s ∈ all, 4096 < s.length) := ⟨_, rfl⟩
      have HLO := Lib.hid (long_any A n c all w1 HSR.out hn HZ.out)
      rw [← hlg] at HLO
      have HLG := Lib.hid hlg
      clear hlg
      rcases HFO.out.rep rfl with ⟨h1, rfl⟩ | ⟨h1, h2⟩
      · have hl : lg = true := by rw [HLG.out]; exact decide_eq_true h1
        subst hl
        go_enter Try.func16, Try.ntmps16
        go_upto_region 1 with fail
        rw [← HW1.out]
        have o0 := cell_of HBX.out (j := 0) rfl
        have o1 := cell_of HBX.out (j := 1) rfl
        have o2 := cell_of HBX.out (j := 2) rfl
        clear h1
        go_wp2_with fail
        refine HLO.out.mono ?_
        rintro e' w' ⟨rfl, rfl⟩
        go_wp2_with fail
        go_ret
        exact ⟨rfl, HB1.out⟩
      · have hl : lg = false := by rw [HLG.out]; exact decide_eq_false h1
        subst hl
        have HND := Lib.hid (need_any A n c all w1 HSR.out hn (fun s hs => by
          rcases Nat.lt_or_ge 4096 s.length with h | h
          · exact absurd ⟨s, hs, h⟩ h1
          · exact h))
        have HSU := Lib.hid (sure_any many w1 hm)
        clear h1
        rcases h2 with rfl | ⟨rfl, h2⟩
        · go_enter Try.func16, Try.ntmps16
          go_upto_region 1 with fail
          rw [← HW1.out]
          have o0 := cell_of HBX.out (j := 0) rfl
          have o1 := cell_of HBX.out (j := 1) rfl
          have o2 := cell_of HBX.out (j := 2) rfl
          go_wp2_with fail
          refine HLO.out.mono ?_
          rintro e' w' ⟨rfl, rfl⟩
          go_wp2_with fail
          go_ret
          exact ⟨rfl, HB1.out⟩
        · obtain ⟨nd, hnd⟩ : ∃ nd, nd = (need all : Int) := ⟨_, rfl⟩
          obtain ⟨su, hsu⟩ : ∃ su, su = 32 * ((many : Int) - 2) - 128 := ⟨_, rfl⟩
          rw [← hnd] at h2 HND
          rw [← hsu] at h2 HSU
          have h2' : decide (su < nd) = true := decide_eq_true h2
          clear hnd hsu
          go_enter Try.func16, Try.ntmps16
          go_upto_region 1 with fail
          rw [← HW1.out]
          have o0 := cell_of HBX.out (j := 0) rfl
          have o1 := cell_of HBX.out (j := 1) rfl
          have o2 := cell_of HBX.out (j := 2) rfl
          go_wp2_with fail
          refine HLO.out.mono ?_
          rintro e' w' ⟨rfl, rfl⟩
          go_wp2_with fail
          refine HND.out.mono ?_
          rintro e' w' ⟨rfl, rfl⟩
          go_wp2_with fail
          refine HSU.out.mono ?_
          rintro e' w' ⟨rfl, rfl⟩
          go_wp2_with fail
          go_ret
          exact ⟨rfl, HB1.out⟩
    · have he := HFO.out.no k0 k2
      subst he
      have b0 : (k == 0) = false := by simpa using k0
      have b2 : (k == 2) = false := by simpa using k2
      go_enter Try.func16, Try.ntmps16
      go_upto_region 1 with fail
      rw [← HW1.out]
      have o0 := cell_of HBX.out (j := 0) rfl
      go_wp2_with fail
      go_ret
      exact ⟨rfl, HB1.out⟩
end Go.Proofs.Ytdbpnfceabklkaa
