/-
  What Load returns of any list. Condition: the list is not long.
-/
import Derived.Test.YtflgemlhocjipaaGreatDoorLOpen
namespace Go.Proofs.YtflgemlhocjipaaGreatDoor.Lq
set_option maxRecDepth 100000
open Go.ChangeShapes Go.WideShapes Go.ChangeAt Go.RowKit Go.Proofs.Le

def LdPost (w : World) (T : Tb) (e : Ending) (w' : World) : Prop :=
  (Le.Good T ∧ ∃ tp v, e = .returned (.tuple #[.pointer (some ⟨tp, 0, none⟩), .int .i64 0]) ∧ TabW w' w.heap.size tp v T ∧ Below w.heap.size w w') ∨ (¬ Le.Good T ∧ e = .returned (.tuple #[.pointer none, .int .i64 1]) ∧ Below w.heap.size w w')
set_option maxHeartbeats 8000000 in
theorem load_any {w : World} {A : Option Addr} {n c : Nat} {T : Tb} (hR : Rd lcell 3 w A n T) (hn : n ≤ 1000) : Calls Tryz.prog 108 #[.slice A n c] w (LdPost w T) := by
  have HN := Lib.hid (new_any w)
  have HR := Lib.hid hR
  have HL := Lib.hid hR.len
  clear hR
  go_enter Tryz.func108, Tryz.ntmps108
  go_wp2_with fail
  refine HN.out.mono ?_
  rintro e w1 ⟨tp, v, rfl, ht1, hb1, -, -⟩
  have HT1 := Lib.hid ht1
  have HB1 := Lib.hid hb1
  clear ht1 hb1
  go_wp2_with fail
  go_loopw [5, 11] (fun u i wr => ∃ (k : Nat) (v : Value) (b : Int), k ≤ n ∧ i = .int .i64 k ∧ u = .int .i64 b ∧ Hid (b = lst (T.take k)) ∧ Hid (Le.Good (T.take k)) ∧ Hid (TabW wr w.heap.size tp v (T.take k)) ∧ Hid (Below w.heap.size w wr)) (fun _ i _ => n - (intOf i).toNat)
  case atStart => exact ⟨0, v, 0, Nat.zero_le _, rfl, rfl, Lib.hid rfl, Lib.hid good_nil, HT1, HB1⟩
  case round =>
    obtain ⟨k, v, bf, hk, rfl, rfl, HBF, HG, HT, HX⟩ := hrel
    by_cases hlt : k < n
    · obtain ⟨b, off, x, rfl, hx, hcc⟩ := (HR.out.below HX.out).at hlt
      have c0 : wr.cell? ⟨b, off + k * 3, none⟩ = some (.int .i64 x.i) := hcc 0 _ rfl
      have c1 : wr.cell? ⟨b, off + k * 3 + 1, none⟩ = some (.int .i64 x.s) := hcc 1 _ rfl
      have c2 : wr.cell? ⟨b, off + k * 3 + 2, none⟩ = some (.int .i64 x.l) := hcc 2 _ rfl
      obtain ⟨w3, hw3⟩ : ∃ w3, w3 = wr.alloc (.cells #[.int .i64 x.i, .int .i64 x.s, .int .i64 x.l] 100) := ⟨_, rfl⟩
      obtain ⟨r, er⟩ : ∃ r, r = wr.heap.size := ⟨_, rfl⟩
      have hb3 : Below wr.heap.size wr w3 := by rw [hw3]; exact box_below wr _
      have hr : w3.heap[r]? = some (.cells #[.int .i64 x.i, .int .i64 x.s, .int .i64 x.l] 100 (0, 0)) := by rw [hw3, er]; exact new_block wr _
      have HTK : Hid (T.take (k + 1) = T.take k ++ [x]) := Lib.hid (take_some hx)
      have HBAD : Hid (¬ Le.Good (T.take k ++ [x]) → ¬ Le.Good T) := Lib.hid (good_prefix hx)
      have HX3 := Lib.hid (HX.out.trans (hb3.mono HX.out.size))
      have HT3 := Lib.hid (HT.out.below hb3)
      have HOP := Lib.hid (open_any HT3.out HX3.out.size HG.out x)
      have r0 := cell_of hr (j := 0) rfl
      have r1 := cell_of hr (j := 1) rfl
      have r2 := cell_of hr (j := 2) rfl
      have HR3 := Lib.hid hr
      have hk0 : (0 : Int) ≤ (k : Int) := by omega
      have hki : (k : Int) < (n : Int) := by omega
      have hwk : IntKind.i64.wrap ((k : Int) + 1) = (k : Int) + 1 := by rw [IntKind.wrap_i64]; omega
      have HW3 := Lib.hid hw3
      have ER := Lib.hid er
      clear hx hcc hw3 er hb3 hr
      go_upto_region 6 with fail
      rw [← HW3.out, ← ER.out]
      by_cases hle : x.i ≤ bf
      · have HE : Hid (LdPost w T (.returned (.tuple #[.pointer none, .int .i64 1])) w3) := Lib.hid (.inr ⟨HBAD.out (load_bad (.inl (by rw [← HBF.out]; exact hle))), rfl, HX3.out⟩)
        have hle' : decide (x.i ≤ bf) = true := by simpa using hle
        clear hle
        go_wp2_with fail
        exact bodyPost_ret (v := .tuple #[.pointer none, .int .i64 1]) (by simp [results, Tryz.results108, go_sem]) rfl HE.out
      · have hle' : decide (x.i ≤ bf) = false := by simpa using hle
        have HLT : Hid (lst (T.take k) < x.i) := Lib.hid (by rw [← HBF.out]; omega)
        obtain ⟨a, ha⟩ : ∃ a, opn (T.take k) x = a := ⟨_, rfl⟩
        rw [ha] at HOP
        have HA := Lib.hid ha
        clear hle ha
        go_wp2_with fail
        refine HOP.out.mono ?_
        rintro e w5 ⟨rfl, hk5⟩
        have HX5 := Lib.hid (HX3.out.trans (kp_below hk5 HT3.out HX3.out.size))
        obtain ⟨v5, ht5, ktk, -⟩ := hk5
        have hr5 : w5.heap[r]? = some (.cells #[.int .i64 x.i, .int .i64 x.s, .int .i64 x.l] 100 (0, 0)) := (ktk.block r (blk_lt HR3.out) (fun e => by
          have h1 := HT3.out.here
          rw [← e, HR3.out] at h1
          injection h1 with h1
          injection h1 with _ h1 _
          exact absurd h1 (by decide)) (fun e => by
          have h1 := (HT.out.row.lt r e).2
          rw [ER.out] at h1
          omega)).trans HR3.out
        have s0 := cell_of hr5 (j := 0) rfl
        have HT5 := Lib.hid ht5
        clear ktk hr5 ht5 r0 r1 r2
        by_cases h0 : a.2 = 0
        · have h0' : (a.2 != 0) = false := by simpa using h0
          have HGD := Lib.hid (load_good HG.out HLT.out (by rw [HA.out]; exact h0))
          have HT6 : Hid (TabW w5 w.heap.size tp v5 (T.take (k + 1))) := Lib.hid (by
            have h := HT5.out
            rw [← HA.out, HGD.out.2] at h
            rw [HTK.out]; exact h)
          clear h0
          go_wp2_with fail
          go_roundw
          case rel => exact ⟨k + 1, v5, x.i, by omega, by go_num, rfl, Lib.hid (by rw [HTK.out, lst_snoc]), Lib.hid (by rw [HTK.out]; exact HGD.out.1), HT6, HX5⟩
          case measure => simp [intOf]; omega
        · have h0' : (a.2 != 0) = true := by simpa using h0
          have HE : Hid (LdPost w T (.returned (.tuple #[.pointer none, .int .i64 1])) w5) := Lib.hid (.inr ⟨HBAD.out (load_bad (.inr ⟨HLT.out, by rw [HA.out]; exact h0⟩)), rfl, HX5.out⟩)
          clear h0
          go_wp2_with fail
          exact bodyPost_ret (v := .tuple #[.pointer none, .int .i64 1]) (by simp [results, Tryz.results108, go_sem]) rfl HE.out
    · obtain rfl : k = n := by omega
      have hki : ¬ (k : Int) < (k : Int) := by omega
      have HE : Hid (LdPost w T (.returned (.tuple #[.pointer (some ⟨tp, 0, none⟩), .int .i64 0])) wr) := Lib.hid (by
        have h1 := HG.out
        have h2 := HT.out
        rw [List.take_of_length_le (by rw [HL.out]; exact Nat.le_refl _)] at h1 h2
        exact .inl ⟨h1, tp, v, rfl, h2, HX.out⟩)
      go_wp2_with fail
      exact bodyPost_ret (v := .tuple #[.pointer (some ⟨tp, 0, none⟩), .int .i64 0]) (by simp [results, Tryz.results108, go_sem]) rfl HE.out
end Go.Proofs.YtflgemlhocjipaaGreatDoor.Lq
