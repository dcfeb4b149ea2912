/-
  What Need returns. No condition.
-/
import Derived.Test.YtoallenigfbkpaaTBlank
namespace Go.Proofs.Ytoallenigfbkpaa
set_option maxRecDepth 100000
open Go.ChangeShapes Go.WideShapes Go.ChangeAt Go.RowKit Go.Proofs.Sg

def ndI (S : Sh) (p : Int) (n : Nat) : Nat := if ft p n = true then nd S p.toNat n else 0
set_option maxHeartbeats 4000000 in
theorem need_any {w : World} {B sp mb : Nat} {S : Sh} (h : SW w B sp mb S) (p : Int) (hp : p ≤ 9223372036854775807) (A : Option Addr) (n c : Nat) (hn : n ≤ 4611686018427387904) : Calls Try.prog 20 #[.pointer (some ⟨sp, 0, none⟩), .int .i64 p, .slice A n c] w fun e w' => e = .returned (.int .i64 ((ndI S p n : Nat) : Int)) ∧ Below w.heap.size w w' := by
  obtain ⟨r, hrr⟩ : ∃ r, ft p (n : Int) = r := ⟨_, rfl⟩
  have HF := Lib.hid (fits_any p (n : Int) hp w)
  rw [hrr] at HF
  cases r with
  | false =>
    have HE : Hid (ndI S p n = 0) := Lib.hid (by unfold ndI; rw [hrr]; rfl)
    rw [HE.out]
    clear h hrr HE
    go_enter Try.func20, Try.ntmps20
    go_wp2_with fail
    refine HF.out.mono ?_
    rintro e w' ⟨rfl, rfl⟩
    go_wp2_with fail
    go_ret
    exact ⟨rfl, Below.refl _ _⟩
  | true =>
    by_cases h0 : n = 0
    · subst h0
      have HE : Hid (ndI S p 0 = 0) := Lib.hid (by unfold ndI; rw [hrr]; simp [nd, wK])
      rw [HE.out]
      clear h hrr HE
      go_enter Try.func20, Try.ntmps20
      go_wp2_with fail
      refine HF.out.mono ?_
      rintro e w' ⟨rfl, rfl⟩
      go_wp2_with fail
      go_ret
      exact ⟨rfl, Below.refl _ _⟩
    · obtain ⟨f0, f1, f2⟩ := ft_iff.1 hrr
      obtain ⟨P, hP⟩ : ∃ P : Nat, p = (P : Int) := ⟨p.toNat, by omega⟩
      subst hP
      have hPn : P + n ≤ 1048576 := by omega
      have hn0 : ((n : Int) == 0) = false := by simp only [beq_eq_false_iff_ne]; omega
      obtain ⟨a, ha⟩ : ∃ a, P / 16 = a := ⟨_, rfl⟩
      obtain ⟨z, hz⟩ : ∃ z, (P + n - 1) / 16 = z := ⟨_, rfl⟩
      have HP1 := Lib.hid (place_any P (by omega) w)
      have HP2 := Lib.hid (place_any (P + n - 1) (by omega) w)
      rw [ha] at HP1
      rw [hz] at HP2
      obtain ⟨y, hy⟩ : ∃ y : Int, (P : Int) + (n : Int) = y := ⟨_, rfl⟩
      obtain ⟨x, hx⟩ : ∃ x : Int, ((P + n - 1 : Nat) : Int) = x := ⟨_, rfl⟩
      rw [hx] at HP2
      have hw1 : IntKind.i64.wrap ((P : Int) + (n : Int)) = y := by rw [IntKind.wrap_i64]; omega
      have hw2 : IntKind.i64.wrap (y - 1) = x := by rw [IntKind.wrap_i64]; omega
      have HSW := Lib.hid h
      have HE : Hid (ndI S (P : Int) n = (qK S.K a (z + 1 - a)).length - S.K.length) := Lib.hid (by
        unfold ndI nd
        rw [if_pos hrr, Int.toNat_natCast, wK_q h.good.srt P (by omega), ha, hz])
      have HAZ : Hid (a ≤ z ∧ z < 65536) := Lib.hid (by omega)
      have HSR := Lib.hid h.good.srt
      rw [HE.out]
      clear h hrr f0 f1 f2 hPn ha hz hy hx h0
      go_enter Try.func20, Try.ntmps20
      go_wp2_with fail
      refine HF.out.mono ?_
      rintro e w' ⟨rfl, rfl⟩
      go_wp2_with fail
      refine HP1.out.mono ?_
      rintro e w' ⟨rfl, rfl⟩
      go_wp2_with fail
      refine HP2.out.mono ?_
      rintro e w' ⟨rfl, rfl⟩
      go_wp2_with fail
      go_loopw [11, 12] (fun u i wr => ∃ (j m k : Nat), k = a + j ∧ j ≤ z + 1 - a ∧ u = .int .i64 (m : Int) ∧ i = .int .i64 (k : Int) ∧ Hid ((qK S.K a j).length = S.K.length + m) ∧ Hid (Below w.heap.size w wr)) (fun _ i _ => z + 1 - (intOf i).toNat)
      case atStart => exact ⟨0, 0, a, rfl, Nat.zero_le _, rfl, rfl, Lib.hid rfl, Lib.hid (Below.refl _ _)⟩
      case round =>
        obtain ⟨j, m, k, hk, hj, rfl, rfl, HL, HB⟩ := hrel
        have haz := HAZ.out
        have hml : m ≤ j := by have h1 := (qK_len_le HSR.out a j).2; rw [HL.out] at h1; omega
        by_cases hlt : k ≤ z
        · have hki : (k : Int) ≤ (z : Int) := by omega
          have hs := HSW.out.below HB.out
          have e1 := cell_of hs.here (j := 1) rfl
          obtain ⟨b, hb⟩ : ∃ b, decide (k ∈ S.K) = b := ⟨_, rfl⟩
          have hlook := (hs.map.look (k := k) (by omega)).1 b hb
          obtain ⟨bvk, hbv⟩ : ∃ bb, bb = bv S.f k := ⟨_, rfl⟩
          rw [← hbv] at hlook
          have HSZ : Hid ((Try.prog.info? 61).map (·.size) = some bvk.size) := Lib.hid (by rw [hbv, bv_size]; exact sizeK)
          have HZZ : Hid (Z16.size = bvk.size) := Lib.hid (by rw [hbv, bv_size]; rfl)
          have HON : Hid (bvk.all (·.oneCell') = true) := Lib.hid (by rw [hbv]; exact bv_one _ _)
          have HB2 : Hid (Below w.heap.size w (wr.alloc (.cells bvk 61))) := Lib.hid (HB.out.trans ((box_below wr _).mono HB.out.size))
          have hl := len_qK HSR.out a j
          rw [← hk, HL.out] at hl
          obtain ⟨k1, hk1⟩ : ∃ k1 : Nat, k + 1 = k1 := ⟨_, rfl⟩
          obtain ⟨m1, hm1⟩ : ∃ m1 : Nat, m + 1 = m1 := ⟨_, rfl⟩
          have hwk : IntKind.i64.wrap ((k : Int) + 1) = (k1 : Int) := by rw [IntKind.wrap_i64]; omega
          have hwm : IntKind.i64.wrap ((m : Int) + 1) = (m1 : Int) := by rw [IntKind.wrap_i64]; omega
          have HK1 := Lib.hid hk1
          have HKJ := Lib.hid hk
          cases b with
          | true =>
            have HL2 : Hid ((qK S.K a (j + 1)).length = S.K.length + m) := Lib.hid (by rw [hl, if_pos (by simpa using hb)]; rfl)
            clear hl hb hbv hs hk1 hm1 hk hml hj
            go_wp2_with (first
              | (with_reducible refine wpList_allocK rfl rfl ?_)
              | ((with_reducible refine wpList_store_new rfl 61 (.tmp 13) (.tmp 52) rfl Z16 bvk ?_ ?_ HSZ.out HZZ.out HON.out ?_); rfl; rfl)
              | fail)
            go_roundw
            case rel => exact ⟨j + 1, m, k1, by have := HK1.out; have := HKJ.out; omega, by have := HKJ.out; omega, rfl, rfl, HL2, HB2⟩
            case measure => simp [intOf]; have := HK1.out; omega
          | false =>
            have HL2 : Hid ((qK S.K a (j + 1)).length = S.K.length + m1) := Lib.hid (by rw [hl, if_neg (by simpa using hb)]; omega)
            clear hl hb hbv hs hk1 hm1 hk hml hj
            go_wp2_with (first
              | (with_reducible refine wpList_allocK rfl rfl ?_)
              | ((with_reducible refine wpList_store_new rfl 61 (.tmp 13) (.tmp 52) rfl Z16 bvk ?_ ?_ HSZ.out HZZ.out HON.out ?_); rfl; rfl)
              | fail)
            go_roundw
            case rel => exact ⟨j + 1, m1, k1, by have := HK1.out; have := HKJ.out; omega, by have := HKJ.out; omega, rfl, rfl, HL2, HB2⟩
            case measure => simp [intOf]; have := HK1.out; omega
        · have hki : ¬ (k : Int) ≤ (z : Int) := by omega
          have HM : Hid ((m : Int) = (((qK S.K a (z + 1 - a)).length - S.K.length : Nat) : Int)) := Lib.hid (by
            have e : j = z + 1 - a := by omega
            rw [← e, HL.out]; omega)
          go_wp2_with fail
          go_ret
          exact ⟨ret_i HM.out, HB.out⟩
end Go.Proofs.Ytoallenigfbkpaa
