/-
  What the document's own Some returns of kinds and bytes that read: the fields that the bytes begin with, and how many bytes they have; or the error of the first one that is amiss. Condition: no more than 2^32 kinds; the bytes' array takes no more than 2^61.
  What the document's own Decode returns of kinds and bytes that read: the fields that have all of the bytes, or what is amiss first. Condition: no more than 2^32 kinds; the bytes' array takes no more than 2^61.
-/
import Derived.Test.YtflgemlhocjipaaGreatDoorQDec
namespace Go.Proofs.YtflgemlhocjipaaGreatDoor.Pq
set_option maxRecDepth 100000
open Go.ChangeShapes Go.WideShapes Go.ChangeAt Go.RowKit

theorem sub_at {w : World} {A : Option Addr} {len cap : Nat} {zs : List Int} (hR : Reads .u8 w A len zs) (hc : len ≤ cap) (l n : Nat) (L H : Int) (hL : L = (l : Int)) (hH : H = (l : Int) + (n : Int)) (hh : l + n ≤ len) :
    ∃ A' c', (∀ W : World, (Instr.slice 54 (.slice A len cap) (some (.int .i64 L)) (some (.int .i64 H)) none).run Tryz.prog W = .ok (.slice A' n c') W) ∧
      Reads .u8 w A' n ((zs.drop l).take n) ∧ n ≤ c' := by
  obtain ⟨A', c', h1, h2, h3, _⟩ := sub_any hR hc l (l + n) (by omega) hh
  have e : l + n - l = n := by omega
  rw [e] at h1 h2 h3
  refine ⟨A', c', fun W => ?_, h2, h3⟩
  rw [← h1 W, hL, hH]
  rfl
theorem rd_ok {k V : Int} {b : List Int} {n : Nat} (hn : wd k = n) (hk : k = 1 ∨ k = 2 ∨ k = 4) (hl : n ≤ b.length) (hV : V = num (b.take n)) (h2 : k = 2 → V ≤ 4611686018427387904) (h4 : k = 4 → V ≤ 1) : rd k b = .good ⟨k, V, ⟨#[]⟩⟩ n := by
  subst hn
  have hnl : ¬ b.length < wd k := by omega
  unfold rd
  rcases hk with rfl | rfl | rfl
  · rw [if_neg (by simp), if_neg hnl, if_neg (by simp), if_pos (by simp), hV]
  · have e : wd 2 = 8 := rfl
    rw [e] at hV
    rw [if_neg (by simp), if_neg hnl, if_neg (by rw [← hV]; unfold big; have := h2 rfl; simp; omega), if_pos (by simp), e, hV]
  · have e : wd 4 = 1 := rfl
    rw [e] at hV
    rw [if_neg (by simp), if_neg hnl, if_neg (by rw [← hV]; have := h4 rfl; simp; omega), if_pos (by simp), e, hV]
theorem rd_over {k V : Int} {b : List Int} {n : Nat} (hn : wd k = n) (hk : k = 2 ∨ k = 4) (hl : n ≤ b.length) (hV : V = num (b.take n)) (h2 : k = 2 → 4611686018427387904 < V) (h4 : k = 4 → 1 < V) : rd k b = .bad 21 := by
  subst hn
  have hnl : ¬ b.length < wd k := by omega
  unfold rd
  rcases hk with rfl | rfl
  · have e : wd 2 = 8 := rfl
    rw [e] at hV
    rw [if_neg (by simp), if_neg hnl, if_pos (.inl ⟨rfl, by rw [← hV]; unfold big; exact h2 rfl⟩)]
  · have e : wd 4 = 1 := rfl
    rw [e] at hV
    rw [if_neg (by simp), if_neg hnl, if_pos (.inr ⟨rfl, by rw [← hV]; exact h4 rfl⟩)]
theorem rd_kind {k : Int} {b : List Int} (hk : k < 1 ∨ 4 < k) : rd k b = .bad 21 := by unfold rd; rw [if_pos hk]
theorem rd_text {b : List Int} {m : Nat} (hl : 2 ≤ b.length) (hV : (m : Int) = num (b.take 2)) :
    (1024 < m → rd 3 b = .bad 22) ∧ (m ≤ 1024 → b.length < 2 + m → rd 3 b = .bad 20) ∧ (m ≤ 1024 → 2 + m ≤ b.length → rd 3 b = .good ⟨3, 0, strOfNums ((b.drop 2).take m)⟩ (2 + m)) := by
  have hw : ¬ b.length < wd 3 := by show ¬ b.length < 2; omega
  have et : (m : Int).toNat = m := by omega
  unfold rd
  rw [if_neg (by simp), if_neg hw, if_neg (by simp), if_neg (by simp), ← hV, et]
  refine ⟨fun h => by rw [if_pos (by omega)], fun h1 h2 => by rw [if_neg (by omega), if_pos h2], fun h1 h2 => by rw [if_neg (by omega), if_neg (by omega)]⟩
theorem num_bound {k : Int} {b : List Int} (hB : Bys b) (hl : wd k ≤ b.length) : 0 ≤ num (b.take (wd k)) ∧ num (b.take (wd k)) ≤ 18446744073709551615 := by
  unfold wd at hl ⊢
  split
  · rename_i h; rw [if_pos h] at hl; exact (num_eight_bd hB hl).2
  · rename_i h
    rw [if_neg h] at hl
    split
    · rename_i h3
      rw [if_pos h3] at hl
      obtain ⟨a, c, r, rfl, h1, h2, h3, h4⟩ := num_two_bd hB hl
      rw [num_two]; omega
    · rename_i h3
      rw [if_neg h3] at hl
      obtain ⟨a, r, rfl, h1, h2⟩ := num_one_bd hB hl
      rw [num_one]; omega
theorem num_one_le {b : List Int} (hB : Bys b) (hl : 1 ≤ b.length) : num (b.take 1) ≤ 255 := by
  obtain ⟨a, r, rfl, h1, h2⟩ := num_one_bd hB hl
  rw [num_one]; exact h2
/-- A number that the bytes are, as the call tells it. -/
theorem number_at {w : World} {A : Option Addr} {c n : Nat} {k V : Int} {b : List Int} (hn : wd k = n) (hR : Reads .u8 w A n (b.take n)) (hB : Bys b) (hl : n ≤ b.length) (hV : V = num (b.take n)) (h8 : n ≤ 8) :
    Calls Tryz.prog 102 #[.slice A n c] w fun e w' => e = .returned (.int .u64 V) ∧ w = w' := by
  subst hn
  have h := number_any A (wd k) c _ w hR (bys_take _ hB) (by omega)
  have hb := num_bound hB hl
  have e : num (b.take (wd k)) % 18446744073709551616 = V := by rw [hV]; omega
  rw [e] at h
  exact h
/-- Bytes that read, nil ones too, as a text. -/
theorem conv_reads {W : World} {A : Option Addr} {m c : Nat} {zs : List Int} (hR : Reads .u8 W A m zs) : (convert 54 9 (.slice A m c)).run Tryz.prog W = .ok (.string (strOfNums zs)) W := by
  obtain ⟨h1, h2⟩ := id hR
  rcases Nat.eq_zero_or_pos m with h0 | h0
  · subst h0
    have hz : zs = [] := List.eq_nil_of_length_eq_zero h1
    subst hz
    cases A with
    | none => exact run_convert_bytes_nil W 54 5 Tryz.underlying54 Tryz.underlying5 0 c 9 Tryz.underlying9
    | some ad =>
      rw [run_convert_bytes_string W 54 9 5 (some ad) 0 c Tryz.underlying54 Tryz.underlying5 Tryz.underlying9, run_bytesToString W ad 0 c [] (by simp [loadCells, loadCellsFrom, Sem.run_pure])]
      rfl
  · obtain ⟨b, off, rfl, hc⟩ := h2 h0
    exact run_convert_bytes_arg W 54 5 Tryz.underlying54 Tryz.underlying5 b off m c zs h1 hc 9 Tryz.underlying9
/-- What a new block of a field, behind a new table, is good for. -/
theorem new_field {wr w : World} {k : Nat} {v : Value} {l : List Fld} {o : Obj} (f : Fld) (ho : wr.ownsRow w.heap.size 112 3 v k (fcs l)) (hb : Below w.heap.size w wr) :
    ((wr.alloc o).alloc (.cells #[.int .i64 f.k, .int .i64 f.n, .string f.s] 112)).ownsRow w.heap.size 112 3 v k (fcs l) ∧
    (∀ j u, [Value.int .i64 f.k, .int .i64 f.n, .string f.s][j]? = some u → ((wr.alloc o).alloc (.cells #[.int .i64 f.k, .int .i64 f.n, .string f.s] 112)).cell? ((⟨wr.heap.size + 1, 0, none⟩ : Addr).add j) = some u) ∧
    w.heap.size ≤ ((wr.alloc o).alloc (.cells #[.int .i64 f.k, .int .i64 f.n, .string f.s] 112)).heap.size ∧ Below w.heap.size w ((wr.alloc o).alloc (.cells #[.int .i64 f.k, .int .i64 f.n, .string f.s] 112)) := by
  have hb1 := hb.alloc hb.size o
  have hb2 := hb1.alloc hb1.size (.cells #[.int .i64 f.k, .int .i64 f.n, .string f.s] 112)
  refine ⟨(ho.alloc _).alloc _, ?_, hb2.size, hb2⟩
  have h := new_three (wr.alloc o) (.int .i64 f.k) (.int .i64 f.n) (.string f.s) 112
  rw [show (wr.alloc o).heap.size = wr.heap.size + 1 by simp] at h
  exact h
theorem rsome_round {w wr W w2 : World} {len k a n a' : Nat} {ks zs : List Int} {l : List Fld} {f : Fld} {kd va : Int} {v v2 : Value} (hB : Bys zs) (hlen : ks.length = len) (hk : k < len) (hkd : kd = ks.getD k 0) (ha : a ≤ zs.length) (hl : l.length = k)
    (hs : sm ks zs = (sm (ks.drop k) (zs.drop a)).put l a) (hr : rd kd (zs.drop a) = .good f n) (ho : wr.ownsRow w.heap.size 112 3 v k (fcs l)) (hb : Below w.heap.size w W) (hva : va = (a' : Int)) (ha' : a' = a + n)
    (ho2 : w2.ownsRow w.heap.size 112 3 v2 (k + 1) (fcs l ++ [.int .i64 f.k, .int .i64 f.n, .string f.s])) (hg : W.grownBy w2 v.ownBlock) :
    SRel w len ks zs v2 (.int .i64 va) (.int .i64 ((k : Int) + 1)) w2 := by
  obtain ⟨hn, _⟩ := rd_good (bys_drop a hB) hr
  rw [List.length_drop] at hn
  subst ha' hva
  refine ⟨k + 1, a + n, l ++ [f], by omega, by go_num, rfl, by omega, by rw [List.length_append, hl]; rfl, ?_, sm_step_good (by omega) hkd hs hr, hb.grown hg hb.size (own_ge ho)⟩
  rw [fcs_snoc]
  exact ho2
set_option maxRecDepth 100000 in
set_option maxHeartbeats 8000000 in
theorem rsome_any (ka ba : Option Addr) (len kcap blen bcap : Nat) (ks zs : List Int) (w : World) (hK : Reads .i64 w ka len ks) (hR : Reads .u8 w ba blen zs) (hB : Bys zs) (hm : len ≤ 4294967296) (hc : blen ≤ bcap) (hcm : bcap ≤ 2305843009213693952) :
    Calls Tryz.prog 58 #[.slice ka len kcap, .slice ba blen bcap] w (SomePost w (sm ks zs)) := by
  obtain ⟨i0, hi, hz0, hz1, hz2⟩ := info_parts info40
  have HK := Lib.hid hK
  have HR := Lib.hid hR
  have HB := Lib.hid hB
  have HRL := Lib.hid hR.1
  have HCM := Lib.hid hcm
  clear hK hR hB hcm
  go_enter Tryz.func58, Tryz.ntmps58
  go_wp2
  go_loopw [7, 8, 9] (fun vl va vi wr => SRel w len ks zs vl va vi wr) (fun _ _ i _ => len - (intOf i).toNat)
  case atStart => exact ⟨0, 0, [], by omega, rfl, rfl, by omega, rfl, World.ownsRow_nil _ _ _ _, sm_zero ks zs, Below.refl _ _⟩
  case round =>
    obtain ⟨k, a, l, hk, rfl, rfl, ha, hl, hown, hs, hb⟩ := hrel
    have HA := Lib.hid ha
    have HL := Lib.hid hl
    have HO := Lib.hid hown
    have HS := Lib.hid hs
    have HB2 := Lib.hid hb
    have hab : a ≤ blen := by rw [← HRL.out]; exact ha
    clear ha hl hown hs hb
    by_cases hlt : k < len
    · obtain ⟨b, off, rfl, hcell⟩ := (HK.out.kept HB2.out).2 (by omega)
      have hx := hcell k hlt
      obtain ⟨kd, hkd⟩ : ∃ kd, kd = ks.getD k 0 := ⟨_, rfl⟩
      rw [← hkd] at hx
      have HKD := Lib.hid hkd
      have ha61 : (a : Int) ≤ 2305843009213693952 := by have := HCM.out; omega
      have HBT : Hid (∀ o, Below w.heap.size w (wr.alloc o)) := Lib.hid (fun o => HB2.out.alloc HB2.out.size o)
      clear hcell hkd
      by_cases k0 : kd < 1
      · have HS2 := Lib.hid (sm_step_bad (by rw [HK.out.1]; exact hlt) HKD.out HS.out (rd_kind (.inl k0)))
        go_wp2
        go_ret3
        exact some_bad HS2.out HB2.out
      by_cases k5 : 4 < kd
      · have HS2 := Lib.hid (sm_step_bad (by rw [HK.out.1]; exact hlt) HKD.out HS.out (rd_kind (.inr k5)))
        go_wp2
        go_ret3
        exact some_bad HS2.out HB2.out
      by_cases k1 : kd = 1
      · subst k1
        by_cases hsh : blen < a + 1
        · have HS2 := Lib.hid (sm_step_bad (by rw [HK.out.1]; exact hlt) HKD.out HS.out (rd_short (by decide) (by rw [List.length_drop, HRL.out]; show _ < 1; omega)))
          have hsh' : (blen : Int) < (a : Int) + 1 := by omega
          clear k0 k5
          go_wp2
          go_ret3
          exact some_bad HS2.out (HBT.out _)
        have hsh' : ¬ (blen : Int) < (a : Int) + 1 := by omega
        have hdl : 1 ≤ (zs.drop a).length := by rw [List.length_drop, HRL.out]; omega
        obtain ⟨A', c', hsl, hrd, hac⟩ := sub_at (HR.out.kept HB2.out) hc a 1 (a : Int) ((a : Int) + 1) rfl (by omega) (by omega)
        obtain ⟨V, hV⟩ : ∃ V, V = num ((zs.drop a).take 1) := ⟨_, rfl⟩
        have hvb := num_bound (k := 1) (bys_drop a HB.out) hdl
        have hvb0 : 0 ≤ V := by rw [hV]; exact hvb.1
        have hvb1 : V ≤ 18446744073709551615 := by rw [hV]; exact hvb.2
        have HV := Lib.hid hV
        have HC := Lib.hid (number_at (k := 1) (c := c') rfl (hrd.kept (box_below wr (.cells #[.int .i64 0, .int .i64 1, .int .i64 8, .int .i64 2, .int .i64 1] 3))) (bys_drop a HB.out) hdl hV (by decide))
        clear k0 k5 hrd hV hvb
        have hvok : V ≤ 255 := by rw [HV.out]; exact num_one_le (bys_drop a HB.out) hdl
        clear hvb1
        have HRR := Lib.hid (rd_ok (k := 1) rfl (by decide) hdl HV.out (fun h => by omega) (fun h => by omega))
        have HF := Lib.hid (new_field (o := (.cells #[.int .i64 0, .int .i64 1, .int .i64 8, .int .i64 2, .int .i64 1] 3)) ⟨1, V, ⟨#[]⟩⟩ HO.out HB2.out)
        have H1 := Lib.hid (three_one 1 V ⟨#[]⟩)
        have h63 : k + 1 ≤ maxLen := by unfold maxLen; omega
        have h47 : (k + 1) * 32 ≤ 140737488355328 := by omega
        go_wp2_with fail
        refine HC.out.mono ?_
        rintro e w1 ⟨rfl, rfl⟩
        go_wp2_with (at_builtin; refine wpList_append_own _ rfl (.tmp 65) (.tmp 70) 107 rfl w.heap.size 112 i0 _ 3 32 Tryz.underlying107 hi hz0 hz1 hz2 rfl (by decide) u7 k (fcs l) rfl HF.out.1 ⟨wr.heap.size + 1, 0, none⟩ 1 1 [.int .i64 1, .int .i64 V, .string ⟨#[]⟩] rfl rfl HF.out.2.1 H1.out h63 h47 HF.out.2.2.1 ?_; intro v2 w2 h4 h5 _; have HY := Lib.hid (rsome_round (va := (a : Int) + 1) (a' := a + 1) HB.out HK.out.1 hlt HKD.out HA.out HL.out HS.out HRR.out HO.out HF.out.2.2.2 (by omega) rfl h4 h5); clear h4 h5)
        go_roundw
        case rel => exact HY.out
        case measure => simp [intOf]; omega
      by_cases k4 : kd = 4
      · subst k4
        by_cases hsh : blen < a + 1
        · have HS2 := Lib.hid (sm_step_bad (by rw [HK.out.1]; exact hlt) HKD.out HS.out (rd_short (by decide) (by rw [List.length_drop, HRL.out]; show _ < 1; omega)))
          have hsh' : (blen : Int) < (a : Int) + 1 := by omega
          clear k0 k5
          go_wp2
          go_ret3
          exact some_bad HS2.out (HBT.out _)
        have hsh' : ¬ (blen : Int) < (a : Int) + 1 := by omega
        have hdl : 1 ≤ (zs.drop a).length := by rw [List.length_drop, HRL.out]; omega
        obtain ⟨A', c', hsl, hrd, hac⟩ := sub_at (HR.out.kept HB2.out) hc a 1 (a : Int) ((a : Int) + 1) rfl (by omega) (by omega)
        obtain ⟨V, hV⟩ : ∃ V, V = num ((zs.drop a).take 1) := ⟨_, rfl⟩
        have hvb := num_bound (k := 4) (bys_drop a HB.out) hdl
        have hvb0 : 0 ≤ V := by rw [hV]; exact hvb.1
        have hvb1 : V ≤ 18446744073709551615 := by rw [hV]; exact hvb.2
        have HV := Lib.hid hV
        have HC := Lib.hid (number_at (k := 4) (c := c') rfl (hrd.kept (box_below wr (.cells #[.int .i64 0, .int .i64 1, .int .i64 8, .int .i64 2, .int .i64 1] 3))) (bys_drop a HB.out) hdl hV (by decide))
        clear k0 k5 hrd hV hvb
        by_cases hov : 1 < V
        · have HS2 := Lib.hid (sm_step_bad (by rw [HK.out.1]; exact hlt) HKD.out HS.out (rd_over (k := 4) rfl (by decide) hdl HV.out (fun h => by omega) (fun h => by omega)))
          go_wp2_with fail
          refine HC.out.mono ?_
          rintro e w1 ⟨rfl, rfl⟩
          go_wp2
          go_ret3
          exact some_bad HS2.out (HBT.out _)
        have hvok : V ≤ 1 := by omega
        have HRR := Lib.hid (rd_ok (k := 4) rfl (by decide) hdl HV.out (fun h => by omega) (fun h => by omega))
        clear hvb1 hov
        have HF := Lib.hid (new_field (o := (.cells #[.int .i64 0, .int .i64 1, .int .i64 8, .int .i64 2, .int .i64 1] 3)) ⟨4, V, ⟨#[]⟩⟩ HO.out HB2.out)
        have H1 := Lib.hid (three_one 4 V ⟨#[]⟩)
        have h63 : k + 1 ≤ maxLen := by unfold maxLen; omega
        have h47 : (k + 1) * 32 ≤ 140737488355328 := by omega
        go_wp2_with fail
        refine HC.out.mono ?_
        rintro e w1 ⟨rfl, rfl⟩
        go_wp2_with (at_builtin; refine wpList_append_own _ rfl (.tmp 65) (.tmp 70) 107 rfl w.heap.size 112 i0 _ 3 32 Tryz.underlying107 hi hz0 hz1 hz2 rfl (by decide) u7 k (fcs l) rfl HF.out.1 ⟨wr.heap.size + 1, 0, none⟩ 1 1 [.int .i64 4, .int .i64 V, .string ⟨#[]⟩] rfl rfl HF.out.2.1 H1.out h63 h47 HF.out.2.2.1 ?_; intro v2 w2 h4 h5 _; have HY := Lib.hid (rsome_round (va := (a : Int) + 1) (a' := a + 1) HB.out HK.out.1 hlt HKD.out HA.out HL.out HS.out HRR.out HO.out HF.out.2.2.2 (by omega) rfl h4 h5); clear h4 h5)
        go_roundw
        case rel => exact HY.out
        case measure => simp [intOf]; omega
      by_cases k2 : kd = 2
      · subst k2
        by_cases hsh : blen < a + 8
        · have HS2 := Lib.hid (sm_step_bad (by rw [HK.out.1]; exact hlt) HKD.out HS.out (rd_short (by decide) (by rw [List.length_drop, HRL.out]; show _ < 8; omega)))
          have hsh' : (blen : Int) < (a : Int) + 8 := by omega
          clear k0 k5
          go_wp2
          go_ret3
          exact some_bad HS2.out (HBT.out _)
        have hsh' : ¬ (blen : Int) < (a : Int) + 8 := by omega
        have hdl : 8 ≤ (zs.drop a).length := by rw [List.length_drop, HRL.out]; omega
        obtain ⟨A', c', hsl, hrd, hac⟩ := sub_at (HR.out.kept HB2.out) hc a 8 (a : Int) ((a : Int) + 8) rfl (by omega) (by omega)
        obtain ⟨V, hV⟩ : ∃ V, V = num ((zs.drop a).take 8) := ⟨_, rfl⟩
        have hvb := num_bound (k := 2) (bys_drop a HB.out) hdl
        have hvb0 : 0 ≤ V := by rw [hV]; exact hvb.1
        have hvb1 : V ≤ 18446744073709551615 := by rw [hV]; exact hvb.2
        have HV := Lib.hid hV
        have HC := Lib.hid (number_at (k := 2) (c := c') rfl (hrd.kept (box_below wr (.cells #[.int .i64 0, .int .i64 1, .int .i64 8, .int .i64 2, .int .i64 1] 3))) (bys_drop a HB.out) hdl hV (by decide))
        clear k0 k5 hrd hV hvb
        by_cases hov : 4611686018427387904 < V
        · have HS2 := Lib.hid (sm_step_bad (by rw [HK.out.1]; exact hlt) HKD.out HS.out (rd_over (k := 2) rfl (by decide) hdl HV.out (fun h => by omega) (fun h => by omega)))
          go_wp2_with fail
          refine HC.out.mono ?_
          rintro e w1 ⟨rfl, rfl⟩
          go_wp2
          go_ret3
          exact some_bad HS2.out (HBT.out _)
        have hvok : V ≤ 4611686018427387904 := by omega
        have HRR := Lib.hid (rd_ok (k := 2) rfl (by decide) hdl HV.out (fun h => by omega) (fun h => by omega))
        clear hvb1 hov
        have HF := Lib.hid (new_field (o := (.cells #[.int .i64 0, .int .i64 1, .int .i64 8, .int .i64 2, .int .i64 1] 3)) ⟨2, V, ⟨#[]⟩⟩ HO.out HB2.out)
        have H1 := Lib.hid (three_one 2 V ⟨#[]⟩)
        have h63 : k + 1 ≤ maxLen := by unfold maxLen; omega
        have h47 : (k + 1) * 32 ≤ 140737488355328 := by omega
        go_wp2_with fail
        refine HC.out.mono ?_
        rintro e w1 ⟨rfl, rfl⟩
        go_wp2_with (at_builtin; refine wpList_append_own _ rfl (.tmp 65) (.tmp 70) 107 rfl w.heap.size 112 i0 _ 3 32 Tryz.underlying107 hi hz0 hz1 hz2 rfl (by decide) u7 k (fcs l) rfl HF.out.1 ⟨wr.heap.size + 1, 0, none⟩ 1 1 [.int .i64 2, .int .i64 V, .string ⟨#[]⟩] rfl rfl HF.out.2.1 H1.out h63 h47 HF.out.2.2.1 ?_; intro v2 w2 h4 h5 _; have HY := Lib.hid (rsome_round (va := (a : Int) + 8) (a' := a + 8) HB.out HK.out.1 hlt HKD.out HA.out HL.out HS.out HRR.out HO.out HF.out.2.2.2 (by omega) rfl h4 h5); clear h4 h5)
        go_roundw
        case rel => exact HY.out
        case measure => simp [intOf]; omega
      obtain rfl : kd = 3 := by omega
      by_cases hsh : blen < a + 2
      · have HS2 := Lib.hid (sm_step_bad (by rw [HK.out.1]; exact hlt) HKD.out HS.out (rd_short (by decide) (by rw [List.length_drop, HRL.out]; show _ < 2; omega)))
        have hsh' : (blen : Int) < (a : Int) + 2 := by omega
        clear k0 k5
        go_wp2
        go_ret3
        exact some_bad HS2.out (HBT.out _)
      have hsh' : ¬ (blen : Int) < (a : Int) + 2 := by omega
      have hdl : 2 ≤ (zs.drop a).length := by rw [List.length_drop, HRL.out]; omega
      obtain ⟨A', c', hsl, hrd, hac⟩ := sub_at (HR.out.kept HB2.out) hc a 2 (a : Int) ((a : Int) + 2) rfl (by omega) (by omega)
      obtain ⟨V, hV⟩ : ∃ V, V = num ((zs.drop a).take 2) := ⟨_, rfl⟩
      have hvb := num_bound (k := 3) (bys_drop a HB.out) hdl
      have hvb0 : 0 ≤ V := by rw [hV]; exact hvb.1
      have hvb1 : V ≤ 18446744073709551615 := by rw [hV]; exact hvb.2
      have HV := Lib.hid hV
      have HC := Lib.hid (number_at (k := 3) (c := c') rfl (hrd.kept (box_below wr (.cells #[.int .i64 0, .int .i64 1, .int .i64 8, .int .i64 2, .int .i64 1] 3))) (bys_drop a HB.out) hdl hV (by decide))
      clear k0 k5 hrd hV hvb
      have hm16 : ∃ m : Nat, V = (m : Int) ∧ m ≤ 65535 := by
        obtain ⟨x, y, r, hxy, g1, g2, g3, g4⟩ := num_two_bd (bys_drop a HB.out) hdl
        rw [HV.out, hxy, num_two]
        exact ⟨(x * 256 + y).toNat, by omega, by omega⟩
      obtain ⟨m, rfl, hm16⟩ := hm16
      have HT := Lib.hid (rd_text hdl HV.out)
      have hmi : (m : Int) ≤ 65535 := by omega
      clear hvb1
      clear k1 k2 k4
      by_cases hlong : 1024 < m
      · have HS2 := Lib.hid (sm_step_bad (by rw [HK.out.1]; exact hlt) HKD.out HS.out (HT.out.1 hlong))
        have hlong' : (1024 : Int) < (m : Int) := by omega
        go_wp2_with fail
        refine HC.out.mono ?_
        rintro e w1 ⟨rfl, rfl⟩
        go_wp2
        go_ret3
        exact some_bad HS2.out (HBT.out _)
      have hlong' : ¬ (1024 : Int) < (m : Int) := by omega
      by_cases hcut : blen < a + 2 + m
      · have HS2 := Lib.hid (sm_step_bad (by rw [HK.out.1]; exact hlt) HKD.out HS.out (HT.out.2.1 (by omega) (by rw [List.length_drop, HRL.out]; omega)))
        have hcut' : (blen : Int) < (a : Int) + 2 + (m : Int) := by omega
        go_wp2_with fail
        refine HC.out.mono ?_
        rintro e w1 ⟨rfl, rfl⟩
        go_wp2
        go_ret3
        exact some_bad HS2.out (HBT.out _)
      have hcut' : ¬ (blen : Int) < (a : Int) + 2 + (m : Int) := by omega
      have hgood := HT.out.2.2 (by omega) (by rw [List.length_drop, HRL.out]; omega)
      rw [List.drop_drop] at hgood
      obtain ⟨A2, c2, hsl2, hrd2, _⟩ := sub_at (HR.out.kept HB2.out) hc (a + 2) m ((a : Int) + 2) ((a : Int) + 2 + (m : Int)) (by omega) (by omega) (by omega)
      have hcv := conv_reads (c := c2) (hrd2.kept (box_below wr (.cells #[.int .i64 0, .int .i64 1, .int .i64 8, .int .i64 2, .int .i64 1] 3)))
      obtain ⟨S, hS⟩ : ∃ S, S = strOfNums ((zs.drop (a + 2)).take m) := ⟨_, rfl⟩
      rw [← hS] at hcv hgood
      have HRR := Lib.hid hgood
      have HF := Lib.hid (new_field (o := (.cells #[.int .i64 0, .int .i64 1, .int .i64 8, .int .i64 2, .int .i64 1] 3)) ⟨3, 0, S⟩ HO.out HB2.out)
      have H1 := Lib.hid (three_one 3 0 S)
      have h63 : k + 1 ≤ maxLen := by unfold maxLen; omega
      have h47 : (k + 1) * 32 ≤ 140737488355328 := by omega
      clear hgood hS hrd2
      go_wp2_with fail
      refine HC.out.mono ?_
      rintro e w1 ⟨rfl, rfl⟩
      go_wp2_with (at_builtin; refine wpList_append_own _ rfl (.tmp 81) (.tmp 91) 107 rfl w.heap.size 112 i0 _ 3 32 Tryz.underlying107 hi hz0 hz1 hz2 rfl (by decide) u7 k (fcs l) rfl HF.out.1 ⟨wr.heap.size + 1, 0, none⟩ 1 1 [.int .i64 3, .int .i64 0, .string S] rfl rfl HF.out.2.1 H1.out h63 h47 HF.out.2.2.1 ?_; intro v2 w2 h4 h5 _; have HY := Lib.hid (rsome_round (va := (a : Int) + 2 + (m : Int)) (a' := a + (2 + m)) HB.out HK.out.1 hlt HKD.out HA.out HL.out HS.out HRR.out HO.out HF.out.2.2.2 (by omega) rfl h4 h5); clear h4 h5)
      go_roundw
      case rel => exact HY.out
      case measure => simp [intOf]; omega
    · obtain rfl : len = k := by omega
      go_wp2
      go_ret3
      exact some_end HK.out.1.symm HL.out HS.out HO.out HB2.out
end Go.Proofs.YtflgemlhocjipaaGreatDoor.Pq
namespace Go.Proofs.YtflgemlhocjipaaGreatDoor.Pq
set_option maxRecDepth 100000
open Go.ChangeShapes Go.WideShapes Go.ChangeAt Go.RowKit

set_option maxHeartbeats 400000 in
theorem rdecode_any (ka ba : Option Addr) (len kcap blen bcap : Nat) (ks zs : List Int) (w : World) (hK : Reads .i64 w ka len ks) (hR : Reads .u8 w ba blen zs) (hB : Bys zs) (hm : len ≤ 4294967296) (hc : blen ≤ bcap) (hcm : bcap ≤ 2305843009213693952) :
    Calls Tryz.prog 59 #[.slice ka len kcap, .slice ba blen bcap] w (DecPost w (dc ks zs)) := by
  have hcall := rsome_any ka ba len kcap blen bcap ks zs w hK hR hB hm hc hcm
  have hl := hR.1
  cases hs : sm ks zs with
  | bad er =>
    have hne : (er != 0) = true := by simpa using sm_bad_ne hs
    rw [hs] at hcall
    have HC := Lib.hid hcall
    have HS := Lib.hid (dc_of_bad hs)
    clear hcall hs hK hR hB hl
    go_enter Tryz.func59, Tryz.ntmps59
    go_wp2_with fail
    refine HC.out.mono ?_
    rintro e w1 ⟨A, c, rfl, hf, hb1⟩
    have HB := Lib.hid hb1
    simp only [Sm.e, Sm.l, Sm.n, List.length_nil]
    clear hf hb1
    go_wp2
    go_ret2
    exact dec_bad HS.out HB.out
  | good l n =>
    have hnb := (sm_good hB hs).1
    rw [hs] at hcall
    have HC := Lib.hid hcall
    by_cases hn : n < blen
    · have HS := Lib.hid (dc_of_less hs (by omega))
      have hn' : ((n : Int) != (blen : Int)) = true := by simp; omega
      clear hcall hs hK hR hB hl hn hnb
      go_enter Tryz.func59, Tryz.ntmps59
      go_wp2_with fail
      refine HC.out.mono ?_
      rintro e w1 ⟨A, c, rfl, hf, hb1⟩
      have HF := Lib.hid hf
      have HB := Lib.hid hb1
      simp only [Sm.e, Sm.l, Sm.n]
      clear hf hb1
      go_wp2
      go_ret2
      exact dec_bad HS.out HB.out
    · have HS := Lib.hid (dc_of_all hs (by omega))
      have hn' : ((n : Int) != (blen : Int)) = false := by simp; omega
      clear hcall hs hK hR hB hl hn hnb
      go_enter Tryz.func59, Tryz.ntmps59
      go_wp2_with fail
      refine HC.out.mono ?_
      rintro e w1 ⟨A, c, rfl, hf, hb1⟩
      have HF := Lib.hid hf
      have HB := Lib.hid hb1
      simp only [Sm.e, Sm.l, Sm.n]
      clear hf hb1
      go_wp2
      go_ret2
      exact dec_good HS.out HF.out HB.out
end Go.Proofs.YtflgemlhocjipaaGreatDoor.Pq
