/-
  What the law PackBack returns of a slice of fields and a slice of bytes that read: true, and older memory is as it was. Condition: the bytes' array takes no more than any input may.
-/
import Derived.Test.YtkoikoegeagkoaaLaw3
namespace Go.Proofs.Ytkoikoegeagkoaa
open Go.ChangeShapes Go.WideShapes Go.ChangeAt Go.RowKit

/-- By how much a row grows at most. -/
theorem grows_quarter {need old : Nat} (h : old < need) : Builtin.nextslicecap need old ≤ need + need / 4 + 512 := by
  unfold Builtin.nextslicecap
  split
  · omega
  · split
    · omega
    · rw [growBy_four]
      repeat' split
      all_goals omega
/-- Bytes laid behind a row of the call's own where both together may take some more than 2^47 bytes. -/
theorem run_append_wide (w : World) (base ty : Nat) (i : TypeInfo) (hi : Try.prog.info? 5 = some i) (hz : i.zero = some (.int .u8 0)) (hsize : i.size = 1) (hby : i.bytes = 1)
    (v : Value) (n : Nat) (xs : List Value) (hown : w.ownsRow base 5 1 v n xs) (A : Option Addr) (m c : Nat) (zs : List Int) (hr : Reads .u8 w A m zs) (hn : n ≤ 1048576) (hm : m ≤ 140737488355328) (hbase : base ≤ w.heap.size) :
    ∃ v' w', (Builtin.append_ #[24, 24] ty #[v, .slice A m c]).run Try.prog w = .ok v' w' ∧ w'.ownsRow base 5 1 v' (n + m) (xs ++ zs.map (Value.int .u8)) ∧ w.grownBy w' v.ownBlock := by
  by_cases hsmall : n + m ≤ 140737488355328
  · exact run_append_rd w base ty i hi hz hsize hby v n xs hown A m c zs hr hsmall hbase
  have hm0 : 0 < m := by omega
  obtain ⟨b, off, rfl, _⟩ := hr.2 hm0
  have hnews : ∀ j u, (zs.map (Value.int .u8))[j]? = some u → w.cell? ((⟨b, off, none⟩ : Addr).add j) = some u := ints_cells hr
  have hl : (zs.map (Value.int .u8)).length = m * 1 := by rw [List.length_map, hr.1, Nat.mul_one]
  rcases hown.2 with ⟨rfl, h0⟩ | ⟨g, cap, cur, rfl, hbg, hg, hnc, hcm, hcs, ht⟩
  · omega
  · by_cases hroom : n + m ≤ cap
    · obtain ⟨w', h1, h2, h3⟩ := run_append_fits (P := Try.prog) w base 24 ty 5 i 1 Try.underlying24 hi hsize g n cap xs hown ⟨b, off, none⟩ m c _ hl hnews (ints_one .u8 zs) hroom
      exact ⟨_, w', h1, h2, h3⟩
    · have hfit : Builtin.nextslicecap (n + m) cap * i.bytes ≤ 281474976710656 := by
        have := grows_quarter (show cap < n + m by omega)
        rw [hby]; omega
      have hxl : xs.length = n := by have := hown.1; omega
      have hrun := run_append_grow (P := Try.prog) w 24 ty 5 i (.int .u8 0) Try.underlying24 hi hz ⟨g, 0, none⟩ n cap xs (by rw [hsize]; exact hown.1) (hown.cells (g := g) rfl) ⟨b, off, none⟩ m c (zs.map (Value.int .u8)) (by rw [hsize]; exact hl) hnews (by omega) (by omega) hfit
      refine ⟨_, _, hrun, ⟨by rw [List.length_append, hxl, List.length_map, hr.1, Nat.mul_one], .inr ⟨w.heap.size, _, _, rfl, hbase, heap_alloc_new w.drew _, grownCap_ge w _ _ _, grownCap_le_maxLen w _ _ _ (by unfold maxLen; omega), ?_, ?_⟩⟩,
        ⟨rfl, rfl, rfl, by simp, fun k hk _ => Below.heap_alloc w.drew _ k hk⟩⟩
      · have hge := grownCap_ge w (n + m) cap 5
        have hone : (Value.int .u8 0).cells.size = 1 := rfl
        rw [Array.size_append, Array.size_append, size_zeroCells, hone, List.size_toArray, List.size_toArray, hxl, List.length_map, hr.1]
        omega
      · rw [Array.toList_append, Array.toList_append, List.take_append_of_le_length (by simp [hxl, hr.1]), List.take_of_length_le (by simp [hxl, hr.1])]
theorem wpList_append_wide {w : World} {ops : Array Oper} {rest : List Oper} {o : Oper} {a : Act} {Q : Exit → Act → World → Prop} (hgd : o.guard = none) (s x : Operand)
    (ho : o.op = .call { callee := .builtin .append, args := #[s, x], argTypes := #[24, 24] })
    (base : Nat) (i : TypeInfo) (hi : Try.prog.info? 5 = some i) (hz : i.zero = some (.int .u8 0)) (hsize : i.size = 1) (hby : i.bytes = 1)
    (v : Value) (n : Nat) (xs : List Value) (hs : a.eval s = v) (hown : w.ownsRow base 5 1 v n xs) (A : Option Addr) (m c : Nat) (zs : List Int) (hx : a.eval x = .slice A m c) (hr : Reads .u8 w A m zs) (hn : n ≤ 1048576) (hm : m ≤ 140737488355328) (hbase : base ≤ w.heap.size)
    (h : ∀ v' w', w'.ownsRow base 5 1 v' (n + m) (xs ++ zs.map (Value.int .u8)) → w.grownBy w' v.ownBlock → wpList Try.prog ops Q rest (a.put o.dst v') w') : wpList Try.prog ops Q (o :: rest) a w := by
  refine wpList_plain hgd fun K hK => ?_
  obtain ⟨v', w', hrun, h2, h3⟩ := run_append_wide w base o.type i hi hz hsize hby v n xs hown A m c zs hr hn hm hbase
  unfold Oper.wp execOp
  simp only [ho, resolve, invoke, builtin, Sem.run_bind, Sem.run_pure, Result.andThen_ok, List.map_toArray, List.map_cons, List.map_nil, hs, hx, hrun]
  exact hK _ _ (h v' w' h2 h3)
theorem app_one {w3 w4 : World} {v4 : Value} {n : Nat} {zs : List Int} (hown : w4.ownsRow w3.heap.size 5 1 v4 (0 + n) ([] ++ zs.map (Value.int .u8))) (hg : (w3.alloc (.cells #[] 5)).grownBy w4 (Value.slice (some ⟨w3.heap.size, 0, none⟩) 0 0).ownBlock) :
    w4.ownsRow w3.heap.size 5 1 v4 n (zs.map (Value.int .u8)) ∧ Below w3.heap.size w3 w4 := by
  rw [Nat.zero_add, List.nil_append] at hown
  exact ⟨hown, (box_below w3 _).grown hg (by simp) (fun k hk => by simp [Value.ownBlock] at hk; omega)⟩
theorem app_two {w3 w4 w5 : World} {v4 v5 : Value} {n m : Nat} {zs ys : List Int} (h4 : w4.ownsRow w3.heap.size 5 1 v4 n (zs.map (Value.int .u8))) (hb : Below w3.heap.size w3 w4) (hown : w5.ownsRow w3.heap.size 5 1 v5 (n + m) (zs.map (Value.int .u8) ++ ys.map (Value.int .u8))) (hg : w4.grownBy w5 v4.ownBlock) :
    w5.ownsRow w3.heap.size 5 1 v5 (n + m) ((zs ++ ys).map (Value.int .u8)) ∧ Below w3.heap.size w3 w5 := by
  rw [← List.map_append] at hown
  exact ⟨hown, hb.grown hg hb.size (own_ge h4)⟩
theorem some_own {w : World} {ka : Option Addr} {len kcap n base : Nat} {v : Value} {ks zs : List Int} (hK : Reads .i64 w ka len ks) (h : w.ownsRow base 5 1 v n (zs.map (Value.int .u8))) (hB : Bys zs) (hm : len ≤ 4294967296) :
    Calls Try.prog 15 #[.slice ka len kcap, v] w (SomePost w (sm ks zs)) := by
  obtain ⟨A, c, rfl, h1, h2, h3⟩ := own_reads h
  exact some_any ka A len kcap n c ks zs w hK h1 hB hm h2 h3
set_option maxHeartbeats 1000000 in
theorem law_back (ad ba : Option Addr) (len cap mlen mcap : Nat) (fs : List Fld) (ms : List Int) (w : World) (hR : FReads w ad len fs) (hM : Reads .u8 w ba mlen ms) (hB : Bys ms) (hc : mlen ≤ mcap) (hcm : mcap ≤ 140737488351232) :
    Calls Try.prog 5 #[.slice ad len cap, .slice ba mlen mcap] w fun e w' => e = .returned (.bool true) ∧ Below w.heap.size w w' := by
  have HR := Lib.hid hR
  have HL := Lib.hid hR.1
  have HM := Lib.hid hM
  have HBY := Lib.hid hB
  clear hR hM hB
  by_cases h300 : 300 < len
  · have h300' := many len h300
    go_enter Try.func5, Try.ntmps5
    go_wp2_with fail
    refine (alive_any _).mono ?_
    rintro e w2 ⟨rfl, hb2⟩
    go_wp2
    go_ret
    exact ⟨rfl, hb2⟩
  have h300' : ¬ (300 : Int) < (len : Int) := by omega
  have hm : len ≤ 4294967296 := by omega
  have hm2 : len ≤ 4398046511104 := by omega
  have HC := Lib.hid (encode_any ad len cap fs w HR.out hm)
  by_cases he : errL fs = 0
  · have HE := Lib.hid he
    have HEN : Hid (encB fs = bytL fs) := Lib.hid (by unfold encB; rw [if_pos he])
    have HD := Lib.hid (dc_back he)
    have HS := Lib.hid (sm_back he ms)
    have HLEN : Hid ((bytL fs).length ≤ 307800) := Lib.hid (by have h1 := bytL_len he; have h2 := HL.out; omega)
    have hml : mlen ≤ 140737488355328 := by omega
    obtain ⟨i0, hi, hz0, hz1, hz2⟩ := info_parts info5
    clear he h300 hcm
    go_enter Try.func5, Try.ntmps5
    go_wp2_with fail
    refine HC.out.mono ?_
    rintro e w1 ⟨A, n, c, rfl, hn, hrd, hnc, hcm, hb1⟩
    rw [HE.out]
    rw [HEN.out] at hn hrd
    have HN := Lib.hid hn
    have HRD := Lib.hid hrd
    have HB1 := Lib.hid hb1
    have hnl : n ≤ 307800 := by rw [hn]; exact HLEN.out
    clear hn hrd hb1
    go_wp2_with fail
    refine (kinds_any ad len cap fs w1 (HR.out.kept HB1.out) hm2).mono ?_
    rintro e w2 ⟨rfl, hk2, hb2⟩
    have HB2 := Lib.hid (HB1.out.trans (hb2.mono HB1.out.size))
    have HK2 := Lib.hid hk2
    have HRD2 := Lib.hid (HRD.out.kept hb2)
    clear hk2 hb2
    go_wp2_with fail
    refine (decode_any _ A len len n c (fs.map (·.k)) (bytL fs) w2 HK2.out HRD2.out (bytL_bys fs) hm hnc hcm).mono ?_
    rintro e w3 ⟨A3, c3, rfl, hf3, hb3⟩
    rw [HD.out] at hf3 ⊢
    simp only [Sm.e, Sm.l] at hf3 ⊢
    rw [HL.out] at hf3 ⊢
    have HB3 := Lib.hid (HB2.out.trans (hb3.mono HB2.out.size))
    have HF3 := Lib.hid hf3
    have HRD3 := Lib.hid (HRD2.out.kept hb3)
    clear hf3 hb3
    go_wp2_with fail
    refine (kinds_any ad len cap fs w3 (HR.out.kept HB3.out) hm2).mono ?_
    rintro e w4 ⟨rfl, hk4, hb4⟩
    have HB4 := Lib.hid (HB3.out.trans (hb4.mono HB3.out.size))
    have HK4 := Lib.hid hk4
    have HF4 := Lib.hid (HF3.out.kept hb4)
    have HRD4 := Lib.hid (HRD3.out.kept hb4)
    have HM4 := Lib.hid (HM.out.kept HB4.out)
    have HO4 := Lib.hid (World.ownsRow_lit (base := w4.heap.size) (e := 5) (size := 1) w4 #[] 0 (Nat.le_refl _) (by unfold maxLen; omega) rfl)
    have HRDa := Lib.hid (HRD4.out.kept (box_below w4 (.cells #[] 5)))
    have hsz4 : w4.heap.size ≤ (w4.alloc (.cells #[] 5)).heap.size := by simp
    have h47a : 0 + n ≤ 140737488355328 := by omega
    have hnb : n ≤ 1048576 := by omega
    clear hk4 hb4
    go_wp2_with (first
      | (at_builtin; refine wpList_append_rd rfl (.tmp 39) (.tmp 40) rfl w4.heap.size i0 hi hz0 hz1 hz2 (.slice (some ⟨w4.heap.size, 0, none⟩) 0 0) 0 [] rfl HO4.out A n c (bytL fs) rfl HRDa.out h47a hsz4 ?_; intro v5 w5 hown5 hgrow5; have HX5 := Lib.hid (app_one hown5 hgrow5); clear hgrow5 hown5)
      | (at_builtin; refine wpList_append_wide rfl (.tmp 41) (.tmp 42) rfl w4.heap.size i0 hi hz0 hz1 hz2 v5 n ((bytL fs).map (Value.int .u8)) rfl HX5.out.1 ba mlen mcap ms rfl (HM4.out.kept HX5.out.2) hnb hml HX5.out.2.size ?_; intro v6 w6 hown6 hgrow6; have HX6 := Lib.hid (app_two HX5.out.1 HX5.out.2 hown6 hgrow6); clear hown6 hgrow6))
    refine (some_own (HK4.out.kept HX6.out.2) HX6.out.1 (bys_append (bytL_bys fs) HBY.out) hm).mono ?_
    rintro e w7 ⟨A7, c7, rfl, hf7, hb7⟩
    rw [HS.out] at hf7 ⊢
    simp only [Sm.e, Sm.l, Sm.n] at hf7 ⊢
    rw [HL.out] at hf7 ⊢
    rw [← HN.out]
    have HB67 := Lib.hid (HX6.out.2.trans (hb7.mono HX6.out.2.size))
    have HB7 := Lib.hid (HB4.out.trans (HB67.out.mono HB4.out.size))
    have HF7 := Lib.hid hf7
    have HF47 := Lib.hid (HF4.out.kept HB67.out)
    clear hf7 hb7
    go_wp2_with fail
    refine (alive_any _).mono ?_
    rintro e w8 ⟨rfl, hb8⟩
    have HB8 := Lib.hid (HB7.out.trans (hb8.mono HB7.out.size))
    have HF8 := Lib.hid (HF7.out.kept hb8)
    have HF48 := Lib.hid (HF47.out.kept hb8)
    clear hb8
    go_wp2_with fail
    refine (same_any _ _ _ _ _ fs _ (HR.out.kept HB8.out) HF48.out hm).mono ?_
    rintro e w9 ⟨rfl, hb9⟩
    have HB9 := Lib.hid (HB8.out.trans (hb9.mono HB8.out.size))
    have HF9 := Lib.hid (HF8.out.kept hb9)
    clear hb9
    go_wp2_with fail
    refine (same_any _ _ _ _ _ fs _ HF9.out (HR.out.kept HB9.out) hm).mono ?_
    rintro e w10 ⟨rfl, hb10⟩
    have HB10 := Lib.hid (HB9.out.trans (hb10.mono HB9.out.size))
    clear hb10
    go_wp2
    go_ret
    exact ⟨rfl, HB10.out⟩
  · have hne : (errL fs != 0) = true := by simpa using he
    have HEN : Hid (encB fs = []) := Lib.hid (by unfold encB; rw [if_neg he])
    obtain ⟨er, hE⟩ : ∃ er, er = errL fs := ⟨_, rfl⟩
    rw [← hE] at hne
    have HE := Lib.hid hE
    clear he hE
    go_enter Try.func5, Try.ntmps5
    go_wp2_with fail
    refine HC.out.mono ?_
    rintro e w1 ⟨A, n, c, rfl, hn, hrd, hnc, hcm, hb1⟩
    rw [← HE.out]
    rw [HEN.out] at hn
    obtain rfl : n = 0 := hn
    have HB1 := Lib.hid hb1
    clear hrd hb1
    go_wp2_with fail
    refine (alive_any _).mono ?_
    rintro e w2 ⟨rfl, hb2⟩
    have HB2 := Lib.hid (HB1.out.trans (hb2.mono HB1.out.size))
    clear hb2
    go_wp2
    go_ret
    exact ⟨rfl, HB2.out⟩
end Go.Proofs.Ytkoikoegeagkoaa
