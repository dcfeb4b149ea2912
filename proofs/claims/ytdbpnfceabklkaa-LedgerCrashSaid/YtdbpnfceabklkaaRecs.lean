/-
  What ledger.lay returns of a row of the call's own and a string: the row with the record behind it; ledger.records of bytes that read: the records that stand in them, and whether that is all. Condition: not more than 2^31 bytes.
-/
import Derived.Test.YtdbpnfceabklkaaWords
namespace Go.Proofs.Ytdbpnfceabklkaa
open Go.ChangeShapes Go.WideShapes Go.ChangeAt Go.RowKit

theorem sb_bys (s : ByteArray) : Bys (sb s) := fun z h => by
  obtain ⟨c, _, rfl⟩ := List.mem_map.1 h
  have := c.toNat_lt
  omega
theorem sb_len (s : ByteArray) : (sb s).length = s.size := by
  show (s.data.toList.map _).length = _
  rw [List.length_map, Array.length_toList]; rfl
theorem strCells_sb (s : ByteArray) : Lib.strCells s = ints (sb s) := by
  simp [Lib.strCells, sb, ints]
theorem str_sb (s : ByteArray) : strOfNums (sb s) = s := by
  cases s with
  | mk d =>
    simp only [strOfNums, sb, List.map_map]
    congr 1
    apply Array.ext'
    show d.toList.map _ = d.toList
    conv => rhs; rw [← List.map_id d.toList]
    refine List.map_congr_left fun c _ => ?_
    show UInt8.ofNat ((c.toNat : Int)).toNat = c
    rw [Int.toNat_natCast]
    exact UInt8.ofNat_toNat
theorem ints_cells {w : World} {b off len : Nat} {zs : List Int} (hR : Reads w (some ⟨b, off, none⟩) len zs) : ∀ j u, (ints zs)[j]? = some u → w.cell? (Addr.add ⟨b, off, none⟩ j) = some u := by
  intro j u hu
  have hl := hR.1
  rcases Nat.eq_zero_or_pos len with h0 | h0
  · have : zs = [] := List.eq_nil_of_length_eq_zero (by omega)
    subst this; simp [ints] at hu
  · obtain ⟨ad, e, h⟩ := reads_cells hR h0
    injection e with e
    subst e
    exact h j u hu
set_option maxRecDepth 100000 in
theorem run_append_rd (w : World) (base ty : Nat) (i : TypeInfo) (hi : Try.prog.info? 5 = some i) (hz : i.zero = some (.int .u8 0)) (hsize : i.size = 1) (hby : i.bytes = 1)
    (v : Value) (n : Nat) (xs : List Value) (hown : w.ownsRow base 5 1 v n xs) (A : Option Addr) (m c : Nat) (zs : List Int) (hr : Reads w A m zs) (h47 : n + m ≤ 140737488355328) (hbase : base ≤ w.heap.size) :
    ∃ v' w', (Builtin.append_ #[48, 48] ty #[v, .slice A m c]).run Try.prog w = .ok v' w' ∧ w'.ownsRow base 5 1 v' (n + m) (xs ++ ints zs) ∧ w.grownBy w' v.ownBlock := by
  rcases A with _ | ad
  · have hm : m = 0 := by
      rcases Nat.eq_zero_or_pos m with h0 | h0
      · exact h0
      · obtain ⟨b, off, h, _⟩ := hr.2.1 h0
        cases h
    subst hm
    have hn : zs = [] := List.eq_nil_of_length_eq_zero hr.1
    subst hn
    refine ⟨v, w, ?_, by simpa [ints] using hown, World.grownBy.refl w _⟩
    rcases hown.2 with ⟨rfl, rfl⟩ | ⟨g, cap, cur, rfl, _, _, hnc, _⟩
    · simp [Builtin.append_, run_underlying Try.underlying48, sizeOf, typeInfo, hi, Builtin.lenOf, Builtin.firstCells]
    · simp [Builtin.append_, run_underlying Try.underlying48, sizeOf, typeInfo, hi, Builtin.lenOf, Builtin.firstCells, hnc, storeCells]
  · have hcells : ∀ j u, (ints zs)[j]? = some u → w.cell? (ad.add j) = some u := by
      intro j u hu
      rcases Nat.eq_zero_or_pos m with h0 | h0
      · have hn : zs = [] := List.eq_nil_of_length_eq_zero (hr.1.trans h0)
        subst hn
        simp [ints] at hu
      · obtain ⟨b, off, h, _⟩ := hr.2.1 h0
        injection h with h
        subst h
        exact ints_cells hr j u hu
    obtain ⟨v', w', hrun, h2, h3, _⟩ := run_append_own (P := Try.prog) w base 48 ty 5 i (.int .u8 0) 1 1 Try.underlying48 hi hz hsize hby rfl (by decide) v n xs hown ad m c (ints zs) (by rw [ints_length, hr.1, Nat.mul_one]) hcells (ints_one zs) (by unfold maxLen; omega) (by omega) hbase
    exact ⟨v', w', hrun, h2, h3⟩
set_option maxRecDepth 100000 in
theorem wpList_append_rd {w : World} {ops : Array Oper} {rest : List Oper} {o : Oper} {a : Act} {Q : Exit → Act → World → Prop} (hgd : o.guard = none) (s x : Operand)
    (ho : o.op = .call { callee := .builtin .append, args := #[s, x], argTypes := #[48, 48] })
    (base : Nat) (i : TypeInfo) (hi : Try.prog.info? 5 = some i) (hz : i.zero = some (.int .u8 0)) (hsize : i.size = 1) (hby : i.bytes = 1)
    (v : Value) (n : Nat) (xs : List Value) (hs : a.eval s = v) (hown : w.ownsRow base 5 1 v n xs) (A : Option Addr) (m c : Nat) (zs : List Int) (hx : a.eval x = .slice A m c) (hr : Reads w A m zs) (h47 : n + m ≤ 140737488355328) (hbase : base ≤ w.heap.size)
    (h : ∀ v' w', w'.ownsRow base 5 1 v' (n + m) (xs ++ ints zs) → w.grownBy w' v.ownBlock → wpList Try.prog ops Q rest (a.put o.dst v') w') : wpList Try.prog ops Q (o :: rest) a w := by
  refine wpList_plain hgd fun K hK => ?_
  obtain ⟨v', w', hrun, h2, h3⟩ := run_append_rd w base o.type i hi hz hsize hby v n xs hown A m c zs hr h47 hbase
  unfold Oper.wp execOp
  simp only [ho, resolve, invoke, builtin, Sem.run_bind, Sem.run_pure, Result.andThen_ok, List.map_toArray, List.map_cons, List.map_nil, hs, hx, hrun]
  exact hK _ _ (h v' w' h2 h3)
/-- A new block of bytes reads as they. -/
theorem reads_lit (w : World) (l : List Int) (t : TypeId) (hB : Bys l) : Reads (w.alloc (.cells (ints l).toArray t)) (some ⟨w.heap.size, 0, none⟩) l.length l :=
  reads_mk rfl (fun _ => ⟨_, _, rfl, fun i hi => by
    rw [Nat.zero_add, cell_of_row _ _ i _ t _ (new_block w _), getD_eq _ hi]
    simp [ints, hi]⟩) hB
theorem grown_alloc {w w' : World} {o : Obj} {row : Option Nat} (h : (w.alloc o).grownBy w' row) : w.grownBy w' row := (World.grownBy_alloc w o _).trans h
theorem lay_any (base len : Nat) (v : Value) (zs : List Int) (S : ByteArray) (w : World) (hown : w.ownsRow base 5 1 v len (ints zs)) (hs : S.size ≤ 4096) (hbase : base ≤ w.heap.size) (hm : len ≤ 2147483647) :
    Calls Try.prog 40 #[v, .string S] w fun e w' => ∃ v', e = .returned v' ∧ w'.ownsRow base 5 1 v' (len + 4 + S.size) (ints (zs ++ le4 S.size ++ sb S)) ∧ Below base w w' := by
  obtain ⟨i0, hi, hz0, hz1, hz2⟩ := info_parts info5
  have HL := Lib.hid (length_any S.size w (by omega))
  obtain ⟨w1, hw1⟩ : ∃ w1, w1 = w.alloc (.cells (ints (le4 S.size)).toArray 5) := ⟨_, rfl⟩
  have HW1 := Lib.hid hw1
  have HO : Hid (w1.ownsRow base 5 1 v len (ints zs)) := Lib.hid (by rw [hw1]; exact hown.alloc _)
  have HR : Hid (Reads w1 (some ⟨w.heap.size, 0, none⟩) 4 (le4 S.size)) := Lib.hid (by rw [hw1]; exact reads_lit w (le4 S.size) 5 (le4_bys _))
  have HZ : Hid (base ≤ w1.heap.size) := Lib.hid (by rw [hw1]; simp; omega)
  have HBW : Hid (Below base w w1) := Lib.hid (by rw [hw1]; exact (box_below w _).mono hbase)
  have hsz : (S.size : Int) ≤ 9223372036854775807 := by omega
  have h4 : len + 4 ≤ 140737488355328 := by omega
  have h5 : len + 4 + S.size ≤ maxLen := by unfold maxLen; omega
  have h6 : len + 4 + S.size ≤ 140737488355328 := by omega
  clear hown hw1
  go_enter Try.func40, Try.ntmps40
  go_wp2_with fail
  refine HL.out.mono ?_
  rintro e w' ⟨rfl, hw'⟩
  rw [← HW1.out] at hw'
  subst hw'
  go_wp2_with (first
    | (at_builtin; refine wpList_append_rd rfl (.tmp 5) (.tmp 8) rfl base i0 hi hz0 hz1 hz2 v len (ints zs) rfl HO.out (some ⟨w.heap.size, 0, none⟩) 4 4 (le4 S.size) rfl HR.out h4 HZ.out ?_; intro v1 w2 h2 h3; have HX := Lib.hid h2; have HY := Lib.hid h3; clear h2 h3; have HZ2 : Hid (base ≤ w2.heap.size) := Lib.hid (Nat.le_trans HZ.out HY.out.size))
    | (at_builtin; refine Lib.wpList_append_own_string _ rfl (.tmp 9) (.tmp 10) 48 9 rfl base 5 i0 Try.underlying48 Try.underlying9 hi hz0 hz1 hz2 v1 (len + 4) (ints zs ++ ints (le4 S.size)) rfl HX.out S rfl h5 h6 HZ2.out ?_; intro v2 w3 h2 h3 _; have HX2 := Lib.hid h2; have HY2 := Lib.hid h3; clear h2 h3)
    | fail)
  go_ret
  refine ⟨v2, rfl, ?_, HBW.out.trans (((Below.refl _ _).grown HY.out HZ.out (own_ge HO.out)).grown HY2.out HZ2.out (own_ge HX.out))⟩
  have h := HX2.out
  rw [strCells_sb] at h
  simpa [ints] using h
/-! ### Records -/
def slen : Value → Nat
  | .slice _ n _ => n
  | _ => 0
theorem strs_snoc (l : List (List Int)) (s : List Int) : strs (l ++ [s]) = strs l ++ [.string (strOfNums s)] := by simp [strs]
theorem strs_length (l : List (List Int)) : (strs l).length = l.length := List.length_map _
/-- What the loop keeps. -/
def RRel (w : World) (len : Nat) (zs : List Int) (vb va : Value) (wr : World) : Prop :=
  ∃ (A : Option Addr) (ln cp : Nat) (r : List Int) (l : List (List Int)), vb = .slice A ln cp ∧ ln ≤ cp ∧ ln ≤ len ∧ Reads w A ln r ∧ Rc zs l r ∧ wr.ownsRow w.heap.size 9 1 va l.length (strs l) ∧ Below w.heap.size w wr
/-- What records leaves. -/
def RcPost (w : World) (zs : List Int) (e : Ending) (w' : World) : Prop :=
  ∃ (v : Value) (l : List (List Int)) (r : List Int), e = .returned (.tuple #[v, .bool (decide (r = []))]) ∧ Rc zs l r ∧ gt r = none ∧ w'.ownsRow w.heap.size 9 1 v l.length (strs l) ∧ Below w.heap.size w w'
theorem recs_bad_end {w wr : World} {zs r : List Int} {l : List (List Int)} {va : Value} {b : Bool} (hrc : Rc zs l r) (hg : gt r = none) (hown : wr.ownsRow w.heap.size 9 1 va l.length (strs l)) (hb : Below w.heap.size w wr) (e : b = decide (r = [])) : RcPost w zs (.returned (.tuple #[va, .bool b])) wr := by
  subst e; exact ⟨va, l, r, rfl, hrc, hg, hown, hb⟩
set_option maxRecDepth 100000 in
theorem recs_any (A : Option Addr) (len cap : Nat) (zs : List Int) (w : World) (hR : Reads w A len zs) (hc : len ≤ cap) (hm : len ≤ 2147483647) :
    Calls Try.prog 34 #[.slice A len cap] w (RcPost w zs) := by
  obtain ⟨i0, hi, hz0, hz1, hz2⟩ := info_parts info9
  have HR := Lib.hid hR
  clear hR
  go_enter Try.func34, Try.ntmps34
  go_wp2
  go_step3
  go_wp2
  go_step3
  go_wp2
  go_loopw [0, 4, 5, 27] (fun vb va _ _ wr => RRel w len zs vb va wr) (fun vb _ _ _ _ => slen vb)
  case atStart => exact ⟨A, len, cap, zs, [], rfl, hc, Nat.le_refl _, HR.out, .nil _, World.ownsRow_nil _ _ _ _, Below.refl _ _⟩
  case round =>
    obtain ⟨A, ln, cp, r, l, rfl, hlc, hll, hr, hrc, hown, hb⟩ := hrel
    have HRD := Lib.hid hr
    have HRC := Lib.hid hrc
    have HO := Lib.hid hown
    have HB := Lib.hid hb
    have HRL := Lib.hid hr.1
    have HBY := Lib.hid hr.bys
    clear hr hrc hown hb
    rcases Nat.eq_zero_or_pos ln with h0 | h0
    · subst h0
      have HNIL : Hid (r = []) := Lib.hid (List.eq_nil_of_length_eq_zero HRL.out)
      have HE := Lib.hid (recs_bad_end HRC.out (by rw [HNIL.out]; exact gt_nil) HO.out HB.out (b := true) (by rw [HNIL.out]; rfl))
      go_wp2
      rw [Exit.noGoto_ret]
      go_ret2
      exact HE.out
    · have h0' : (0 : Int) < (ln : Int) := by omega
      obtain ⟨k, hk⟩ : ∃ k, k = min 4 ln := ⟨_, rfl⟩
      have hmn : min (4 : Int) (ln : Int) = (k : Int) := by omega
      have hkl : k ≤ ln := by omega
      have hk4 : k ≤ 4 := by omega
      obtain ⟨A', c', hsl, hr', -, -⟩ := sub_to HRD.out hlc k hkl
      have HT : Hid (r.take k = r.take 4) := Lib.hid (by
        by_cases h : 4 ≤ ln
        · rw [show k = 4 by omega]
        · rw [List.take_of_length_le (by have := HRL.out; omega), List.take_of_length_le (by have := HRL.out; omega)])
      have HJ := Lib.hid (join_any A' k c' (r.take k) wr (hr'.kept HB.out) hk4)
      have HK := Lib.hid hk
      clear hr' hk
      go_wp2_with fail
      refine HJ.out.mono ?_
      rintro e w' ⟨rfl, rfl⟩
      rw [HT.out]
      obtain ⟨x, hx⟩ : ∃ x, x = le (r.take 4) := ⟨_, rfl⟩
      have hx4 := le_take4 HBY.out
      rw [← hx] at hx4 ⊢
      obtain ⟨hx0, hx1⟩ := hx4
      have hne : ((ln : Int) == 0) = false := by simp; omega
      have HX := Lib.hid hx
      have HNN : Hid (r ≠ []) := Lib.hid (fun e => by have := HRL.out; rw [e] at this; simp at this; omega)
      clear hx
      by_cases h1 : 4096 < x
      · have HE := Lib.hid (recs_bad_end HRC.out (gt_none (by rw [← HX.out]; omega)) HO.out HB.out (b := false) (by rw [decide_eq_false HNN.out]))
        clear hsl
        go_wp2
        rw [Exit.noGoto_ret]
        go_ret2
        exact HE.out
      by_cases h2 : (ln : Int) - 4 < x
      · have HE := Lib.hid (recs_bad_end HRC.out (gt_none (by rw [← HX.out, HRL.out]; omega)) HO.out HB.out (b := false) (by rw [decide_eq_false HNN.out]))
        clear hsl
        go_wp2
        rw [Exit.noGoto_ret]
        go_ret2
        exact HE.out
      · obtain ⟨m, rfl⟩ : ∃ m : Nat, x = (m : Int) := ⟨x.toNat, by omega⟩
        have hgt : gt r = some m := by
          rw [gt_mk HNN.out (by rw [← HX.out]; omega) (by rw [← HX.out, HRL.out]; omega), ← HX.out]; rfl
        have hm4 : 4 + m ≤ ln := by omega
        have HSN := Lib.hid (HRC.out.snoc hgt)
        obtain ⟨A2, c2, hs2, hr2, -, -, -⟩ := sub_any HRD.out hlc 4 (4 + m) (by omega) hm4
        obtain ⟨A3, c3, hs3, hr3, hc3, -⟩ := sub_from HRD.out hlc (4 + m) hm4
        rw [Nat.add_sub_cancel_left] at hs2 hr2
        have hcv := conv_reads (c := c2) (hr2.kept HB.out)
        obtain ⟨S, hS⟩ : ∃ S, S = strOfNums (body r m) := ⟨_, rfl⟩
        have hcv' : (convert 48 9 (.slice A2 m c2)).run Try.prog wr = .ok (.string S) wr := by rw [hS]; exact hcv
        have HS := Lib.hid hS
        obtain ⟨k3, hk3⟩ : ∃ k3, k3 = ln - (4 + m) := ⟨_, rfl⟩
        rw [← hk3] at hs3 hr3 hc3
        have HK3 := Lib.hid hk3
        have HR3 := Lib.hid hr3
        have e2 : ∀ W : World, (Instr.slice 48 (.slice A ln cp) (some (.int .i64 4)) (some (.int .i64 (4 + (m : Int)))) none).run Try.prog W = .ok (.slice A2 m c2) W := hs2
        have e3 : ∀ W : World, (Instr.slice 48 (.slice A ln cp) (some (.int .i64 (4 + (m : Int)))) none none).run Try.prog W = .ok (.slice A3 k3 c3) W := hs3
        have h63 : l.length + 1 ≤ maxLen := by
          have h4 := HRC.out.len HR.out.bys
          have h5 := need_len l
          have h6 := HR.out.1
          unfold maxLen; omega
        have h47 : (l.length + 1) * 16 ≤ 140737488355328 := by
          have h4 := HRC.out.len HR.out.bys
          have h5 := need_len l
          have h6 := HR.out.1
          omega
        have hszt : w.heap.size ≤ (wr.alloc (.cells #[.string S] 9)).heap.size := by have := HB.out.size; simp; omega
        have hm0 : (0 : Int) ≤ (m : Int) := by omega
        have t1 : decide ((4096 : Int) < (m : Int)) = false := decide_eq_false h1
        have t2 : decide ((ln : Int) - 4 < (m : Int)) = false := decide_eq_false h2
        have t3 : (m : Int) ≤ 4096 := by omega
        have t4 : k3 < ln := by omega
        clear hr2 hr3 hs2 hs3 hsl hcv hgt hS hk3 h1 h2 hx0 hx1
        go_wp2_with (at_builtin; refine wpList_append_own _ rfl (.tmp 15) (.tmp 21) 29 rfl w.heap.size 9 i0 (.string ⟨#[]⟩) 1 16 Try.underlying29 hi hz0 hz1 hz2 rfl (by decide) u4 l.length (strs l) rfl (HO.out.alloc _) ⟨wr.heap.size, 0, none⟩ 1 1 [.string S] rfl rfl (cell_one_new _ _ _) (by simp [Value.oneCell']) h63 h47 hszt ?_; intro v' w1 hown' hgrow _; have HX1 := Lib.hid hown'; have HX2 := Lib.hid (grown_alloc hgrow); clear hown' hgrow)
        go_roundw
        case rel => exact ⟨A3, k3, c3, _, _, rfl, hc3, Nat.le_trans (Nat.le_of_lt t4) hll, HR3.out, HSN.out, by rw [List.length_append, strs_snoc, ← HS.out]; exact HX1.out, HB.out.grown HX2.out HB.out.size (own_ge HO.out)⟩
        case measure => exact t4
end Go.Proofs.Ytdbpnfceabklkaa
