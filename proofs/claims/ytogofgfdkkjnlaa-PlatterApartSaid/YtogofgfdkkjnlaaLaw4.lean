/-
  What the law PlatterReads returns of a script and bytes that read: true, and older memory is as it was. No condition.
-/
import Derived.Test.YtogofgfdkkjnlaaLaw3
import Derived.Test.YtogofgfdkkjnlaaRDoBox
namespace Go.Proofs.Ytogofgfdkkjnlaa
open Go.ChangeShapes Go.WideShapes Go.ChangeAt Go.RowKit

/-! ### Plain mathematics -/
theorem disarm_cur (D : Dk) (a : Int) : cur { D with armed := a } = cur D := rfl
theorem do_put {D : Dk} {n : Nat} {zs : List Int} (hd : D.dead = false) (hn : n < D.firm.length) (hz : zs.length ≤ 64) : doD { D with armed := max 0 0 } 0 (n : Int) 0 zs = (putD { D with armed := 0 } n zs, [], 0) := by
  have h := do_write (D := { D with armed := max 0 0 }) (n := n) (zs := zs) hd hn hz
  have e : dies (putD { D with armed := (0 : Int) } n zs) = putD { D with armed := 0 } n zs := rfl
  rw [show ({ D with armed := max (0 : Int) 0 } : Dk) = { D with armed := 0 } from rfl] at h ⊢
  rw [h, e, if_neg (by simp [putD, hd])]
theorem cur_put (D : Dk) (n : Nat) (zs : List Int) : cur (putD { D with armed := 0 } n zs) = (cur D).set n (pad zs) := by
  unfold cur putD
  simp only
  rw [ups_snoc]; rfl
theorem do_refused {D : Dk} {n : Int} {zs : List Int} (hd : D.dead = false) (h : n < 0 ∨ (D.firm.length : Int) ≤ n ∨ 64 < zs.length) : doD { D with armed := max 0 0 } 0 n 0 zs = ({ D with armed := 0 }, [], 41) := by
  unfold doD
  rw [if_neg (by decide), if_neg (by decide), if_neg (by decide), if_neg (by simp [hd]), if_neg (by decide), if_pos (h.imp id (Or.imp id fun h => ⟨rfl, h⟩))]
  rfl
theorem nums_drop (l : List Int) (k : Nat) : (strOfNums l).extract k (strOfNums l).size = strOfNums (l.drop k) := by
  apply ByteArray.ext
  apply Array.toList_inj.1
  rw [Go.Lib.extract_data, strOfNums_data, strOfNums_data, strOfNums_size, List.map_drop, List.take_of_length_le (by simp)]
theorem nums_take (l : List Int) (k : Nat) : (strOfNums l).extract 0 k = strOfNums (l.take k) := by
  apply ByteArray.ext
  apply Array.toList_inj.1
  rw [Go.Lib.extract_data, strOfNums_data, strOfNums_data, List.map_take, List.drop_zero, Nat.sub_zero]
theorem pad_take {zs : List Int} : (pad zs).take zs.length = zs := by unfold pad; rw [List.take_left']; rfl
theorem pad_drop {zs : List Int} : (pad zs).drop zs.length = List.replicate (64 - zs.length) 0 := by unfold pad; rw [List.drop_left']; rfl
theorem run_make_pad (m : Nat) (hm : m ≤ 64) (w : World) : (Instr.makeSlice 36 (.int .i64 (64 - (m : Int))) (.int .i64 (64 - (m : Int)))).run Try.prog w = .ok (.slice (some ⟨w.heap.size, 0, none⟩) (64 - m) (64 - m)) (w.alloc (.cells (ints (List.replicate (64 - m) 0)).toArray 5)) := by
  obtain ⟨i0, hi, hz0, hz1, hz2⟩ := info_parts info5
  have h := run_make (w := w) (P := Try.prog) 36 5 i0 (.int .u8 0) Try.underlying36 hi hz0 .i64 .i64 (64 - (m : Int)) (64 - (m : Int)) (by omega) (Int.le_refl _) (by rw [hz2]; omega) (by omega)
  have e2 : (64 - (m : Int)).toNat = 64 - m := by omega
  have e : madeCells (Value.int .u8 0).cells ((64 - (m : Int)).toNat * i0.size) = (ints (List.replicate (64 - m) 0)).toArray := by
    rw [hz1, e2, Nat.mul_one]
    apply Array.toList_inj.1
    rw [show (Value.int IntKind.u8 0).cells = #[Value.int .u8 0] from rfl, toList_madeCells_one]
    simp [ints]
  rw [e, e2] at h
  exact h
theorem slice_nums_to (l : List Int) (k : Nat) (hk : k ≤ l.length) (W : World) : (Instr.slice 9 (.string (strOfNums l)) none (some (.int .i64 (k : Int))) none).run Try.prog W = .ok (.string (strOfNums (l.take k))) W := by
  have hz := str_size l
  have h0 : (0 : Int) ≤ (k : Int) ∧ (k : Int) ≤ ((strOfNums l).size : Int) := by omega
  simp [Instr.slice, Instr.sliceBounds, Instr.sliceBound, asIntOf, run_underlying Try.underlying9, h0, nums_take]
  omega
theorem slice_nums_from (l : List Int) (k : Nat) (hk : k ≤ l.length) (W : World) : (Instr.slice 9 (.string (strOfNums l)) (some (.int .i64 (k : Int))) none none).run Try.prog W = .ok (.string (strOfNums (l.drop k))) W := by
  have hz := str_size l
  have h0 : (0 : Int) ≤ (k : Int) ∧ (k : Int) ≤ ((strOfNums l).size : Int) := by omega
  simp [Instr.slice, Instr.sliceBounds, Instr.sliceBound, asIntOf, run_underlying Try.underlying9, h0, nums_drop]
  omega
theorem made_reads (w : World) (m : Nat) : Reads (w.alloc (.cells (ints (List.replicate m 0)).toArray 5)) (some ⟨w.heap.size, 0, none⟩) m (List.replicate m 0) := by
  refine reads_mk List.length_replicate (fun _ => ⟨w.heap.size, 0, rfl, fun i hi => ?_⟩) (bys_zero m)
  rw [Nat.zero_add, cell_of_row _ w.heap.size i _ 5 _ (new_block w _), getD_eq _ (by rw [List.length_replicate]; exact hi)]
  simp [ints, hi]
/-- What the last region reads. -/
def RsS (g2 n : Nat) (S T : ByteArray) (ad2 : Option Addr) (len2 cap2 : Nat) (w' : World) : Prop := w'.cell? ⟨g2, n, none⟩ = some (.string S) ∧ (convert 36 9 (.slice ad2 len2 cap2)).run Try.prog w' = .ok (.string T) w'
structure Two (w wr : World) (g1 g2 : Nat) (C E : List (List Int)) : Prop where
  a0 : WordsAt wr g1 C
  a1 : WordsAt wr g2 E
  below : Below w.heap.size w wr
theorem Two.drew {w wr : World} {g1 g2 : Nat} {C E : List (List Int)} (h : Two w wr g1 g2 C E) (n : Nat) : Two w (wr.drewN n) g1 g2 C E :=
  have hb : Below wr.heap.size wr (wr.drewN n) := below_drewN (Below.refl _ _) n
  ⟨h.a0.kept hb, h.a1.kept hb, below_drewN h.below n⟩
/-- What stands before the write. -/
structure RdMid (w wr : World) (g1 c1 p : Nat) (D : Dk) : Prop where
  row : ∃ B, wr.ownsRow B 9 1 (.slice (some ⟨g1, 0, none⟩) 8 c1) 8 (strs (cur D))
  pd : PDisk wr w.heap.size p { D with armed := max 0 0 }
  below : Below w.heap.size w wr
theorem rd_mid {w w2 w3 w4 : World} {g1 c1 p : Nat} {D : Dk} (hb : Below w.heap.size w w2) (ho : w3.ownsRow w2.heap.size 9 1 (.slice (some ⟨g1, 0, none⟩) 8 c1) 8 (strs (cur D))) (hb3 : Below w2.heap.size w2 w3) (hp : PDisk w4 w.heap.size p { D with armed := max 0 0 }) (hk : Kp w.heap.size w3 w4) : RdMid w w4 g1 c1 p D :=
  ⟨⟨_, own_tag ho fun k cs h => hk.tag _ _ _ _ h (by decide) (by decide) (by decide)⟩, hp, (hb.trans (hb3.mono hb.size)).trans hk.below⟩
theorem rd_two {w w4 w5 w6 : World} {g1 c1 g2 c2 p : Nat} {D D2 : Dk} (hm : RdMid w w4 g1 c1 p D) (hk : Kp w.heap.size w4 w5) (ho : w6.ownsRow w5.heap.size 9 1 (.slice (some ⟨g2, 0, none⟩) 8 c2) 8 (strs (cur D2))) (hb : Below w5.heap.size w5 w6) (h1 : (cur D).length = 8) (h2 : (cur D2).length = 8) : Two w w6 g1 g2 (cur D) (cur D2) := by
  obtain ⟨B, hr⟩ := hm.row
  refine ⟨(words_of (own_tag hr fun k cs h => hk.tag _ _ _ _ h (by decide) (by decide) (by decide)) h1 (by decide)).kept hb, words_of ho h2 (by decide), (hm.below.trans hk.below).trans (hb.mono ?_)⟩
  exact (hm.below.trans hk.below).size
set_option maxHeartbeats 8000000 in
theorem law_reads (ad ad2 : Option Addr) (len cap len2 cap2 : Nat) (os : List Opr) (x : Int) (zs : List Int) (w : World) (hO : OReads w w.heap.size ad len os) (hR : Reads w ad2 len2 zs) :
    Calls Try.prog 8 #[.slice ad len cap, .int .i64 x, .slice ad2 len2 cap2] w fun e w' => e = .returned (.bool true) ∧ Below w.heap.size w w' := by
  by_cases h200 : 200 < len
  · have h200' := more_than len h200
    clear hO hR
    go_enter Try.func8, Try.ntmps8
    go_wp2_with fail
    refine (alive_any _).mono ?_
    rintro e w2 ⟨rfl, hb2⟩
    go_wp2
    go_ret
    exact ⟨rfl, hb2⟩
  have h200' : ¬ (200 : Int) < (len : Int) := by omega
  have hol : os.length ≤ 200 := by have := hO.1; omega
  have HP := Lib.hid (plays_any 8 8 ad len cap os w hO (by decide) (.inr rfl) (by omega))
  have HR := Lib.hid hR
  clear hO hR
  go_enter Try.func8, Try.ntmps8
  go_wp2_with fail
  refine HP.out.mono ?_
  rintro e w1 ⟨p, Af, cf, Aw, cw, D, rfl, -, hpd, -, hok, hfl, hwl, hb1⟩
  obtain ⟨dd, hdd⟩ : ∃ dd, dd = D.dead := ⟨_, rfl⟩
  have hb2 := box_below w1 (.cells #[.slice Af D.firm.length cf, .slice Aw D.wait.length cw, .int .i64 D.armed, .bool dd] 28)
  have hbx := new_block w1 (.cells #[.slice Af D.firm.length cf, .slice Aw D.wait.length cw, .int .i64 D.armed, .bool dd] 28)
  have v3 := cell_of hbx (j := 3) rfl
  have HPD := Lib.hid (hpd.kept hb2)
  have HB2 := Lib.hid (hb1.trans (hb2.mono hb1.size))
  have HFL := Lib.hid hfl
  have HWL := Lib.hid (show D.wait.length ≤ 200 by omega)
  have HDD := Lib.hid hdd
  rw [← hdd]
  clear hb1 hb2 hpd hok hfl hwl hbx hdd
  cases dd with
  | true =>
    go_wp2_with fail
    refine (alive_any _).mono ?_
    rintro e w3 ⟨rfl, hb3⟩
    have HB3 := Lib.hid (HB2.out.trans (hb3.mono HB2.out.size))
    clear hb3
    go_wp2
    go_ret
    exact ⟨rfl, HB3.out⟩
  | false =>
    obtain ⟨w2, hw2⟩ : ∃ w2, w2 = w1.alloc (.cells #[.slice Af D.firm.length cf, .slice Aw D.wait.length cw, .int .i64 D.armed, .bool false] 28) := ⟨_, rfl⟩
    rw [← hw2] at HPD HB2 v3
    have HF8 := Lib.hid (show D.firm.length ≤ 65536 by rw [HFL.out]; decide)
    go_wp2_with fail
    try rw [← hw2]
    clear hw2
    refine (secs_any w.heap.size p D w2 HPD.out HDD.out.symm HF8.out).mono ?_
    rintro e w3 ⟨y1, rfl, ho1, hb3⟩
    obtain ⟨A1, c1, rfl, -, -, hg1⟩ := own_form ho1
    obtain ⟨g1, rfl⟩ := hg1 (by rw [HFL.out]; decide)
    rw [HFL.out] at ho1 ⊢
    have HO1 := Lib.hid ho1
    have HB3 := Lib.hid hb3
    have HP3 := Lib.hid (HPD.out.kept hb3)
    clear ho1 hb3 hg1 v3
    go_wp2_with fail
    refine (arm_any w.heap.size p D 0 w3 HP3.out (by decide)).mono ?_
    rintro e w4 ⟨rfl, hp4, hk4⟩
    have HM := Lib.hid (rd_mid HB2.out HO1.out HB3.out hp4 hk4)
    have HWR := Lib.hid (write_any w.heap.size p { D with armed := max 0 0 } x ad2 len2 cap2 zs w4 hp4 (fun w' hk => HR.out.keptAt HR.out.under (HM.out.below.trans hk.below)) (by have := HWL.out; show D.wait.length ≤ 100000; omega))
    have HRB := Lib.hid (fun W (hb : Below w.heap.size w W) => HR.out.keptAt HR.out.under hb)
    clear hp4 hk4
    have HCU : Hid ((cur D).length = 8) := Lib.hid ((cur_len D).trans HFL.out)
    by_cases hgood : 0 ≤ x ∧ x < 8 ∧ len2 ≤ 64
    · obtain ⟨n, rfl⟩ : ∃ n : Nat, x = (n : Int) := ⟨x.toNat, by omega⟩
      have hn8 : n < 8 := by omega
      have hl64 : len2 ≤ 64 := hgood.2.2
      have HDO := Lib.hid (do_put (D := D) (n := n) (zs := zs) HDD.out.symm (by rw [HFL.out]; exact hn8) (by rw [HR.out.1]; exact hl64))
      clear hgood
      go_wp2_with fail
      refine HWR.out.mono ?_
      rintro e w5 ⟨rfl, hp5, hk5⟩
      rw [HDO.out] at hp5 ⊢
      have HK5 := Lib.hid hk5
      have HP5 := Lib.hid hp5
      clear hp5 hk5
      go_wp2_with fail
      refine (secs_any w.heap.size p (putD { D with armed := 0 } n zs) w5 HP5.out HDD.out.symm (by show D.firm.length ≤ 65536; exact HF8.out)).mono ?_
      rintro e w6 ⟨y2, rfl, ho2, hb6⟩
      obtain ⟨A2, c2, rfl, -, -, hg2⟩ := own_form ho2
      rw [show (putD { D with armed := 0 } n zs).firm.length = 8 from HFL.out] at ho2 hg2 ⊢
      obtain ⟨g2, rfl⟩ := hg2 (by decide)
      have htw := rd_two HM.out HK5.out ho2 hb6 HCU.out ((cur_len _).trans HFL.out)
      rw [cur_put] at htw
      have HTW := Lib.hid htw
      clear ho2 hb6 hg2 htw HWR
      go_wp2
      go_loopw [46] (fun vi wr => ∃ k : Nat, k ≤ 8 ∧ vi = .int .i64 (k : Int) ∧ Two w wr g1 g2 (cur D) ((cur D).set n (pad zs))) (fun vi _ => 8 - (intOf vi).toNat)
      case atStart => exact ⟨0, by omega, rfl, HTW.out⟩
      case round =>
        obtain ⟨k, hk, rfl, hf⟩ := hrel
        have HF := Lib.hid hf
        by_cases hlt : k < 8
        · have hk0 : (0 : Int) ≤ (k : Int) := by omega
          have hk1 : (k : Int) < 8 := by omega
          have HNX : Hid (∀ n2 : Nat, Two w (wr.drewN n2) g1 g2 (cur D) ((cur D).set n (pad zs))) := Lib.hid (fun n => hf.drew n)
          by_cases hkn : k = n
          · subst hkn
            clear hf
            go_wp2
            go_quiet (fail)
            go_wp2
            go_roundw
            case rel => exact ⟨k + 1, by omega, rfl, HNX.out _⟩
            case measure => simp [intOf] <;> omega
          · have hkn' : ¬ (k : Int) = (n : Int) := by omega
            have r1 := hf.a0.2 k (by rw [HCU.out]; exact hlt)
            have r2 := hf.a1.2 k (by rw [List.length_set, HCU.out]; exact hlt)
            rw [getD_set_other (fun e => hkn e.symm)] at r2
            obtain ⟨S1, hS1⟩ : ∃ S, S = strOfNums ((cur D).getD k []) := ⟨_, rfl⟩
            rw [← hS1] at r1 r2
            clear hf hS1
            go_wp2
            go_quiet (fail)
            go_wp2
            go_roundw
            case rel => exact ⟨k + 1, by omega, rfl, HNX.out _⟩
            case measure => simp [intOf] <;> omega
        · obtain rfl : k = 8 := by omega
          have r2 := hf.a1.2 n (by rw [List.length_set, HCU.out]; exact hn8)
          rw [getD_set_same (by rw [HCU.out]; exact hn8)] at r2
          have hzl : zs.length = len2 := HR.out.1
          have hpl : (pad zs).length = 64 := by rw [pad, List.length_append, List.length_replicate]; omega
          obtain ⟨S, hS⟩ : ∃ S, S = strOfNums (pad zs) := ⟨_, rfl⟩
          obtain ⟨T, hT⟩ : ∃ T, T = strOfNums zs := ⟨_, rfl⟩
          obtain ⟨Z, hZ⟩ : ∃ Z, Z = strOfNums (List.replicate (64 - len2) 0) := ⟨_, rfl⟩
          have hs1 : ∀ W : World, (Instr.slice 9 (.string S) none (some (.int .i64 (len2 : Int))) none).run Try.prog W = .ok (.string T) W := fun W => by
            have h := slice_nums_to (pad zs) len2 (by omega) W
            rw [← hzl, pad_take, hzl] at h
            rw [hS, hT]; exact h
          have hs2 : ∀ W : World, (Instr.slice 9 (.string S) (some (.int .i64 (len2 : Int))) none none).run Try.prog W = .ok (.string Z) W := fun W => by
            have h := slice_nums_from (pad zs) len2 (by omega) W
            rw [← hzl, pad_drop, hzl] at h
            rw [hS, hZ]; exact h
          have hmk := run_make_pad len2 hl64
          rw [← hS] at r2
          have HT := Lib.hid hT
          have HZ := Lib.hid hZ
          have hn0 : (0 : Int) ≤ (n : Int) := by omega
          have hn1 : (n : Int) < 8 := by omega
          have hg2 := hf.a1.1
          clear hf hS hT hZ hzl hpl
          clear HP HO1 HB3 HP3 HPD HB2 HFL HWL HDD HF8 HM HDO HK5 HP5 HTW HCU hn8 hol h200 h200'
          have hwrap : IntKind.i64.wrap (64 - (len2 : Int)) = 64 - (len2 : Int) := by rw [IntKind.wrap_i64]; omega
          have HS0 : Hid (∀ w', Below wr.heap.size wr w' → RsS g2 n S T ad2 len2 cap2 w') := Lib.hid (fun w' hb => ⟨(hb.cell (p := ⟨g2, n, none⟩) hg2).trans r2, (conv_reads (c := cap2) (HRB.out w' (HF.out.below.trans (hb.mono HF.out.below.size)))).trans (by rw [← HT.out])⟩)
          have HS00 := Lib.hid (HS0.out wr.drew (Below.refl _ _).drew)
          go_wp2_with fail
          refine wp_region_held_drew (S := RsS g2 n S T ad2 len2 cap2) (by kernel_rfl) HS00.out (fun hHeld => ?_)
          refine wpAnyH_ready (rs := [0]) (by kernel_rfl) (by simp) (AllReadyH.cons rfl (fun K hK => ?_) AllReadyH.nil)
          have HK := Lib.hid hK
          clear hK
          go_simp
          refine (alive_any _).mono ?_
          rintro e w8 ⟨rfl, hb8⟩
          have hbw := (Below.refl wr.heap.size wr).drew.trans hb8
          have HF8 := Lib.hid (HF.out.below.trans (hbw.mono HF.out.below.size))
          have HS8 := Lib.hid (HS0.out w8 hbw)
          have HS9 := Lib.hid (HS0.out (w8.alloc (.cells (ints (List.replicate (64 - len2) 0)).toArray 5)) (hbw.alloc hb8.size _))
          have hcz := (conv_reads (c := 64 - len2) (W := w8.alloc (.cells (ints (List.replicate (64 - len2) 0)).toArray 5)) (made_reads w8 (64 - len2))).trans (by rw [← HZ.out])
          clear hb8 hbw
          refine HK.out.out _ _ HS8.out (fun hHeld8 => ?_)
          refine take_op' 1 85 (.bool true) rfl rfl (by kernel_rfl) (by kernel_rfl) (by kernel_rfl) (fun _ _ _ h => h) (.inl ⟨by rfl, fun w' hw' => by go_simp⟩) hHeld8 ?_
          simp only [List.set_cons_zero, List.set_cons_succ]
          refine take_op' 2 86 (.slice (some ⟨g2, 0, none⟩) 8 c2) rfl rfl (by kernel_rfl) (by kernel_rfl) (by kernel_rfl) (fun _ _ _ h => h) (.inl ⟨by rfl, fun w' hw' => by go_simp⟩) hHeld8 ?_
          simp only [List.set_cons_zero, List.set_cons_succ]
          refine take_op' 3 87 (.int .i64 (n : Int)) rfl rfl (by kernel_rfl) (by kernel_rfl) (by kernel_rfl) (fun _ _ _ h => h) (.inl ⟨by rfl, fun w' hw' => by go_simp⟩) hHeld8 ?_
          simp only [List.set_cons_zero, List.set_cons_succ]
          refine take_op' 4 88 (.pointer (some ⟨g2, n, none⟩)) rfl rfl (by kernel_rfl) (by kernel_rfl) (by kernel_rfl) (fun _ _ _ h => h) (.inl ⟨by rfl, fun w' hw' => by go_simp⟩) hHeld8 ?_
          simp only [List.set_cons_zero, List.set_cons_succ]
          refine take_op' 5 89 (.string S) rfl rfl (by kernel_rfl) (by kernel_rfl) (by kernel_rfl) (fun _ _ _ h => h) (.inl ⟨by rfl, fun w' hw' => by have y0 := hw'.1; go_simp⟩) hHeld8 ?_
          simp only [List.set_cons_zero, List.set_cons_succ]
          refine take_op' 6 90 (.slice ad2 len2 cap2) rfl rfl (by kernel_rfl) (by kernel_rfl) (by kernel_rfl) (fun _ _ _ h => h) (.inl ⟨by rfl, fun w' hw' => by go_simp⟩) hHeld8 ?_
          simp only [List.set_cons_zero, List.set_cons_succ]
          refine take_op' 7 91 (.int .i64 (len2 : Int)) rfl rfl (by kernel_rfl) (by kernel_rfl) (by kernel_rfl) (fun _ _ _ h => h) (.inl ⟨by rfl, fun w' hw' => by go_simp⟩) hHeld8 ?_
          simp only [List.set_cons_zero, List.set_cons_succ]
          refine take_op' 8 92 (.string T) rfl rfl (by kernel_rfl) (by kernel_rfl) (by kernel_rfl) (fun _ _ _ h => h) (.inl ⟨by rfl, fun w' hw' => by go_simp⟩) hHeld8 ?_
          simp only [List.set_cons_zero, List.set_cons_succ]
          refine take_op' 9 93 (.slice ad2 len2 cap2) rfl rfl (by kernel_rfl) (by kernel_rfl) (by kernel_rfl) (fun _ _ _ h => h) (.inl ⟨by rfl, fun w' hw' => by go_simp⟩) hHeld8 ?_
          simp only [List.set_cons_zero, List.set_cons_succ]
          refine take_op' 10 94 (.string T) rfl rfl (by kernel_rfl) (by kernel_rfl) (by kernel_rfl) (fun _ _ _ h => h) (.inl ⟨by rfl, fun w' hw' => by have y1 := hw'.2; go_simp⟩) hHeld8 ?_
          simp only [List.set_cons_zero, List.set_cons_succ]
          refine take_op' 11 95 (.bool true) rfl rfl (by kernel_rfl) (by kernel_rfl) (by kernel_rfl) (fun _ _ _ h => h) (.inl ⟨by rfl, fun w' hw' => by go_simp⟩) hHeld8 ?_
          simp only [List.set_cons_zero, List.set_cons_succ]
          refine take_op' 12 96 (.bool true) rfl rfl (by kernel_rfl) (by kernel_rfl) (by kernel_rfl) (fun _ _ _ h => h) (.inl ⟨by rfl, fun w' hw' => by go_simp⟩) hHeld8 ?_
          simp only [List.set_cons_zero, List.set_cons_succ]
          refine take_op' 13 97 (.bool true) rfl rfl (by kernel_rfl) (by kernel_rfl) (by kernel_rfl) (fun _ _ _ h => h) (.inl ⟨by rfl, fun w' hw' => by go_simp⟩) hHeld8 ?_
          simp only [List.set_cons_zero, List.set_cons_succ]
          refine take_op' 14 98 (.slice (some ⟨g2, 0, none⟩) 8 c2) rfl rfl (by kernel_rfl) (by kernel_rfl) (by kernel_rfl) (fun _ _ _ h => h) (.inl ⟨by rfl, fun w' hw' => by go_simp⟩) hHeld8 ?_
          simp only [List.set_cons_zero, List.set_cons_succ]
          refine take_op' 15 99 (.int .i64 (n : Int)) rfl rfl (by kernel_rfl) (by kernel_rfl) (by kernel_rfl) (fun _ _ _ h => h) (.inl ⟨by rfl, fun w' hw' => by go_simp⟩) hHeld8 ?_
          simp only [List.set_cons_zero, List.set_cons_succ]
          refine take_op' 16 100 (.pointer (some ⟨g2, n, none⟩)) rfl rfl (by kernel_rfl) (by kernel_rfl) (by kernel_rfl) (fun _ _ _ h => h) (.inl ⟨by rfl, fun w' hw' => by go_simp⟩) hHeld8 ?_
          simp only [List.set_cons_zero, List.set_cons_succ]
          refine take_op' 17 101 (.string S) rfl rfl (by kernel_rfl) (by kernel_rfl) (by kernel_rfl) (fun _ _ _ h => h) (.inl ⟨by rfl, fun w' hw' => by have y0 := hw'.1; go_simp⟩) hHeld8 ?_
          simp only [List.set_cons_zero, List.set_cons_succ]
          refine take_op' 18 102 (.slice ad2 len2 cap2) rfl rfl (by kernel_rfl) (by kernel_rfl) (by kernel_rfl) (fun _ _ _ h => h) (.inl ⟨by rfl, fun w' hw' => by go_simp⟩) hHeld8 ?_
          simp only [List.set_cons_zero, List.set_cons_succ]
          refine take_op' 19 103 (.int .i64 (len2 : Int)) rfl rfl (by kernel_rfl) (by kernel_rfl) (by kernel_rfl) (fun _ _ _ h => h) (.inl ⟨by rfl, fun w' hw' => by go_simp⟩) hHeld8 ?_
          simp only [List.set_cons_zero, List.set_cons_succ]
          refine take_op' 20 104 (.string Z) rfl rfl (by kernel_rfl) (by kernel_rfl) (by kernel_rfl) (fun _ _ _ h => h) (.inl ⟨by rfl, fun w' hw' => by go_simp⟩) hHeld8 ?_
          simp only [List.set_cons_zero, List.set_cons_succ]
          refine take_op' 21 105 (.slice ad2 len2 cap2) rfl rfl (by kernel_rfl) (by kernel_rfl) (by kernel_rfl) (fun _ _ _ h => h) (.inl ⟨by rfl, fun w' hw' => by go_simp⟩) hHeld8 ?_
          simp only [List.set_cons_zero, List.set_cons_succ]
          refine take_op' 22 106 (.int .i64 (len2 : Int)) rfl rfl (by kernel_rfl) (by kernel_rfl) (by kernel_rfl) (fun _ _ _ h => h) (.inl ⟨by rfl, fun w' hw' => by go_simp⟩) hHeld8 ?_
          simp only [List.set_cons_zero, List.set_cons_succ]
          refine take_op' 23 107 (.int .i64 (64 - (len2 : Int))) rfl rfl (by kernel_rfl) (by kernel_rfl) (by kernel_rfl) (fun _ _ _ h => h) (.inl ⟨by rfl, fun w' hw' => by go_simp⟩) hHeld8 ?_
          simp only [List.set_cons_zero, List.set_cons_succ]
          refine wpAnyH_ready (rs := [24]) (by kernel_rfl) (by simp) (AllReadyH.cons rfl (fun K2 hK2 => ?_) AllReadyH.nil)
          go_simp
          refine hK2.out _ _ HS9.out (fun hHeld9 => ?_)
          refine wpAnyH_ready (rs := [25]) (by kernel_rfl) (by simp) (AllReadyH.cons rfl (fun K3 hK3 => ?_) AllReadyH.nil)
          go_simp
          refine hK3.out _ _ HS9.out (fun hHeld10 => ?_)
          refine take_op' 26 110 (.bool true) rfl rfl (by kernel_rfl) (by kernel_rfl) (by kernel_rfl) (fun _ _ _ h => h) (.inl ⟨by rfl, fun w' hw' => by go_simp⟩) hHeld10 ?_
          simp only [List.set_cons_zero, List.set_cons_succ]
          refine take_op' 27 111 (.bool true) rfl rfl (by kernel_rfl) (by kernel_rfl) (by kernel_rfl) (fun _ _ _ h => h) (.inl ⟨by rfl, fun w' hw' => by go_simp⟩) hHeld10 ?_
          simp only [List.set_cons_zero, List.set_cons_succ]
          refine take_op' 28 6 (.bool true) rfl rfl (by kernel_rfl) (by kernel_rfl) (by kernel_rfl) (fun _ _ _ h => h) (.inl ⟨by rfl, fun w' hw' => by go_simp⟩) hHeld10 ?_
          simp only [List.set_cons_zero, List.set_cons_succ]
          refine wpAnyH_done (by kernel_rfl) ?_ _
          go_wp2
          go_ret
          exact ⟨rfl, HF8.out.alloc HF8.out.size _⟩
    · have HDO := Lib.hid (do_refused (D := D) (n := x) (zs := zs) HDD.out.symm (by rw [HFL.out, HR.out.1]; omega))
      go_wp2_with fail
      refine HWR.out.mono ?_
      rintro e w5 ⟨rfl, hp5, hk5⟩
      rw [HDO.out] at hp5 ⊢
      have HK5 := Lib.hid hk5
      have HP5 := Lib.hid hp5
      clear hp5 hk5
      go_wp2_with fail
      refine (secs_any w.heap.size p { D with armed := 0 } w5 HP5.out HDD.out.symm (by show D.firm.length ≤ 65536; exact HF8.out)).mono ?_
      rintro e w6 ⟨y2, rfl, ho2, hb6⟩
      obtain ⟨A2, c2, rfl, -, -, hg2⟩ := own_form ho2
      rw [show ({ D with armed := 0 } : Dk).firm.length = 8 from HFL.out] at ho2 hg2 ⊢
      obtain ⟨g2, rfl⟩ := hg2 (by decide)
      have HTW := Lib.hid (rd_two HM.out HK5.out ho2 hb6 HCU.out ((cur_len _).trans HFL.out))
      rw [disarm_cur] at HTW
      clear ho2 hb6 hg2 HWR
      go_wp2
      go_loopw [46] (fun vi wr => ∃ k : Nat, k ≤ 8 ∧ vi = .int .i64 (k : Int) ∧ Two w wr g1 g2 (cur D) (cur D)) (fun vi _ => 8 - (intOf vi).toNat)
      case atStart => exact ⟨0, by omega, rfl, HTW.out⟩
      case round =>
        obtain ⟨k, hk, rfl, hf⟩ := hrel
        have HF := Lib.hid hf
        by_cases hlt : k < 8
        · have hk0 : (0 : Int) ≤ (k : Int) := by omega
          have hk1 : (k : Int) < 8 := by omega
          have HNX : Hid (∀ n2 : Nat, Two w (wr.drewN n2) g1 g2 (cur D) (cur D)) := Lib.hid (fun n => hf.drew n)
          have r1 := hf.a0.2 k (by rw [HCU.out]; exact hlt)
          have r2 := hf.a1.2 k (by rw [HCU.out]; exact hlt)
          obtain ⟨S1, hS1⟩ : ∃ S, S = strOfNums ((cur D).getD k []) := ⟨_, rfl⟩
          rw [← hS1] at r1 r2
          clear hf hS1
          by_cases hkx : (k : Int) = x
          · subst hkx
            go_wp2
            go_quiet (fail)
            go_wp2
            go_roundw
            case rel => exact ⟨k + 1, by omega, rfl, HNX.out _⟩
            case measure => simp [intOf] <;> omega
          · go_wp2
            go_quiet (fail)
            go_wp2
            go_roundw
            case rel => exact ⟨k + 1, by omega, rfl, HNX.out _⟩
            case measure => simp [intOf] <;> omega
        · obtain rfl : k = 8 := by omega
          clear hf
          by_cases h1 : x < 0
          · go_wp2_with fail
            refine (alive_any _).mono ?_
            rintro e w7 ⟨rfl, hb7⟩
            have HB7 := Lib.hid (HF.out.below.trans (hb7.mono HF.out.below.size))
            clear hb7
            go_wp2
            go_ret
            exact ⟨rfl, HB7.out⟩
          by_cases h2 : 8 ≤ x
          · go_wp2_with fail
            refine (alive_any _).mono ?_
            rintro e w7 ⟨rfl, hb7⟩
            have HB7 := Lib.hid (HF.out.below.trans (hb7.mono HF.out.below.size))
            clear hb7
            go_wp2
            go_ret
            exact ⟨rfl, HB7.out⟩
          have h3 : (64 : Int) < (len2 : Int) := by omega
          go_wp2_with fail
          refine (alive_any _).mono ?_
          rintro e w7 ⟨rfl, hb7⟩
          have HB7 := Lib.hid (HF.out.below.trans (hb7.mono HF.out.below.size))
          clear hb7
          go_wp2
          go_ret
          exact ⟨rfl, HB7.out⟩
end Go.Proofs.Ytogofgfdkkjnlaa
