/-
  What the law PlatterApart returns of a script and bytes that read: true, and older memory is as it was. No condition.
-/
import Derived.Test.YtogofgfdkkjnlaaLaw4
import Derived.Deep.RegionHeld3
namespace Go.Proofs.Ytogofgfdkkjnlaa
open Go.ChangeShapes Go.WideShapes Go.ChangeAt Go.RowKit

theorem bytes_one (zs : List Int) : ∀ u ∈ zs.map (Value.int .u8), u.oneCell' = true := fun u hu => by
  obtain ⟨z, _, rfl⟩ := List.mem_map.1 hu; rfl
theorem bytes_cells {w : World} {b off m : Nat} {zs : List Int} (hr : Reads w (some ⟨b, off, none⟩) m zs) (j : Nat) (u : Value) (hu : (zs.map (Value.int .u8))[j]? = some u) : w.cell? ((⟨b, off, none⟩ : Addr).add j) = some u := by
  have hj : j < zs.length := by
    have := List.getElem?_eq_some_iff.1 hu
    obtain ⟨h, _⟩ := this
    simpa using h
  obtain ⟨b', off', e, hc⟩ := hr.2.1 (by have := hr.1; omega)
  injection e with e
  injection e with e1 e2
  subst e1 e2
  rw [Go.WideShapes.add_plain, hc j (by have := hr.1; omega)]
  rw [List.getElem?_map, List.getElem?_eq_getElem hj] at hu
  rw [getD_eq _ hj]
  simpa using hu
theorem run_append_rd (w : World) (base ty : Nat) (i : TypeInfo) (hi : Try.prog.info? 5 = some i) (hz : i.zero = some (.int .u8 0)) (hsize : i.size = 1) (hby : i.bytes = 1)
    (v : Value) (n : Nat) (xs : List Value) (hown : w.ownsRow base 5 1 v n xs) (A : Option Addr) (m c : Nat) (zs : List Int) (hr : Reads w A m zs) (h47 : n + m ≤ 140737488355328) (hbase : base ≤ w.heap.size) :
    ∃ v' w', (Builtin.append_ #[36, 36] ty #[v, .slice A m c]).run Try.prog w = .ok v' w' ∧ w'.ownsRow base 5 1 v' (n + m) (xs ++ zs.map (Value.int .u8)) ∧ w.grownBy w' v.ownBlock := by
  rcases A with _ | ad
  · have hm : m = 0 := by
      rcases Nat.eq_zero_or_pos m with h0 | h0
      · exact h0
      · obtain ⟨b, off, h, _⟩ := hr.2.1 h0
        cases h
    subst hm
    have hn : zs = [] := List.eq_nil_of_length_eq_zero hr.1
    subst hn
    refine ⟨v, w, ?_, by simpa using hown, World.grownBy.refl w _⟩
    rcases hown.2 with ⟨rfl, rfl⟩ | ⟨g, cap, cur, rfl, _, _, hnc, _⟩
    · simp [Builtin.append_, run_underlying Try.underlying36, sizeOf, typeInfo, hi, Builtin.lenOf, Builtin.firstCells]
    · simp [Builtin.append_, run_underlying Try.underlying36, sizeOf, typeInfo, hi, Builtin.lenOf, Builtin.firstCells, hnc, storeCells]
  · have hcells : ∀ j u, (zs.map (Value.int .u8))[j]? = some u → w.cell? (ad.add j) = some u := by
      intro j u hu
      rcases Nat.eq_zero_or_pos m with h0 | h0
      · have hn : zs = [] := List.eq_nil_of_length_eq_zero (hr.1.trans h0)
        subst hn
        simp at hu
      · obtain ⟨b, off, h, _⟩ := hr.2.1 h0
        injection h with h
        subst h
        exact bytes_cells hr j u hu
    obtain ⟨v', w', hrun, h2, h3, _⟩ := run_append_own (P := Try.prog) w base 36 ty 5 i (.int .u8 0) 1 1 Try.underlying36 hi hz hsize hby rfl (by decide) v n xs hown ad m c (zs.map (Value.int .u8)) (by rw [List.length_map, hr.1, Nat.mul_one]) hcells (bytes_one zs) (by unfold maxLen; omega) (by omega) hbase
    exact ⟨v', w', hrun, h2, h3⟩
theorem wpList_append_rd {w : World} {ops : Array Oper} {rest : List Oper} {o : Oper} {a : Act} {Q : Exit → Act → World → Prop} (hwant : Region.wanted o (yielded ops a.tmps) = true) (s x : Operand)
    (ho : o.op = .call { callee := .builtin .append, args := #[s, x], argTypes := #[36, 36] })
    (base : Nat) (i : TypeInfo) (hi : Try.prog.info? 5 = some i) (hz : i.zero = some (.int .u8 0)) (hsize : i.size = 1) (hby : i.bytes = 1)
    (v : Value) (n : Nat) (xs : List Value) (hs : a.eval s = v) (hown : w.ownsRow base 5 1 v n xs) (A : Option Addr) (m c : Nat) (zs : List Int) (hx : a.eval x = .slice A m c) (hr : Reads w A m zs) (h47 : n + m ≤ 140737488355328) (hbase : base ≤ w.heap.size)
    (h : ∀ v' w', w'.ownsRow base 5 1 v' (n + m) (xs ++ zs.map (Value.int .u8)) → w.grownBy w' v.ownBlock → wpList Try.prog ops Q rest (a.put o.dst v') w') : wpList Try.prog ops Q (o :: rest) a w := by
  refine wpList_step fun K hK => ?_
  rw [if_pos hwant]
  obtain ⟨v', w', hrun, h2, h3⟩ := run_append_rd w base o.type i hi hz hsize hby v n xs hown A m c zs hr h47 hbase
  unfold Oper.wp execOp
  simp only [ho, resolve, invoke, builtin, Sem.run_bind, Sem.run_pure, Result.andThen_ok, List.map_toArray, List.map_cons, List.map_nil, hs, hx, hrun]
  exact hK _ _ (h v' w' h2 h3)
/-- A block of so many bytes. -/
def BytesAt (w : World) (g t n : Nat) : Prop := ∃ cs, w.heap[g]? = some (.cells cs t (0, 0)) ∧ ∀ i, i < n → ∃ z, cs[i]? = some (.int .u8 z)
theorem BytesAt.set {w : World} {g t n : Nat} (h : BytesAt w g t n) (k : Nat) (z : Int) : BytesAt (w.setCell ⟨g, k, none⟩ (.int .u8 z)) g t n := by
  obtain ⟨cs, h1, h2⟩ := h
  refine ⟨_, heap_setCell_same w g k cs t _ h1, fun i hi => ?_⟩
  obtain ⟨y, hy⟩ := h2 i hi
  by_cases e : i = k
  · subst e
    have := (Array.getElem?_eq_some_iff.1 hy).1
    exact ⟨z, by simp [this]⟩
  · exact ⟨y, by rw [Array.getElem?_setIfInBounds_ne (by omega)]; exact hy⟩
theorem bytesAt_ints {w : World} {g t : Nat} {s : List Int} (h : w.heap[g]? = some (.cells (ints s).toArray t (0, 0))) : BytesAt w g t s.length :=
  ⟨_, h, fun i hi => ⟨s[i], by simp [ints, hi]⟩⟩
/-- The last region's reading. -/
def ApS (A7 A8 ad2 : Option Addr) (len2 c7 c8 cap2 : Nat) (S0 T : ByteArray) (w' : World) : Prop :=
  (convert 36 9 (.slice A7 64 c7)).run Try.prog w' = .ok (.string S0) w' ∧ (convert 36 9 (.slice A8 len2 c8)).run Try.prog w' = .ok (.string T) w' ∧ (convert 36 9 (.slice ad2 len2 cap2)).run Try.prog w' = .ok (.string T) w'
theorem ap_s {w w' : World} {A7 A8 ad2 : Option Addr} {len2 c7 c8 cap2 : Nat} {ys zs : List Int} (h7 : Reads w A7 64 ys) (h8 : Reads w A8 len2 zs) (h2 : Reads w ad2 len2 zs) (hb : Below w.heap.size w w') : ApS A7 A8 ad2 len2 c7 c8 cap2 (strOfNums ys) (strOfNums zs) w' :=
  ⟨conv_reads (h7.kept hb), conv_reads (h8.kept hb), conv_reads (h2.kept hb)⟩
theorem own_read {w w' : World} {B base n c : Nat} {A : Option Addr} {zs : List Int} (h : w.ownsRow base 5 1 (.slice A n c) n (zs.map (Value.int .u8))) (hB : Bys zs) (hk : Kp B w w') : Reads w' A n zs := by
  obtain ⟨A2, c2, e, hr, -, -⟩ := own_reads (own_tag h fun k cs hx => hk.tag _ _ _ _ hx (by decide) (by decide) (by decide)) hB
  injection e with e1 _ _
  subst e1
  exact hr
theorem own_bytes {w : World} {base n g c : Nat} {zs : List Int} (h : w.ownsRow base 5 1 (.slice (some ⟨g, 0, none⟩) n c) n (zs.map (Value.int .u8))) : BytesAt w g 5 n := by
  rcases h.2 with ⟨e, _⟩ | ⟨g2, cap, cur, e, _, hg, _, _, _, _⟩
  · cases e
  · injection e with e _ _
    injection e with e
    injection e with e _ _
    subst e
    refine ⟨cur, hg, fun i hi => ?_⟩
    have hl : zs.length = n := by have := h.1; rw [List.length_map] at this; omega
    have := own_cell h i (.int .u8 zs[i]) (by simp [hl, hi])
    rw [cell_of_row w g i _ _ _ hg] at this
    exact ⟨_, this⟩
/-- The second loop. -/
structure Ap2 (w2 wr : World) (q : Nat) (C : Dk) (A5 : Option Addr) (len2 : Nat) : Prop where
  below : Below w2.heap.size w2 wr
  qd : PDisk wr w2.heap.size q C
  bytes : ∀ g5, A5 = some ⟨g5, 0, none⟩ → w2.heap.size ≤ g5 ∧ BytesAt wr g5 5 len2
theorem Ap2.set {w2 wr : World} {q g5 len2 : Nat} {C : Dk} (h : Ap2 w2 wr q C (some ⟨g5, 0, none⟩) len2) (k : Nat) (z : Int) : Ap2 w2 (wr.setCell ⟨g5, k, none⟩ (.int .u8 z)) q C (some ⟨g5, 0, none⟩) len2 := by
  obtain ⟨hge, hb⟩ := h.bytes g5 rfl
  obtain ⟨cs, hcs, -⟩ := id hb
  refine ⟨h.below.setCell hge _, h.qd.setCell (a := ⟨g5, k, none⟩) hcs (by decide) (by decide) (by decide) _, fun g e => ?_⟩
  injection e with e
  injection e with e _ _
  subst e
  exact ⟨hge, hb.set k z⟩
set_option maxHeartbeats 16000000 in
theorem law_apart (ad ad2 : Option Addr) (len cap len2 cap2 : Nat) (os : List Opr) (x : Int) (zs : List Int) (w : World) (hO : OReads w w.heap.size ad len os) (hR : Reads w ad2 len2 zs) :
    Calls Try.prog 6 #[.slice ad len cap, .int .i64 x, .slice ad2 len2 cap2] w fun e w' => e = .returned (.bool true) ∧ Below w.heap.size w w' := by
  by_cases h200 : 200 < len
  · have h200' := more_than len h200
    clear hO hR
    go_enter Try.func6, Try.ntmps6
    go_wp2_with fail
    refine (alive_any _).mono ?_
    rintro e w2 ⟨rfl, hb2⟩
    go_wp2
    go_ret
    exact ⟨rfl, hb2⟩
  have h200' : ¬ (200 : Int) < (len : Int) := by omega
  by_cases hx0 : x < 0
  · clear hO hR
    go_enter Try.func6, Try.ntmps6
    go_wp2_with fail
    refine (alive_any _).mono ?_
    rintro e w2 ⟨rfl, hb2⟩
    go_wp2
    go_ret
    exact ⟨rfl, hb2⟩
  by_cases hx8 : 8 ≤ x
  · clear hO hR
    go_enter Try.func6, Try.ntmps6
    go_wp2_with fail
    refine (alive_any _).mono ?_
    rintro e w2 ⟨rfl, hb2⟩
    go_wp2
    go_ret
    exact ⟨rfl, hb2⟩
  by_cases h64 : 64 < len2
  · have h64' : (64 : Int) < (len2 : Int) := by omega
    clear hO hR
    go_enter Try.func6, Try.ntmps6
    go_wp2_with fail
    refine (alive_any _).mono ?_
    rintro e w2 ⟨rfl, hb2⟩
    go_wp2
    go_ret
    exact ⟨rfl, hb2⟩
  have h64' : ¬ (64 : Int) < (len2 : Int) := by omega
  obtain ⟨n, rfl⟩ : ∃ n : Nat, x = (n : Int) := ⟨x.toNat, by omega⟩
  have hn8 : n < 8 := by omega
  have hol : os.length ≤ 200 := by have := hO.1; omega
  have HP := Lib.hid (plays_any 8 8 ad len cap os w hO (by decide) (.inr rfl) (by omega))
  have HR := Lib.hid hR
  clear hO hR
  go_enter Try.func6, Try.ntmps6
  go_wp2_with fail
  refine HP.out.mono ?_
  rintro e w1 ⟨p, Af, cf, Aw, cw, D, rfl, -, hpd, -, hok, hfl, hwl, hb1⟩
  obtain ⟨dd, hdd⟩ : ∃ dd, dd = D.dead := ⟨_, rfl⟩
  obtain ⟨m, hm⟩ : ∃ m, m = D.wait.length := ⟨_, rfl⟩
  have hb2 := box_below w1 (.cells #[.slice Af D.firm.length cf, .slice Aw m cw, .int .i64 D.armed, .bool dd] 28)
  have hbx := new_block w1 (.cells #[.slice Af D.firm.length cf, .slice Aw m cw, .int .i64 D.armed, .bool dd] 28)
  have v1 := cell_of hbx (j := 1) rfl
  have v3 := cell_of hbx (j := 3) rfl
  have HPD := Lib.hid (hpd.kept hb2)
  have HB2 := Lib.hid (hb1.trans (hb2.mono hb1.size))
  have HFL := Lib.hid hfl
  have HWL := Lib.hid (show D.wait.length ≤ 200 by omega)
  have HDD := Lib.hid hdd
  have HOK := Lib.hid hok
  rw [← hdd, ← hm]
  clear hb1 hb2 hpd hok hfl hwl hbx hdd hm
  cases dd with
  | true =>
    go_wp2_with fail
    refine (alive_any _).mono ?_
    rintro e w3 ⟨rfl, hb3⟩
    have HB3 := Lib.hid (HB2.out.trans (hb3.mono HB2.out.size))
    clear hb3
    go_wp2
    go_ret
    exact ⟨rfl, HB3.out⟩
  | false =>
    obtain ⟨w2, hw2⟩ : ∃ w2, w2 = w1.alloc (.cells #[.slice Af D.firm.length cf, .slice Aw m cw, .int .i64 D.armed, .bool false] 28) := ⟨_, rfl⟩
    rw [← hw2] at HPD HB2 v1 v3
    go_wp2_with fail
    try rw [← hw2]
    clear hw2
    refine (crash_any w.heap.size p D (m : Int) 0 w2 HPD.out (by rw [HFL.out]; decide) (by have := HWL.out; omega)).mono ?_
    rintro e w3 ⟨q, rfl, hp3, hb3⟩
    have HB23 := Lib.hid hb3
    have HQ3 := Lib.hid hp3
    have HDO := Lib.hid (do_read (D := D) (n := n) HDD.out.symm (by rw [HFL.out]; exact hn8))
    have HCL : Hid ((crash D (m : Int) 0).firm.length = 8) := Lib.hid ((crash_length _ _ _ _).trans HFL.out)
    have HRA := Lib.hid (read_any w.heap.size p D (n : Int) w3 (HPD.out.kept hb3))
    have HSO := Lib.hid (lok_getD (cur_ok HOK.out) (k := n) (by rw [cur_len, HFL.out]; exact hn8))
    clear hp3 hb3 v1 v3
    go_wp2_with fail
    refine HRA.out.mono ?_
    rintro e w4 ⟨A4, l4, c4, rfl, hr4, hlc4, hc64, hb4, hg4⟩
    rw [HDO.out] at hr4 hg4 ⊢
    simp only at hr4 hg4 ⊢
    obtain rfl : l4 = 64 := by have := hr4.1; rw [HSO.out.1] at this; omega
    obtain ⟨g, rfl, hge, hblk⟩ := hg4 (by decide)
    obtain ⟨S0, hS0⟩ : ∃ S, S = strOfNums ((cur D).getD n []) := ⟨_, rfl⟩
    have hcv := conv_reads (c := c4) hr4
    rw [← hS0] at hcv
    have HS0 := Lib.hid hS0
    have hby := bytesAt_ints hblk
    rw [HSO.out.1] at hby
    have HST : Hid (Below w3.heap.size w3 w4 ∧ BytesAt w4 g 66 64) := Lib.hid ⟨hb4, hby⟩
    have HGE := Lib.hid hge
    clear hr4 hlc4 hc64 hb4 hg4 hge hblk hby hS0 HRA
    go_wp2
    go_loopw [72] (fun vi wr => ∃ k : Nat, k ≤ 64 ∧ vi = .int .i64 (k : Int) ∧ Below w3.heap.size w3 wr ∧ BytesAt wr g 66 64) (fun vi _ => 64 - (intOf vi).toNat)
    case atStart => exact ⟨0, by omega, rfl, HST.out.1, HST.out.2⟩
    case round =>
      obtain ⟨k, hk, rfl, hbl, hby⟩ := hrel
      have HBL := Lib.hid hbl
      have HBY := Lib.hid hby
      by_cases hlt : k < 64
      · have hk0 : (0 : Int) ≤ (k : Int) := by omega
        have hk1 : (k : Int) < 64 := by omega
        obtain ⟨cs, hcs, hz⟩ := hby
        obtain ⟨z, hz1⟩ := hz k hlt
        have r1 := cell_of hcs (j := k) hz1
        have rf := frozen_of_row _ g k _ _ hcs
        have HNX := Lib.hid (fun z' : Int => (⟨k + 1, by omega, rfl, HBL.out.setCell (p := ⟨g, k, none⟩) HGE.out _, HBY.out.set k z'⟩ : ∃ j : Nat, j ≤ 64 ∧ Value.int .i64 ((k : Int) + 1) = .int .i64 (j : Int) ∧ Below w3.heap.size w3 (_root_.Go.World.setCell _ ⟨g, k, none⟩ (.int .u8 z')) ∧ BytesAt _ g 66 64))
        clear hbl hcs hz hz1
        go_wp2
        go_roundw
        case rel => exact HNX.out _
        case measure => simp [intOf] <;> omega
      · obtain rfl : k = 64 := by omega
        obtain ⟨i0, hi, hz0, hz1, hz2⟩ := info_parts info5
        have HBW := Lib.hid (HB2.out.trans ((HB23.out.trans (hbl.mono HB23.out.size)).mono HB2.out.size))
        have HQ := Lib.hid (HQ3.out.kept hbl)
        have HO := Lib.hid (World.ownsRow_lit (base := wr.heap.size) (e := 5) (size := 1) wr #[] 0 (Nat.le_refl _) (by unfold maxLen; omega) rfl)
        have HA := Lib.hid ((HR.out.keptAt HR.out.under HBW.out).kept (box_below wr (.cells #[] 5)))
        have h47a : 0 + len2 ≤ 140737488355328 := by omega
        have hsz : wr.heap.size ≤ (wr.alloc (.cells #[] 5)).heap.size := by simp
        have H2W := Lib.hid (HB23.out.trans (hbl.mono HB23.out.size))
        clear hbl hby
        go_wp2_with (first
          | (at_builtin; refine wpList_append_rd rfl (.tmp 84) (.tmp 85) rfl wr.heap.size i0 hi hz0 hz1 hz2 (.slice (some ⟨wr.heap.size, 0, none⟩) 0 0) 0 [] rfl HO.out ad2 len2 cap2 zs rfl HA.out h47a hsz ?_; intro v5 w5 hown5 hgrow5; rw [Nat.zero_add, List.nil_append] at hown5; have hb5 := (box_below wr (.cells #[] 5)).grown hgrow5 hsz (own_ge HO.out); obtain ⟨A5, c5, rfl, -, -, hA5⟩ := own_form hown5; have HO5 := Lib.hid hown5; have HB5 := Lib.hid hb5; have HA5 := Lib.hid hA5; clear hown5 hgrow5 hb5 hA5)
          | fail)
        have HQ5 := Lib.hid (HQ.out.kept HB5.out)
        have H25 := Lib.hid (H2W.out.trans (HB5.out.mono H2W.out.size))
        have HDO2 : Hid (doD (crash D (m : Int) 0) 0 (n : Int) 0 zs = (putD { crash D (m : Int) 0 with armed := 0 } n zs, [], 0)) := Lib.hid (do_put (D := crash D (m : Int) 0) rfl (by rw [HCL.out]; exact hn8) (by rw [HR.out.1]; omega))
        have HWR := Lib.hid (write_any w2.heap.size q (crash D (m : Int) 0) (n : Int) A5 len2 c5 zs w5 HQ5.out (fun w' hk => own_read HO5.out HR.out.bys hk) (by show (0 : Nat) ≤ 100000; decide))
        obtain ⟨C2, hC2⟩ : ∃ C2, C2 = putD { crash D (m : Int) 0 with armed := 0 } n zs := ⟨_, rfl⟩
        rw [← hC2] at HDO2
        have HC2 := Lib.hid hC2
        clear hC2
        go_wp2_with fail
        refine HWR.out.mono ?_
        rintro e w6 ⟨rfl, hp6, hk6⟩
        rw [HDO2.out] at hp6 ⊢
        simp only at hp6 ⊢
        have HST2 : Hid (Ap2 w2 w6 q C2 A5 len2) := Lib.hid ⟨H25.out.trans hk6.below, hp6, fun g5 e => by
          subst e
          have hge := own_ge HO5.out g5 rfl
          obtain ⟨cs, h1, h2⟩ := own_bytes HO5.out
          exact ⟨Nat.le_trans H2W.out.size hge, cs, hk6.tag _ _ _ _ h1 (by decide) (by decide) (by decide), h2⟩⟩
        clear hp6 hk6 HWR
        go_wp2
        go_loopw [93] (fun vi wr => ∃ k : Nat, k ≤ len2 ∧ vi = .int .i64 (k : Int) ∧ Ap2 w2 wr q C2 A5 len2) (fun vi _ => len2 - (intOf vi).toNat)
        case atStart => exact ⟨0, Nat.zero_le _, rfl, HST2.out⟩
        case round =>
          obtain ⟨k, hk, rfl, hin⟩ := hrel
          have HIN := Lib.hid hin
          by_cases hlt : k < len2
          · have hk0 : (0 : Int) ≤ (k : Int) := by omega
            have hk1 : (k : Int) < (len2 : Int) := by omega
            obtain ⟨g5, rfl⟩ := HA5.out (by omega)
            obtain ⟨-, cs, hcs, hz⟩ := hin.bytes g5 rfl
            obtain ⟨z, hzk⟩ := hz k hlt
            have r1 := cell_of hcs (j := k) hzk
            have rf := frozen_of_row _ g5 k _ _ hcs
            have HNX := Lib.hid (fun z' : Int => HIN.out.set k z')
            clear hin hcs hz hzk
            go_wp2
            go_roundw
            case rel => exact ⟨k + 1, by omega, rfl, HNX.out _⟩
            case measure => simp [intOf] <;> omega
          · obtain rfl : len2 = k := by omega
            have HRA := Lib.hid (read_any w.heap.size p D (n : Int) _ (HPD.out.kept hin.below))
            have HWW := Lib.hid (HB2.out.trans (hin.below.mono HB2.out.size))
            clear hin
            go_wp2_with fail
            refine HRA.out.mono ?_
            rintro e w8 ⟨A7, l7, c7, rfl, hr7, -, -, hb8, -⟩
            rw [HDO.out] at hr7 ⊢
            simp only at hr7 ⊢
            obtain rfl : l7 = 64 := by have := hr7.1; rw [HSO.out.1] at this; omega
            have HR7 := Lib.hid hr7
            have HW8 := Lib.hid (HWW.out.trans (hb8.mono HWW.out.size))
            have HRB := Lib.hid (read_any w2.heap.size q C2 (n : Int) w8 (HIN.out.qd.kept hb8))
            have HDO3 := Lib.hid (do_read (D := C2) (n := n) (by rw [HC2.out]; rfl) (by rw [HC2.out]; show n < (crash D (m : Int) 0).firm.length; rw [HCL.out]; exact hn8))
            have HPA : Hid ((cur C2).getD n [] = pad zs) := Lib.hid (by rw [HC2.out, cur_put, getD_set_same (by rw [cur_len, HCL.out]; exact hn8)])
            clear hr7 hb8 HRA
            go_wp2_with fail
            refine HRB.out.mono ?_
            rintro e w9 ⟨A8, l8, c8, rfl, hr8, hlc8, -, hb9, -⟩
            rw [HDO3.out] at hr8 ⊢
            simp only at hr8 ⊢
            rw [HPA.out] at hr8
            have hzl : zs.length = len2 := HR.out.1
            have hpl : (pad zs).length = 64 := by rw [pad, List.length_append, List.length_replicate]; omega
            obtain rfl : l8 = 64 := by have := hr8.1; omega
            obtain ⟨A9, c9, hsl, hr9, -, -⟩ := sub_to hr8 hlc8 len2 (by omega)
            rw [← hzl, pad_take, hzl] at hr9
            have HW9 := Lib.hid (HW8.out.trans (hb9.mono HW8.out.size))
            obtain ⟨T, hT⟩ : ∃ T, T = strOfNums zs := ⟨_, rfl⟩
            have HS : Hid (∀ w', Below w9.heap.size w9 w' → ApS A7 A9 ad2 len2 c7 c9 cap2 S0 T w') := Lib.hid (fun w' hb => by
              rw [HS0.out, hT]
              exact ap_s (HR7.out.kept hb9) hr9 (HR.out.keptAt HR.out.under HW9.out) hb)
            have hl0 : (0 : Int) ≤ (len2 : Int) := by omega
            clear hr8 hlc8 hb9 hr9 hzl hpl hT HRB
            have hS00 : (convert 36 9 (.slice A7 64 c7)).run Try.prog w9.drew = .ok (.string S0) w9.drew ∧ (convert 36 9 (.slice A9 len2 c9)).run Try.prog w9.drew = .ok (.string T) w9.drew ∧ (convert 36 9 (.slice ad2 len2 cap2)).run Try.prog w9.drew = .ok (.string T) w9.drew := HS.out w9.drew (Below.refl _ _).drew
            clear HP HPD HB2 HFL HWL HDD HOK HB23 HQ3 HDO HCL HSO HST HGE HBL HBY HBW HQ HO HA H2W HO5 HB5 HA5 HQ5 H25 HDO2 HC2 HST2 HIN HWW HR7 HDO3 HPA HW8
            go_wp2_with fail
            go_region_held3 (fun w' => (convert 36 9 (.slice A7 64 c7)).run Try.prog w' = .ok (.string S0) w' ∧ (convert 36 9 (.slice A9 len2 c9)).run Try.prog w' = .ok (.string T) w' ∧ (convert 36 9 (.slice ad2 len2 cap2)).run Try.prog w' = .ok (.string T) w') (first | assumption)
              (first
                | (go_at_call 9; refine (alive_any _).mono ?_; rintro e w10 ⟨rfl, hb10⟩; have hbx := (Below.refl w9.heap.size w9).drew.trans hb10; have HBX := Lib.hid (HW9.out.trans (hbx.mono HW9.out.size)); have hS8 : (convert 36 9 (.slice A7 64 c7)).run Try.prog w10 = .ok (.string S0) w10 ∧ (convert 36 9 (.slice A9 len2 c9)).run Try.prog w10 = .ok (.string T) w10 ∧ (convert 36 9 (.slice ad2 len2 cap2)).run Try.prog w10 = .ok (.string T) w10 := HS.out w10 hbx; clear hb10 hbx))
            go_wp2
            go_ret
            exact ⟨rfl, HBX.out⟩
end Go.Proofs.Ytogofgfdkkjnlaa
