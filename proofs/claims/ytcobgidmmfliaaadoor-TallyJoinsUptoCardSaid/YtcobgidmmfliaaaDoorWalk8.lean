/-
  What the law on turned bits returns: true, and older memory is as it was. Condition: the table's cells hold what its initialiser lays; the text takes no more bytes than any input may.
-/
import Derived.Test.YtcobgidmmfliaaaDoorWalk4
import Derived.Test.YtcobgidmmfliaaaDoorBurst
import Derived.OwnWalk
import Derived.RegionTactic
import Derived.Deep.AppendLies
namespace Go.Proofs.YtcobgidmmfliaaaDoor
open Go.ChangeShapes Go.WideShapes Go.ChangeAt Go.RowKit Go.Proofs.Crc

theorem bursts_neg (ad : Option Addr) (len cap : Nat) (a : Int) (v : BitVec 32) (w : World) (hT : Table w) (hneg : a < 0) :
    Calls Tryd.prog 7 #[.slice ad len cap, .int .i64 a, .int .u32 (U v)] w fun e w' => e = .returned (.bool true) ∧ Below w.heap.size w w' := by
  have HT := Lib.hid hT
  clear hT
  go_enter Tryd.func7, Tryd.ntmps7
  go_wp2_with fail
  refine (alive_any w HT.out).mono ?_
  rintro e w1 ⟨rfl, hb⟩
  go_wp2_with fail
  go_ret
  exact ⟨rfl, hb⟩
theorem bursts_far (ad : Option Addr) (len cap : Nat) (a : Int) (v : BitVec 32) (w : World) (hT : Table w) (hl : len ≤ 140737488351232) (hpos : 0 ≤ a) (hfar : 8 * (len : Int) ≤ a) :
    Calls Tryd.prog 7 #[.slice ad len cap, .int .i64 a, .int .u32 (U v)] w fun e w' => e = .returned (.bool true) ∧ Below w.heap.size w w' := by
  have HT := Lib.hid hT
  clear hT
  go_enter Tryd.func7, Tryd.ntmps7
  go_wp2_with fail
  refine (alive_any w HT.out).mono ?_
  rintro e w1 ⟨rfl, hb⟩
  go_wp2_with fail
  go_ret
  exact ⟨rfl, hb⟩
theorem info5 : (Tryd.prog.info? 5).map (fun i => (i.zero, i.size, i.bytes)) = some (some (.int .u8 0), 1, 1) := by kernel_rfl
theorem ints_cells {w : World} {b off len : Nat} {zs : List Int} (hR : Reads w (some ⟨b, off, none⟩) len zs) : ∀ j u, (zs.map (Value.int .u8))[j]? = some u → w.cell? (Addr.add ⟨b, off, none⟩ j) = some u := by
  intro j u hu
  obtain ⟨h1, h2, _⟩ := hR
  rw [List.getElem?_map] at hu
  have hj : j < zs.length := by
    rcases Nat.lt_or_ge j zs.length with h | h
    · exact h
    · rw [List.getElem?_eq_none h] at hu; cases hu
  obtain ⟨b', off', e, hc⟩ := h2 (by omega)
  have e' := Option.some.inj e
  injection e' with eb eo
  subst eb eo
  rw [Go.WideShapes.add_plain, hc j (by omega)]
  rw [List.getElem?_eq_getElem hj] at hu
  rw [← hu, List.getD_eq_getElem?_getD, List.getElem?_eq_getElem hj]
  rfl
theorem ints_one (zs : List Int) : ∀ u ∈ zs.map (Value.int .u8), u.oneCell' = true := by
  intro u hu
  obtain ⟨z, _, rfl⟩ := List.mem_map.1 hu
  rfl
theorem ret_bool8 {a b : Bool} (h : a = b) : Ending.returned (.bool a) = .returned (.bool b) := by rw [h]
theorem reads_own {w : World} {base g len c : Nat} {ys : List Int} (h : w.ownsRow base 5 1 (.slice (some ⟨g, 0, none⟩) len c) len (ys.map (Value.int .u8))) (hb : ∀ j, 0 ≤ ys.getD j 0 ∧ ys.getD j 0 ≤ 255) :
    Reads w (some ⟨g, 0, none⟩) len ys := by
  have hl : ys.length = len := by have := h.1; rw [List.length_map] at this; omega
  refine ⟨hl, fun _ => ⟨g, 0, rfl, fun i hi => ?_⟩, hb⟩
  rw [Nat.zero_add, h.cellAt i (by omega), List.getElem?_map, List.getD_eq_getElem?_getD, List.getElem?_eq_getElem (by omega)]
  rfl
/-- What the loop keeps: block g holds the text with some bits turned. -/
def BRel (w : World) (g c len a : Nat) (zs : List Int) (turned i : Value) (wr : World) : Prop :=
  ∃ (k : Nat) (t : BitVec 32) (ys : List Int) (q : Bool), k ≤ 32 ∧ i = .int .i64 k ∧ turned = .bool q ∧ (q = true ↔ t ≠ 0#32) ∧ t.toNat < 2 ^ k ∧ (∀ j, 0 ≤ ys.getD j 0 ∧ ys.getD j 0 ≤ 255) ∧
    wr.ownsRow w.heap.size 5 1 (.slice (some ⟨g, 0, none⟩) len c) len (ys.map (Value.int .u8)) ∧ (∀ s, fd s ys = fd s zs ^^^ stpN (8 * len - a) t) ∧ Below w.heap.size w wr
theorem pow_mask : ∀ r : Nat, r < 8 → (2 : Int) ^ r % (256 : Int) = ((2 ^ r : Nat) : Int) ∧ ((2 ^ r : Nat) : Int) ≤ 255 := by decide +kernel
theorem burst_round {w wr : World} {g c len a k j r : Nat} {t : BitVec 32} {ys zs : List Int} {y : Int} (hk : k < 32) (hr : r < 8) (hp : a + k = 8 * j + r) (hn : a + k < 8 * len) (ht : t.toNat < 2 ^ k)
    (hys : ∀ j, 0 ≤ ys.getD j 0 ∧ ys.getD j 0 ≤ 255) (hy : y = ys.getD j 0) (hown : wr.ownsRow w.heap.size 5 1 (.slice (some ⟨g, 0, none⟩) len c) len (ys.map (Value.int .u8)))
    (hfd : ∀ s, fd s ys = fd s zs ^^^ stpN (8 * len - a) t) (hb : Below w.heap.size w wr) (hg : w.heap.size ≤ g) :
    BRel w g c len a zs (.bool true) (.int .i64 ((k : Int) + 1)) (wr.setCell ⟨g, j, none⟩ (.int .u8 (bits .xor .u8 y ((2 : Int) ^ r % (256 : Int))))).drew := by
  have hl : ys.length = len := by have := hown.1; rw [List.length_map] at this; omega
  have hm := pow_mask r hr
  rw [hm.1]
  have hyb : 0 ≤ y ∧ y ≤ 255 := by rw [hy]; exact hys j
  obtain ⟨x1, x2, x3⟩ := byte_xor y ((2 ^ r : Nat) : Int) hyb ⟨by omega, hm.2⟩
  have hT := turn_new t k hk ht
  refine ⟨k + 1, t ^^^ BitVec.twoPow 32 k, ys.set j (bits .xor .u8 y ((2 ^ r : Nat) : Int)), true, by omega, by go_num, rfl, ⟨fun _ => hT.2, fun _ => rfl⟩, hT.1, fun i => ?_, ?_, fun s => ?_, (hb.setCell (p := ⟨g, j, none⟩) hg _).drew⟩
  · rw [List.getD_eq_getElem?_getD, List.getElem?_set]
    by_cases hij : j = i
    · rw [if_pos hij, if_pos (by omega)]; exact ⟨x2, x3⟩
    · rw [if_neg hij, ← List.getD_eq_getElem?_getD]; exact hys i
  · have h := (hown.stored j (.int .u8 (bits .xor .u8 y ((2 ^ r : Nat) : Int)))).1
    rw [List.map_set]
    exact h
  · rw [fd_set s ys j y _ (by omega) hy.symm x1, hfd, stpN_xor, B_pow r hr, hl, fd_bit len a k j r hk hr hp hn, BitVec.xor_assoc]
set_option maxHeartbeats 1000000 in
theorem bursts_in (b off len cap a : Nat) (v : BitVec 32) (zs : List Int) (w : World) (hR : Reads w (some ⟨b, off, none⟩) len zs) (hT : Table w) (hl : len ≤ 140737488351232) (hin : a < 8 * len) :
    Calls Tryd.prog 7 #[.slice (some ⟨b, off, none⟩) len cap, .int .i64 (a : Int), .int .u32 (U v)] w fun e w' => e = .returned (.bool true) ∧ Below w.heap.size w w' := by
  obtain ⟨i0, hi, hz0, hz1, hz2⟩ := info_parts info5
  have hR1 : Reads (w.alloc (.cells #[] 5)) (some ⟨b, off, none⟩) len zs := reads_kept hR ((Below.refl _ _).alloc (Nat.le_refl _) _)
  have HO := Lib.hid (World.ownsRow_lit (base := w.heap.size) (e := 5) (size := 1) w #[] 0 (Nat.le_refl _) (by unfold maxLen; omega) rfl)
  have HL := Lib.hid (show (zs.map (Value.int .u8)).length = len * 1 by rw [List.length_map, hR.1, Nat.mul_one])
  have HN := Lib.hid (ints_cells hR1)
  have H1 := Lib.hid (ints_one zs)
  have h63 : 0 + len ≤ maxLen := by unfold maxLen; omega
  have h47 : (0 + len) * 1 ≤ 140737488355328 := by omega
  have HT := Lib.hid hT
  have HR := Lib.hid hR
  clear hT hR hR1
  have hin' : (a : Int) < 8 * (len : Int) := by omega
  go_enter Tryd.func7, Tryd.ntmps7
  go_wp2_with (at_builtin; refine wpList_append_own _ rfl (.tmp 21) (.tmp 22) 22 rfl w.heap.size 5 i0 (.int .u8 0) 1 1 Tryd.underlying22 hi hz0 hz1 hz2 rfl (by decide) (.slice (some ⟨w.heap.size, 0, none⟩) 0 0) 0 [] rfl HO.out ⟨b, off, none⟩ len cap (zs.map (Value.int .u8)) rfl HL.out HN.out H1.out h63 h47 (by simp) ?_; intro v1 w1 hown1 hgrow1 _)
  have hbel1 : Below w.heap.size w w1 := ((Below.refl _ _).alloc (Nat.le_refl _) _).grown hgrow1 (by simp) (fun k hk => by simp [Value.ownBlock] at hk; omega)
  simp only [Nat.zero_add, List.nil_append] at hown1
  obtain ⟨g, c, rfl, hbg, hglt⟩ := hown1.form (by omega)
  have HOWN := Lib.hid hown1
  have HBEL := Lib.hid hbel1
  have HG := Lib.hid hbg
  clear hown1 hgrow1 hbel1 hglt hbg
  go_loopw [8, 24] (fun tr i wr => BRel w g c len a zs tr i wr) (fun _ i _ => 32 - (intOf i).toNat)
  case atStart => exact ⟨0, 0#32, zs, false, by omega, rfl, rfl, by simp, by simp, HR.out.2.2, HOWN.out, fun s => by rw [stpN_zero, BitVec.xor_zero], HBEL.out⟩
  case round =>
    obtain ⟨k, t, ys, q, hk, rfl, rfl, hq, ht, hys, hown, hfd, hb⟩ := hrel
    have HQ := Lib.hid hq
    have HTT := Lib.hid ht
    have HY := Lib.hid hys
    have HO2 := Lib.hid hown
    have HF := Lib.hid hfd
    have HB := Lib.hid hb
    clear hq ht hys hown hfd hb
    by_cases hk32 : k < 32
    · by_cases hbit : v.getLsbD k = true
      · have hb1 : (bits .and .u32 (U v / (2 : Int) ^ k) 1 == 1) = true := by rw [bit_k, hbit]; rfl
        obtain ⟨p, hp⟩ : ∃ p, p = a + k := ⟨_, rfl⟩
        have e1 : (a : Int) + (k : Int) = (p : Int) := by omega
        have HP := Lib.hid hp
        by_cases hlim : p < 8 * len
        · obtain ⟨j, hj⟩ : ∃ j, j = p / 8 := ⟨_, rfl⟩
          obtain ⟨r, hr⟩ : ∃ r, r = p % 8 := ⟨_, rfl⟩
          have e2 : (p : Int) / 8 = (j : Int) := by omega
          have e3 : (p : Int) % 8 = (r : Int) := by omega
          have hlt : (p : Int) < 8 * (len : Int) := by omega
          have hjl : (j : Int) < (len : Int) := by omega
          have hjn : j < len := by omega
          obtain ⟨y, hy⟩ : ∃ y, y = ys.getD j 0 := ⟨_, rfl⟩
          have hc : wr.cell? ⟨g, j, none⟩ = some (.int .u8 y) := by
            rw [HO2.out.cellAt j (by omega), List.getElem?_map, hy, List.getD_eq_getElem?_getD]
            have : j < ys.length := by have := HO2.out.1; rw [List.length_map] at this; omega
            rw [List.getElem?_eq_getElem this]; rfl
          have hf : wr.frozen? ⟨g, j, none⟩ = false := HO2.out.frozenAt j
          have HJ := Lib.hid hj
          have HRR := Lib.hid hr
          have HYY := Lib.hid hy
          clear hp hj hr hy
          go_wp2_with fail
          go_region
          go_wp2_with fail
          go_roundw
          case rel =>
            exact burst_round hk32 (by have := HRR.out; omega) (by have := HRR.out; have := HJ.out; have := HP.out; omega) (by have := HP.out; omega) HTT.out HY.out HYY.out HO2.out HF.out HB.out HG.out
          case measure => simp [intOf]; omega
        · have hlt : ¬ (p : Int) < 8 * (len : Int) := by omega
          clear hp hlim hbit
          go_wp2_with fail
          go_roundw
          case rel => exact ⟨k + 1, t, ys, q, by omega, by go_num, rfl, HQ.out, Nat.lt_of_lt_of_le HTT.out (Nat.pow_le_pow_right (by decide) (by omega)), HY.out, HO2.out, HF.out, HB.out⟩
          case measure => simp [intOf]; omega
      · have hbit' : v.getLsbD k = false := by simpa using hbit
        have hb1 : (bits .and .u32 (U v / (2 : Int) ^ k) 1 == 1) = false := by rw [bit_k, hbit']; rfl
        clear hbit hbit'
        go_wp2_with fail
        go_roundw
        case rel => exact ⟨k + 1, t, ys, q, by omega, by go_num, rfl, HQ.out, Nat.lt_of_lt_of_le HTT.out (Nat.pow_le_pow_right (by decide) (by omega)), HY.out, HO2.out, HF.out, HB.out⟩
        case measure => simp [intOf]; omega
    · go_wp2_with fail
      refine (alive_any wr (table_below HT.out HB.out (table_lt HT.out))).mono ?_
      rintro e w2 ⟨rfl, hb2⟩
      have HB2 := Lib.hid (HB.out.trans (hb2.mono HB.out.size))
      have HRX := Lib.hid (reads_kept HR.out HB2.out)
      have HTX := Lib.hid (table_below HT.out HB2.out (table_lt HT.out))
      have HRY : Hid (Reads w2 (some ⟨g, 0, none⟩) len ys) := Lib.hid (reads_kept (reads_own HO2.out HY.out) hb2)
      clear hb2
      cases q with
      | false =>
        go_wp2_with fail
        go_ret
        exact ⟨rfl, HB2.out⟩
      | true =>
        have HNE := Lib.hid (more_ne ys zs (8 * len - a) t HF.out (HQ.out.mp rfl))
        go_wp2_with fail
        refine (sum_any _ _ _ _ _ HRY.out HTX.out (by omega)).mono ?_
        rintro e w3 ⟨rfl, rfl⟩
        go_wp2_with fail
        refine (sum_any _ _ _ _ _ HRX.out HTX.out (by omega)).mono ?_
        rintro e w3 ⟨rfl, rfl⟩
        go_wp2_with fail
        go_ret
        exact ⟨ret_bool8 HNE.out, HB2.out⟩
theorem law_bursts (ad : Option Addr) (len cap : Nat) (zs : List Int) (a : Int) (v : BitVec 32) (w : World) (hR : Reads w ad len zs) (hT : Table w) (hlc : len ≤ cap) (hcap : cap ≤ 140737488351232) :
    Calls Tryd.prog 7 #[.slice ad len cap, .int .i64 a, .int .u32 (U v)] w fun e w' => e = .returned (.bool true) ∧ Below w.heap.size w w' := by
  by_cases hneg : a < 0
  · exact bursts_neg ad len cap a v w hT hneg
  · by_cases hfar : 8 * (len : Int) ≤ a
    · exact bursts_far ad len cap a v w hT (by omega) (by omega) hfar
    · obtain ⟨n, rfl⟩ := Int.eq_ofNat_of_zero_le (show 0 ≤ a by omega)
      obtain ⟨b, off, rfl, _⟩ := hR.2.1 (by omega)
      exact bursts_in b off len cap n v zs w hR hT (by omega) (by omega)
end Go.Proofs.YtcobgidmmfliaaaDoor
