/-
  What Write returns and leaves. No condition.
-/
import Derived.Test.YtoallenigfbkpaaTRead
namespace Go.Proofs.Ytoallenigfbkpaa
set_option maxRecDepth 100000
open Go.ChangeShapes Go.WideShapes Go.ChangeAt Go.RowKit Go.Proofs.Sg

/-- Bytes that are read stay, whatever is done to a file. -/
theorem SK.bytes {w w' : World} {B sp mb : Nat} {S : Sh} (h : SK w w' sp mb) (hs : SW w B sp mb S) {A : Option Addr} {n : Nat} {l : List UInt8} (hr : Rd bcell 1 w A n l) : Rd bcell 1 w' A n l := by
  refine ⟨hr.len, fun hn => ?_⟩
  obtain ⟨b, off, e, hc⟩ := hr.cells hn
  refine ⟨b, off, e, fun i hi j v hv => ?_⟩
  have hx := hc i hi j v hv
  have hlt := cell_lt hx
  have hv' : ∃ z : Int, v = .int .u8 z := by
    rcases j with _ | j
    · exact ⟨_, (Option.some.inj hv).symm⟩
    · cases hv
  obtain ⟨z, rfl⟩ := hv'
  have h1 : b ≠ sp := fun e1 => by
    rw [e1, cell_of_row w sp _ _ _ _ hs.here] at hx
    rcases hq : off + i * 1 + j with _ | _ | q
    · rw [hq] at hx; simp at hx
    · rw [hq] at hx; simp at hx
    · rw [hq] at hx; simp at hx
  have h2 : b ≠ mb := fun e1 => by
    obtain ⟨es, clock, hm⟩ := hs.map.is_map
    rw [e1] at hx
    simp [World.cell?, hm] at hx
  have hb := h.block b hlt h1 h2
  rw [← hx]
  simp only [World.cell?, hb]
def wrI (S : Sh) (p : Int) (b : List UInt8) : Sh := if ft p b.length = true then wr S p.toNat b else S
/-- What a call that changes a file leaves. -/
def ChPost (w : World) (B sp mb : Nat) (S' : Sh) (v : Value) (e : Ending) (w' : World) : Prop := e = .returned v ∧ SW w' B sp mb S' ∧ SK w w' sp mb
theorem copy_in {w : World} {q i A0 o n c d m k : Nat} {f : Byt} {b : List UInt8} (hr : Rd bcell 1 w (some ⟨A0, o, none⟩) n b) (hq : w.heap[q]? = some (.cells (bv f k) 61 (0, 0))) (hd : d + m ≤ n) (hm : m = min (n - d) (16 - i)) (hi : i + m ≤ 16) :
    ∃ w', (∀ ty, (Builtin.copy_ #[27, 27] ty #[.slice (some ⟨q, i, none⟩) (16 - i) (16 - i), .slice (some ⟨A0, o + d, none⟩) (n - d) (c - d)]).run Try.prog w = .ok (.int .i64 (m : Int)) w') ∧
      w'.heap[q]? = some (.cells (bcells (spl (bk f k) i ((b.drop d).take m))).toArray 61 (0, 0)) ∧ w.grownBy w' (some q) := by
  have hsl : ((b.drop d).take m).length = m := by rw [List.length_take, List.length_drop, hr.len]; omega
  have hcl : (bcells ((b.drop d).take m)).length = Nat.min (n - d) (16 - i) * 1 := by
    rw [bcells_length, hsl, hm, Nat.mul_one]
  refine ⟨w.setCells q i (bcells ((b.drop d).take m)), fun ty => ?_, ?_, setCells_grown _ _ _⟩
  · have h := run_copy_size (P := Try.prog) w 27 27 ty 5 q i (16 - i) (16 - i) ⟨A0, o + d, none⟩ (n - d) (c - d) 1 (bcells ((b.drop d).take m)) Try.underlying27 sizeB hcl (fun j v hv => by
      have hj : j < m := by
        have := (List.getElem?_eq_some_iff.1 hv).1
        rw [bcells_length, hsl] at this
        exact this
      have hbl : d + j < b.length := by rw [hr.len]; omega
      obtain ⟨A', o', e, hc⟩ := hr.cells (by omega)
      injection e with e
      injection e with e1 e2
      subst e1; subst e2
      rw [bcells_get, List.getElem?_take_of_lt hj, List.getElem?_drop, List.getElem?_eq_getElem hbl] at hv
      have := hc (d + j) hbl 0 _ rfl
      rw [Nat.mul_one, Nat.add_zero, ← Nat.add_assoc] at this
      rw [Go.WideShapes.add_plain, this]
      exact hv) (fun j hj => by
        rw [bcells_length, hsl] at hj
        rw [cell_of_row w q _ _ _ _ hq, Array.getElem?_eq_getElem (by rw [bv_size]; omega)]; rfl) (fun j hj => frozen_of_row w q _ _ _ hq) (bcells_one _)
    rw [h]
    have : Nat.min (n - d) (16 - i) = m := hm.symm
    rw [this]; rfl
  · have h := setCells_block (bcells ((b.drop d).take m)) i w (bv f k) hq (by rw [bcells_length, hsl, bv_size]; exact hi)
    rw [h, ← bcells_spl]
    rfl
/-- The cells of a block, one by one. -/
theorem bv16 (f : Byt) (k : Nat) : ∃ x0 x1 x2 x3 x4 x5 x6 x7 x8 x9 x10 x11 x12 x13 x14 x15 : Int, bv f k = #[.int .u8 x0, .int .u8 x1, .int .u8 x2, .int .u8 x3, .int .u8 x4, .int .u8 x5, .int .u8 x6, .int .u8 x7, .int .u8 x8, .int .u8 x9, .int .u8 x10, .int .u8 x11, .int .u8 x12, .int .u8 x13, .int .u8 x14, .int .u8 x15] :=
  ⟨((f (16 * k + 0)).toNat : Int), ((f (16 * k + 1)).toNat : Int), ((f (16 * k + 2)).toNat : Int), ((f (16 * k + 3)).toNat : Int), ((f (16 * k + 4)).toNat : Int), ((f (16 * k + 5)).toNat : Int), ((f (16 * k + 6)).toNat : Int), ((f (16 * k + 7)).toNat : Int), ((f (16 * k + 8)).toNat : Int), ((f (16 * k + 9)).toNat : Int), ((f (16 * k + 10)).toNat : Int), ((f (16 * k + 11)).toNat : Int), ((f (16 * k + 12)).toNat : Int), ((f (16 * k + 13)).toNat : Int), ((f (16 * k + 14)).toNat : Int), ((f (16 * k + 15)).toNat : Int), rfl⟩
set_option maxHeartbeats 4000000 in
theorem write_any {w : World} {B sp mb : Nat} {S : Sh} (h : SW w B sp mb S) (p : Int) (hp : p ≤ 9223372036854775807) {A : Option Addr} {n c : Nat} {b : List UInt8} (hr : Rd bcell 1 w A n b) (hc : n ≤ c) (hn : n ≤ 4611686018427387904) : Calls Try.prog 16 #[.pointer (some ⟨sp, 0, none⟩), .int .i64 p, .slice A n c] w (ChPost w B sp mb (wrI S p b) (.bool (ft p b.length))) := by
  have hlen := hr.len
  obtain ⟨r, hrr⟩ : ∃ r, ft p (n : Int) = r := ⟨_, rfl⟩
  have HF := Lib.hid (fits_any p (n : Int) hp w)
  rw [hrr] at HF
  cases r with
  | false =>
    have HE : Hid (ChPost w B sp mb (wrI S p b) (.bool (ft p b.length)) (.returned (.bool false)) w) := Lib.hid (by
      rw [hlen, hrr]
      unfold wrI
      rw [hlen, hrr]
      exact ⟨rfl, h, SK.refl⟩)
    clear h hr hlen hrr
    go_enter Try.func16, Try.ntmps16
    go_wp2_with fail
    refine HF.out.mono ?_
    rintro e w' ⟨rfl, rfl⟩
    go_wp2_with fail
    go_ret
    exact HE.out
  | true =>
    obtain ⟨f0, f1, f2⟩ := ft_iff.1 hrr
    obtain ⟨P, hP⟩ : ∃ P : Nat, p = (P : Int) := ⟨p.toNat, by omega⟩
    subst hP
    have hPn : P + n ≤ 1048576 := by omega
    have HPn := Lib.hid hPn
    have HS := Lib.hid h
    have HR := Lib.hid hr
    have HLEN := Lib.hid hlen
    have HG := Lib.hid h.good
    have HFT : Hid (ft (P : Int) b.length = true ∧ wrI S (P : Int) b = wr S P b) := Lib.hid (by
      unfold wrI
      rw [hlen, hrr]
      exact ⟨rfl, by simp⟩)
    clear f0 f1 f2 hrr hPn hlen h hr
    go_enter Try.func16, Try.ntmps16
    go_wp2_with fail
    refine HF.out.mono ?_
    rintro e w' ⟨rfl, rfl⟩
    go_wp2_with fail
    go_loopw [7] (fun i wr' => ∃ d : Nat, d ≤ n ∧ i = .int .i64 d ∧ Hid (MW wr' mb (wK S.K P d) (wF S.f P (b.take d))) ∧ Hid (SK w wr' sp mb) ∧ Hid (wr'.heap[sp]? = some (.cells #[.int .i64 (S.n : Int), .map (some mb)] 52 (0, 0)))) (fun i _ => n - (intOf i).toNat)
    case atStart => exact ⟨0, Nat.zero_le _, rfl, Lib.hid (by rw [wF_zero]; exact HS.out.map), Lib.hid SK.refl, Lib.hid HS.out.here⟩
    case round =>
      obtain ⟨d, hd, rfl, HM, HK, HH⟩ := hrel
      by_cases hlt : d < n
      · have hdi : (d : Int) < (n : Int) := by omega
        obtain ⟨x, hx⟩ : ∃ x, P + d = x := ⟨_, rfl⟩
        have hwx : IntKind.i64.wrap ((P : Int) + (d : Int)) = (x : Int) := by rw [IntKind.wrap_i64]; have := HPn.out; omega
        have HPC := Lib.hid (place_any x (by have := HPn.out; omega) wr)
        obtain ⟨k, hk⟩ : ∃ k, x / 16 = k := ⟨_, rfl⟩
        obtain ⟨i, hi⟩ : ∃ i, x % 16 = i := ⟨_, rfl⟩
        rw [hk, hi] at HPC
        obtain ⟨mm, hmm⟩ : ∃ mm, mm = min (n - d) (16 - i) := ⟨_, rfl⟩
        have hk6 : k < 65536 := by have := HPn.out; omega
        have e1 := cell_of HH.out (j := 1) rfl
        have hlook := (HM.out.look hk6).2
        obtain ⟨bvk, hbv⟩ : ∃ bb, bb = bv (wF S.f P (b.take d)) k := ⟨_, rfl⟩
        rw [← hbv] at hlook
        have HSZ : Hid ((Try.prog.info? 61).map (·.size) = some bvk.size) := Lib.hid (by rw [hbv, bv_size]; exact sizeK)
        have HZZ : Hid (Z16.size = bvk.size) := Lib.hid (by rw [hbv, bv_size]; rfl)
        have HON : Hid (bvk.all (·.oneCell') = true) := Lib.hid (by rw [hbv]; exact bv_one _ _)
        obtain ⟨q, hq⟩ : ∃ q, q = wr.heap.size := ⟨_, rfl⟩
        obtain ⟨w2, hw2⟩ : ∃ w2, w2 = wr.alloc (.cells bvk 61) := ⟨_, rfl⟩
        have hb2 : Below wr.heap.size wr w2 := by rw [hw2]; exact box_below wr _
        have hq2 : w2.drew.heap[q]? = some (.cells (bv (wF S.f P (b.take d)) k) 61 (0, 0)) := by rw [hw2, hq, hbv]; exact new_block wr _
        have hbd2 : Below wr.heap.size wr w2.drew := hb2.drew
        have hr2 : Rd bcell 1 w2.drew A n b := (HK.out.bytes HS.out HR.out).below hbd2
        obtain ⟨A0, o, hA, -⟩ := hr2.cells (by omega)
        subst hA
        obtain ⟨w3, hcp, hq3, hg3⟩ := copy_in (c := c) hr2 hq2 (d := d) (i := i) (m := mm) (by omega) hmm (by omega)
        have hlb : d + mm ≤ b.length := by rw [HLEN.out]; omega
        have hbk := bk_write (f := S.f) (p := P) (d := d) (m := mm) (b := b) hlb (by rw [hx, hi]; omega)
        have hbo := fun k' hk' => bk_write_other (f := S.f) (p := P) (d := d) (m := mm) (k := k') (b := b) hlb (by rw [hx, hi]; omega) hk'
        have hwk := wK_part HG.out.srt P d (m := mm) (by omega) (by rw [hx, hi]; omega)
        rw [hx] at hbk hbo hwk
        rw [hk] at hbk hbo hwk
        rw [hi] at hbk
        rw [← hbk] at hq3
        obtain ⟨y, hy⟩ : ∃ y, d + mm = y := ⟨_, rfl⟩
        rw [hy] at hq3 hbo hwk
        have hwd : IntKind.i64.wrap ((d : Int) + (mm : Int)) = (y : Int) := by rw [IntKind.wrap_i64]; have := HPn.out; omega
        have hqmb : q ≠ mb := HM.out.below hbd2 |>.ne_cells hq2
        have hqsp : q ≠ sp := by have := blk_lt HH.out; omega
        have hM3 : MW w3 mb (wK S.K P d) (wF S.f P (b.take d)) := (HM.out.below hbd2).gb hg3 hqmb
        have hh3 := gb_cells hg3 (Ne.symm hqsp) (blk_below HH.out hbd2)
        obtain ⟨w4, hup, hM4, hg4⟩ := (hM3.keep (w' := w3.drew) rfl).store hk6 hbo
        obtain ⟨x0, x1, x2, x3, x4, x5, x6, x7, x8, x9, x10, x11, x12, x13, x14, x15, hC⟩ := bv16 (wF S.f P (b.take y)) k
        change w3.heap[q]? = some (.cells (bv (wF S.f P (b.take y)) k) 61 (0, 0)) at hq3
        rw [hC] at hq3 hup
        have q0 := cell_of hq3 (j := 0) rfl
        have q1 := cell_of hq3 (j := 1) rfl
        have q2 := cell_of hq3 (j := 2) rfl
        have q3 := cell_of hq3 (j := 3) rfl
        have q4 := cell_of hq3 (j := 4) rfl
        have q5 := cell_of hq3 (j := 5) rfl
        have q6 := cell_of hq3 (j := 6) rfl
        have q7 := cell_of hq3 (j := 7) rfl
        have q8 := cell_of hq3 (j := 8) rfl
        have q9 := cell_of hq3 (j := 9) rfl
        have q10 := cell_of hq3 (j := 10) rfl
        have q11 := cell_of hq3 (j := 11) rfl
        have q12 := cell_of hq3 (j := 12) rfl
        have q13 := cell_of hq3 (j := 13) rfl
        have q14 := cell_of hq3 (j := 14) rfl
        have q15 := cell_of hq3 (j := 15) rfl
        have e3 : w3.cell? ⟨sp, 1, none⟩ = some (.map (some mb)) := cell_of hh3 (j := 1) rfl
        rw [← hwk] at hM4
        have HM4 := Lib.hid hM4
        have hk3 : SK w w3 sp mb := HK.out.trans ⟨hg3.os.trans hbd2.os, hg3.tape.trans hbd2.tape, hg3.output.trans hbd2.output, Nat.le_trans hbd2.size hg3.size, fun j hj _ _ => (hg3.block j (Nat.lt_of_lt_of_le hj hbd2.size) (by simp; omega)).trans (hbd2.block j hj)⟩
        have HK4 : Hid (SK w w4 sp mb) := Lib.hid (hk3.trans ((SK.of_below (Below.refl _ _).drew).trans (SK.gb_mb hg4)))
        have HH4 : Hid (w4.heap[sp]? = some (.cells #[.int .i64 (S.n : Int), .map (some mb)] 52 (0, 0))) := Lib.hid (gb_cells hg4 (hM3.ne_cells hh3) hh3)
        have hs1 := arr_from q i (by omega)
        have hs2 := bytes_from A0 o n c d hlt hc
        have HMM : Hid (y ≤ n ∧ d < y) := Lib.hid (by omega)
        have HW2 := Lib.hid hw2
        have HQ := Lib.hid hq
        clear hy hx hk hi hmm hbv hq hw2 hb2 hq2 hbd2 hr2 hq3 hg3 hlb hbk hbo hwk hqmb hqsp hM3 hh3 hM4 hg4 hk3 hd hC hk6
        go_wp2_with fail
        refine HPC.out.mono ?_
        rintro e w' ⟨rfl, rfl⟩
        go_wp2_with (first
          | (with_reducible refine wpList_allocK rfl rfl ?_)
          | ((with_reducible refine wpList_store_new rfl 61 (.tmp 10) (.tmp 32) rfl Z16 bvk ?_ ?_ HSZ.out HZZ.out HON.out ?_); rfl; rfl)
          | fail)
        rw [← HW2.out, ← HQ.out]
        go_region
        simp only [List.getElem_toArray, List.getElem_cons_succ, List.getElem_cons_zero, Act.put, List.setIfInBounds_toArray, List.set_cons_succ, List.set_cons_zero]
        go_wp2_with fail
        go_region
        (try simp only [List.getElem_toArray, List.getElem_cons_succ, List.getElem_cons_zero, Act.put, List.setIfInBounds_toArray, List.set_cons_succ, List.set_cons_zero])
        go_wp2_with fail
        go_roundw
        case rel => exact ⟨y, HMM.out.1, rfl, HM4, HK4, HH4⟩
        case measure => simp [intOf]; have := HMM.out; omega
      · obtain rfl : d = n := by omega
        have hdi : ¬ (d : Int) < (d : Int) := by omega
        have htk : b.take d = b := List.take_of_length_le (by rw [HLEN.out]; exact Nat.le_refl _)
        have hM := HM.out
        rw [htk] at hM
        by_cases h0 : d = 0
        · subst h0
          have hb0 : b.length = 0 := HLEN.out
          have HE : Hid (ChPost w B sp mb (wrI S (P : Int) b) (.bool (ft (P : Int) b.length)) (.returned (.bool true)) wr) := Lib.hid (by
            rw [HFT.out.1, HFT.out.2]
            refine ⟨rfl, ?_, HK.out⟩
            have e : Sg.wr S P b = S := by unfold Sg.wr; rw [if_pos hb0]
            rw [e]
            have hf : wF S.f P b = S.f := by funext j; unfold wF; rw [if_neg (by rw [hb0]; omega)]
            rw [hf] at hM
            exact ⟨HH.out, hM, HG.out, HS.out.gsp, HS.out.gmb⟩)
          clear hM htk hb0
          go_wp2_with fail
          go_ret
          exact HE.out
        · have h0' : (0 : Int) < (d : Int) := by omega
          obtain ⟨z, hz⟩ : ∃ z : Int, (S.n : Int) = z := ⟨_, rfl⟩
          have e0 := cell_of HH.out (j := 0) rfl
          have f0 := frozen_of_row wr sp 0 _ _ HH.out
          rw [hz] at e0
          obtain ⟨y, hy⟩ : ∃ y : Int, (P : Int) + (d : Int) = y := ⟨_, rfl⟩
          obtain ⟨t, ht⟩ : ∃ t : Int, max z y = t := ⟨_, rfl⟩
          have hwy : IntKind.i64.wrap ((P : Int) + (d : Int)) = y := by rw [IntKind.wrap_i64]; have := HPn.out; omega
          have hbn : ¬ b.length = 0 := by rw [HLEN.out]; exact h0
          have HE : Hid (ChPost w B sp mb (wrI S (P : Int) b) (.bool (ft (P : Int) b.length)) (.returned (.bool true)) (wr.setCell ⟨sp, 0, none⟩ (.int .i64 t))) := Lib.hid (by
            rw [HFT.out.1, HFT.out.2]
            have hg := good_wr HG.out (p := P) (b := b) (by rw [HLEN.out]; exact HPn.out)
            have hh := heap_setCell_same wr sp 0 _ 52 (.int .i64 t) HH.out
            have hwr : Wr sp wr (wr.setCell ⟨sp, 0, none⟩ (.int .i64 t)) := (Wr.refl sp wr).set 0 _
            have e : Sg.wr S P b = ⟨max S.n (P + b.length), wK S.K P b.length, wF S.f P b⟩ := by unfold Sg.wr; rw [if_neg hbn]
            have et : ((max S.n (P + b.length) : Nat) : Int) = t := by rw [HLEN.out]; omega
            rw [e] at hg ⊢
            refine ⟨rfl, ⟨?_, ?_, hg, HS.out.gsp, HS.out.gmb⟩, HK.out.trans (SK.gb_sp hwr.gb)⟩
            · show (wr.setCell ⟨sp, 0, none⟩ (.int .i64 t)).heap[sp]? = some (.cells #[.int .i64 ((max S.n (P + b.length) : Nat) : Int), .map (some mb)] 52 (0, 0))
              rw [et]; exact hh
            · have := hM.gb hwr.gb (hM.ne_cells HH.out)
              rw [← HLEN.out] at this
              exact this)
          clear hM htk hz hy hbn
          go_wp2_with fail
          go_ret
          exact HE.out
end Go.Proofs.Ytoallenigfbkpaa
