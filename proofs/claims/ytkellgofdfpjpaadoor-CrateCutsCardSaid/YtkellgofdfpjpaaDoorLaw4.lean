/-
  What the law CrateCuts returns of a slice of slices of bytes that read, and a number: true, and older memory is as it was. Condition: the table's cells hold what its initialiser lays.
-/
import Derived.Test.YtkellgofdfpjpaaDoorLaw3
namespace Go.Proofs.YtkellgofdfpjpaaDoor
open Go.ChangeShapes Go.WideShapes Go.ChangeAt Go.RowKit Go.Proofs.Crc

/-- Memory holds, from an address on, slices that read as these lists. -/
def LReads (w : World) (ad : Option Addr) (len : Nat) (ls : List (List Int)) : Prop :=
  ls.length = len ∧ (0 < len → ∃ b off, ad = some ⟨b, off, none⟩ ∧ ∀ i, i < len → ∃ A n c, w.cell? ⟨b, off + i, none⟩ = some (.slice A n c) ∧ Reads w A n (ls.getD i []))
theorem LReads.kept {w w' : World} {ad : Option Addr} {len : Nat} {ls : List (List Int)} (h : LReads w ad len ls) (hb : Below w.heap.size w w') : LReads w' ad len ls := by
  refine ⟨h.1, fun hl => ?_⟩
  obtain ⟨b, off, e, hc⟩ := h.2 hl
  refine ⟨b, off, e, fun i hi => ?_⟩
  obtain ⟨A, n, c, h1, h2⟩ := hc i hi
  exact ⟨A, n, c, (hb.cell (p := ⟨b, off + i, none⟩) (cell_lt h1)).trans h1, h2.kept hb⟩
theorem getD_of {l : List (List Int)} {i : Nat} (h : i < l.length) : l[i] = l.getD i [] := by
  rw [List.getD_eq_getElem?_getD, List.getElem?_eq_getElem h]; rfl
theorem LReads.bys {w : World} {ad : Option Addr} {len : Nat} {ls : List (List Int)} (h : LReads w ad len ls) : ∀ x ∈ ls, Bys x := by
  intro x hx
  obtain ⟨i, hi, rfl⟩ := List.mem_iff_getElem.1 hx
  obtain ⟨b, off, _, hc⟩ := h.2 (by have := h.1; omega)
  obtain ⟨A, n, c, _, h2⟩ := hc i (by have := h.1; omega)
  rw [getD_of hi]
  exact h2.bys
theorem cat_take {ls : List (List Int)} {k : Nat} (hk : k < ls.length) : cat (ls.take (k + 1)) = cat (ls.take k) ++ crt (ls.getD k []) := by
  rw [List.take_succ_eq_append_getElem hk, cat_snoc, getD_of hk]
theorem cat_mono (ls : List (List Int)) {j k : Nat} (h : j ≤ k) : (cat (ls.take j)).length ≤ (cat (ls.take k)).length := by
  have e : ls.take k = (ls.take k).take j ++ (ls.take k).drop j := (List.take_append_drop j _).symm
  rw [List.take_take, Nat.min_eq_left h] at e
  rw [e]
  have : cat (ls.take j ++ (ls.take k).drop j) = cat (ls.take j) ++ cat ((ls.take k).drop j) := List.flatMap_append
  rw [this, List.length_append]; omega
/-- What the loop over the bodies keeps. -/
def CRel (w : World) (len : Nat) (ls : List (List Int)) (cut : Int) (vb vw ve vi : Value) (wr : World) : Prop :=
  ∃ k n wh en : Nat, k ≤ len ∧ vi = .int .i64 k ∧ vw = .int .i64 wh ∧ ve = .int .i64 en ∧ n = (cat (ls.take k)).length ∧ n ≤ 4108 * k ∧ wr.ownsRow w.heap.size 5 1 vb n ((cat (ls.take k)).map (Value.int .u8)) ∧ Below w.heap.size w wr ∧
    (∀ x ∈ ls.take k, x.length ≤ 4096) ∧ wh ≤ k ∧ en = (cat (ls.take wh)).length ∧ ((en : Int) ≤ cut ∨ wh = 0) ∧ (wh < k → cut < ((cat (ls.take (wh + 1))).length : Int))
theorem crel_start (w : World) (len : Nat) (ls : List (List Int)) (cut : Int) : CRel w len ls cut (.slice none 0 0) (.int .i64 0) (.int .i64 0) (.int .i64 0) w :=
  ⟨0, 0, 0, 0, by omega, rfl, rfl, rfl, rfl, by omega, World.ownsRow_nil _ _ _ _, Below.refl _ _, fun _ h => by simp at h, Nat.le_refl _, rfl, .inr rfl, fun h => absurd h (by omega)⟩
theorem crel_next {w w1 : World} {len k n m wh en : Nat} {ls : List (List Int)} {cut : Int} {x : List Int} {v1 : Value} (hl : ls.length = len) (hk : k < len) (hx : x = ls.getD k []) (hx4 : x.length ≤ 4096) (hm : m = x.length + 12)
    (hn : n = (cat (ls.take k)).length) (hn4 : n ≤ 4108 * k) (hall : ∀ y ∈ ls.take k, y.length ≤ 4096) (hwk : wh ≤ k) (hen : en = (cat (ls.take wh)).length) (hc1 : (en : Int) ≤ cut ∨ wh = 0) (hc2 : wh < k → cut < ((cat (ls.take (wh + 1))).length : Int))
    (h1 : w1.ownsRow w.heap.size 5 1 v1 (n + m) ((cat (ls.take k) ++ crt x).map (Value.int .u8))) (h2 : Below w.heap.size w w1) :
    (((n + m : Nat) : Int) ≤ cut → CRel w len ls cut v1 (.int .i64 ((wh : Int) + 1)) (.int .i64 ((n + m : Nat) : Int)) (.int .i64 ((k : Int) + 1)) w1) ∧
      (¬ ((n + m : Nat) : Int) ≤ cut → CRel w len ls cut v1 (.int .i64 (wh : Int)) (.int .i64 (en : Int)) (.int .i64 ((k : Int) + 1)) w1) := by
  have hcat := cat_take (ls := ls) (k := k) (by omega)
  rw [← hx] at hcat
  have hlen : n + m = (cat (ls.take (k + 1))).length := by rw [hcat, List.length_append, crt_length, hn, hm]
  have hall' : ∀ y ∈ ls.take (k + 1), y.length ≤ 4096 := fun y hy => by
    rw [List.take_succ_eq_append_getElem (by omega)] at hy
    rcases List.mem_append.1 hy with hy | hy
    · exact hall y hy
    · rcases List.mem_singleton.1 hy with rfl
      rw [getD_of (by omega), ← hx]; exact hx4
  rw [← hcat] at h1
  constructor
  · intro hle
    obtain rfl : wh = k := by
      rcases Nat.lt_or_ge wh k with h | h
      · have h3 := hc2 h
        have h4 := cat_mono ls (show wh + 1 ≤ k + 1 by omega)
        omega
      · omega
    exact ⟨wh + 1, n + m, wh + 1, n + m, by omega, by go_num, by go_num, rfl, hlen, by omega, h1, h2, hall', Nat.le_refl _, hlen, .inl hle, fun h => absurd h (by omega)⟩
  · intro hgt
    refine ⟨k + 1, n + m, wh, en, by omega, by go_num, rfl, rfl, hlen, by omega, h1, h2, hall', by omega, hen, hc1, fun _ => ?_⟩
    rcases Nat.lt_or_ge wh k with h | h
    · exact hc2 h
    · obtain rfl : wh = k := by omega
      omega
theorem put_good4 {w w' : World} {x : List Int} {e : Ending} (hx : x.length ≤ 4096) (h : PutPost w x e w') : ∃ (A : Option Addr) (c : Nat), e = .returned (.tuple #[.slice A (x.length + 12) c, .int .i64 0]) ∧ Reads w' A (x.length + 12) (crt x) ∧ Below w.heap.size w w' := by
  obtain ⟨A, n, c, rfl, h1, -, -, hb⟩ := h
  have e1 : putE x = 0 := by unfold putE; rw [if_pos hx]
  have e2 : putB x = crt x := by unfold putB; rw [if_pos hx]
  rw [e2] at h1
  obtain rfl : n = x.length + 12 := by rw [← h1.1, crt_length]
  exact ⟨A, c, by rw [e1], h1, hb⟩
theorem put_bad4 {w w' : World} {x : List Int} {e : Ending} (hx : ¬ x.length ≤ 4096) (h : PutPost w x e w') : ∃ (A : Option Addr) (n c : Nat), e = .returned (.tuple #[.slice A n c, .int .i64 31]) ∧ Below w.heap.size w w' := by
  obtain ⟨A, n, c, rfl, -, -, -, hb⟩ := h
  have e1 : putE x = 31 := by unfold putE; rw [if_neg hx]
  exact ⟨A, n, c, by rw [e1], hb⟩
/-- What Split leaves of the bodies' crates, cut off. -/
theorem split_cut {w w' : World} {ls : List (List Int)} {cut wh : Nat} {e : Ending} (hB : ∀ x ∈ ls, Bys x) (hl : ∀ x ∈ ls, x.length ≤ 4096) (hw : wh ≤ ls.length) (h1 : (cat (ls.take wh)).length ≤ cut) (h2 : wh < ls.length → cut < (cat (ls.take (wh + 1))).length) (hc : cut ≤ (cat ls).length)
    (h : SplitPost w ((cat ls).take cut) e w') : ∃ (v : Value) (xs : List El), e = .returned (.tuple #[v, .int .i64 ((cut - (cat (ls.take wh)).length : Nat) : Int), .int .i64 0]) ∧ xs.map (·.2.2) = ls.take wh ∧ Held w' w.heap.size w.heap.size v xs ∧ Below w.heap.size w w' := by
  obtain ⟨v, xs, r, er, rfl, hcr, hg, hh, hb⟩ := h
  obtain ⟨r', hcr', hg', hr'⟩ := cr_cut hB hl hw h1 h2 hc
  obtain ⟨hxs, rfl⟩ := hcr.one hg hcr' hg'
  rw [hg'] at hg
  injection hg with hg
  subst hg
  exact ⟨v, xs, by rw [if_pos rfl, hr'], hxs, hh, hb⟩
theorem cuts_many (ad : Option Addr) (len cap : Nat) (cut : Int) (w : World) (hT : Table w) (h : 50 < len) :
    Calls Tryd.prog 6 #[.slice ad len cap, .int .i64 cut] w fun e w' => e = .returned (.bool true) ∧ Below w.heap.size w w' := by
  have HT := Lib.hid hT
  have h1 : (50 : Int) < (len : Int) := by omega
  clear hT h
  go_enter Tryd.func6, Tryd.ntmps6
  go_wp2_with fail
  refine (alive_any w HT.out).mono ?_
  rintro e w2 ⟨rfl, hb2⟩
  go_wp2
  go_ret
  exact ⟨rfl, hb2⟩
set_option maxRecDepth 100000 in
set_option maxHeartbeats 2000000 in
theorem law_cuts (ad : Option Addr) (len cap : Nat) (ls : List (List Int)) (cut : Int) (w : World) (hR : LReads w ad len ls) (hT : Table w) :
    Calls Tryd.prog 6 #[.slice ad len cap, .int .i64 cut] w fun e w' => e = .returned (.bool true) ∧ Below w.heap.size w w' := by
  by_cases h50 : 50 < len
  · exact cuts_many ad len cap cut w hT h50
  have HT := Lib.hid hT
  have HR := Lib.hid hR
  have HL := Lib.hid hR.1
  have HBY := Lib.hid hR.bys
  obtain ⟨i0, hi, hz0, hz1, hz2⟩ := info_parts info5
  have g50 : ¬ (50 : Int) < (len : Int) := by omega
  have l50 : len ≤ 50 := by omega
  clear hT hR h50
  go_enter Tryd.func6, Tryd.ntmps6
  go_wp2
  go_loopw [5, 6, 7, 22] (fun vb vw ve vi wr => CRel w len ls cut vb vw ve vi wr) (fun _ _ _ i _ => len - (intOf i).toNat)
  case atStart => exact crel_start w len ls cut
  case round =>
    obtain ⟨k, n, wh, en, hk, rfl, rfl, rfl, hn, hn4, ho, hb, hall, hwk, hen, hc1, hc2⟩ := hrel
    have HN := Lib.hid hn
    have HO := Lib.hid ho
    have HB := Lib.hid hb
    have HALL := Lib.hid hall
    have HEN := Lib.hid hen
    have HC1 := Lib.hid hc1
    have HC2 := Lib.hid hc2
    clear hn ho hb hall hen hc1 hc2
    by_cases hlt : k < len
    · obtain ⟨b, off, rfl, hcell⟩ := (HR.out.kept HB.out).2 (by omega)
      obtain ⟨A, m, c, hx, hrx⟩ := hcell k hlt
      obtain ⟨x, hxx⟩ : ∃ x, x = ls.getD k [] := ⟨_, rfl⟩
      rw [← hxx] at hrx
      have HXX := Lib.hid hxx
      have HRX := Lib.hid hrx
      have hk0 : (0 : Int) ≤ (k : Int) := by omega
      have hk1 : (k : Int) < (len : Int) := by omega
      have hw0 : (wh : Int) ≤ 50 := by omega
      clear hcell hxx hrx
      go_wp2_with fail
      refine (put_any A m c x wr HRX.out (HT.out.kept HB.out)).mono ?_
      intro e w1 hp
      by_cases hx4 : x.length ≤ 4096
      · obtain ⟨A1, c1, rfl, hr1, hb1⟩ := put_good4 hx4 hp
        have HR1 := Lib.hid hr1
        have HX := Lib.hid (row_below HB.out HO.out hb1)
        have hsz := HX.out.2.size
        have hn5 : n ≤ 1048576 := by omega
        obtain ⟨mm, hmm⟩ : ∃ mm, mm = x.length + 12 := ⟨_, rfl⟩
        have HMM := Lib.hid hmm
        rw [← hmm] at HR1 ⊢
        have hm5 : mm ≤ 140737488355328 := by omega
        have hm6 : mm ≤ 4108 := by omega
        clear hp hr1 hb1 hmm
        by_cases hit : (n : Int) + (mm : Int) ≤ cut
        · go_wp2_with (at_builtin; refine wpList_append_wide rfl (.tmp 34) (.tmp 35) rfl w.heap.size i0 hi hz0 hz1 hz2 u5 n ((cat (ls.take k)).map (Value.int .u8)) rfl HX.out.1 A1 mm c1 (crt x) rfl HR1.out hn5 hm5 hsz ?_; intro v2 w2 h5 h6; have HY := Lib.hid (row_bytes HX.out.2 HX.out.1 h5 h6); obtain ⟨A2, c2, rfl, -, -, -⟩ := own_reads HY.out.1 (bys_append (cat_bys (fun y hy => HBY.out y (List.mem_of_mem_take hy))) (crt_bys HRX.out.bys)); have HZ := Lib.hid (crel_next HL.out hlt HXX.out hx4 HMM.out HN.out hn4 HALL.out hwk HEN.out HC1.out HC2.out HY.out.1 HY.out.2); clear h5 h6)
          go_roundw
          case rel => exact HZ.out.1 (by omega)
          case measure => simp [intOf]; omega
        · go_wp2_with (at_builtin; refine wpList_append_wide rfl (.tmp 34) (.tmp 35) rfl w.heap.size i0 hi hz0 hz1 hz2 u5 n ((cat (ls.take k)).map (Value.int .u8)) rfl HX.out.1 A1 mm c1 (crt x) rfl HR1.out hn5 hm5 hsz ?_; intro v2 w2 h5 h6; have HY := Lib.hid (row_bytes HX.out.2 HX.out.1 h5 h6); obtain ⟨A2, c2, rfl, -, -, -⟩ := own_reads HY.out.1 (bys_append (cat_bys (fun y hy => HBY.out y (List.mem_of_mem_take hy))) (crt_bys HRX.out.bys)); have HZ := Lib.hid (crel_next HL.out hlt HXX.out hx4 HMM.out HN.out hn4 HALL.out hwk HEN.out HC1.out HC2.out HY.out.1 HY.out.2); clear h5 h6)
          go_roundw
          case rel => exact HZ.out.2 (by omega)
          case measure => simp [intOf]; omega
      · obtain ⟨A1, m1, c1, rfl, hb1⟩ := put_bad4 hx4 hp
        have HB1 := Lib.hid (HB.out.trans (hb1.mono HB.out.size))
        clear hp hb1
        go_wp2_with fail
        refine (alive_any w1 (HT.out.kept HB1.out)).mono ?_
        rintro e w2 ⟨rfl, hb2⟩
        have HB2 := Lib.hid (HB1.out.trans (hb2.mono HB1.out.size))
        clear hb2
        go_wp2
        go_ret
        exact ⟨rfl, HB2.out⟩
    · obtain rfl : len = k := by omega
      have hall : ∀ x ∈ ls, x.length ≤ 4096 := by have := HALL.out; rwa [List.take_of_length_le (by rw [HL.out]; exact Nat.le_refl _)] at this
      have hnn : n = (cat ls).length := by have := HN.out; rwa [List.take_of_length_le (by rw [HL.out]; exact Nat.le_refl _)] at this
      have ho : wr.ownsRow w.heap.size 5 1 u5 n ((cat ls).map (Value.int .u8)) := by have := HO.out; rwa [List.take_of_length_le (by rw [HL.out]; exact Nat.le_refl _)] at this
      obtain ⟨A, c, rfl, hr, hc, hcm⟩ := own_reads ho (cat_bys HBY.out)
      have HRD := Lib.hid hr
      have HA := Lib.hid hall
      have HNN := Lib.hid hnn
      have hk205 : n ≤ 205400 := by omega
      clear hall hnn ho hr hlt
      by_cases hneg : cut < 0
      · go_wp2_with fail
        refine (alive_any wr (HT.out.kept HB.out)).mono ?_
        rintro e w2 ⟨rfl, hb2⟩
        have HB2 := Lib.hid (HB.out.trans (hb2.mono HB.out.size))
        clear hb2
        go_wp2
        go_ret
        exact ⟨rfl, HB2.out⟩
      by_cases hbig : (n : Int) < cut
      · go_wp2_with fail
        refine (alive_any wr (HT.out.kept HB.out)).mono ?_
        rintro e w2 ⟨rfl, hb2⟩
        have HB2 := Lib.hid (HB.out.trans (hb2.mono HB.out.size))
        clear hb2
        go_wp2
        go_ret
        exact ⟨rfl, HB2.out⟩
      obtain ⟨m, rfl⟩ : ∃ m : Nat, cut = (m : Int) := ⟨cut.toNat, by omega⟩
      have hmn : m ≤ n := by omega
      obtain ⟨A', c', hsl, hr', hc1', hc2'⟩ := sub_to HRD.out hc m hmn
      have hen : en ≤ m := by
        rcases HC1.out with h | h
        · omega
        · have := HEN.out
          subst h
          have e0 : (cat (ls.take 0)).length = 0 := rfl
          omega
      have HSP := Lib.hid (split_any A' m c' ((cat ls).take m) wr hr' (HT.out.kept HB.out) hc1' (by unfold maxLen at hcm; omega) (by omega))
      have HSC : Hid (∀ {e : Ending} {w' : World}, SplitPost wr ((cat ls).take m) e w' → ∃ (v : Value) (xs : List El), e = .returned (.tuple #[v, .int .i64 ((m - (cat (ls.take wh)).length : Nat) : Int), .int .i64 0]) ∧ xs.map (·.2.2) = ls.take wh ∧ Held w' wr.heap.size wr.heap.size v xs ∧ Below wr.heap.size wr w') := Lib.hid (fun h =>
        split_cut HBY.out HA.out (by rw [HL.out]; exact hwk) (by rw [← HEN.out]; exact hen) (fun hh => by have := HC2.out (by rw [HL.out] at hh; exact hh); omega) (by rw [← HNN.out]; exact hmn) h)
      clear hr' hc1' hc2'
      go_wp2_with fail
      refine HSP.out.mono ?_
      intro e w5 hsp
      obtain ⟨v, xs, rfl, hxs, hh, hb5⟩ := HSC.out hsp
      rw [← HEN.out]
      have hlw : xs.length = wh := by
        have := congrArg List.length hxs
        rw [List.length_map, List.length_take, HL.out] at this
        omega
      have hrow : w5.ownsRow wr.heap.size 22 1 v wh (xs.map (·.1)) := by rw [← hlw]; exact hh.1
      obtain ⟨B5, c5, rfl, hcells⟩ := row_slice hrow
      have HCE := Lib.hid hcells
      have HB5 := Lib.hid (HB.out.trans (hb5.mono HB.out.size))
      have HH5 := Lib.hid hh
      have HXS := Lib.hid hxs
      have HLW := Lib.hid hlw
      have HT5 := Lib.hid (HT.out.kept HB5.out)
      have HR5 := Lib.hid (HR.out.kept HB5.out)
      have hsub : ((m - en : Nat) : Int) = (m : Int) - (en : Int) := by omega
      rw [hsub]
      have hw0 : (wh : Int) ≤ 50 := by omega
      have hm0 : (m : Int) ≤ 205400 := by omega
      have he0 : (en : Int) ≤ (m : Int) := by omega
      clear hsp hxs hh hb5 hrow hcells hlw hsub
      go_wp2
      go_loopw [80] (fun i wr' => ∃ k q : Nat, k ≤ wh ∧ i = .int .i64 k ∧ wr' = w5.drewN q) (fun i _ => wh - (intOf i).toNat)
      case atStart => exact ⟨0, 0, by omega, rfl, rfl⟩
      case round =>
        obtain ⟨k, q, hk, rfl, rfl⟩ := hrel
        by_cases hlt : k < wh
        · obtain ⟨A1, n1, c1, -, r1, e1⟩ := held_at HH5.out (by rw [HXS.out]; exact fun b hb => HBY.out b (List.mem_of_mem_take hb)) k (by rw [HLW.out]; exact hlt)
          obtain ⟨b5, rfl, f5⟩ := HCE.out (by omega)
          obtain ⟨b, off, rfl, g5⟩ := HR5.out.2 (by omega)
          obtain ⟨A2, n2, c2, x2, r2⟩ := g5 k (by omega)
          have x1 := f5 k _ e1
          have hb : (xs[k]'(by rw [HLW.out]; exact hlt)).2.2 = ls.getD k [] := by
            have h := congrArg (fun l => l[k]?) HXS.out
            simp only [List.getElem?_map, List.getElem?_take, if_pos hlt, List.getElem?_eq_getElem (show k < xs.length by rw [HLW.out]; exact hlt), List.getElem?_eq_getElem (show k < ls.length by rw [HL.out]; omega), Option.map_some, Option.some.injEq] at h
            rw [← getD_of (by rw [HL.out]; omega)]
            exact h
          rw [hb] at r1
          obtain ⟨S, hS⟩ : ∃ S, S = strOfNums (ls.getD k []) := ⟨_, rfl⟩
          have d1' : ∀ j : Nat, (convert 22 9 (.slice A1 n1 c1)).run Tryd.prog (w5.drewN j) = .ok (.string S) (w5.drewN j) := fun j => by rw [hS]; exact conv_reads (r1.drewN j)
          have d2' : ∀ j : Nat, (convert 22 9 (.slice A2 n2 c2)).run Tryd.prog (w5.drewN j) = .ok (.string S) (w5.drewN j) := fun j => by rw [hS]; exact conv_reads (r2.drewN j)
          have d1'' : ∀ i j : Nat, (convert 22 9 (.slice A1 n1 c1)).run Tryd.prog ((w5.drewN i).drewN j) = .ok (.string S) ((w5.drewN i).drewN j) := fun i j => by rw [World.drewN_drewN]; exact d1' _
          have d2'' : ∀ i j : Nat, (convert 22 9 (.slice A2 n2 c2)).run Tryd.prog ((w5.drewN i).drewN j) = .ok (.string S) ((w5.drewN i).drewN j) := fun i j => by rw [World.drewN_drewN]; exact d2' _
          have hk0 : (0 : Int) ≤ (k : Int) := by omega
          have hk1 : (k : Int) < (wh : Int) := by omega
          have hk2 : (k : Int) < (len : Int) := by omega
          clear e1 r1 r2 f5 g5 hS hb
          go_wp2
          go_quiet (fail)
          go_wp2
          go_roundw
          case rel => exact ⟨k + 1, _, by omega, by go_num, rfl⟩
          case measure => simp [intOf]; omega
        · obtain rfl : wh = k := by omega
          go_wp2_with fail
          refine (alive_any _ (HT5.out.drewN q)).mono ?_
          rintro e w9 ⟨rfl, hb9⟩
          have HB9 := Lib.hid ((below_drewN HB5.out q).trans (hb9.mono (below_drewN HB5.out q).size))
          clear hb9
          go_wp2
          go_ret
          exact ⟨rfl, HB9.out⟩
end Go.Proofs.YtkellgofdfpjpaaDoor
