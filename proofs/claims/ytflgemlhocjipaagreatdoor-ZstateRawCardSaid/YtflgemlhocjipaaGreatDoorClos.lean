/-
  What the closures childOf and Owned hand over, and rising, return. Condition: the tree is good.
-/
import Derived.Test.YtflgemlhocjipaaGreatDoorRows8
import Derived.Test.YtflgemlhocjipaaGreatDoorIter
import Derived.Sort.OwnSorted
namespace Go.Proofs.YtflgemlhocjipaaGreatDoor
set_option maxRecDepth 100000
open Go.ChangeShapes Go.WideShapes Go.ChangeAt Go.RowKit Go.Proofs.Zn Go.Proofs.Zt

def isKid (P : Txt) (z : Nd) : Bool := parentOk z.path && (parent z.path == P)
theorem parent_pre {l : Txt} (h : parentOk l = true) : parent l <+: l := by
  obtain ⟨ps, b, h1, h2, h3, h4, h5, h6⟩ := parent_names h
  have hj : joinP (ps ++ [b]) = flat ps ++ (47 :: b) := by
    unfold joinP
    rw [if_neg (by simp), flat_append]
    simp [flat]
  rw [h3, ← h5, hj]
  by_cases e : ps = []
  · subst e; exact ⟨b, rfl⟩
  · have e2 : joinP ps = flat ps := by unfold joinP; rw [if_neg e]
    rw [e2]; exact ⟨47 :: b, rfl⟩
theorem kid_pre {P : Txt} {z : Nd} (h : Lib.hasPrefix z.path P = false) : isKid P z = false := by
  unfold isKid
  cases hp : parentOk z.path
  · rfl
  · cases he : parent z.path == P
    · rfl
    · exfalso
      have e : parent z.path = P := by simpa using he
      have hpre := parent_pre hp
      rw [e] at hpre
      have : Lib.hasPrefix z.path P = true := by unfold Lib.hasPrefix; simpa using hpre
      rw [this] at h; cases h
set_option maxHeartbeats 1000000 in
theorem childOf1_any (z : Nd) (P : Txt) (W : World) (cb : Nat) (hcb : W.heap[cb]? = some (.cells #[.string (B P)] 9 (0, 0))) (hz : z.path.length ≤ 488) :
    Calls Tryz.prog 176 #[.agg #[.string (B z.path), .string (B z.data), .int .i64 z.cr, .int .i64 z.ch, .int .i64 z.kd, .int .i64 z.ver, .int .i64 z.ks, .int .i64 z.own, .int .i64 z.nx], .pointer (some ⟨cb, 0, none⟩)] W fun e w' => e = .returned (.bool (isKid P z)) ∧ Below W.heap.size W w' := by
  obtain ⟨w1, hw1⟩ : ∃ w1, w1 = W.alloc (.cells #[.string (B z.path), .string (B z.data), .int .i64 z.cr, .int .i64 z.ch, .int .i64 z.kd, .int .i64 z.ver, .int .i64 z.ks, .int .i64 z.own, .int .i64 z.nx] 132) := ⟨_, rfl⟩
  obtain ⟨q, eq⟩ : ∃ q, q = W.heap.size := ⟨_, rfl⟩
  have hb1 : Below W.heap.size W w1 := by rw [hw1]; exact box_below W _
  have hq : w1.heap[q]? = some (.cells #[.string (B z.path), .string (B z.data), .int .i64 z.cr, .int .i64 z.ch, .int .i64 z.kd, .int .i64 z.ver, .int .i64 z.ks, .int .i64 z.own, .int .i64 z.nx] 132 (0, 0)) := by rw [hw1, eq]; exact new_block W _
  have hc1 := blk_below hcb hb1
  have HF := Lib.hid (strings_HasPrefix (B z.path) (B P))
  have HP := Lib.hid (parent_any (B z.path) w1 (by rw [B_size]; omega))
  simp only [LB] at HP
  have q0 := cell_of hq (j := 0) rfl
  have c0 := cell_of hc1 (j := 0) rfl
  obtain ⟨b, hb⟩ : ∃ b, Lib.hasPrefix z.path P = b := ⟨_, rfl⟩
  have HFB : Hid (Lib.hasPrefix (B z.path).data.toList (B P).data.toList = b) := Lib.hid (by simpa using hb)
  rw [HFB.out] at HF
  have HB := Lib.hid hb
  have HW1 := Lib.hid hw1
  have EQ := Lib.hid eq
  have HB1 := Lib.hid hb1
  have HC1 := Lib.hid hc1
  clear hcb hz hw1 eq hb1 hq hc1 hb
  go_enter Tryz.func176, Tryz.ntmps176
  go_upto_region 1 with fail
  rw [← HW1.out, ← EQ.out]
  go_wp2_with fail
  refine (HF.out _).mono ?_
  rintro e w2 ⟨rfl, rfl⟩
  cases b with
  | false =>
    have HE := Lib.hid (kid_pre HB.out)
    go_wp2_with fail
    go_ret
    exact ⟨ret_b HE.out.symm, HB1.out⟩
  | true =>
    go_wp2_with fail
    refine HP.out.mono ?_
    rintro e w3 ⟨rfl, hb3⟩
    have c3 := cell_of (blk_below HC1.out hb3) (j := 0) rfl
    have HB3 := Lib.hid (HB1.out.trans (hb3.mono HB1.out.size))
    obtain ⟨po, hpo⟩ : ∃ b, parentOk z.path = b := ⟨_, rfl⟩
    obtain ⟨u, hu⟩ : ∃ u, parent z.path = u := ⟨_, rfl⟩
    obtain ⟨t, ht⟩ : ∃ b, (u == P) = b := ⟨_, rfl⟩
    have HT : Hid (((B u).toList == (B P).toList) = t) := Lib.hid (by rw [toL, toL, LB, LB]; exact ht)
    have ht' := HT.out
    have HE : Hid (isKid P z = (po && t)) := Lib.hid (by unfold isKid; rw [hpo, hu, ht])
    rw [hpo, hu]
    clear hb3 c0 q0 hpo hu
    cases po with
    | false =>
      clear ht ht'
      go_wp2_with fail
      go_ret
      exact ⟨ret_b HE.out.symm, HB3.out⟩
    | true =>
      go_wp2_with fail
      go_ret
      exact ⟨ret_b HE.out.symm, HB3.out⟩
def isOwn (s : Int) (z : Nd) : Bool := decide (s ≠ 0) && decide (z.own = s)
set_option maxHeartbeats 1000000 in
theorem Owned1_any (z : Nd) (s : Int) (W : World) (cb : Nat) (hcb : W.heap[cb]? = some (.cells #[.int .i64 s] 3 (0, 0))) :
    Calls Tryz.prog 179 #[.agg #[.string (B z.path), .string (B z.data), .int .i64 z.cr, .int .i64 z.ch, .int .i64 z.kd, .int .i64 z.ver, .int .i64 z.ks, .int .i64 z.own, .int .i64 z.nx], .pointer (some ⟨cb, 0, none⟩)] W fun e w' => e = .returned (.bool (isOwn s z)) ∧ Below W.heap.size W w' := by
  obtain ⟨w1, hw1⟩ : ∃ w1, w1 = W.alloc (.cells #[.string (B z.path), .string (B z.data), .int .i64 z.cr, .int .i64 z.ch, .int .i64 z.kd, .int .i64 z.ver, .int .i64 z.ks, .int .i64 z.own, .int .i64 z.nx] 132) := ⟨_, rfl⟩
  obtain ⟨q, eq⟩ : ∃ q, q = W.heap.size := ⟨_, rfl⟩
  have hb1 : Below W.heap.size W w1 := by rw [hw1]; exact box_below W _
  have hq : w1.heap[q]? = some (.cells #[.string (B z.path), .string (B z.data), .int .i64 z.cr, .int .i64 z.ch, .int .i64 z.kd, .int .i64 z.ver, .int .i64 z.ks, .int .i64 z.own, .int .i64 z.nx] 132 (0, 0)) := by rw [hw1, eq]; exact new_block W _
  have hc1 := blk_below hcb hb1
  have q7 := cell_of hq (j := 7) rfl
  have q7 := cell_of hq (j := 7) rfl
  have c0 := cell_of hc1 (j := 0) rfl
  have HW1 := Lib.hid hw1
  have EQ := Lib.hid eq
  have HB1 := Lib.hid hb1
  obtain ⟨t1, ht1⟩ : ∃ b, (s != 0) = b := ⟨_, rfl⟩
  obtain ⟨t2, ht2⟩ : ∃ b, (z.own == s) = b := ⟨_, rfl⟩
  have HE : Hid (isOwn s z = (t1 && t2)) := Lib.hid (by
    unfold isOwn
    rw [← ht1, ← ht2]
    by_cases h1 : s = 0 <;> by_cases h2 : z.own = s <;> simp [h1, h2])
  clear hcb hw1 eq hb1 hq hc1
  go_enter Tryz.func179, Tryz.ntmps179
  go_upto_region 1 with fail
  rw [← HW1.out, ← EQ.out]
  cases t1 with
  | false =>
    go_wp2_with fail
    go_ret
    exact ⟨ret_b HE.out.symm, HB1.out⟩
  | true =>
    go_wp2_with fail
    go_ret
    exact ⟨ret_b HE.out.symm, HB1.out⟩

/-! ### rising -/
def mkNd (z : Nd) : Value := .agg #[.string (B z.path), .string (B z.data), .int .i64 z.cr, .int .i64 z.ch, .int .i64 z.kd, .int .i64 z.ver, .int .i64 z.ks, .int .i64 z.own, .int .i64 z.nx]
theorem ndR_shape (v : Value) (y : DataW Nd × List MemPlace) (h : ndR v = some y) : ∃ c, v = mkNd c := by
  rcases hz : ndOf v with _ | z
  · unfold ndR at h; rw [hz] at h; cases h
  · exact ⟨z, (ndR_inv (v := v) (z := z) (ps := []) (by unfold ndR; rw [hz]; rfl)).1⟩
theorem ndR_val {c : Nd} {y : DataW Nd × List MemPlace} (h : ndR (mkNd c) = some y) : y.1 = .held c := by
  have := (ndR_mk c).symm.trans h
  exact (congrArg Prod.fst (Option.some.inj this)).symm
theorem key_shape (key : Value) (kl : Lit) (h : keyOf Tryz.prog 9 key = some kl) : ∃ x, key = encStr x := by
  obtain ⟨x, hx, _⟩ := Maps.keyOf_str Tryz.underlying9 h
  exact ⟨x, hx⟩
theorem at_get {T : Tr} {x : Txt} {c : Nd} {y : DataW Nd × List MemPlace} (h : ∀ zd, (Dm T).atKey (.string x) zd = y.1) (hc : ndR (mkNd c) = some y) : get T x = some c := by
  have h1 := Go.Maps.has_true_of_atKey h
  rw [dm_has] at h1
  obtain ⟨z, hz⟩ := Option.isSome_iff_exists.1 h1
  have h2 := h (.held nd0)
  rw [dm_at, hz, ndR_val hc] at h2
  injection h2 with h2
  rw [hz]; exact congrArg some h2
theorem scells_enc (l : List Txt) : l.map encStr = scells l := by rw [scells_map]
def RiPost (f : Nd → Bool) (T : Tr) (w : World) (e : Ending) (w' : World) : Prop :=
  ∃ v, e = .returned v ∧ w'.ownsRow w.heap.size 9 1 v (sel f T).length (scells (paths (sel f T))) ∧ Below w.heap.size w w'
set_option maxHeartbeats 4000000 in
theorem risingK {w : World} {tp mb : Nat} {T : Tr} (h : TreeW w tp mb T) (hg : Zt.Good T) (P : Txt) (cb : Nat) (hcb : w.heap[cb]? = some (.cells #[.string (B P)] 9 (0, 0))) :
    Calls Tryz.prog 150 #[.pointer (some ⟨tp, 0, none⟩), .func (.func 176) #[] #[.pointer (some ⟨cb, 0, none⟩)]] w (RiPost (isKid P) T w) := by
  obtain ⟨i0, hi, hz0, hz1, hz2⟩ := info_parts infoS
  have HT := Lib.hid h
  have HG := Lib.hid hg
  have HCB := Lib.hid hcb
  have hmbl := h.map.lt
  have hown : w.ownsMap Tryz.prog 9 ndR mb T.length (Dm T) := h.map
  have d0 := cell_of h.here (j := 0) rfl
  have hlt := h.lt
  clear h hg hcb
  go_enter Tryz.func150, Tryz.ntmps150
  go_wp2_with (first
    | (at_range; refine wpList_range_own _ rfl _ 153 rfl 9 132 law9 Tryz.underlying153 ndR mb T.length _ rfl hown ?_; intro w0 hrg0 hg0 hs0)
    | fail)
  go_frame
  go_loopw [5] (fun v wr => ∃ (left : Lit → Bool) (cnt : Nat) (ss : List Txt), wr.ranges Tryz.prog 9 ndR mb w.heap.size T.length (Dm T) left cnt ∧ wr.ownsRow w.heap.size 9 1 v ss.length (ss.map encStr) ∧ Hid (Col (isKid P) T left ss) ∧ Hid (Below w.heap.size w wr)) (fun _ wr => wr.rangeLeft mb w.heap.size)
  case atStart =>
    exact ⟨_, _, [], hrg0, ⟨rfl, .inl ⟨rfl, rfl⟩⟩, Lib.hid (Col.start _ T), Lib.hid ((Below.refl _ _).grown hg0 (Nat.le_refl _) (fun j hj => by cases hj))⟩
  case round =>
    obtain ⟨left, cnt, ss, hrg, hrow, HC, HX⟩ := hrel
    have hs1 := HX.out.size
    clear hrg0 hg0 hs0 d0 hown hlt
    go_wp2_with (first
      | (at_next; refine wpList_next_ranges _ rfl _ rfl 9 law9 ndR encStr mkNd key_shape ndR_shape mb w.heap.size T.length _ _ _ rfl hrg ?_ ?_)
      | fail)
    · intro hc0 hl0
      have HE : Hid (ss.mergeSort (fun x y => decide (x ≤ y)) = paths (sel (isKid P) T)) := Lib.hid (HC.out.end HG.out.srt (fun p => hl0 _))
      have hlen : ss.length ≤ 200 := Nat.le_trans HC.out.length_le HG.out.len
      have HLS : Hid (ss.length = (sel (isKid P) T).length) := Lib.hid (by have := congrArg List.length HE.out; rw [List.length_mergeSort] at this; rw [this]; unfold paths; rw [List.length_map])
      have HROW := Lib.hid hrow
      rcases hrow.2 with ⟨hnil, hn0⟩ | ⟨g, cap, cur, rfl, hbase, hb, h1, h2, h3, h4⟩
      · subst hnil
        have hsc := AnyM.slices_Sort_string_none sort130 none 0 wr
        change Calls Tryz.prog 130 _ _ _ at hsc
        have HS := Lib.hid hsc
        clear hsc
        have HN : Hid (sel (isKid P) T = []) := Lib.hid (List.eq_nil_of_length_eq_zero (by rw [← HLS.out]; exact hn0))
        clear hrg hrow hc0 hl0 hn0
        go_wp2_with (go_at_call 130; (with_reducible refine HS.out.mono ?_); rintro e w' ⟨rfl, rfl⟩)
        go_ret
        exact ⟨_, rfl, by rw [HN.out]; exact ⟨rfl, .inl ⟨rfl, rfl⟩⟩, HX.out⟩
      · have hH : Go.Sort.Holds encStr wr g 0 ss.toArray := holds_of_block hb (by simpa using h4)
        have hgl : g < wr.heap.size := (Array.getElem?_eq_some_iff.1 hb).1
        have hsc := AnyM.slices_Sort_string sort130 g 0 cap ss wr hH hgl (by omega)
        change Calls Tryz.prog 130 _ _ _ at hsc
        have HS := Lib.hid hsc
        clear hsc
        have HO : Hid (∀ n os, (Go.Sort.grow (Go.Sort.putRow encStr (Go.Sort.ahead wr n) g 0 (ss.mergeSort fun x y => decide (x ≤ y)).toArray) os).ownsRow w.heap.size 9 1 (.slice (some ⟨g, 0, none⟩) ss.length cap) ss.length ((ss.mergeSort fun x y => decide (x ≤ y)).map encStr)) := Lib.hid (fun n os => ownsRow_sorted (by simp) hbase hb h1 h2 h3)
        have HBG : Hid (w.heap.size ≤ g) := Lib.hid hbase
        clear hrg hrow hc0 hl0 hH hgl hb h4 h3 h2 h1 hbase
        go_wp2_with (go_at_call 130; (with_reducible refine HS.out.mono ?_); rintro e w' ⟨rfl, nn, os, rfl⟩)
        go_ret
        have HO' := HO.out nn os
        rw [HE.out, scells_enc, HLS.out] at HO'
        exact ⟨_, by rw [HLS.out], by rw [HE.out]; exact HO', HX.out.grown (grownBy_sorted _) HX.out.size (fun j hj => by cases hj; exact HBG.out)⟩
    · intro x c kl yd yp w2 cnt2 hkey hlk hv hat hrg2 hlt hg2 hs2 hen
      obtain ⟨x', ex, rfl, hxl⟩ := Maps.keyOf_str Tryz.underlying9 hkey
      obtain rfl : x = x' := encStr_inj ex
      have hget := at_get (y := (yd, yp)) hat hv
      have HGET := Lib.hid hget
      have hrow2 := hrow.kept hg2 (Or.inr (row_ne_iter hrow hrg).symm)
      have hX2 := HX.out.grown hg2 HX.out.size (fun j hj => by cases hj; exact Nat.le_refl _)
      have hcb2 : w2.heap[cb]? = some (.cells #[.string (B P)] 9 (0, 0)) := (hX2.block cb (blk_lt HCB.out)).trans HCB.out
      obtain ⟨w3, hw3⟩ : ∃ w3, w3 = w2.alloc (.cells #[.string (B c.path), .string (B c.data), .int .i64 c.cr, .int .i64 c.ch, .int .i64 c.kd, .int .i64 c.ver, .int .i64 c.ks, .int .i64 c.own, .int .i64 c.nx] 132) := ⟨_, rfl⟩
      obtain ⟨q, eq⟩ : ∃ q, q = w2.heap.size := ⟨_, rfl⟩
      have hb3 : Below w2.heap.size w2 w3 := by rw [hw3]; exact box_below w2 _
      have hq3 : w3.heap[q]? = some (.cells #[.string (B c.path), .string (B c.data), .int .i64 c.cr, .int .i64 c.ch, .int .i64 c.kd, .int .i64 c.ver, .int .i64 c.ks, .int .i64 c.own, .int .i64 c.nx] 132 (0, 0)) := by rw [hw3, eq]; exact new_block w2 _
      have HCL := Lib.hid (childOf1_any c P w3 cb (blk_below hcb2 hb3) (len_le (HG.out.each c (get_some hget).1).path))
      have HB3 := Lib.hid (hX2.trans (hb3.mono hX2.size))
      have HR3 : Hid (w3.ranges Tryz.prog 9 ndR mb w.heap.size T.length (Dm T) (fun z => left z && !z.sameKey (.string x)) cnt2) := Lib.hid (by rw [hw3]; exact hrg2.alloc _)
      have HROW3 := Lib.hid (own_below hrow2 hb3)
      have HLT := Lib.hid hlt
      have HLK := Lib.hid hlk
      have HRG := Lib.hid hrg
      have HW3 := Lib.hid hw3
      have EQ := Lib.hid eq
      unfold mkNd encStr at hen
      have q0 := cell_of hq3 (j := 0) rfl
      have q1 := cell_of hq3 (j := 1) rfl
      have q2 := cell_of hq3 (j := 2) rfl
      have q3 := cell_of hq3 (j := 3) rfl
      have q4 := cell_of hq3 (j := 4) rfl
      have q5 := cell_of hq3 (j := 5) rfl
      have q6 := cell_of hq3 (j := 6) rfl
      have q7 := cell_of hq3 (j := 7) rfl
      have q8 := cell_of hq3 (j := 8) rfl
      clear hkey hlk hv hat hrg2 hlt hg2 hs2 ex hxl hget hrow2 hX2 hcb2 hw3 eq hb3 hq3 hrg hrow hs1
      go_upto_region 5 with fail
      rw [← HW3.out, ← EQ.out]
      go_wp2_with fail
      refine HCL.out.mono ?_
      rintro e w4 ⟨rfl, hb4⟩
      have HB4 := Lib.hid (HB3.out.trans (hb4.mono HB3.out.size))
      have HR4 : Hid (w4.ranges Tryz.prog 9 ndR mb w.heap.size T.length (Dm T) (fun z => left z && !z.sameKey (.string x)) cnt2) := Lib.hid (HR3.out.kept (gb_below hb4 none) (by simp) (by simp))
      have HROW4 := Lib.hid (own_below HROW3.out hb4)
      obtain ⟨b, hbb⟩ : ∃ b, (isKid P) c = b := ⟨_, rfl⟩
      rw [hbb]
      have HBB := Lib.hid hbb
      clear hbb hb4 hen q0 q1 q2 q3 q4 q5 q6 q7 q8
      cases b with
      | false =>
        go_wp2_with fail
        have hrel4 := HR4.out
        have hmeas : w4.rangeLeft mb w.heap.size < wr.rangeLeft mb w.heap.size := by rw [hrel4.left_eq, HRG.out.left_eq]; exact HLT.out
        have HME := Lib.hid hmeas
        clear hrel4 hmeas
        go_roundw
        case rel => exact ⟨_, cnt2, ss, HR4.out, HROW4.out, Lib.hid (HC.out.miss HGET.out HBB.out), HB4⟩
        case measure => exact HME.out
      | true =>
        have hlen : ss.length ≤ 200 := Nat.le_trans HC.out.length_le HG.out.len
        have hrow4 := HROW4.out
        have hsz4 := HB4.out.size
        go_wp2_with (at_builtin; refine wpList_append_own _ rfl _ _ 40 rfl w.heap.size 9 i0 (.string ⟨#[]⟩) 1 16 Tryz.underlying40 hi hz0 hz1 hz2 rfl (by decide) _ _ _ rfl (hrow4.alloc _) ⟨w4.heap.size, 0, none⟩ 1 1 [encStr x] rfl rfl (cell_one_new _ _ _) (by simp [Value.oneCell', encStr]) (by unfold maxLen at *; omega) (by omega) (by simp; omega) ?_; intro v' w5 hown' hg5 hnil5)
        have hrg5 := (HR4.out.alloc _).kept hg5 (row_ne_low hrow4 hmbl) (row_ne_iter hrow4 HR4.out)
        have hB5 := (HB4.out.alloc hsz4 _).grown hg5 (by simp; omega) (fun j hj => (hrow4.lt j hj).1)
        have HM : Hid (w5.rangeLeft mb w.heap.size < wr.rangeLeft mb w.heap.size) := Lib.hid (by rw [hrg5.left_eq, HRG.out.left_eq]; exact HLT.out)
        have HR5 := Lib.hid hrg5
        have HB5 := Lib.hid hB5
        have HO5 := Lib.hid hown'
        clear hrg5 hB5 hown' hg5 hnil5 hrow4
        go_roundw
        case rel => exact ⟨_, cnt2, ss ++ [x], HR5.out, by simpa using HO5.out, Lib.hid (HC.out.hit HLK.out HGET.out HBB.out), HB5⟩
        case measure => exact HM.out
set_option maxHeartbeats 4000000 in
theorem risingO {w : World} {tp mb : Nat} {T : Tr} (h : TreeW w tp mb T) (hg : Zt.Good T) (s : Int) (cb : Nat) (hcb : w.heap[cb]? = some (.cells #[.int .i64 s] 3 (0, 0))) :
    Calls Tryz.prog 150 #[.pointer (some ⟨tp, 0, none⟩), .func (.func 179) #[] #[.pointer (some ⟨cb, 0, none⟩)]] w (RiPost (isOwn s) T w) := by
  obtain ⟨i0, hi, hz0, hz1, hz2⟩ := info_parts infoS
  have HT := Lib.hid h
  have HG := Lib.hid hg
  have HCB := Lib.hid hcb
  have hmbl := h.map.lt
  have hown : w.ownsMap Tryz.prog 9 ndR mb T.length (Dm T) := h.map
  have d0 := cell_of h.here (j := 0) rfl
  have hlt := h.lt
  clear h hg hcb
  go_enter Tryz.func150, Tryz.ntmps150
  go_wp2_with (first
    | (at_range; refine wpList_range_own _ rfl _ 153 rfl 9 132 law9 Tryz.underlying153 ndR mb T.length _ rfl hown ?_; intro w0 hrg0 hg0 hs0)
    | fail)
  go_frame
  go_loopw [5] (fun v wr => ∃ (left : Lit → Bool) (cnt : Nat) (ss : List Txt), wr.ranges Tryz.prog 9 ndR mb w.heap.size T.length (Dm T) left cnt ∧ wr.ownsRow w.heap.size 9 1 v ss.length (ss.map encStr) ∧ Hid (Col (isOwn s) T left ss) ∧ Hid (Below w.heap.size w wr)) (fun _ wr => wr.rangeLeft mb w.heap.size)
  case atStart =>
    exact ⟨_, _, [], hrg0, ⟨rfl, .inl ⟨rfl, rfl⟩⟩, Lib.hid (Col.start _ T), Lib.hid ((Below.refl _ _).grown hg0 (Nat.le_refl _) (fun j hj => by cases hj))⟩
  case round =>
    obtain ⟨left, cnt, ss, hrg, hrow, HC, HX⟩ := hrel
    have hs1 := HX.out.size
    clear hrg0 hg0 hs0 d0 hown hlt
    go_wp2_with (first
      | (at_next; refine wpList_next_ranges _ rfl _ rfl 9 law9 ndR encStr mkNd key_shape ndR_shape mb w.heap.size T.length _ _ _ rfl hrg ?_ ?_)
      | fail)
    · intro hc0 hl0
      have HE : Hid (ss.mergeSort (fun x y => decide (x ≤ y)) = paths (sel (isOwn s) T)) := Lib.hid (HC.out.end HG.out.srt (fun p => hl0 _))
      have hlen : ss.length ≤ 200 := Nat.le_trans HC.out.length_le HG.out.len
      have HLS : Hid (ss.length = (sel (isOwn s) T).length) := Lib.hid (by have := congrArg List.length HE.out; rw [List.length_mergeSort] at this; rw [this]; unfold paths; rw [List.length_map])
      have HROW := Lib.hid hrow
      rcases hrow.2 with ⟨hnil, hn0⟩ | ⟨g, cap, cur, rfl, hbase, hb, h1, h2, h3, h4⟩
      · subst hnil
        have hsc := AnyM.slices_Sort_string_none sort130 none 0 wr
        change Calls Tryz.prog 130 _ _ _ at hsc
        have HS := Lib.hid hsc
        clear hsc
        have HN : Hid (sel (isOwn s) T = []) := Lib.hid (List.eq_nil_of_length_eq_zero (by rw [← HLS.out]; exact hn0))
        clear hrg hrow hc0 hl0 hn0
        go_wp2_with (go_at_call 130; (with_reducible refine HS.out.mono ?_); rintro e w' ⟨rfl, rfl⟩)
        go_ret
        exact ⟨_, rfl, by rw [HN.out]; exact ⟨rfl, .inl ⟨rfl, rfl⟩⟩, HX.out⟩
      · have hH : Go.Sort.Holds encStr wr g 0 ss.toArray := holds_of_block hb (by simpa using h4)
        have hgl : g < wr.heap.size := (Array.getElem?_eq_some_iff.1 hb).1
        have hsc := AnyM.slices_Sort_string sort130 g 0 cap ss wr hH hgl (by omega)
        change Calls Tryz.prog 130 _ _ _ at hsc
        have HS := Lib.hid hsc
        clear hsc
        have HO : Hid (∀ n os, (Go.Sort.grow (Go.Sort.putRow encStr (Go.Sort.ahead wr n) g 0 (ss.mergeSort fun x y => decide (x ≤ y)).toArray) os).ownsRow w.heap.size 9 1 (.slice (some ⟨g, 0, none⟩) ss.length cap) ss.length ((ss.mergeSort fun x y => decide (x ≤ y)).map encStr)) := Lib.hid (fun n os => ownsRow_sorted (by simp) hbase hb h1 h2 h3)
        have HBG : Hid (w.heap.size ≤ g) := Lib.hid hbase
        clear hrg hrow hc0 hl0 hH hgl hb h4 h3 h2 h1 hbase
        go_wp2_with (go_at_call 130; (with_reducible refine HS.out.mono ?_); rintro e w' ⟨rfl, nn, os, rfl⟩)
        go_ret
        have HO' := HO.out nn os
        rw [HE.out, scells_enc, HLS.out] at HO'
        exact ⟨_, by rw [HLS.out], by rw [HE.out]; exact HO', HX.out.grown (grownBy_sorted _) HX.out.size (fun j hj => by cases hj; exact HBG.out)⟩
    · intro x c kl yd yp w2 cnt2 hkey hlk hv hat hrg2 hlt hg2 hs2 hen
      obtain ⟨x', ex, rfl, hxl⟩ := Maps.keyOf_str Tryz.underlying9 hkey
      obtain rfl : x = x' := encStr_inj ex
      have hget := at_get (y := (yd, yp)) hat hv
      have HGET := Lib.hid hget
      have hrow2 := hrow.kept hg2 (Or.inr (row_ne_iter hrow hrg).symm)
      have hX2 := HX.out.grown hg2 HX.out.size (fun j hj => by cases hj; exact Nat.le_refl _)
      have hcb2 : w2.heap[cb]? = some (.cells #[.int .i64 s] 3 (0, 0)) := (hX2.block cb (blk_lt HCB.out)).trans HCB.out
      obtain ⟨w3, hw3⟩ : ∃ w3, w3 = w2.alloc (.cells #[.string (B c.path), .string (B c.data), .int .i64 c.cr, .int .i64 c.ch, .int .i64 c.kd, .int .i64 c.ver, .int .i64 c.ks, .int .i64 c.own, .int .i64 c.nx] 132) := ⟨_, rfl⟩
      obtain ⟨q, eq⟩ : ∃ q, q = w2.heap.size := ⟨_, rfl⟩
      have hb3 : Below w2.heap.size w2 w3 := by rw [hw3]; exact box_below w2 _
      have hq3 : w3.heap[q]? = some (.cells #[.string (B c.path), .string (B c.data), .int .i64 c.cr, .int .i64 c.ch, .int .i64 c.kd, .int .i64 c.ver, .int .i64 c.ks, .int .i64 c.own, .int .i64 c.nx] 132 (0, 0)) := by rw [hw3, eq]; exact new_block w2 _
      have HCL := Lib.hid (Owned1_any c s w3 cb (blk_below hcb2 hb3))
      have HB3 := Lib.hid (hX2.trans (hb3.mono hX2.size))
      have HR3 : Hid (w3.ranges Tryz.prog 9 ndR mb w.heap.size T.length (Dm T) (fun z => left z && !z.sameKey (.string x)) cnt2) := Lib.hid (by rw [hw3]; exact hrg2.alloc _)
      have HROW3 := Lib.hid (own_below hrow2 hb3)
      have HLT := Lib.hid hlt
      have HLK := Lib.hid hlk
      have HRG := Lib.hid hrg
      have HW3 := Lib.hid hw3
      have EQ := Lib.hid eq
      unfold mkNd encStr at hen
      have q0 := cell_of hq3 (j := 0) rfl
      have q1 := cell_of hq3 (j := 1) rfl
      have q2 := cell_of hq3 (j := 2) rfl
      have q3 := cell_of hq3 (j := 3) rfl
      have q4 := cell_of hq3 (j := 4) rfl
      have q5 := cell_of hq3 (j := 5) rfl
      have q6 := cell_of hq3 (j := 6) rfl
      have q7 := cell_of hq3 (j := 7) rfl
      have q8 := cell_of hq3 (j := 8) rfl
      clear hkey hlk hv hat hrg2 hlt hg2 hs2 ex hxl hget hrow2 hX2 hcb2 hw3 eq hb3 hq3 hrg hrow hs1
      go_upto_region 5 with fail
      rw [← HW3.out, ← EQ.out]
      go_wp2_with fail
      refine HCL.out.mono ?_
      rintro e w4 ⟨rfl, hb4⟩
      have HB4 := Lib.hid (HB3.out.trans (hb4.mono HB3.out.size))
      have HR4 : Hid (w4.ranges Tryz.prog 9 ndR mb w.heap.size T.length (Dm T) (fun z => left z && !z.sameKey (.string x)) cnt2) := Lib.hid (HR3.out.kept (gb_below hb4 none) (by simp) (by simp))
      have HROW4 := Lib.hid (own_below HROW3.out hb4)
      obtain ⟨b, hbb⟩ : ∃ b, (isOwn s) c = b := ⟨_, rfl⟩
      rw [hbb]
      have HBB := Lib.hid hbb
      clear hbb hb4 hen q0 q1 q2 q3 q4 q5 q6 q7 q8
      cases b with
      | false =>
        go_wp2_with fail
        have hrel4 := HR4.out
        have hmeas : w4.rangeLeft mb w.heap.size < wr.rangeLeft mb w.heap.size := by rw [hrel4.left_eq, HRG.out.left_eq]; exact HLT.out
        have HME := Lib.hid hmeas
        clear hrel4 hmeas
        go_roundw
        case rel => exact ⟨_, cnt2, ss, HR4.out, HROW4.out, Lib.hid (HC.out.miss HGET.out HBB.out), HB4⟩
        case measure => exact HME.out
      | true =>
        have hlen : ss.length ≤ 200 := Nat.le_trans HC.out.length_le HG.out.len
        have hrow4 := HROW4.out
        have hsz4 := HB4.out.size
        go_wp2_with (at_builtin; refine wpList_append_own _ rfl _ _ 40 rfl w.heap.size 9 i0 (.string ⟨#[]⟩) 1 16 Tryz.underlying40 hi hz0 hz1 hz2 rfl (by decide) _ _ _ rfl (hrow4.alloc _) ⟨w4.heap.size, 0, none⟩ 1 1 [encStr x] rfl rfl (cell_one_new _ _ _) (by simp [Value.oneCell', encStr]) (by unfold maxLen at *; omega) (by omega) (by simp; omega) ?_; intro v' w5 hown' hg5 hnil5)
        have hrg5 := (HR4.out.alloc _).kept hg5 (row_ne_low hrow4 hmbl) (row_ne_iter hrow4 HR4.out)
        have hB5 := (HB4.out.alloc hsz4 _).grown hg5 (by simp; omega) (fun j hj => (hrow4.lt j hj).1)
        have HM : Hid (w5.rangeLeft mb w.heap.size < wr.rangeLeft mb w.heap.size) := Lib.hid (by rw [hrg5.left_eq, HRG.out.left_eq]; exact HLT.out)
        have HR5 := Lib.hid hrg5
        have HB5 := Lib.hid hB5
        have HO5 := Lib.hid hown'
        clear hrg5 hB5 hown' hg5 hnil5 hrow4
        go_roundw
        case rel => exact ⟨_, cnt2, ss ++ [x], HR5.out, by simpa using HO5.out, Lib.hid (HC.out.hit HLK.out HGET.out HBB.out), HB5⟩
        case measure => exact HM.out
end Go.Proofs.YtflgemlhocjipaaGreatDoor
