/-
  What the document's own Get, without and with return. Condition: the list is not long.
  What the document's own with returns. Condition: the list is not long.
  What the document's own Open, Renew and Close return. Condition: the list is a table.
-/
import Derived.Test.YtflgemlhocjipaaGreatDoorLGet
namespace Go.Proofs.YtflgemlhocjipaaGreatDoor.Lq
set_option maxRecDepth 100000
open Go.ChangeShapes Go.WideShapes Go.ChangeAt Go.RowKit Go.Proofs.Le

def RgPost (w : World) (T : Tb) (id : Int) (e : Ending) (w' : World) : Prop := e = .returned (.tuple #[.agg #[.int .i64 (fnd T id).i, .int .i64 (fnd T id).s, .int .i64 (fnd T id).l], .bool (has T id).isSome]) ∧ Below w.heap.size w w'
theorem rget_bodies {fn : Func} {p t : Tmp} (h : fn.results = #[.cell p 82, .tmp t]) (tmps : Array Value) (w : World) (q : Nat) (f : Ls) (b : Bool) (hp : tmps.getD p undef = .pointer (some ⟨q, 0, none⟩)) (ht : tmps.getD t undef = .bool b) (hq : w.heap[q]? = some (.cells #[.int .i64 f.i, .int .i64 f.s, .int .i64 f.l] 82 (0, 0))) :
    (results fn tmps).run Tryz.prog w = .ok (.tuple #[.agg #[.int .i64 f.i, .int .i64 f.s, .int .i64 f.l], .bool b]) w := by
  have hp' : tmps[p]?.getD undef = .pointer (some ⟨q, 0, none⟩) := by simpa using hp
  have ht' : tmps[t]?.getD undef = .bool b := by simpa using ht
  have c0 := cell_of hq (j := 0) rfl
  have c1 := cell_of hq (j := 1) rfl
  have c2 := cell_of hq (j := 2) rfl
  simp [results, h, hp', ht', asAddr, go_sem, c0, c1, c2]
theorem set_three {w : World} {q : Nat} {a b c : Value} (f : Ls) (hq : w.heap[q]? = some (.cells #[a, b, c] 82 (0, 0))) : (((w.setCell ⟨q, 0, none⟩ (.int .i64 f.i)).setCell ⟨q, 1, none⟩ (.int .i64 f.s)).setCell ⟨q, 2, none⟩ (.int .i64 f.l)).heap[q]? = some (.cells #[.int .i64 f.i, .int .i64 f.s, .int .i64 f.l] 82 (0, 0)) := by
  have h := heap_setCell_same _ q 2 _ 82 (.int .i64 f.l) (heap_setCell_same _ q 1 _ 82 (.int .i64 f.s) (heap_setCell_same w q 0 _ 82 (.int .i64 f.i) hq))
  exact h
set_option maxHeartbeats 4000000 in
theorem rget_any {w : World} {A : Option Addr} {n c : Nat} {T : Tb} (hR : Rd lcell 3 w A n T) (hn : n ≤ 100000) (id : Int) : Calls Tryz.prog 72 #[.slice A n c, .int .i64 id] w (RgPost w T id) := by
  obtain ⟨w1, hw1⟩ : ∃ w1, w1 = w.alloc (.cells #[.int .i64 0, .int .i64 0, .int .i64 0] 82) := ⟨_, rfl⟩
  obtain ⟨q, eq⟩ : ∃ q, q = w.heap.size := ⟨_, rfl⟩
  have hb1 : Below w.heap.size w w1 := by rw [hw1]; exact box_below w _
  have hq : w1.heap[q]? = some (.cells #[.int .i64 0, .int .i64 0, .int .i64 0] 82 (0, 0)) := by rw [hw1, eq]; exact new_block w _
  have HR := Lib.hid (hR.below hb1)
  have HL := Lib.hid hR.len
  have HW1 := Lib.hid hw1
  have EQ := Lib.hid eq
  have HB1 := Lib.hid hb1
  have HQ := Lib.hid hq
  have hsq : w.heap.size ≤ q := by omega
  have q0 := cell_of hq (j := 0) rfl
  have q1 := cell_of hq (j := 1) rfl
  have q2 := cell_of hq (j := 2) rfl
  have f0 := frozen_of_row w1 q 0 _ _ hq
  have f1 := frozen_of_row w1 q 1 _ _ hq
  have f2 := frozen_of_row w1 q 2 _ _ hq
  clear hR hw1 eq hb1 hq
  go_enter Tryz.func72, Tryz.ntmps72
  go_upto_region 1 with fail
  rw [← HW1.out, ← EQ.out]
  go_wp2_with fail
  go_loopw [6] (fun i wr => ∃ k : Nat, k ≤ n ∧ i = .int .i64 k ∧ Hid (∀ y ∈ T.take k, y.i ≠ id) ∧ wr = w1) (fun i _ => n - (intOf i).toNat)
  case atStart => exact ⟨0, Nat.zero_le _, rfl, Lib.hid (fun y hy => by simp at hy), rfl⟩
  case round =>
    obtain ⟨k, hk, rfl, HNO, rfl⟩ := hrel
    by_cases hlt : k < n
    · obtain ⟨b, off, x, rfl, hx, hcc⟩ := HR.out.at hlt
      have c0 : wr.cell? ⟨b, off + k * 3, none⟩ = some (.int .i64 x.i) := hcc 0 _ rfl
      have c1 : wr.cell? ⟨b, off + k * 3 + 1, none⟩ = some (.int .i64 x.s) := hcc 1 _ rfl
      have c2 : wr.cell? ⟨b, off + k * 3 + 2, none⟩ = some (.int .i64 x.l) := hcc 2 _ rfl
      have hk0 : (0 : Int) ≤ (k : Int) := by omega
      have hki : (k : Int) < (n : Int) := by omega
      have hwk : IntKind.i64.wrap ((k : Int) + 1) = (k : Int) + 1 := by rw [IntKind.wrap_i64]; omega
      have HTK := Lib.hid (take_some hx)
      have HX := Lib.hid hx
      clear hx hcc
      by_cases he : x.i = id
      · have he' : (x.i == id) = true := by simpa using he
        have HH : Hid (has T id = some x) := Lib.hid (by
          have h1 : T = T.take k ++ x :: T.drop (k + 1) := by
            obtain ⟨hk', h2⟩ := List.getElem?_eq_some_iff.1 HX.out
            rw [← h2, List.getElem_cons_drop, List.take_append_drop]
          unfold has
          rw [h1, List.find?_append, List.find?_eq_none.2 (fun y hy e => HNO.out y hy (by simpa using e)), List.find?_cons_of_pos (by simpa using he)]
          rfl)
        obtain ⟨w4, hw4⟩ : ∃ w4, w4 = (((wr.setCell ⟨q, 0, none⟩ (.int .i64 x.i)).setCell ⟨q, 1, none⟩ (.int .i64 x.s)).setCell ⟨q, 2, none⟩ (.int .i64 x.l)) := ⟨_, rfl⟩
        have hq4 : w4.heap[q]? = some (.cells #[.int .i64 x.i, .int .i64 x.s, .int .i64 x.l] 82 (0, 0)) := by rw [hw4]; exact set_three x HQ.out
        have hb4 : Below w.heap.size w w4 := by rw [hw4]; exact ((HB1.out.setCell hsq _).setCell hsq _).setCell hsq _
        have HB4 := Lib.hid hb4
        have HQ4 := Lib.hid hq4
        have HW4 := Lib.hid hw4
        clear he hw4 hq4 hb4
        go_wp2_with fail
        rw [← HW4.out]
        refine bodyPost_ret (rget_bodies rfl _ _ q x true rfl rfl HQ4.out) rfl ⟨?_, HB4.out⟩
        rw [fnd_some HH.out, HH.out]; rfl
      · have he' : (x.i == id) = false := by simpa using he
        have HNO2 : Hid (∀ y ∈ T.take (k + 1), y.i ≠ id) := Lib.hid (fun y hy => by
          rw [HTK.out] at hy
          rcases List.mem_append.1 hy with hy | hy
          · exact HNO.out y hy
          · rcases List.mem_singleton.1 hy with rfl; exact he)
        clear he
        go_wp2_with fail
        go_roundw
        case rel => exact ⟨k + 1, by omega, by go_num, HNO2, trivial⟩
        case measure => simp [intOf]; omega
    · obtain rfl : k = n := by omega
      have hki : ¬ (k : Int) < (k : Int) := by omega
      have HH : Hid (has T id = none) := Lib.hid (has_none.2 (by
        have h := HNO.out
        rw [List.take_of_length_le (by rw [HL.out]; exact Nat.le_refl _)] at h
        exact h))
      obtain ⟨w4, hw4⟩ : ∃ w4, w4 = (((wr.setCell ⟨q, 0, none⟩ (.int .i64 0)).setCell ⟨q, 1, none⟩ (.int .i64 0)).setCell ⟨q, 2, none⟩ (.int .i64 0)) := ⟨_, rfl⟩
      have hq4 : w4.heap[q]? = some (.cells #[.int .i64 z0.i, .int .i64 z0.s, .int .i64 z0.l] 82 (0, 0)) := by rw [hw4]; exact set_three z0 HQ.out
      have hb4 : Below w.heap.size w w4 := by rw [hw4]; exact ((HB1.out.setCell hsq _).setCell hsq _).setCell hsq _
      have HB4 := Lib.hid hb4
      have HQ4 := Lib.hid hq4
      have HW4 := Lib.hid hw4
      clear hw4 hq4 hb4
      go_wp2_with fail
      rw [← HW4.out]
      refine bodyPost_ret (rget_bodies rfl _ _ q z0 false rfl rfl HQ4.out) rfl ⟨?_, HB4.out⟩
      rw [fnd_none HH.out, HH.out]; rfl
/-! ### without -/
def RlPost (w : World) (M : Tb) (e : Ending) (w' : World) : Prop := ∃ A c, e = .returned (.slice A M.length c) ∧ w'.ownsRow w.heap.size 82 3 (.slice A M.length c) M.length (lcells M) ∧ Below w.heap.size w w'
def wout (T : Tb) (id : Int) : Tb := T.filter (fun y => !(y.i == id))
theorem wout_snoc (T : Tb) (x : Ls) (id : Int) : wout (T ++ [x]) id = wout T id ++ (if (x.i != id) = true then [x] else []) := by
  unfold wout
  rw [List.filter_append]
  cases h : x.i == id <;> simp [h, bne]
theorem wout_len (T : Tb) (id : Int) : (wout T id).length ≤ T.length := List.length_filter_le _ _
set_option maxHeartbeats 4000000 in
theorem rwithout_any {w : World} {A : Option Addr} {n c : Nat} {T : Tb} (hR : Rd lcell 3 w A n T) (hn : n ≤ 2000) (id : Int) : Calls Tryz.prog 144 #[.slice A n c, .int .i64 id] w (RlPost w (wout T id)) := by
  have HR := Lib.hid hR
  have HL := Lib.hid hR.len
  have hn2 : (n : Int) ≤ 2000 := by omega
  obtain ⟨i0, hi, hz0, hz1, hz2⟩ := info_parts infoD
  clear hR
  go_enter Tryz.func144, Tryz.ntmps144
  go_wp2_with fail
  go_loopw [5, 6] (fun u i wr => ∃ k : Nat, k ≤ n ∧ i = .int .i64 k ∧ Hid (wr.ownsRow w.heap.size 82 3 u (wout (T.take k) id).length (lcells (wout (T.take k) id))) ∧ Hid (Below w.heap.size w wr)) (fun _ i _ => n - (intOf i).toNat)
  case atStart => exact ⟨0, Nat.zero_le _, rfl, Lib.hid (World.ownsRow_nil _ _ _ _), Lib.hid (Below.refl _ _)⟩
  case round =>
    obtain ⟨k, hk, rfl, HO, HX⟩ := hrel
    by_cases hlt : k < n
    · obtain ⟨b, off, x, rfl, hx, hcc⟩ := (HR.out.below HX.out).at hlt
      have c0 : wr.cell? ⟨b, off + k * 3, none⟩ = some (.int .i64 x.i) := hcc 0 _ rfl
      have c1 : wr.cell? ⟨b, off + k * 3 + 1, none⟩ = some (.int .i64 x.s) := hcc 1 _ rfl
      have c2 : wr.cell? ⟨b, off + k * 3 + 2, none⟩ = some (.int .i64 x.l) := hcc 2 _ rfl
      have HTS : Hid (wout (T.take (k + 1)) id = wout (T.take k) id ++ (if (x.i != id) = true then [x] else [])) := Lib.hid (by rw [take_some hx, wout_snoc])
      obtain ⟨r, hr⟩ : ∃ r, (x.i != id) = r := ⟨_, rfl⟩
      rw [hr] at HTS
      have hk0 : (0 : Int) ≤ (k : Int) := by omega
      have hki : (k : Int) < (n : Int) := by omega
      clear hx hcc
      cases r with
      | false =>
        go_wp2_with fail
        go_roundw
        case rel => exact ⟨k + 1, by omega, by go_num, Lib.hid (by rw [HTS.out]; simpa using HO.out), HX⟩
        case measure => simp [intOf]; omega
      | true =>
        have ho := HO.out
        have hsz := HX.out.size
        have htl := wout_len (T.take k) id
        rw [List.length_take] at htl
        go_wp2_with (at_builtin; refine wpList_append_own _ rfl _ _ 28 rfl w.heap.size 82 i0 _ 3 24 Tryz.underlying28 hi hz0 hz1 hz2 rfl (by decide) _ _ _ rfl (ho.alloc _) ⟨wr.heap.size, 0, none⟩ 1 1 (lcell x) rfl rfl (World.news_of_block (new_block wr _)) (lcell_one _) (by unfold maxLen at *; omega) (by omega) (by simp; omega) ?_; intro v' w6 hown' hg6 hnil6)
        have HB6 := Lib.hid ((HX.out.alloc hsz _).grown hg6 (by simp; omega) (fun j hj => (HO.out.lt j hj).1))
        have HO6 : Hid (w6.ownsRow w.heap.size 82 3 v' (wout (T.take (k + 1)) id).length (lcells (wout (T.take (k + 1)) id))) := Lib.hid (by
          rw [HTS.out]
          simp only [reduceIte]
          rw [lcells_append, List.length_append]
          simpa [lcells] using hown')
        clear hown' hg6 hnil6 ho c0 c1 c2 htl hr
        go_wp2_with fail
        go_roundw
        case rel => exact ⟨k + 1, by omega, by go_num, HO6, HB6⟩
        case measure => simp [intOf]; omega
    · obtain rfl : k = n := by omega
      have hki : ¬ (k : Int) < (k : Int) := by omega
      have ho := HO.out
      rw [List.take_of_length_le (by rw [HL.out]; exact Nat.le_refl _)] at ho
      obtain ⟨A5, c5, he5, -, -, -⟩ := own_form ho
      have HE : Hid (RlPost w (wout T id) (.returned u5) wr) := Lib.hid (by subst he5; exact ⟨A5, c5, rfl, ho, HX.out⟩)
      clear ho he5
      go_wp2_with fail
      go_ret
      exact HE.out
end Go.Proofs.YtflgemlhocjipaaGreatDoor.Lq
namespace Go.Proofs.YtflgemlhocjipaaGreatDoor.Lq
set_option maxRecDepth 100000
open Go.ChangeShapes Go.WideShapes Go.ChangeAt Go.RowKit Go.Proofs.Le

/-! ### with -/
set_option maxHeartbeats 16000000 in
theorem rwith_any {w : World} {A : Option Addr} {n c : Nat} {T : Tb} (hR : Rd lcell 3 w A n T) (hn : n ≤ 200) (x : Ls) : Calls Tryz.prog 112 #[.slice A n c, .agg #[.int .i64 x.i, .int .i64 x.s, .int .i64 x.l]] w (RlPost w (wend x (wrun T x))) := by
  obtain ⟨w1, hw1⟩ : ∃ w1, w1 = w.alloc (.cells #[.int .i64 x.i, .int .i64 x.s, .int .i64 x.l] 82) := ⟨_, rfl⟩
  obtain ⟨q, eq⟩ : ∃ q, q = w.heap.size := ⟨_, rfl⟩
  have hb1 : Below w.heap.size w w1 := by rw [hw1]; exact box_below w _
  have hq : w1.heap[q]? = some (.cells #[.int .i64 x.i, .int .i64 x.s, .int .i64 x.l] 82 (0, 0)) := by rw [hw1, eq]; exact new_block w _
  have HR := Lib.hid (hR.below hb1)
  have HL := Lib.hid hR.len
  have HB1 := Lib.hid hb1
  have HQ1 := Lib.hid hq
  have HW1 := Lib.hid hw1
  have EQ := Lib.hid eq
  obtain ⟨i0, hi, hz0, hz1, hz2⟩ := info_parts infoD
  clear hR hw1 eq hb1 hq
  go_enter Tryz.func112, Tryz.ntmps112
  go_upto_region 1 with fail
  rw [← HW1.out, ← EQ.out]
  go_wp2_with fail
  go_loopw [5, 6, 7] (fun u d i wr => ∃ (k : Nat) (st : Tb × Bool), k ≤ n ∧ i = .int .i64 k ∧ Hid (wrun (T.take k) x = st) ∧ d = .bool st.2 ∧ Hid (wr.ownsRow w1.heap.size 82 3 u st.1.length (lcells st.1)) ∧ Hid (Below w1.heap.size w1 wr)) (fun _ _ i _ => n - (intOf i).toNat)
  case atStart => exact ⟨0, ([], false), Nat.zero_le _, rfl, Lib.hid rfl, rfl, Lib.hid (World.ownsRow_nil _ _ _ _), Lib.hid (Below.refl _ _)⟩
  case round =>
    obtain ⟨k, ⟨O, d⟩, hk, rfl, HRU, rfl, HO, HX⟩ := hrel
    replace HO : Hid (wr.ownsRow w1.heap.size 82 3 u5 O.length (lcells O)) := HO
    have HUL : Hid (O.length ≤ 400) := Lib.hid (by
      have h1 := wrun_len x (T.take k) ([], false)
      rw [show (T.take k).foldl (wstep x) ([], false) = wrun (T.take k) x from rfl, HRU.out, List.length_take] at h1
      simp at h1
      omega)
    have HBW := Lib.hid (HB1.out.trans (HX.out.mono HB1.out.size))
    by_cases hlt : k < n
    · obtain ⟨b, off, y, hA, hy, -⟩ := HR.out.at hlt
      subst hA
      have HYC : Hid (∀ W, Below w1.heap.size w1 W → (W.cell? ⟨b, off + k * 3, none⟩ = some (.int .i64 y.i) ∧ W.cell? ⟨b, off + k * 3 + 1, none⟩ = some (.int .i64 y.s) ∧ W.cell? ⟨b, off + k * 3 + 2, none⟩ = some (.int .i64 y.l))) := Lib.hid (fun W hW => by
        obtain ⟨b', off', y', hA', hy', hcc⟩ := (HR.out.below hW).at hlt
        injection hA' with hA'
        injection hA' with e1 e2 e3
        subst e1; subst e2
        obtain rfl : y = y' := Option.some.inj (hy.symm.trans hy')
        exact ⟨hcc 0 _ rfl, hcc 1 _ rfl, hcc 2 _ rfl⟩)
      have hk0 : (0 : Int) ≤ (k : Int) := by omega
      have hki : (k : Int) < (n : Int) := by omega
      have hwk : IntKind.i64.wrap ((k : Int) + 1) = (k : Int) + 1 := by rw [IntKind.wrap_i64]; omega
      have HST : Hid (wrun (T.take (k + 1)) x = wstep x (O, d) y) := Lib.hid (by rw [wrun_step hy, HRU.out])
      clear hy
      obtain ⟨c0, c1, c2⟩ := HYC.out _ HX.out
      have hqw := blk_below HQ1.out HX.out
      have q0 := cell_of hqw (j := 0) rfl
      have q1 := cell_of hqw (j := 1) rfl
      have q2 := cell_of hqw (j := 2) rfl
      clear hqw
      cases d with
      | true =>
        go_upto_region 6 with fail
        go_quiet (fail)
        obtain ⟨w4, hq9⟩ : ∃ W, W = wr.drewN nq := ⟨_, rfl⟩
        have hb9 : Below wr.heap.size wr w4 := by rw [hq9]; exact below_drewN (Below.refl _ _) _
        have HQQw4 := Lib.hid hq9
        rw [← HQQw4.out]
        have HX2 := Lib.hid (HX.out.trans (hb9.mono HX.out.size))
        have HO2 := Lib.hid (own_below HO.out hb9)
        clear hq9 hb9
        clear c0 c1 c2 q0 q1 q2
        obtain ⟨c0, c1, c2⟩ := HYC.out _ HX2.out
        have hqw := blk_below HQ1.out HX2.out
        have q0 := cell_of hqw (j := 0) rfl
        have q1 := cell_of hqw (j := 1) rfl
        have q2 := cell_of hqw (j := 2) rfl
        clear hqw
        obtain ⟨t, ht⟩ : ∃ t, (y.i != x.i) = t := ⟨_, rfl⟩
        have HTT := Lib.hid ht
        go_upto_region 9 with fail
        go_quiet (fail)
        obtain ⟨w5a, hq9⟩ : ∃ W, W = w4.drewN nq := ⟨_, rfl⟩
        have hb9 : Below w4.heap.size w4 w5a := by rw [hq9]; exact below_drewN (Below.refl _ _) _
        have HQQw5a := Lib.hid hq9
        rw [← HQQw5a.out]
        have HX22 := Lib.hid (HX2.out.trans (hb9.mono HX2.out.size))
        have HO22 := Lib.hid (own_below HO2.out hb9)
        clear hq9 hb9
        clear c0 c1 c2 q0 q1 q2
        obtain ⟨c0, c1, c2⟩ := HYC.out _ HX22.out
        have hqw := blk_below HQ1.out HX22.out
        have q0 := cell_of hqw (j := 0) rfl
        have q1 := cell_of hqw (j := 1) rfl
        have q2 := cell_of hqw (j := 2) rfl
        clear hqw
        cases t with
        | false =>
          have HEQ : Hid (y.i = x.i) := Lib.hid (by simpa using HTT.out)
          clear ht
          have HNX : Hid (wrun (T.take (k + 1)) x = (O, true)) := Lib.hid (by rw [HST.out]; unfold wstep; rw [if_neg (by simp), if_pos HEQ.out])
          clear c0 c1 c2 q0 q1 q2
          go_wp2_with fail
          go_roundw
          case rel => exact ⟨k + 1, _, by omega, by go_num, HNX, rfl, HO22, HX22⟩
          case measure => simp [intOf]; omega
        | true =>
          have HNE : Hid (¬ y.i = x.i) := Lib.hid (by simpa using HTT.out)
          have ho := HO22.out
          have hsz := HX22.out.size
          have hul : (O).length ≤ 520 := by have := HUL.out; first | omega | (simp; omega)
          go_wp2_with (at_builtin; refine wpList_append_own _ rfl _ _ 28 rfl w1.heap.size 82 i0 _ 3 24 Tryz.underlying28 hi hz0 hz1 hz2 rfl (by decide) _ _ _ rfl (ho.alloc _) ⟨w5a.heap.size, 0, none⟩ 1 1 (lcell y) rfl rfl (World.news_of_block (new_block w5a _)) (lcell_one _) (by unfold maxLen at *; omega) (by omega) (by simp; omega) ?_; intro v_w7a w7a hown' hg6 hnil6)
          have HB7 := Lib.hid ((HX22.out.alloc hsz _).grown hg6 (by simp; omega) (fun j hj => (HO22.out.lt j hj).1))
          have HO7 : Hid (w7a.ownsRow w1.heap.size 82 3 v_w7a (O ++ [y]).length (lcells (O ++ [y]))) := Lib.hid (by
            rw [lcells_append, List.length_append]
            simpa [lcells] using hown')
          clear hown' hg6 hnil6 ho hul
          clear ht
          have HNX : Hid (wrun (T.take (k + 1)) x = (O ++ [y], true)) := Lib.hid (by rw [HST.out]; unfold wstep; rw [if_neg (by simp), if_neg HNE.out])
          clear c0 c1 c2 q0 q1 q2
          go_wp2_with fail
          go_roundw
          case rel => exact ⟨k + 1, _, by omega, by go_num, HNX, rfl, HO7, HB7⟩
          case measure => simp [intOf]; omega
      | false =>
        obtain ⟨s, hs⟩ : ∃ s, decide (x.i ≤ y.i) = s := ⟨_, rfl⟩
        have HSS := Lib.hid hs
        go_upto_region 6 with fail
        go_quiet (fail)
        obtain ⟨w4, hq9⟩ : ∃ W, W = wr.drewN nq := ⟨_, rfl⟩
        have hb9 : Below wr.heap.size wr w4 := by rw [hq9]; exact below_drewN (Below.refl _ _) _
        have HQQw4 := Lib.hid hq9
        rw [← HQQw4.out]
        have HX2 := Lib.hid (HX.out.trans (hb9.mono HX.out.size))
        have HO2 := Lib.hid (own_below HO.out hb9)
        clear hq9 hb9
        clear c0 c1 c2 q0 q1 q2
        obtain ⟨c0, c1, c2⟩ := HYC.out _ HX2.out
        have hqw := blk_below HQ1.out HX2.out
        have q0 := cell_of hqw (j := 0) rfl
        have q1 := cell_of hqw (j := 1) rfl
        have q2 := cell_of hqw (j := 2) rfl
        clear hqw
        cases s with
        | false =>
          have HLE : Hid (y.i < x.i) := Lib.hid (by have h := HSS.out; simp at h; omega)
          clear hs
          obtain ⟨t, ht⟩ : ∃ t, (y.i != x.i) = t := ⟨_, rfl⟩
          have HTT := Lib.hid ht
          go_upto_region 9 with fail
          go_quiet (fail)
          obtain ⟨w5b, hq9⟩ : ∃ W, W = w4.drewN nq := ⟨_, rfl⟩
          have hb9 : Below w4.heap.size w4 w5b := by rw [hq9]; exact below_drewN (Below.refl _ _) _
          have HQQw5b := Lib.hid hq9
          rw [← HQQw5b.out]
          have HX22 := Lib.hid (HX2.out.trans (hb9.mono HX2.out.size))
          have HO22 := Lib.hid (own_below HO2.out hb9)
          clear hq9 hb9
          clear c0 c1 c2 q0 q1 q2
          obtain ⟨c0, c1, c2⟩ := HYC.out _ HX22.out
          have hqw := blk_below HQ1.out HX22.out
          have q0 := cell_of hqw (j := 0) rfl
          have q1 := cell_of hqw (j := 1) rfl
          have q2 := cell_of hqw (j := 2) rfl
          clear hqw
          cases t with
          | false =>
            have HEQ : Hid (y.i = x.i) := Lib.hid (by simpa using HTT.out)
            exact absurd HEQ.out (by have := HLE.out; omega)
          | true =>
            have HNE : Hid (¬ y.i = x.i) := Lib.hid (by simpa using HTT.out)
            have ho := HO22.out
            have hsz := HX22.out.size
            have hul : (O).length ≤ 520 := by have := HUL.out; first | omega | (simp; omega)
            go_wp2_with (at_builtin; refine wpList_append_own _ rfl _ _ 28 rfl w1.heap.size 82 i0 _ 3 24 Tryz.underlying28 hi hz0 hz1 hz2 rfl (by decide) _ _ _ rfl (ho.alloc _) ⟨w5b.heap.size, 0, none⟩ 1 1 (lcell y) rfl rfl (World.news_of_block (new_block w5b _)) (lcell_one _) (by unfold maxLen at *; omega) (by omega) (by simp; omega) ?_; intro v_w7b w7b hown' hg6 hnil6)
            have HB7 := Lib.hid ((HX22.out.alloc hsz _).grown hg6 (by simp; omega) (fun j hj => (HO22.out.lt j hj).1))
            have HO7 : Hid (w7b.ownsRow w1.heap.size 82 3 v_w7b (O ++ [y]).length (lcells (O ++ [y]))) := Lib.hid (by
              rw [lcells_append, List.length_append]
              simpa [lcells] using hown')
            clear hown' hg6 hnil6 ho hul
            clear ht
            have HNX : Hid (wrun (T.take (k + 1)) x = (O ++ [y], false)) := Lib.hid (by rw [HST.out]; unfold wstep; rw [if_neg (by rintro ⟨_, h⟩; have h1 := HLE.out; omega), if_neg HNE.out])
            clear c0 c1 c2 q0 q1 q2
            go_wp2_with fail
            go_roundw
            case rel => exact ⟨k + 1, _, by omega, by go_num, HNX, rfl, HO7, HB7⟩
            case measure => simp [intOf]; omega
        | true =>
          have HLE : Hid (x.i ≤ y.i) := Lib.hid (by simpa using HSS.out)
          clear hs
          have ho := HO2.out
          have hsz := HX2.out.size
          have hul : (O).length ≤ 510 := by have := HUL.out; first | omega | (simp; omega)
          go_upto_region 9 with (at_builtin; refine wpList_append_own _ rfl _ _ 28 rfl w1.heap.size 82 i0 _ 3 24 Tryz.underlying28 hi hz0 hz1 hz2 rfl (by decide) _ _ _ rfl (ho.alloc _) ⟨w4.heap.size, 0, none⟩ 1 1 (lcell x) rfl rfl (World.news_of_block (new_block w4 _)) (lcell_one _) (by unfold maxLen at *; omega) (by omega) (by simp; omega) ?_; intro v_w6 w6 hown' hg6 hnil6)
          have HB6 := Lib.hid ((HX2.out.alloc hsz _).grown hg6 (by simp; omega) (fun j hj => (HO2.out.lt j hj).1))
          have HO6 : Hid (w6.ownsRow w1.heap.size 82 3 v_w6 (O ++ [x]).length (lcells (O ++ [x]))) := Lib.hid (by
            rw [lcells_append, List.length_append]
            simpa [lcells] using hown')
          clear hown' hg6 hnil6 ho hul
          clear c0 c1 c2 q0 q1 q2
          obtain ⟨c0, c1, c2⟩ := HYC.out _ HB6.out
          have hqw := blk_below HQ1.out HB6.out
          have q0 := cell_of hqw (j := 0) rfl
          have q1 := cell_of hqw (j := 1) rfl
          have q2 := cell_of hqw (j := 2) rfl
          clear hqw
          obtain ⟨t, ht⟩ : ∃ t, (y.i != x.i) = t := ⟨_, rfl⟩
          have HTT := Lib.hid ht
          go_upto_region 9 with fail
          go_quiet (fail)
          obtain ⟨w5c, hq9⟩ : ∃ W, W = w6.drewN nq := ⟨_, rfl⟩
          have hb9 : Below w6.heap.size w6 w5c := by rw [hq9]; exact below_drewN (Below.refl _ _) _
          have HQQw5c := Lib.hid hq9
          rw [← HQQw5c.out]
          have HB62 := Lib.hid (HB6.out.trans (hb9.mono HB6.out.size))
          have HO62 := Lib.hid (own_below HO6.out hb9)
          clear hq9 hb9
          clear c0 c1 c2 q0 q1 q2
          obtain ⟨c0, c1, c2⟩ := HYC.out _ HB62.out
          have hqw := blk_below HQ1.out HB62.out
          have q0 := cell_of hqw (j := 0) rfl
          have q1 := cell_of hqw (j := 1) rfl
          have q2 := cell_of hqw (j := 2) rfl
          clear hqw
          cases t with
          | false =>
            have HEQ : Hid (y.i = x.i) := Lib.hid (by simpa using HTT.out)
            clear ht
            have HNX : Hid (wrun (T.take (k + 1)) x = ((O ++ [x]), true)) := Lib.hid (by rw [HST.out]; unfold wstep; rw [if_pos ⟨rfl, HLE.out⟩, if_pos HEQ.out])
            clear c0 c1 c2 q0 q1 q2
            go_wp2_with fail
            go_roundw
            case rel => exact ⟨k + 1, _, by omega, by go_num, HNX, rfl, HO62, HB62⟩
            case measure => simp [intOf]; omega
          | true =>
            have HNE : Hid (¬ y.i = x.i) := Lib.hid (by simpa using HTT.out)
            have ho := HO62.out
            have hsz := HB62.out.size
            have hul : ((O ++ [x])).length ≤ 520 := by have := HUL.out; first | omega | (simp; omega)
            go_wp2_with (at_builtin; refine wpList_append_own _ rfl _ _ 28 rfl w1.heap.size 82 i0 _ 3 24 Tryz.underlying28 hi hz0 hz1 hz2 rfl (by decide) _ _ _ rfl (ho.alloc _) ⟨w5c.heap.size, 0, none⟩ 1 1 (lcell y) rfl rfl (World.news_of_block (new_block w5c _)) (lcell_one _) (by unfold maxLen at *; omega) (by omega) (by simp; omega) ?_; intro v_w7c w7c hown' hg6 hnil6)
            have HB7 := Lib.hid ((HB62.out.alloc hsz _).grown hg6 (by simp; omega) (fun j hj => (HO62.out.lt j hj).1))
            have HO7 : Hid (w7c.ownsRow w1.heap.size 82 3 v_w7c ((O ++ [x]) ++ [y]).length (lcells ((O ++ [x]) ++ [y]))) := Lib.hid (by
              rw [lcells_append, List.length_append]
              simpa [lcells] using hown')
            clear hown' hg6 hnil6 ho hul
            clear ht
            have HNX : Hid (wrun (T.take (k + 1)) x = ((O ++ [x]) ++ [y], true)) := Lib.hid (by rw [HST.out]; unfold wstep; rw [if_pos ⟨rfl, HLE.out⟩, if_neg HNE.out])
            clear c0 c1 c2 q0 q1 q2
            go_wp2_with fail
            go_roundw
            case rel => exact ⟨k + 1, _, by omega, by go_num, HNX, rfl, HO7, HB7⟩
            case measure => simp [intOf]; omega
    · obtain rfl : k = n := by omega
      have hki : ¬ (k : Int) < (k : Int) := by omega
      have HRN : Hid (wrun T x = (O, d)) := Lib.hid (by
        have h := HRU.out
        rw [List.take_of_length_le (by rw [HL.out]; exact Nat.le_refl _)] at h
        exact h)
      cases d with
      | true =>
        have ho := HO.out
        obtain ⟨A5, c5, he5, -, -, -⟩ := own_form ho
        have HE : Hid (RlPost w (wend x (wrun T x)) (.returned u5) wr) := Lib.hid (by
          rw [HRN.out]
          show RlPost w O (.returned u5) wr
          subst he5
          exact ⟨A5, c5, rfl, own_base ho HB1.out.size, HBW.out⟩)
        clear ho he5
        go_wp2_with fail
        go_ret
        exact HE.out
      | false =>
        have hqw := blk_below HQ1.out HX.out
        have q0 := cell_of hqw (j := 0) rfl
        have q1 := cell_of hqw (j := 1) rfl
        have q2 := cell_of hqw (j := 2) rfl
        clear hqw
        have ho := HO.out
        have hsz := HX.out.size
        have hul : (O).length ≤ 510 := by have := HUL.out; first | omega | (simp; omega)
        go_wp2_with (at_builtin; refine wpList_append_own _ rfl _ _ 28 rfl w1.heap.size 82 i0 _ 3 24 Tryz.underlying28 hi hz0 hz1 hz2 rfl (by decide) _ _ _ rfl (ho.alloc _) ⟨wr.heap.size, 0, none⟩ 1 1 (lcell x) rfl rfl (World.news_of_block (new_block wr _)) (lcell_one _) (by unfold maxLen at *; omega) (by omega) (by simp; omega) ?_; intro v_w6 w6 hown' hg6 hnil6)
        have HB6 := Lib.hid ((HX.out.alloc hsz _).grown hg6 (by simp; omega) (fun j hj => (HO.out.lt j hj).1))
        have HO6 : Hid (w6.ownsRow w1.heap.size 82 3 v_w6 (O ++ [x]).length (lcells (O ++ [x]))) := Lib.hid (by
          rw [lcells_append, List.length_append]
          simpa [lcells] using hown')
        clear hown' hg6 hnil6 ho hul
        have HE : Hid (RlPost w (wend x (wrun T x)) (.returned v_w6) w6) := Lib.hid (by
          rw [HRN.out]
          show RlPost w (O ++ [x]) (.returned v_w6) w6
          have ho := HO6.out
          obtain ⟨A5, c5, rfl, -, -, -⟩ := own_form ho
          exact ⟨A5, c5, rfl, own_base ho HB1.out.size, HB1.out.trans (HB6.out.mono HB1.out.size)⟩)
        clear q0 q1 q2
        go_wp2_with fail
        go_ret
        exact HE.out
end Go.Proofs.YtflgemlhocjipaaGreatDoor.Lq
namespace Go.Proofs.YtflgemlhocjipaaGreatDoor.Lq
set_option maxRecDepth 100000
open Go.ChangeShapes Go.WideShapes Go.ChangeAt Go.RowKit Go.Proofs.Le

/-- A list of the document's: where memory has it, no table of the program's lies. -/
structure DR (w : World) (B : Nat) (A : Option Addr) (T : Tb) : Prop where
  rd : Rd lcell 3 w A T.length T
  apart : 0 < T.length → ∀ a, A = some a → a.block < B ∨ ∃ cs, w.heap[a.block]? = some (.cells cs 82 (0, 0))
theorem DR.below {w w' : World} {B : Nat} {A : Option Addr} {T : Tb} (h : DR w B A T) (hb : Below w.heap.size w w') : DR w' B A T :=
  ⟨h.rd.below hb, fun h0 a e => by
    rcases h.apart h0 a e with h1 | ⟨cs, h1⟩
    · exact .inl h1
    · exact .inr ⟨cs, blk_below h1 hb⟩⟩
theorem DR.kp {w w' : World} {B Bs tp : Nat} {v : Value} {L M : Tb} {A : Option Addr} {T : Tb} (h : DR w B A T) (ht : TabW w Bs tp v L) (hB : B ≤ Bs) (hk : KpPost Bs tp v M w w') : DR w' B A T := by
  obtain ⟨v', -, k, -⟩ := hk
  have key : ∀ a, A = some a → 0 < T.length → a.block < w.heap.size → w'.heap[a.block]? = w.heap[a.block]? := fun a e h0 hlt => by
    refine k.block a.block hlt (fun e1 => ?_) (fun e1 => ?_)
    · rcases h.apart h0 a e with h1 | ⟨cs, h1⟩
      · have := ht.ge; omega
      · rw [e1, ht.here] at h1
        injection h1 with h1
        injection h1 with _ h1 _
        exact absurd h1 (by decide)
    · rcases h.apart h0 a e with h1 | ⟨cs, h1⟩
      · have := own_ge ht.row _ e1; omega
      · exact own_ne ht.row h1 (by decide) e1
  refine ⟨⟨h.rd.len, fun hn => ?_⟩, fun h0 a e => ?_⟩
  · obtain ⟨b, off, e, hc⟩ := h.rd.cells hn
    refine ⟨b, off, e, fun i hi j u hu => ?_⟩
    have h1 := hc i hi j u hu
    have h2 := key _ e hn (cell_lt h1)
    simp only [World.cell?] at h1 ⊢
    simp only at h2
    rw [h2]; exact h1
  · rcases h.apart h0 a e with h1 | ⟨cs, h1⟩
    · exact .inl h1
    · exact .inr ⟨cs, (key a e h0 (blk_lt h1)).trans h1⟩
theorem DR.of_own {w : World} {base B c : Nat} {A : Option Addr} {T : Tb} (h : w.ownsRow base 82 3 (.slice A T.length c) T.length (lcells T)) : DR w B A T := by
  refine ⟨Rd.of_own h (fun _ _ => rfl) (by omega), fun h0 a e => ?_⟩
  rcases h.2 with ⟨e1, _⟩ | ⟨g, cap, cur, e1, _, hg, _⟩
  · injection e1 with e1; rw [e] at e1; cases e1
  · injection e1 with e1
    rw [e] at e1
    injection e1 with e1
    subst e1
    exact .inr ⟨cur, hg⟩
theorem DR.nil (w : World) (B : Nat) : DR w B none [] := ⟨Rd.nil _ _ _ _, fun h => absurd h (by simp)⟩
/-- A list as a value. -/
def DV (w : World) (B : Nat) (v : Value) (T : Tb) : Prop := ∃ A c, v = .slice A T.length c ∧ DR w B A T
theorem DV.below {w w' : World} {B : Nat} {v : Value} {T : Tb} (h : DV w B v T) (hb : Below w.heap.size w w') : DV w' B v T := by
  obtain ⟨A, c, e, h1⟩ := h
  exact ⟨A, c, e, h1.below hb⟩
theorem DV.kp {w w' : World} {B Bs tp : Nat} {v u : Value} {L M : Tb} {T : Tb} (h : DV w B u T) (ht : TabW w Bs tp v L) (hB : B ≤ Bs) (hk : KpPost Bs tp v M w w') : DV w' B u T := by
  obtain ⟨A, c, e, h1⟩ := h
  exact ⟨A, c, e, h1.kp ht hB hk⟩
def RoPost (B : Nat) (a : Tb × Int) (w : World) (e : Ending) (w' : World) : Prop := ∃ v', e = .returned (.tuple #[v', .int .i64 a.2]) ∧ DV w' B v' a.1 ∧ Below w.heap.size w w'
theorem ro_same {B : Nat} {a : Tb × Int} {T : Tb} {n : Int} {w w' : World} {v : Value} (ha : a = (T, n)) (h : DV w B v T) (hb : Below w.heap.size w w') : RoPost B a w (.returned (.tuple #[v, .int .i64 n])) w' := by
  rw [ha]; exact ⟨v, rfl, h.below hb, hb⟩
theorem ro_new {B base c : Nat} {a : Tb × Int} {T : Tb} {n : Int} {w w' : World} {A : Option Addr} (ha : a = (T, n)) (h : w'.ownsRow base 82 3 (.slice A T.length c) T.length (lcells T)) (hb : Below w.heap.size w w') : RoPost B a w (.returned (.tuple #[.slice A T.length c, .int .i64 n])) w' := by
  rw [ha]; exact ⟨_, rfl, ⟨A, c, rfl, DR.of_own h⟩, hb⟩
set_option maxHeartbeats 8000000 in
theorem ropen_any {w : World} {B : Nat} {A : Option Addr} {c : Nat} {T : Tb} (hR : DR w B A T) (hg : Le.Good T) (x : Ls) : Calls Tryz.prog 70 #[.slice A T.length c, .int .i64 x.i, .int .i64 x.s, .int .i64 x.l] w (RoPost B (opn T x) w) := by
  obtain ⟨a, ha⟩ : ∃ a, opn T x = a := ⟨_, rfl⟩
  rw [ha]
  obtain ⟨w1, hw1⟩ : ∃ w1, w1 = w.alloc (.cells #[.int .i64 x.i, .int .i64 x.s, .int .i64 x.l] 82) := ⟨_, rfl⟩
  obtain ⟨q, eq⟩ : ∃ q, q = w.heap.size := ⟨_, rfl⟩
  have hb1 : Below w.heap.size w w1 := by rw [hw1]; exact box_below w _
  have hq : w1.heap[q]? = some (.cells #[.int .i64 x.i, .int .i64 x.s, .int .i64 x.l] 82 (0, 0)) := by rw [hw1, eq]; exact new_block w _
  have HA := Lib.hid ha
  have HD : Hid (DV w B (.slice A T.length c) T) := Lib.hid ⟨A, c, rfl, hR⟩
  have HR := Lib.hid hR
  have HG := Lib.hid hg
  have HLL : Hid (T.length ≤ 100) := Lib.hid hg.len
  have HGE := Lib.hid (rget_any (c := c) (hR.below hb1).rd (by have := hg.len; omega) x.i)
  unfold RgPost at HGE
  obtain ⟨f, hf⟩ : ∃ f, fnd T x.i = f := ⟨_, rfl⟩
  obtain ⟨fb, hfb⟩ : ∃ b, (has T x.i).isSome = b := ⟨_, rfl⟩
  rw [hf, hfb] at HGE
  have HFB := Lib.hid hfb
  have HVA := Lib.hid (fun W => right_any x W)
  obtain ⟨vd, hvd⟩ : ∃ b, okL x = b := ⟨_, rfl⟩
  rw [hvd] at HVA
  have HOK := Lib.hid hvd
  have HW1 := Lib.hid hw1
  have EQ := Lib.hid eq
  have HB1 := Lib.hid hb1
  have HQ := Lib.hid hq
  clear hw1 eq hb1 hq ha hR hg hf hfb hvd
  go_enter Tryz.func70, Tryz.ntmps70
  go_upto_region 2 with fail
  rw [← HW1.out, ← EQ.out]
  go_wp2_with fail
  refine HGE.out.mono ?_
  rintro e w2 ⟨rfl, hb2⟩
  obtain ⟨w3, hw3⟩ : ∃ w3, w3 = w2.alloc (.cells #[.int .i64 f.i, .int .i64 f.s, .int .i64 f.l] 82) := ⟨_, rfl⟩
  obtain ⟨r, er⟩ : ∃ r, r = w2.heap.size := ⟨_, rfl⟩
  have hb3 : Below w2.heap.size w2 w3 := by rw [hw3]; exact box_below w2 _
  have HB3 := Lib.hid (HB1.out.trans ((hb2.trans (hb3.mono hb2.size)).mono HB1.out.size))
  have hq3 := blk_below (blk_below HQ.out hb2) hb3
  have HQ3 := Lib.hid hq3
  have q0 := cell_of hq3 (j := 0) rfl
  have q1 := cell_of hq3 (j := 1) rfl
  have q2 := cell_of hq3 (j := 2) rfl
  have HW3 := Lib.hid hw3
  have ER := Lib.hid er
  clear hw3 er hb3 hq3 hb2
  go_upto_region 3 with fail
  rw [← HW3.out, ← ER.out]
  go_wp2_with fail
  refine (HVA.out _).mono ?_
  rintro e w4 ⟨rfl, hb4⟩
  have HB4 := Lib.hid (HB3.out.trans (hb4.mono HB3.out.size))
  have HQ4 := Lib.hid (blk_below HQ3.out hb4)
  clear hb4 q0 q1 q2
  cases vd with
  | false =>
    have HE : Hid (RoPost B a w (.returned (.tuple #[.slice A T.length c, .int .i64 1])) w4) := Lib.hid (ro_same (by rw [← HA.out]; unfold opn; rw [if_pos HOK.out]) HD.out HB4.out)
    go_wp2_with fail
    exact bodyPost_ret (v := .tuple #[.slice A T.length c, .int .i64 1]) (by simp [results, Tryz.results70, go_sem]) rfl HE.out
  | true =>
    cases fb with
    | true =>
      have HE : Hid (RoPost B a w (.returned (.tuple #[.slice A T.length c, .int .i64 1])) w4) := Lib.hid (ro_same (by rw [← HA.out]; unfold opn; rw [if_neg (by rw [HOK.out]; simp), if_pos HFB.out]) HD.out HB4.out)
      go_wp2_with fail
      exact bodyPost_ret (v := .tuple #[.slice A T.length c, .int .i64 1]) (by simp [results, Tryz.results70, go_sem]) rfl HE.out
    | false =>
      by_cases h5 : 100 ≤ T.length
      · have h5' : decide ((100 : Int) ≤ (T.length : Int)) = true := by rw [decide_eq_true_eq]; omega
        have HE : Hid (RoPost B a w (.returned (.tuple #[.slice A T.length c, .int .i64 1])) w4) := Lib.hid (ro_same (by rw [← HA.out]; unfold opn; rw [if_neg (by rw [HOK.out]; simp), if_neg (by rw [HFB.out]; simp), if_pos h5]) HD.out HB4.out)
        clear h5
        go_wp2_with fail
        exact bodyPost_ret (v := .tuple #[.slice A T.length c, .int .i64 1]) (by simp [results, Tryz.results70, go_sem]) rfl HE.out
      · have h5' : decide ((100 : Int) ≤ (T.length : Int)) = false := by rw [decide_eq_false_iff_not]; omega
        have HAD : Hid (a = (wend x (wrun T x), 0)) := Lib.hid (by
          have hn : has T x.i = none := by have h := HFB.out; simpa using h
          rw [← HA.out]; unfold opn; rw [if_neg (by rw [HOK.out]; simp), if_neg (by rw [HFB.out]; simp), if_neg h5, wend_wit HG.out.srt, ins_wit HG.out.srt hn])
        have HWI := Lib.hid (rwith_any (c := c) (HR.out.below HB4.out).rd (by have := HLL.out; omega) x)
        have q0 := cell_of HQ4.out (j := 0) rfl
        have q1 := cell_of HQ4.out (j := 1) rfl
        have q2 := cell_of HQ4.out (j := 2) rfl
        clear h5
        go_wp2_with fail
        refine HWI.out.mono ?_
        rintro e w5 ⟨A5, c5, rfl, ho5, hb5⟩
        have HE : Hid (RoPost B a w (.returned (.tuple #[.slice A5 (wend x (wrun T x)).length c5, .int .i64 0])) w5) := Lib.hid (ro_new HAD.out ho5 (HB4.out.trans (hb5.mono HB4.out.size)))
        clear ho5 hb5
        go_wp2_with fail
        exact bodyPost_ret (v := .tuple #[.slice A5 (wend x (wrun T x)).length c5, .int .i64 0]) (by simp [results, Tryz.results70, go_sem]) rfl HE.out
set_option maxHeartbeats 8000000 in
theorem rrenew_any {w : World} {B : Nat} {A : Option Addr} {c : Nat} {T : Tb} (hR : DR w B A T) (hg : Le.Good T) (id now : Int) : Calls Tryz.prog 71 #[.slice A T.length c, .int .i64 id, .int .i64 now] w (RoPost B (ren T id now) w) := by
  obtain ⟨a, ha⟩ : ∃ a, ren T id now = a := ⟨_, rfl⟩
  rw [ha]
  have HA := Lib.hid ha
  have HD : Hid (DV w B (.slice A T.length c) T) := Lib.hid ⟨A, c, rfl, hR⟩
  have HR := Lib.hid hR
  have HG := Lib.hid hg
  have HLL : Hid (T.length ≤ 100) := Lib.hid hg.len
  have HCL := Lib.hid (clock_any now w)
  obtain ⟨t, ht⟩ : ∃ t, okT now = t := ⟨_, rfl⟩
  rw [ht] at HCL
  have HOK := Lib.hid ht
  have HGE := Lib.hid (rget_any (c := c) hR.rd (by have := hg.len; omega) id)
  unfold RgPost at HGE
  clear ha hR hg ht
  go_enter Tryz.func71, Tryz.ntmps71
  go_wp2_with fail
  refine HCL.out.mono ?_
  rintro e w1 ⟨rfl, rfl⟩
  cases t with
  | false =>
    have HE : Hid (RoPost B a w (.returned (.tuple #[.slice A T.length c, .int .i64 1])) w) := Lib.hid (ro_same (by rw [← HA.out]; unfold ren; rw [if_pos HOK.out]) HD.out (Below.refl _ _))
    go_wp2_with fail
    exact bodyPost_ret (v := .tuple #[.slice A T.length c, .int .i64 1]) (by simp [results, Tryz.results71, go_sem]) rfl HE.out
  | true =>
    obtain ⟨f, hf⟩ : ∃ f, fnd T id = f := ⟨_, rfl⟩
    rw [hf] at HGE
    cases hh : has T id with
    | none =>
      rw [hh] at HGE
      have HAD : Hid (a = (T, 100)) := Lib.hid (by rw [← HA.out]; unfold ren; rw [if_neg (by rw [HOK.out]; simp), hh])
      have HG2 : Hid (Calls Tryz.prog 72 #[.slice A T.length c, .int .i64 id] w fun e w' => e = .returned (.tuple #[.agg #[.int .i64 f.i, .int .i64 f.s, .int .i64 f.l], .bool false]) ∧ Below w.heap.size w w') := Lib.hid HGE.out
      clear hh hf HGE
      go_wp2_with fail
      refine HG2.out.mono ?_
      rintro e w2 ⟨rfl, hb2⟩
      obtain ⟨w3, hw3⟩ : ∃ w3, w3 = w2.alloc (.cells #[.int .i64 f.i, .int .i64 f.s, .int .i64 f.l] 82) := ⟨_, rfl⟩
      obtain ⟨r, er⟩ : ∃ r, r = w2.heap.size := ⟨_, rfl⟩
      have hb3 : Below w2.heap.size w2 w3 := by rw [hw3]; exact box_below w2 _
      have HE : Hid (RoPost B a w (.returned (.tuple #[.slice A T.length c, .int .i64 100])) w3) := Lib.hid (ro_same HAD.out HD.out (hb2.trans (hb3.mono hb2.size)))
      have HW3 := Lib.hid hw3
      have ER := Lib.hid er
      clear hw3 er hb3 hb2
      go_upto_region 4 with fail
      rw [← HW3.out, ← ER.out]
      go_wp2_with fail
      exact bodyPost_ret (v := .tuple #[.slice A T.length c, .int .i64 100]) (by simp [results, Tryz.results71, go_sem]) rfl HE.out
    | some g =>
      obtain rfl : g = f := by rw [← hf]; exact (fnd_some hh).symm
      rw [hh] at HGE
      obtain ⟨m, hm⟩ : ∃ m, max g.l now = m := ⟨_, rfl⟩
      have HID : Hid (g.i = id) := Lib.hid (has_mem hh).2
      have HAD : Hid (a = (wend ⟨g.i, g.s, m⟩ (wrun T ⟨g.i, g.s, m⟩), 0)) := Lib.hid (by
        rw [← HA.out]; unfold ren; rw [if_neg (by rw [HOK.out]; simp), hh, wend_wit HG.out.srt]
        have h := upd_wit HG.out.srt (x := ⟨g.i, g.s, m⟩) (z := g) (by rw [show (Ls.mk g.i g.s m).i = id from HID.out]; exact hh)
        rw [← h, ← hm, HID.out])
      have HG2 : Hid (Calls Tryz.prog 72 #[.slice A T.length c, .int .i64 id] w fun e w' => e = .returned (.tuple #[.agg #[.int .i64 g.i, .int .i64 g.s, .int .i64 g.l], .bool true]) ∧ Below w.heap.size w w') := Lib.hid HGE.out
      clear hh hf HGE
      go_wp2_with fail
      refine HG2.out.mono ?_
      rintro e w2 ⟨rfl, hb2⟩
      obtain ⟨w3, hw3⟩ : ∃ w3, w3 = w2.alloc (.cells #[.int .i64 g.i, .int .i64 g.s, .int .i64 g.l] 82) := ⟨_, rfl⟩
      obtain ⟨r, er⟩ : ∃ r, r = w2.heap.size := ⟨_, rfl⟩
      have hb3 : Below w2.heap.size w2 w3 := by rw [hw3]; exact box_below w2 _
      have hr : w3.heap[r]? = some (.cells #[.int .i64 g.i, .int .i64 g.s, .int .i64 g.l] 82 (0, 0)) := by rw [hw3, er]; exact new_block w2 _
      obtain ⟨w4, hw4⟩ : ∃ w4, w4 = w3.setCell ⟨r, 2, none⟩ (.int .i64 m) := ⟨_, rfl⟩
      have hr4 : w4.heap[r]? = some (.cells #[.int .i64 g.i, .int .i64 g.s, .int .i64 m] 82 (0, 0)) := by rw [hw4]; exact heap_setCell_same w3 r 2 _ 82 (.int .i64 m) hr
      have hb4 : Below w.heap.size w w4 := by rw [hw4]; exact (hb2.trans (hb3.mono hb2.size)).setCell (by rw [er]; exact hb2.size) _
      have r0 := cell_of hr (j := 0) rfl
      have r1 := cell_of hr (j := 1) rfl
      have r2 := cell_of hr (j := 2) rfl
      have f2 := frozen_of_row w3 r 2 _ _ hr
      have HB4 := Lib.hid hb4
      have HR4 := Lib.hid hr4
      have HWI := Lib.hid (rwith_any (c := c) (HR.out.below hb4).rd (by have := HLL.out; omega) ⟨g.i, g.s, m⟩)
      have HW3 := Lib.hid hw3
      have ER := Lib.hid er
      have HW4 := Lib.hid hw4
      clear hw3 er hb3 hb2 hr hw4 hr4 hb4
      go_upto_region 4 with fail
      rw [← HW3.out, ← ER.out]
      go_upto_region 7 with fail
      rw [← HW4.out]
      clear r0 r1 r2 f2
      have r0 := cell_of HR4.out (j := 0) rfl
      have r1 := cell_of HR4.out (j := 1) rfl
      have r2 := cell_of HR4.out (j := 2) rfl
      go_wp2_with fail
      refine HWI.out.mono ?_
      rintro e w5 ⟨A5, c5, rfl, ho5, hb5⟩
      obtain ⟨M, hM⟩ : ∃ M, wend ⟨g.i, g.s, m⟩ (wrun T ⟨g.i, g.s, m⟩) = M := ⟨_, rfl⟩
      rw [hM] at ho5 HAD
      rw [hM]
      have HE : Hid (RoPost B a w (.returned (.tuple #[.slice A5 M.length c5, .int .i64 0])) w5) := Lib.hid (ro_new HAD.out ho5 (HB4.out.trans (hb5.mono HB4.out.size)))
      clear ho5 hb5 hM
      go_wp2_with fail
      exact bodyPost_ret (v := .tuple #[.slice A5 M.length c5, .int .i64 0]) (by simp [results, Tryz.results71, go_sem]) rfl HE.out
set_option maxHeartbeats 8000000 in
theorem rclose_any {w : World} {B : Nat} {A : Option Addr} {c : Nat} {T : Tb} (hR : DR w B A T) (hg : Le.Good T) (id : Int) : Calls Tryz.prog 116 #[.slice A T.length c, .int .i64 id] w (RoPost B (cls T id) w) := by
  obtain ⟨a, ha⟩ : ∃ a, cls T id = a := ⟨_, rfl⟩
  rw [ha]
  have HA := Lib.hid ha
  have HD : Hid (DV w B (.slice A T.length c) T) := Lib.hid ⟨A, c, rfl, hR⟩
  have HR := Lib.hid hR
  have HG := Lib.hid hg
  have HLL : Hid (T.length ≤ 100) := Lib.hid hg.len
  have HGE := Lib.hid (rget_any (c := c) hR.rd (by have := hg.len; omega) id)
  unfold RgPost at HGE
  clear ha hR hg
  obtain ⟨f, hf⟩ : ∃ f, fnd T id = f := ⟨_, rfl⟩
  rw [hf] at HGE
  cases hh : has T id with
  | none =>
    rw [hh] at HGE
    have HAD : Hid (a = (T, 100)) := Lib.hid (by rw [← HA.out]; unfold cls; rw [hh])
    have HG2 : Hid (Calls Tryz.prog 72 #[.slice A T.length c, .int .i64 id] w fun e w' => e = .returned (.tuple #[.agg #[.int .i64 f.i, .int .i64 f.s, .int .i64 f.l], .bool false]) ∧ Below w.heap.size w w') := Lib.hid HGE.out
    clear hh hf HGE
    go_enter Tryz.func116, Tryz.ntmps116
    go_wp2_with fail
    refine HG2.out.mono ?_
    rintro e w2 ⟨rfl, hb2⟩
    obtain ⟨w3, hw3⟩ : ∃ w3, w3 = w2.alloc (.cells #[.int .i64 f.i, .int .i64 f.s, .int .i64 f.l] 82) := ⟨_, rfl⟩
    obtain ⟨r, er⟩ : ∃ r, r = w2.heap.size := ⟨_, rfl⟩
    have hb3 : Below w2.heap.size w2 w3 := by rw [hw3]; exact box_below w2 _
    have HE : Hid (RoPost B a w (.returned (.tuple #[.slice A T.length c, .int .i64 100])) w3) := Lib.hid (ro_same HAD.out HD.out (hb2.trans (hb3.mono hb2.size)))
    have HW3 := Lib.hid hw3
    have ER := Lib.hid er
    clear hw3 er hb3 hb2
    go_upto_region 2 with fail
    rw [← HW3.out, ← ER.out]
    go_wp2_with fail
    exact bodyPost_ret (v := .tuple #[.slice A T.length c, .int .i64 100]) (by simp [results, Tryz.results116, go_sem]) rfl HE.out
  | some g =>
    obtain rfl : g = f := by rw [← hf]; exact (fnd_some hh).symm
    rw [hh] at HGE
    have HAD : Hid (a = (wout T id, 0)) := Lib.hid (by
      rw [← HA.out]; unfold cls; rw [hh]
      show (del T id, 0) = _
      rw [del_filter HG.out.srt hh]; rfl)
    have HG2 : Hid (Calls Tryz.prog 72 #[.slice A T.length c, .int .i64 id] w fun e w' => e = .returned (.tuple #[.agg #[.int .i64 g.i, .int .i64 g.s, .int .i64 g.l], .bool true]) ∧ Below w.heap.size w w') := Lib.hid HGE.out
    clear hh hf HGE
    go_enter Tryz.func116, Tryz.ntmps116
    go_wp2_with fail
    refine HG2.out.mono ?_
    rintro e w2 ⟨rfl, hb2⟩
    obtain ⟨w3, hw3⟩ : ∃ w3, w3 = w2.alloc (.cells #[.int .i64 g.i, .int .i64 g.s, .int .i64 g.l] 82) := ⟨_, rfl⟩
    obtain ⟨r, er⟩ : ∃ r, r = w2.heap.size := ⟨_, rfl⟩
    have hb3 : Below w2.heap.size w2 w3 := by rw [hw3]; exact box_below w2 _
    have HB3 := Lib.hid (hb2.trans (hb3.mono hb2.size))
    have HWO := Lib.hid (rwithout_any (c := c) (HR.out.below HB3.out).rd (by have := HLL.out; omega) id)
    have HW3 := Lib.hid hw3
    have ER := Lib.hid er
    clear hw3 er hb3 hb2
    go_upto_region 2 with fail
    rw [← HW3.out, ← ER.out]
    go_wp2_with fail
    refine HWO.out.mono ?_
    rintro e w5 ⟨A5, c5, rfl, ho5, hb5⟩
    have HE : Hid (RoPost B a w (.returned (.tuple #[.slice A5 (wout T id).length c5, .int .i64 0])) w5) := Lib.hid (ro_new HAD.out ho5 (HB3.out.trans (hb5.mono HB3.out.size)))
    clear ho5 hb5
    go_wp2_with fail
    exact bodyPost_ret (v := .tuple #[.slice A5 (wout T id).length c5, .int .i64 0]) (by simp [results, Tryz.results116, go_sem]) rfl HE.out
end Go.Proofs.YtflgemlhocjipaaGreatDoor.Lq
