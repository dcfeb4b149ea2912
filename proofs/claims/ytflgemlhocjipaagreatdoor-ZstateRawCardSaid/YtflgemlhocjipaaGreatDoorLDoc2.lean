/-
  What the document's own Get, without and with return. Condition: the list is not long.
  What the document's own with returns. Condition: the list is not long.
  What the document's own Open, Renew and Close return. Condition: the list is a table.
-/
import Derived.Test.YtflgemlhocjipaaGreatDoorLOpen
namespace Go.Proofs.YtflgemlhocjipaaGreatDoor.Lq
set_option maxRecDepth 100000
open Go.ChangeShapes Go.WideShapes Go.ChangeAt Go.RowKit Go.Proofs.Le

def RgPost (w : World) (T : Tb) (id : Int) (e : Ending) (w' : World) : Prop := e = .returned (.tuple #[.agg #[.int .i64 (fnd T id).i, .int .i64 (fnd T id).s, .int .i64 (fnd T id).l], .bool (has T id).isSome]) ∧ Below w.heap.size w w'
theorem rget_bodies {fn : Func} {p t : Tmp} (h : fn.results = #[.cell p 82, .tmp t]) (tmps : Array Value) (w : World) (q : Nat) (f : Ls) (b : Bool) (hp : tmps.getD p undef = .pointer (some ⟨q, 0, none⟩)) (ht : tmps.getD t undef = .bool b) (hq : w.heap[q]? = some (.cells #[.int .i64 f.i, .int .i64 f.s, .int .i64 f.l] 82 (0, 0))) :
    (results fn tmps).run Tryz.prog w = .ok (.tuple #[.agg #[.int .i64 f.i, .int .i64 f.s, .int .i64 f.l], .bool b]) w := by
  have hp' : tmps[p]?.getD undef = .pointer (some ⟨q, 0, none⟩) := by simpa using hp
  have ht' : tmps[t]?.getD undef = .bool b := by simpa using ht
  have c0 := cell_of hq (j := 0) rfl
  have c1 := cell_of hq (j := 1) rfl
  have c2 := cell_of hq (j := 2) rfl
  simp [results, h, hp', ht', asAddr, go_sem, c0, c1, c2]
theorem set_three {w : World} {q : Nat} {a b c : Value} (f : Ls) (hq : w.heap[q]? = some (.cells #[a, b, c] 82 (0, 0))) : (((w.setCell ⟨q, 0, none⟩ (.int .i64 f.i)).setCell ⟨q, 1, none⟩ (.int .i64 f.s)).setCell ⟨q, 2, none⟩ (.int .i64 f.l)).heap[q]? = some (.cells #[.int .i64 f.i, .int .i64 f.s, .int .i64 f.l] 82 (0, 0)) := by
  have h := heap_setCell_same _ q 2 _ 82 (.int .i64 f.l) (heap_setCell_same _ q 1 _ 82 (.int .i64 f.s) (heap_setCell_same w q 0 _ 82 (.int .i64 f.i) hq))
  exact h
set_option maxHeartbeats 4000000 in
theorem rget_any {w : World} {A : Option Addr} {n c : Nat} {T : Tb} (hR : Rd lcell 3 w A n T) (hn : n ≤ 100000) (id : Int) : Calls Tryz.prog 72 #[.slice A n c, .int .i64 id] w (RgPost w T id) := by
  obtain ⟨w1, hw1⟩ : ∃ w1, w1 = w.alloc (.cells #[.int .i64 0, .int .i64 0, .int .i64 0] 82) := ⟨_, rfl⟩
  obtain ⟨q, eq⟩ : ∃ q, q = w.heap.size := ⟨_, rfl⟩
  have hb1 : Below w.heap.size w w1 := by rw [hw1]; exact box_below w _
  have hq : w1.heap[q]? = some (.cells #[.int .i64 0, .int .i64 0, .int .i64 0] 82 (0, 0)) := by rw [hw1, eq]; exact new_block w _
  have HR := Lib.hid (hR.below hb1)
  have HL := Lib.hid hR.len
  have HW1 := Lib.hid hw1
  have EQ := Lib.hid eq
  have HB1 := Lib.hid hb1
  have HQ := Lib.hid hq
  have hsq : w.heap.size ≤ q := by omega
  have q0 := cell_of hq (j := 0) rfl
  have q1 := cell_of hq (j := 1) rfl
  have q2 := cell_of hq (j := 2) rfl
  have f0 := frozen_of_row w1 q 0 _ _ hq
  have f1 := frozen_of_row w1 q 1 _ _ hq
  have f2 := frozen_of_row w1 q 2 _ _ hq
  clear hR hw1 eq hb1 hq
  go_enter Tryz.func72, Tryz.ntmps72
  go_upto_region 1 with fail
  rw [← HW1.out, ← EQ.out]
  go_wp2_with fail
  go_loopw [6] (fun i wr => ∃ k : Nat, k ≤ n ∧ i = .int .i64 k ∧ Hid (∀ y ∈ T.take k, y.i ≠ id) ∧ wr = w1) (fun i _ => n - (intOf i).toNat)
  case atStart => exact ⟨0, Nat.zero_le _, rfl, Lib.hid (fun y hy => by simp at hy), rfl⟩
  case round =>
    obtain ⟨k, hk, rfl, HNO, rfl⟩ := hrel
    by_cases hlt : k < n
    · obtain ⟨b, off, x, rfl, hx, hcc⟩ := HR.out.at hlt
      have c0 : wr.cell? ⟨b, off + k * 3, none⟩ = some (.int .i64 x.i) := hcc 0 _ rfl
      have c1 : wr.cell? ⟨b, off + k * 3 + 1, none⟩ = some (.int .i64 x.s) := hcc 1 _ rfl
      have c2 : wr.cell? ⟨b, off + k * 3 + 2, none⟩ = some (.int .i64 x.l) := hcc 2 _ rfl
      have hk0 : (0 : Int) ≤ (k : Int) := by omega
      have hki : (k : Int) < (n : Int) := by omega
      have hwk : IntKind.i64.wrap ((k : Int) + 1) = (k : Int) + 1 := by rw [IntKind.wrap_i64]; omega
      have HTK := Lib.hid (take_some hx)
      have HX := Lib.hid hx
      clear hx hcc
      by_cases he : x.i = id
      · have he' : (x.i == id) = true := by simpa using he
        have HH : Hid (has T id = some x) := Lib.hid (by
          have h1 : T = T.take k ++ x :: T.drop (k + 1) := by
            obtain ⟨hk', h2⟩ := List.getElem?_eq_some_iff.1 HX.out
            rw [← h2, List.getElem_cons_drop, List.take_append_drop]
          unfold has
          rw [h1, List.find?_append, List.find?_eq_none.2 (fun y hy e => HNO.out y hy (by simpa using e)), List.find?_cons_of_pos (by simpa using he)]
          rfl)
        obtain ⟨w4, hw4⟩ : ∃ w4, w4 = (((wr.setCell ⟨q, 0, none⟩ (.int .i64 x.i)).setCell ⟨q, 1, none⟩ (.int .i64 x.s)).setCell ⟨q, 2, none⟩ (.int .i64 x.l)) := ⟨_, rfl⟩
        have hq4 : w4.heap[q]? = some (.cells #[.int .i64 x.i, .int .i64 x.s, .int .i64 x.l] 82 (0, 0)) := by rw [hw4]; exact set_three x HQ.out
        have hb4 : Below w.heap.size w w4 := by rw [hw4]; exact ((HB1.out.setCell hsq _).setCell hsq _).setCell hsq _
        have HB4 := Lib.hid hb4
        have HQ4 := Lib.hid hq4
        have HW4 := Lib.hid hw4
        clear he hw4 hq4 hb4
        go_wp2_with fail
        rw [← HW4.out]
        refine bodyPost_ret (rget_bodies rfl _ _ q x true rfl rfl HQ4.out) rfl ⟨?_, HB4.out⟩
        rw [fnd_some HH.out, HH.out]; rfl
      · have he' : (x.i == id) = false := by simpa using he
        have HNO2 : Hid (∀ y ∈ T.take (k + 1), y.i ≠ id) := Lib.hid (fun y hy => by
          rw [HTK.out] at hy
          rcases List.mem_append.1 hy with hy | hy
          · exact HNO.out y hy
          · rcases List.mem_singleton.1 hy with rfl; exact he)
        clear he
        go_wp2_with fail
        go_roundw
        case rel => exact ⟨k + 1, by omega, by go_num, HNO2, trivial⟩
        case measure => simp [intOf]; omega
    · obtain rfl : k = n := by omega
      have hki : ¬ (k : Int) < (k : Int) := by omega
      have HH : Hid (has T id = none) := Lib.hid (has_none.2 (by
        have h := HNO.out
        rw [List.take_of_length_le (by rw [HL.out]; exact Nat.le_refl _)] at h
        exact h))
      obtain ⟨w4, hw4⟩ : ∃ w4, w4 = (((wr.setCell ⟨q, 0, none⟩ (.int .i64 0)).setCell ⟨q, 1, none⟩ (.int .i64 0)).setCell ⟨q, 2, none⟩ (.int .i64 0)) := ⟨_, rfl⟩
      have hq4 : w4.heap[q]? = some (.cells #[.int .i64 z0.i, .int .i64 z0.s, .int .i64 z0.l] 82 (0, 0)) := by rw [hw4]; exact set_three z0 HQ.out
      have hb4 : Below w.heap.size w w4 := by rw [hw4]; exact ((HB1.out.setCell hsq _).setCell hsq _).setCell hsq _
      have HB4 := Lib.hid hb4
      have HQ4 := Lib.hid hq4
      have HW4 := Lib.hid hw4
      clear hw4 hq4 hb4
      go_wp2_with fail
      rw [← HW4.out]
      refine bodyPost_ret (rget_bodies rfl _ _ q z0 false rfl rfl HQ4.out) rfl ⟨?_, HB4.out⟩
      rw [fnd_none HH.out, HH.out]; rfl
/-! ### without -/
def RlPost (w : World) (M : Tb) (e : Ending) (w' : World) : Prop := ∃ A c, e = .returned (.slice A M.length c) ∧ w'.ownsRow w.heap.size 82 3 (.slice A M.length c) M.length (lcells M) ∧ Below w.heap.size w w'
def wout (T : Tb) (id : Int) : Tb := T.filter (fun y => !(y.i == id))
theorem wout_snoc (T : Tb) (x : Ls) (id : Int) : wout (T ++ [x]) id = wout T id ++ (if (x.i != id) = true then [x] else []) := by
  unfold wout
  rw [List.filter_append]
  cases h : x.i == id <;> simp [h, bne]
theorem wout_len (T : Tb) (id : Int) : (wout T id).length ≤ T.length := List.length_filter_le _ _
set_option maxHeartbeats 4000000 in
theorem rwithout_any {w : World} {A : Option Addr} {n c : Nat} {T : Tb} (hR : Rd lcell 3 w A n T) (hn : n ≤ 2000) (id : Int) : Calls Tryz.prog 144 #[.slice A n c, .int .i64 id] w (RlPost w (wout T id)) := by
  have HR := Lib.hid hR
  have HL := Lib.hid hR.len
  have hn2 : (n : Int) ≤ 2000 := by omega
  obtain ⟨i0, hi, hz0, hz1, hz2⟩ := info_parts infoD
  clear hR
  go_enter Tryz.func144, Tryz.ntmps144
  go_wp2_with fail
  go_loopw [5, 6] (fun u i wr => ∃ k : Nat, k ≤ n ∧ i = .int .i64 k ∧ Hid (wr.ownsRow w.heap.size 82 3 u (wout (T.take k) id).length (lcells (wout (T.take k) id))) ∧ Hid (Below w.heap.size w wr)) (fun _ i _ => n - (intOf i).toNat)
  case atStart => exact ⟨0, Nat.zero_le _, rfl, Lib.hid (World.ownsRow_nil _ _ _ _), Lib.hid (Below.refl _ _)⟩
  case round =>
    obtain ⟨k, hk, rfl, HO, HX⟩ := hrel
    by_cases hlt : k < n
    · obtain ⟨b, off, x, rfl, hx, hcc⟩ := (HR.out.below HX.out).at hlt
      have c0 : wr.cell? ⟨b, off + k * 3, none⟩ = some (.int .i64 x.i) := hcc 0 _ rfl
      have c1 : wr.cell? ⟨b, off + k * 3 + 1, none⟩ = some (.int .i64 x.s) := hcc 1 _ rfl
      have c2 : wr.cell? ⟨b, off + k * 3 + 2, none⟩ = some (.int .i64 x.l) := hcc 2 _ rfl
      have HTS : Hid (wout (T.take (k + 1)) id = wout (T.take k) id ++ (if (x.i != id) = true then [x] else [])) := Lib.hid (by rw [take_some hx, wout_snoc])
      obtain ⟨r, hr⟩ : ∃ r, (x.i != id) = r := ⟨_, rfl⟩
      rw [hr] at HTS
      have hk0 : (0 : Int) ≤ (k : Int) := by omega
      have hki : (k : Int) < (n : Int) := by omega
      clear hx hcc
      cases r with
      | false =>
        go_wp2_with fail
        go_roundw
        case rel => exact ⟨k + 1, by omega, by go_num, Lib.hid (by rw [HTS.out]; simpa using HO.out), HX⟩
        case measure => simp [intOf]; omega
      | true =>
        have ho := HO.out
        have hsz := HX.out.size
        have htl := wout_len (T.take k) id
        rw [List.length_take] at htl
        go_wp2_with (at_builtin; refine wpList_append_own _ rfl _ _ 28 rfl w.heap.size 82 i0 _ 3 24 Tryz.underlying28 hi hz0 hz1 hz2 rfl (by decide) _ _ _ rfl (ho.alloc _) ⟨wr.heap.size, 0, none⟩ 1 1 (lcell x) rfl rfl (World.news_of_block (new_block wr _)) (lcell_one _) (by unfold maxLen at *; omega) (by omega) (by simp; omega) ?_; intro v' w6 hown' hg6 hnil6)
        have HB6 := Lib.hid ((HX.out.alloc hsz _).grown hg6 (by simp; omega) (fun j hj => (HO.out.lt j hj).1))
        have HO6 : Hid (w6.ownsRow w.heap.size 82 3 v' (wout (T.take (k + 1)) id).length (lcells (wout (T.take (k + 1)) id))) := Lib.hid (by
          rw [HTS.out]
          simp only [reduceIte]
          rw [lcells_append, List.length_append]
          simpa [lcells] using hown')
        clear hown' hg6 hnil6 ho c0 c1 c2 htl hr
        go_wp2_with fail
        go_roundw
        case rel => exact ⟨k + 1, by omega, by go_num, HO6, HB6⟩
        case measure => simp [intOf]; omega
    · obtain rfl : k = n := by omega
      have hki : ¬ (k : Int) < (k : Int) := by omega
      have ho := HO.out
      rw [List.take_of_length_le (by rw [HL.out]; exact Nat.le_refl _)] at ho
      obtain ⟨A5, c5, he5, -, -, -⟩ := own_form ho
      have HE : Hid (RlPost w (wout T id) (.returned u5) wr) := Lib.hid (by subst he5; exact ⟨A5, c5, rfl, ho, HX.out⟩)
      clear ho he5
      go_wp2_with fail
      go_ret
      exact HE.out
end Go.Proofs.YtflgemlhocjipaaGreatDoor.Lq
namespace Go.Proofs.YtflgemlhocjipaaGreatDoor.Lq
set_option maxRecDepth 100000
open Go.ChangeShapes Go.WideShapes Go.ChangeAt Go.RowKit Go.Proofs.Le

/-! ### with -/
end Go.Proofs.YtflgemlhocjipaaGreatDoor.Lq
namespace Go.Proofs.YtflgemlhocjipaaGreatDoor.Lq
set_option maxRecDepth 100000
open Go.ChangeShapes Go.WideShapes Go.ChangeAt Go.RowKit Go.Proofs.Le

/-- A list of the document's: where memory has it, no table of the program's lies. -/
structure DR (w : World) (B : Nat) (A : Option Addr) (T : Tb) : Prop where
  rd : Rd lcell 3 w A T.length T
  apart : 0 < T.length → ∀ a, A = some a → a.block < B ∨ ∃ cs, w.heap[a.block]? = some (.cells cs 82 (0, 0))
theorem DR.below {w w' : World} {B : Nat} {A : Option Addr} {T : Tb} (h : DR w B A T) (hb : Below w.heap.size w w') : DR w' B A T :=
  ⟨h.rd.below hb, fun h0 a e => by
    rcases h.apart h0 a e with h1 | ⟨cs, h1⟩
    · exact .inl h1
    · exact .inr ⟨cs, blk_below h1 hb⟩⟩
theorem DR.kp {w w' : World} {B Bs tp : Nat} {v : Value} {L M : Tb} {A : Option Addr} {T : Tb} (h : DR w B A T) (ht : TabW w Bs tp v L) (hB : B ≤ Bs) (hk : KpPost Bs tp v M w w') : DR w' B A T := by
  obtain ⟨v', -, k, -⟩ := hk
  have key : ∀ a, A = some a → 0 < T.length → a.block < w.heap.size → w'.heap[a.block]? = w.heap[a.block]? := fun a e h0 hlt => by
    refine k.block a.block hlt (fun e1 => ?_) (fun e1 => ?_)
    · rcases h.apart h0 a e with h1 | ⟨cs, h1⟩
      · have := ht.ge; omega
      · rw [e1, ht.here] at h1
        injection h1 with h1
        injection h1 with _ h1 _
        exact absurd h1 (by decide)
    · rcases h.apart h0 a e with h1 | ⟨cs, h1⟩
      · have := own_ge ht.row _ e1; omega
      · exact own_ne ht.row h1 (by decide) e1
  refine ⟨⟨h.rd.len, fun hn => ?_⟩, fun h0 a e => ?_⟩
  · obtain ⟨b, off, e, hc⟩ := h.rd.cells hn
    refine ⟨b, off, e, fun i hi j u hu => ?_⟩
    have h1 := hc i hi j u hu
    have h2 := key _ e hn (cell_lt h1)
    simp only [World.cell?] at h1 ⊢
    simp only at h2
    rw [h2]; exact h1
  · rcases h.apart h0 a e with h1 | ⟨cs, h1⟩
    · exact .inl h1
    · exact .inr ⟨cs, (key a e h0 (blk_lt h1)).trans h1⟩
theorem DR.of_own {w : World} {base B c : Nat} {A : Option Addr} {T : Tb} (h : w.ownsRow base 82 3 (.slice A T.length c) T.length (lcells T)) : DR w B A T := by
  refine ⟨Rd.of_own h (fun _ _ => rfl) (by omega), fun h0 a e => ?_⟩
  rcases h.2 with ⟨e1, _⟩ | ⟨g, cap, cur, e1, _, hg, _⟩
  · injection e1 with e1; rw [e] at e1; cases e1
  · injection e1 with e1
    rw [e] at e1
    injection e1 with e1
    subst e1
    exact .inr ⟨cur, hg⟩
theorem DR.nil (w : World) (B : Nat) : DR w B none [] := ⟨Rd.nil _ _ _ _, fun h => absurd h (by simp)⟩
/-- A list as a value. -/
def DV (w : World) (B : Nat) (v : Value) (T : Tb) : Prop := ∃ A c, v = .slice A T.length c ∧ DR w B A T
theorem DV.below {w w' : World} {B : Nat} {v : Value} {T : Tb} (h : DV w B v T) (hb : Below w.heap.size w w') : DV w' B v T := by
  obtain ⟨A, c, e, h1⟩ := h
  exact ⟨A, c, e, h1.below hb⟩
theorem DV.kp {w w' : World} {B Bs tp : Nat} {v u : Value} {L M : Tb} {T : Tb} (h : DV w B u T) (ht : TabW w Bs tp v L) (hB : B ≤ Bs) (hk : KpPost Bs tp v M w w') : DV w' B u T := by
  obtain ⟨A, c, e, h1⟩ := h
  exact ⟨A, c, e, h1.kp ht hB hk⟩
end Go.Proofs.YtflgemlhocjipaaGreatDoor.Lq
