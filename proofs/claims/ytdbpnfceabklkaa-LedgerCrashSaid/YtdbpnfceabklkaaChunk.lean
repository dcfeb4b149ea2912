/-
  What slices.Chunk of bytes returns, and what the function that it returns does: it hands over parts of 64 bytes, one behind the other, the last one as long as it is, till the body of the loop returns. No condition.
-/
import Derived.Test.YtdbpnfceabklkaaAmissL
import Derived.Test.YtdbpnfceabklkaaRange
import Derived.Shelf.Abstract
import Derived.Shelf.RegionOpen
import Derived.OwnWalkIn
import Derived.TacticsInMore
import Derived.LoopNIn
import Derived.LoopIn
import Derived.Sort.QuietIn
namespace Go.Proofs.Ytdbpnfceabklkaa
set_option maxRecDepth 100000
open Go.ChangeShapes Go.WideShapes Go.ChangeAt Go.RowKit Go.Shelf

attribute [local go_sem] Oper.semAt_some

theorem chunk_any (A : Option Addr) (len cap : Nat) (w : World) :
    Calls Try.prog 47 #[.slice A len cap, .int .i64 64] w fun e w' => e = .returned (.func (.func 54) #[] #[.pointer (some ⟨w.heap.size, 0, none⟩), .pointer (some ⟨w.heap.size + 1, 0, none⟩)]) ∧ w' = (w.alloc (.cells #[.slice A len cap] 48)).alloc (.cells #[.int .i64 64] 3) := by
  go_enter Try.func47, Try.ntmps47
  go_wp2
  go_ret
  exact ⟨rfl, rfl⟩
/-- An element: its place, its length. -/
abbrev Ck := Option Addr × Nat
def encC (x : Ck) : Array Value := #[.slice x.1 x.2 x.2]
def RC (A : Option Addr) (len : Nat) (pre : List Ck) (x : Ck) : Prop :=
  64 * pre.length < len ∧ x.2 = min 64 (len - 64 * pre.length) ∧ ∀ W zs, Reads W A len zs → Reads W x.1 x.2 ((zs.drop (64 * pre.length)).take 64)
def SC (len : Nat) (xs : List Ck) : Prop := len ≤ 64 * xs.length ∧ 64 * xs.length < len + 64
theorem sub3 (A : Option Addr) (len cap : Nat) (hc : len ≤ cap) (l e : Nat) (hh : l + e ≤ len) (he : 0 < e) :
    ∃ A', (∀ W : World, (Instr.slice 48 (.slice A len cap) (some (.int .i64 (l : Int))) (some (.int .i64 ((l : Int) + (e : Int)))) (some (.int .i64 ((l : Int) + (e : Int))))).run Try.prog W = .ok (.slice A' e e) W) ∧
      ∀ W zs, Reads W A len zs → Reads W A' e ((zs.drop l).take e) := by
  obtain ⟨i0, hi, hz0, hz1, hz2⟩ := info_parts info5
  refine ⟨A.map (·.add (l * 1)), fun W => ?_, fun W zs hR => ?_⟩
  · rw [run_slice_lhm (P := Try.prog) (w := W) 48 A len cap Try.underlying48 .i64 .i64 .i64 (l : Int) ((l : Int) + (e : Int)) ((l : Int) + (e : Int)) (by omega) (by omega) (by omega) (by omega)]
    have e1 : Try.prog.elem 48 = 5 := by kernel_rfl
    have e2 : ((l : Int) + (e : Int)).toNat = l + e := by omega
    rw [e1, e2]
    simp [sizeOf, typeInfo, hi, hz1, sliced]
    omega
  · have hB := hR.bys
    obtain ⟨h1, h2, _⟩ := hR
    refine reads_mk (by rw [List.length_take, List.length_drop]; omega) (fun hp => ?_) (bys_take _ (bys_drop _ hB))
    obtain ⟨b, off, rfl, hcell⟩ := h2 (by omega)
    refine ⟨b, off + l, by simp [Go.WideShapes.add_plain], fun i hi => ?_⟩
    rw [Nat.add_assoc, hcell (l + i) (by omega), take_getD _ _ _ hi, drop_getD]
theorem sub_len (A : Option Addr) (len cap : Nat) (hc : len ≤ cap) (l : Nat) (hl : l ≤ len) :
    ∃ A' c', (∀ W : World, (Instr.slice 48 (.slice A len cap) (some (.int .i64 (l : Int))) none none).run Try.prog W = .ok (.slice A' (len - l) c') W) ∧ len - l ≤ c' ∧ ∀ W zs, Reads W A len zs → Reads W A' (len - l) (zs.drop l) := by
  obtain ⟨i0, hi, hz0, hz1, hz2⟩ := info_parts info5
  refine ⟨if cap = l then A else A.map (·.add (l * 1)), cap - l, fun W => ?_, by omega, fun W zs hR => ?_⟩
  · rw [run_slice_l (P := Try.prog) (w := W) 48 A len cap Try.underlying48 .i64 (l : Int) (by omega) (by omega)]
    have e1 : Try.prog.elem 48 = 5 := by kernel_rfl
    simp [e1, sizeOf, typeInfo, hi, hz1, sliced]
  · have hB := hR.bys
    obtain ⟨h1, h2, _⟩ := hR
    refine reads_mk (by rw [List.length_drop]; omega) (fun hp => ?_) (bys_drop _ hB)
    obtain ⟨b, off, rfl, hcell⟩ := h2 (by omega)
    rw [if_neg (by omega)]
    refine ⟨b, off + l, by simp [Go.WideShapes.add_plain], fun i hi => ?_⟩
    rw [Nat.add_assoc, hcell (l + i) (by omega), drop_getD]
set_option maxHeartbeats 1000000 in
theorem iter54 (n l bs bn : Nat) (hn : 1 ≤ n) (A : Option Addr) (len cap : Nat) (hc : len ≤ cap) (hm : len ≤ 4194304) (J JX : List Ck → World → Prop)
    (hJ : ∀ pre X Y, J pre X → Below X.heap.size X Y → J pre Y) (hJc : ∀ pre X, J pre X → X.cell? ⟨bs, 0, none⟩ = some (.slice A len cap) ∧ X.cell? ⟨bn, 0, none⟩ = some (.int .i64 64))
    (hY : ∀ pre x X, J pre X → RC A len pre x → YieldAt Fence.wide (n - 1) Try.prog l (encC x) X fun e Y => (e = .returned (.bool true) ∧ J (pre ++ [x]) Y) ∨ (e = .returned (.bool false) ∧ JX (pre ++ [x]) Y))
    (W : World) (h0 : J [] W) :
    CallsIn Fence.wide n Try.prog 54 #[.func (.yield l) #[] #[], .pointer (some ⟨bs, 0, none⟩), .pointer (some ⟨bn, 0, none⟩)] W fun e Y => (∃ v, e = .returned v) ∧ ((∃ xs, SC len xs ∧ J xs Y) ∨ ∃ xs, JX xs Y) := by
  have HJ := Lib.hid hJ
  have HJC := Lib.hid hJc
  have HY := Lib.hid hY
  have H0 := Lib.hid h0
  clear hJ hJc hY h0
  refine callsIn_of_wp Try.func54 rfl trivial ?_ rfl
  simp only [Try.ntmps54, List.size_toArray, List.length_cons, List.length_nil, Nat.reduceAdd, Nat.reduceSub, Array.replicate_succ, Array.replicate_zero, List.push_toArray, List.append_toArray, List.nil_append, List.cons_append]
  gi_wp2
  gi_loopw [4, 5] (fun vi _ wr => ∃ (pre : List Ck) (t : Nat), t = 64 * pre.length ∧ vi = .int .i64 (t : Int) ∧ t < len + 64 ∧ J pre wr) (fun vi _ _ => len + 64 - (intOf vi).toNat)
  case atStart => exact ⟨[], 0, rfl, rfl, by omega, H0.out⟩
  case round =>
    obtain ⟨pre, t, ht, rfl, htl, hj⟩ := hrel
    obtain ⟨j1, j2⟩ := HJC.out pre wr hj
    have HJJ := Lib.hid hj
    have HT := Lib.hid ht
    have ht0 : (0 : Int) ≤ (t : Int) := by omega
    clear hj ht
    by_cases hlt : t < len
    · have hlt' : (t : Int) < (len : Int) := by omega
      have hle' : (t : Int) ≤ (len : Int) := by omega
      obtain ⟨e, he⟩ : ∃ e, e = min 64 (len - t) := ⟨_, rfl⟩
      obtain ⟨A', hs3, hr3⟩ := sub3 A len cap hc t e (by omega) (by omega)
      obtain ⟨A2, c2, hs2, -, -⟩ := sub_len A len cap hc t (by omega)
      have hmn : min (64 : Int) ((len - t : Nat) : Int) = (e : Int) := by omega
      have w1 : IntKind.i64.wrap ((t : Int) + (e : Int)) = (t : Int) + (e : Int) := by rw [IntKind.wrap_i64]; omega
      obtain ⟨k, hk⟩ : ∃ k, k = len - t := ⟨_, rfl⟩
      rw [← hk] at hs2 hmn
      have hrc : RC A len pre (A', e) := by
        have hT := HT.out
        refine ⟨by omega, by show e = _; omega, fun W zs hR => ?_⟩
        rw [← hT]
        have h := hr3 W zs hR
        have e1 : (zs.drop t).take 64 = (zs.drop t).take e := by
          by_cases h64 : 64 ≤ len - t
          · rw [show e = 64 by omega]
          · rw [List.take_of_length_le (by rw [List.length_drop, hR.1]; omega), List.take_of_length_le (by rw [List.length_drop, hR.1]; omega)]
        show Reads W A' e ((zs.drop t).take 64)
        rw [e1]; exact h
      have HRC := Lib.hid hrc
      clear hrc
      have HE : Hid (e ≤ 64 ∧ (e = 64 ∨ t + e = len)) := Lib.hid (by omega)
      have he0 : (0 : Int) ≤ (e : Int) := by omega
      clear hr3 he hk
      gi_wp2
      gi_quiet (fail)
      have hj2 := HJ.out pre wr (wr.drewN nq) HJJ.out (below_drewN (Below.refl _ _) nq)
      obtain ⟨fn, tmps, assign, body, hy, hyr⟩ := HY.out pre (A', e) (wr.drewN nq) hj2 HRC.out
      have hy' : (Instr.yield l #[.slice A' e e]).run Try.prog (wr.drewN nq) = .ok (.round l fn tmps assign body) (wr.drewN nq) := hy
      have HYR := Lib.hid hyr
      clear hj2 hy hyr
      gi_wp2
      refine HYR.out.mono ?_
      rintro ex w3 (⟨rfl, hJ3⟩ | ⟨rfl, hJ3⟩)
      · have HJ3 := Lib.hid hJ3
        obtain ⟨j31, j32⟩ := HJC.out _ w3 hJ3
        clear hJ3
        gi_wp2
        go_roundw
        case rel => exact ⟨pre ++ [(A', e)], t + 64, by rw [List.length_append]; have := HT.out; simp; omega, by go_num, by omega, HJ3.out⟩
        case measure => simp only [intOf]; omega
      · have HJ3 := Lib.hid hJ3
        clear hJ3
        gi_wp2
        refine bodyPost_ret (results_none rfl _ _ _) rfl ?_
        exact ⟨⟨_, rfl⟩, .inr ⟨_, HJ3.out⟩⟩
    · have hge : ¬ (t : Int) < (len : Int) := by omega
      have HS : Hid (SC len pre) := Lib.hid ⟨by have := HT.out; omega, by have := HT.out; omega⟩
      gi_wp2
      refine bodyPost_end (results_none rfl _ _ _) rfl ?_
      exact ⟨⟨_, rfl⟩, .inl ⟨pre, HS.out, HJJ.out⟩⟩
end Go.Proofs.Ytdbpnfceabklkaa
