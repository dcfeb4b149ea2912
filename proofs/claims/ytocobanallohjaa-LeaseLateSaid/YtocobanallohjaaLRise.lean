/-
  What the iterator rising does: it hands over the leases, one by one, each with its place, till the body of the loop returns. No condition.
-/
import Derived.Test.YtocobanallohjaaLValid
import Derived.Test.YtocobanallohjaaLRange
import Derived.Shelf.Abstract
import Derived.Shelf.RegionOpen
import Derived.OwnWalkIn
import Derived.TacticsInMore
import Derived.LoopNIn
import Derived.LoopIn
import Derived.Sort.QuietIn
import Derived.Sort.CutIn
namespace Go.Proofs.Ytocobanallohjaa
set_option maxRecDepth 100000
open Go.ChangeShapes Go.WideShapes Go.ChangeAt Go.RowKit Go.Shelf Go.Proofs.Le

attribute [local go_sem] Oper.semAt_some

/-- An element: its place, the lease. -/
abbrev El := Nat × Ls
def encE (x : El) : Array Value := #[.int .i64 (x.1 : Nat), .agg #[.int .i64 x.2.i, .int .i64 x.2.s, .int .i64 x.2.l]]
def obE (x : El) : Obj := .cells #[.int .i64 x.2.i, .int .i64 x.2.s, .int .i64 x.2.l] 30
def RE (L : Tb) (pre : List El) (x : El) : Prop := x.1 = pre.length ∧ L[pre.length]? = some x.2
def SE (L : Tb) (xs : List El) : Prop := xs.length = L.length
set_option maxHeartbeats 1000000 in
theorem rise_any (n l tp : Nat) (hn : 1 ≤ n) (A : Option Addr) (c : Nat) (L : Tb) (hl : L.length ≤ 100000) (J JX : List El → World → Prop)
    (hJ : ∀ pre X Y, J pre X → Below X.heap.size X Y → J pre Y) (hJc : ∀ pre X, J pre X → X.cell? ⟨tp, 0, none⟩ = some (.slice A L.length c) ∧ Rd lcell 3 X A L.length L)
    (hY : ∀ pre x X, J pre X → RE L pre x → YieldAt Fence.wide (n - 1) Try.prog l (encE x) X fun e Y => (e = .returned (.bool true) ∧ J (pre ++ [x]) Y) ∨ (e = .returned (.bool false) ∧ JX (pre ++ [x]) Y))
    (W : World) (h0 : J [] W) :
    CallsIn Fence.wide n Try.prog 29 #[.pointer (some ⟨tp, 0, none⟩), .func (.yield l) #[] #[]] W fun e Y => (∃ v, e = .returned v) ∧ ((∃ xs, SE L xs ∧ J xs Y) ∨ ∃ xs, JX xs Y) := by
  have HJ := Lib.hid hJ
  have HJC := Lib.hid hJc
  have HY := Lib.hid hY
  have H0 := Lib.hid h0
  obtain ⟨t0, -⟩ := hJc [] W h0
  clear hJ hJc hY h0
  refine callsIn_of_wp Try.func29 rfl trivial ?_ rfl
  simp only [Try.ntmps29, List.size_toArray, List.length_cons, List.length_nil, Nat.reduceAdd, Nat.reduceSub, Array.replicate_succ, Array.replicate_zero, List.push_toArray, List.append_toArray, List.nil_append, List.cons_append]
  gi_wp2
  gi_loopw [11] (fun vi wr => ∃ (pre : List El), pre.length ≤ L.length ∧ vi = .int .i64 (pre.length : Nat) ∧ J pre wr) (fun vi _ => L.length - (intOf vi).toNat)
  case atStart => exact ⟨[], Nat.zero_le _, rfl, H0.out⟩
  case round =>
    obtain ⟨pre, hle, rfl, hj⟩ := hrel
    obtain ⟨k, hk⟩ : ∃ k, pre.length = k := ⟨_, rfl⟩
    rw [hk] at hle ⊢
    have HJJ := Lib.hid hj
    obtain ⟨-, hrd⟩ := HJC.out pre wr hj
    have HK := Lib.hid hk
    clear hj hk t0
    by_cases hlt : k < L.length
    · obtain ⟨b, off, x, rfl, hx, hcc⟩ := hrd.at hlt
      have c0 : wr.cell? ⟨b, off + k * 3, none⟩ = some (.int .i64 x.i) := hcc 0 _ rfl
      have c1 : wr.cell? ⟨b, off + k * 3 + 1, none⟩ = some (.int .i64 x.s) := hcc 1 _ rfl
      have c2 : wr.cell? ⟨b, off + k * 3 + 2, none⟩ = some (.int .i64 x.l) := hcc 2 _ rfl
      have hk0 : (0 : Int) ≤ (k : Int) := by omega
      have hwk : IntKind.i64.wrap ((k : Int) + 1) = (k : Int) + 1 := by rw [IntKind.wrap_i64]; omega
      have hki : (k : Int) < (L.length : Int) := by omega
      have HX := Lib.hid hx
      obtain ⟨w1, hw1⟩ : ∃ w1, w1 = wr.alloc (.cells #[.int .i64 x.i, .int .i64 x.s, .int .i64 x.l] 30) := ⟨_, rfl⟩
      obtain ⟨q, eq⟩ : ∃ q, q = wr.heap.size := ⟨_, rfl⟩
      have hq : w1.heap[q]? = some (.cells #[.int .i64 x.i, .int .i64 x.s, .int .i64 x.l] 30 (0, 0)) := by rw [hw1, eq]; exact new_block wr _
      have hb1 : Below wr.heap.size wr w1 := by rw [hw1]; exact box_below wr _
      have q0 := cell_of hq (j := 0) rfl
      have q1 := cell_of hq (j := 1) rfl
      have q2 := cell_of hq (j := 2) rfl
      have HW1 := Lib.hid hw1
      have EQ := Lib.hid eq
      have hj1 := HJ.out pre wr w1 HJJ.out hb1
      obtain ⟨fn, tmps, assign, body, hy, hyr⟩ := HY.out pre (k, x) w1 hj1 ⟨HK.out.symm, by rw [HK.out]; exact HX.out⟩
      have hy' : (Instr.yield l #[.int .i64 (k : Nat), .agg #[.int .i64 x.i, .int .i64 x.s, .int .i64 x.l]]).run Try.prog w1 = .ok (.round l fn tmps assign body) w1 := hy
      have HYR := Lib.hid hyr
      have HXX := Lib.hid hx
      clear hrd hx hcc hw1 eq hq hb1 hj1 hy hyr
      gi_upto_region 3 with fail
      rw [← HW1.out, ← EQ.out]
      gi_wp2
      refine HYR.out.mono ?_
      rintro ex w3 (⟨rfl, hJ3⟩ | ⟨rfl, hJ3⟩)
      · have HJ3 := Lib.hid hJ3
        clear hJ3 c0 c1 c2 q0 q1 q2
        gi_wp2
        go_roundw
        case rel => exact ⟨pre ++ [(k, x)], by rw [List.length_append, HK.out]; simp; omega, by rw [List.length_append, HK.out]; go_num, HJ3.out⟩
        case measure => simp [intOf]; omega
      · have HJ3 := Lib.hid hJ3
        clear hJ3 c0 c1 c2 q0 q1 q2
        gi_wp2
        refine bodyPost_ret (results_none rfl _ _ _) rfl ?_
        exact ⟨⟨_, rfl⟩, .inr ⟨_, HJ3.out⟩⟩
    · have hge : ¬ (k : Int) < (L.length : Int) := by omega
      have HS : Hid (SE L pre) := Lib.hid (by unfold SE; rw [HK.out]; omega)
      clear hrd
      gi_wp2
      refine bodyPost_end (results_none rfl _ _ _) rfl ?_
      exact ⟨⟨_, rfl⟩, .inl ⟨pre, HS.out, HJJ.out⟩⟩
end Go.Proofs.Ytocobanallohjaa
