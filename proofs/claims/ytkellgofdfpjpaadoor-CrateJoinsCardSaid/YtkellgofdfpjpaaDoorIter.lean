/-
  What crate.crates returns, and what the function that it returns does: it hands over the bodies of the crates that stand in the bytes, one behind the other, as far as they are whole, for every body of a loop that always goes on and leaves older memory alone. Condition: the table's cells hold what its initialiser lays.
-/
import Derived.Test.YtkellgofdfpjpaaDoorAlive
import Derived.Test.YtkellgofdfpjpaaDoorRange
import Derived.Shelf.Abstract
import Derived.Shelf.RegionOpen
import Derived.OwnWalkIn
import Derived.TacticsInMore
import Derived.LoopNIn
import Derived.LoopIn
namespace Go.Proofs.YtkellgofdfpjpaaDoor
open Go.ChangeShapes Go.WideShapes Go.ChangeAt Go.RowKit Go.Shelf Go.Proofs.Crc

attribute [local go_sem] Oper.semAt_some

theorem crates_any (ad : Option Addr) (len cap : Nat) (w : World) :
    Calls Tryd.prog 21 #[.slice ad len cap] w fun e w' => e = .returned (.func (.func 24) #[] #[.pointer (some ⟨w.heap.size, 0, none⟩)]) ∧ w' = w.alloc (.cells #[.slice ad len cap] 22) := by
  go_enter Tryd.func21, Tryd.ntmps21
  go_wp2
  go_ret
  exact ⟨rfl, rfl⟩
/-- An element: the body's slice, its length, its bytes. -/
abbrev El := Value × Nat × List Int
def encE (x : El) : Array Value := #[x.1, .int .i64 ((x.2.1 : Int) + 12)]
/-- What the iterator knows of an element that it hands over. -/
def RX (w0 : World) (zs : List Int) (pre : List El) (x : El) (X : World) : Prop :=
  ∃ r, Cr zs (pre.map (·.2.2)) r ∧ gt r = .good x.2.1 ∧ x.2.2 = bod r x.2.1 ∧ X.ownsRow w0.heap.size 5 1 x.1 x.2.1 (x.2.2.map (Value.int .u8))
/-- .. and of all of them. -/
def SX (zs : List Int) (xs : List El) : Prop := ∃ r er, Cr zs (xs.map (·.2.2)) r ∧ gt r = .bad er
def slen : Value → Nat
  | .slice _ n _ => n
  | _ => 0
set_option maxHeartbeats 1000000 in
theorem iter_in (w0 : World) (n l Bs : Nat) (hn : 1 ≤ n) (ad : Option Addr) (len cap : Nat) (zs : List Int) (hR : Reads w0 ad len zs) (hT : Table w0) (hc : len ≤ cap) (hm : cap ≤ 9223372036854775807) (J : List El → World → Prop)
    (hJ : ∀ pre X Y, J pre X → Below X.heap.size X Y → J pre Y) (hJB : ∀ pre X, J pre X → Below w0.heap.size w0 X)
    (hY : ∀ pre x X, J pre X → RX w0 zs pre x X → YieldAt Fence.wide (n - 1) Tryd.prog l (encE x) X fun e Y => e = .returned (.bool true) ∧ J (pre ++ [x]) Y)
    (W : World) (hBs : W.cell? ⟨Bs, 0, none⟩ = some (.slice ad len cap)) (h0 : J [] W) :
    CallsIn Fence.wide n Tryd.prog 24 #[.func (.yield l) #[] #[], .pointer (some ⟨Bs, 0, none⟩)] W fun e Y => (∃ v, e = .returned v) ∧ ∃ xs, SX zs xs ∧ J xs Y := by
  have HR := Lib.hid hR
  have HT := Lib.hid hT
  have HJ := Lib.hid hJ
  have HJB := Lib.hid hJB
  have HY := Lib.hid hY
  have H0 := Lib.hid h0
  clear hR hT hJ hJB hY h0
  refine callsIn_of_wp Tryd.func24 rfl trivial ?_ rfl
  simp only [Tryd.ntmps24, List.size_toArray, List.length_cons, List.length_nil, Nat.reduceAdd, Nat.reduceSub, Array.replicate_succ, Array.replicate_zero, List.push_toArray, List.append_toArray, List.nil_append, List.cons_append]
  gi_wp2
  gi_loopw [3] (fun p wr => ∃ (pre : List El) (A : Option Addr) (ln cp : Nat) (r : List Int), p = .slice A ln cp ∧ ln ≤ cp ∧ cp ≤ cap ∧ Reads w0 A ln r ∧ Cr zs (pre.map (·.2.2)) r ∧ J pre wr) (fun p _ => slen p)
  case atStart => exact ⟨[], ad, len, cap, zs, rfl, hc, Nat.le_refl _, HR.out, .nil _, H0.out⟩
  case round =>
    obtain ⟨pre, A, ln, cp, r, rfl, hlc, hcc, hr, hcr, hj⟩ := hrel
    have HRR := Lib.hid hr
    have HCR := Lib.hid hcr
    have HJJ := Lib.hid hj
    have HB0 := Lib.hid (HJB.out _ _ hj)
    have hcm : cp ≤ 9223372036854775807 := by omega
    clear hr hcr hj
    gi_wp2
    refine ⟨trivial, ?_⟩
    refine (callsIn_wide.2 (get_any A ln cp r wr (HRR.out.kept HB0.out) (HT.out.kept HB0.out) hlc hcm)).mono ?_
    intro e w1 hg1
    cases hg : gt r with
    | bad er =>
      obtain ⟨rfl, hb1⟩ := hg1.1 er hg
      have hne : (er != 0) = true := by have := gt_ne hg; simp; omega
      have HJ1 := Lib.hid (HJ.out pre wr w1 HJJ.out hb1)
      have HG := Lib.hid hg
      clear hg hg1 hb1
      gi_wp2
      refine ⟨fun _ h => (by cases h), ?_⟩
      gi_wp2
      refine bodyPost_ret (results_none rfl _ _ _) rfl ?_
      exact ⟨⟨_, rfl⟩, pre, ⟨r, er, HCR.out, HG.out⟩, HJ1.out⟩
    | good m =>
      obtain ⟨v, rfl, ho, hb1⟩ := hg1.2 m hg
      have HJ1 := Lib.hid (HJ.out pre wr w1 HJJ.out hb1)
      have hrx : RX w0 zs pre (v, m, bod r m) w1 := ⟨r, HCR.out, hg, rfl, own_base ho HB0.out.size⟩
      obtain ⟨fn, tmps, assign, body, hy, hyr⟩ := HY.out pre (v, m, bod r m) w1 HJ1.out hrx
      have hy' : (Instr.yield l #[v, .int .i64 ((m : Int) + 12)]).run Tryd.prog w1 = .ok (.round l fn tmps assign body) w1 := hy
      have HYR := Lib.hid hyr
      have hgg := gt_good HRR.out.bys hg
      obtain ⟨A', c', hsl, hr', hc1, hc2⟩ := sub_from HRR.out hlc (m + 12) (by have := HRR.out.1; omega)
      obtain ⟨k', hk'⟩ : ∃ k', k' = ln - (m + 12) := ⟨_, rfl⟩
      rw [← hk'] at hsl hr' hc1
      have hsl' : ∀ W : World, (Instr.slice 22 (.slice A ln cp) (some (.int .i64 ((m : Int) + 12))) none none).run Tryd.prog W = .ok (.slice A' k' c') W := hsl
      have HR' := Lib.hid hr'
      have HCR' := Lib.hid (HCR.out.snoc hg)
      have hlt : k' < ln := by have := HRR.out.1; omega
      clear hg hg1 hb1 hy hyr hrx hsl hr' ho hgg hk'
      gi_wp2
      refine HYR.out.mono ?_
      rintro e w3 ⟨rfl, hJ3⟩
      have HJ3 := Lib.hid hJ3
      clear hJ3
      gi_wp2
      go_roundw
      case rel => exact ⟨pre ++ [(v, m, bod r m)], A', k', c', r.drop (m + 12), rfl, hc1, by omega, HR'.out, by rw [List.map_append]; exact HCR'.out, HJ3.out⟩
      case measure => simp only [slen]; exact hlt
end Go.Proofs.YtkellgofdfpjpaaDoor
