/-
  What isTime, find, isFolder, mayGo return; handles compared. No condition.
-/
import Derived.Test.YtoaahhgngelnaaaFMem
import Derived.Laws.StructEq
namespace Go.Proofs.Ytoaahhgngelnaaa
set_option maxRecDepth 100000
open Go.ChangeShapes Go.WideShapes Go.ChangeAt Go.RowKit Go.Proofs.Sg Go.Proofs.Fz

theorem isTime_any (t : Int) (w : World) : Calls Try.prog 35 #[.int .i64 t] w fun e w' => e = .returned (.bool (isT t)) ∧ w = w' := by
  obtain ⟨r, hr⟩ : ∃ r, isT t = r := ⟨_, rfl⟩
  rw [hr]
  have HR := Lib.hid hr
  by_cases h0 : 0 ≤ t
  · have h0' : decide (0 ≤ t) = true := by simpa using h0
    obtain ⟨b, hb⟩ : ∃ b, decide (t ≤ 1099511627776) = b := ⟨_, rfl⟩
    have HE : Hid (b = r) := Lib.hid (by rw [← hr, ← hb]; unfold isT; simp [h0])
    clear h0 hr
    go_enter Try.func35, Try.ntmps35
    go_wp2_with fail
    go_ret
    exact ⟨ret_b HE.out, rfl⟩
  · have h0' : decide (0 ≤ t) = false := by simpa using h0
    have HE : Hid (false = r) := Lib.hid (by rw [← hr]; unfold isT; simp [h0'])
    clear h0 hr
    go_enter Try.func35, Try.ntmps35
    go_wp2_with fail
    go_ret
    exact ⟨ret_b HE.out, rfl⟩
/-- A handle of whole numbers that are words. -/
structure HdOk (h : Hd) : Prop where
  i1 : -9223372036854775808 ≤ h.id
  i2 : h.id ≤ 9223372036854775807
  g1 : -9223372036854775808 ≤ h.gen
  g2 : h.gen ≤ 9223372036854775807
/-- Where the inode of a handle lies. -/
def fP (I : List Nod) (ip : Nat → Nat) (h : Hd) : Value := match fnd I h with
  | some x => pA (ip x.id)
  | none => .pointer none
theorem heap_drewN (w : World) (n : Nat) : (w.drewN n).heap = w.heap := rfl
theorem FM.cells {w : World} {bs : Nat} {Y : Lay} {f : Fst} (h : FM w bs Y f) : w.cell? ⟨Y.fp, 0, none⟩ = some (.int .i64 (f.room : Int)) ∧ w.cell? ⟨Y.fp, 1, none⟩ = some (.map (some Y.mi)) :=
  ⟨cell_of h.here (j := 0) rfl, cell_of h.here (j := 1) rfl⟩
theorem eqlH (x y : Hd) (w : World) : (binOp .eql 40 (hV x) (hV y)).run Try.prog w = .ok (.bool ((decide (x.id = y.id ∧ x.gen = y.gen)))) w := by
  have hS : Try.prog.underlying 40 = some (.struct (Try.prog.fieldsOf 40)) := by kernel_rfl
  have hp : Try.prog.stoodInHeld 40 = false := by kernel_rfl
  have hui := Try.underlying3
  have hai := Try.isAgg3
  have hzi := Try.sizeOf3
  rw [run_eql_struct, show (10000 : Nat) = 9999 + 1 from rfl, run_equalIn_agg w 9999 40 _ _ hS hp]
  simp only [Program.fieldsOf, Try.underlying40]
  go_simp
  obtain ⟨a, b⟩ := x
  obtain ⟨a', b'⟩ := y
  by_cases h1 : a = a' <;> by_cases h2 : b = b' <;> simp [h1, h2]
theorem guard_eqlH : Try.prog.eqGuardType Try.prog.depth 40 = false := by kernel_rfl
theorem neqH (x y : Hd) (w : World) : (binOp .neq 40 (hV x) (hV y)).run Try.prog w = .ok (.bool (!(decide (x.id = y.id ∧ x.gen = y.gen)))) w := by
  have hS : Try.prog.underlying 40 = some (.struct (Try.prog.fieldsOf 40)) := by kernel_rfl
  have hp : Try.prog.stoodInHeld 40 = false := by kernel_rfl
  have hui := Try.underlying3
  have hai := Try.isAgg3
  have hzi := Try.sizeOf3
  rw [run_neq_struct, show (10000 : Nat) = 9999 + 1 from rfl, run_equalIn_agg w 9999 40 _ _ hS hp]
  simp only [Program.fieldsOf, Try.underlying40]
  go_simp
  obtain ⟨a, b⟩ := x
  obtain ⟨a', b'⟩ := y
  by_cases h1 : a = a' <;> by_cases h2 : b = b' <;> simp [h1, h2]
theorem guard_neqH : Try.prog.eqGuardType Try.prog.depth 40 = false := by kernel_rfl
theorem find_any {w : World} {bs : Nat} {Y : Lay} {f : Fst} (h : FM w bs Y f) (hg : Gd f) (d : Hd) (hd : HdOk d) : Calls Try.prog 26 #[pA Y.fp, hV d] w fun e w' => e = .returned (fP f.I Y.ip d) ∧ Below w.heap.size w w' := by
  obtain ⟨w1, hw1⟩ : ∃ w1, w1 = w.alloc (.cells #[.int .i64 d.id, .int .i64 d.gen] 40) := ⟨_, rfl⟩
  obtain ⟨g, hge⟩ : ∃ g, g = w.heap.size := ⟨_, rfl⟩
  have hb1 : Below w.heap.size w w1 := by rw [hw1]; exact box_below w _
  have h1 := h.below hg.kind hb1
  have hbx : w1.heap[g]? = some (.cells #[.int .i64 d.id, .int .i64 d.gen] 40 (0, 0)) := by rw [hw1, hge]; exact new_block w _
  obtain ⟨-, c1⟩ := h1.cells
  have b0 := cell_of hbx (j := 0) rfl
  have b1 := cell_of hbx (j := 1) rfl
  have hlk : ∀ k, (Instr.lookup 62 (.map (some Y.mi)) (.int .i64 d.id) false).run Try.prog (w1.drewN k) = .ok (iP f.I Y.ip d.id) (w1.drewN k) := fun k => (h1.map.keep (w' := w1.drewN k) rfl).look hd.i1 hd.i2
  have HB1 := Lib.hid hb1
  have HW1 := Lib.hid hw1
  have HGE := Lib.hid hge
  have hnil : ∀ W, (binOp .eql 66 (.pointer none) (.pointer none)).run Try.prog W = .ok (.bool true) W := fun W => by kernel_rfl
  rcases hq : nget f.I d.id with _ | x
  · have hip : iP f.I Y.ip d.id = .pointer none := by unfold iP; rw [hq]
    have HE : Hid (fP f.I Y.ip d = .pointer none) := Lib.hid (by unfold fP fnd; rw [hq])
    rw [hip] at hlk
    clear h h1 hg hd hb1 hw1 hge hbx hip hq
    go_enter Try.func26, Try.ntmps26
    go_upto_region 1 with fail
    rw [← HW1.out, ← HGE.out]
    go_quiet (fail)
    obtain ⟨w2, hw2⟩ : ∃ x, x = w1.drewN nq := ⟨_, rfl⟩
    rw [← hw2]
    have HB2 : Hid (Below w.heap.size w w2) := Lib.hid (by rw [hw2]; exact below_drewN HB1.out nq)
    clear hw2
    go_upto_region 2 with fail
    go_quiet (fail)
    obtain ⟨w3, hw3⟩ : ∃ x, x = w2.drewN nq := ⟨_, rfl⟩
    rw [← hw3]
    have HB3 : Hid (Below w.heap.size w w3) := Lib.hid (by rw [hw3]; exact below_drewN HB2.out nq)
    clear hw3
    go_wp2_with fail
    go_ret
    rw [HE.out]
    exact ⟨rfl, HB3.out⟩
  · obtain ⟨hxm, hxi⟩ := nget_mem hq
    have hip : iP f.I Y.ip d.id = pA (Y.ip x.id) := by unfold iP; rw [hq]
    have hnn : ∀ W, (binOp .eql 66 (pA (Y.ip x.id)) (.pointer none)).run Try.prog W = .ok (.bool false) W := fun W => by kernel_rfl
    have hnd := (h1.nod x hxm).box
    have n0 := cell_of hnd (j := 0) rfl
    have n1 := cell_of hnd (j := 1) rfl
    have hne := neqH ⟨(x.id : Int), (x.gen : Int)⟩ d
    obtain ⟨b, hb⟩ : ∃ b, decide ((x.id : Int) = d.id ∧ (x.gen : Int) = d.gen) = b := ⟨_, rfl⟩
    dsimp only at hne
    rw [hb] at hne
    have HE : Hid (fP f.I Y.ip d = if b = true then pA (Y.ip x.id) else .pointer none) := Lib.hid (by
      unfold fP fnd
      rw [hq]
      dsimp only
      by_cases hgn : (x.gen : Int) = d.gen
      · rw [if_pos hgn, if_pos (by rw [← hb]; simpa using ⟨hxi, hgn⟩)]
      · rw [if_neg hgn, if_neg (by rw [← hb]; simpa using fun _ => hgn)])
    have hge2 := guard_neqH
    rw [hip] at hlk
    clear h h1 hg hd hb1 hw1 hge hbx hip hq hnd hb hxi hxm
    go_enter Try.func26, Try.ntmps26
    go_upto_region 1 with fail
    rw [← HW1.out, ← HGE.out]
    go_quiet (fail)
    obtain ⟨w2, hw2⟩ : ∃ x, x = w1.drewN nq := ⟨_, rfl⟩
    rw [← hw2]
    have HB2 : Hid (Below w.heap.size w w2) := Lib.hid (by rw [hw2]; exact below_drewN HB1.out nq)
    have HC : Hid (w2.cell? ⟨g, 0, none⟩ = some (.int .i64 d.id) ∧ w2.cell? ⟨g, 1, none⟩ = some (.int .i64 d.gen) ∧ w2.cell? ⟨Y.ip x.id, 0, none⟩ = some (.int .i64 (x.id : Int)) ∧ w2.cell? ⟨Y.ip x.id, 1, none⟩ = some (.int .i64 (x.gen : Int))) := Lib.hid (by rw [hw2]; exact ⟨b0, b1, n0, n1⟩)
    clear hw2 b0 b1 n0 n1 c1 hlk
    obtain ⟨b0, b1, n0, n1⟩ := HC.out
    go_upto_region 2 with fail
    go_quiet (fail)
    obtain ⟨w3, hw3⟩ : ∃ x, x = w2.drewN nq := ⟨_, rfl⟩
    rw [← hw3]
    have HB3 : Hid (Below w.heap.size w w3) := Lib.hid (by rw [hw3]; exact below_drewN HB2.out nq)
    clear hw3
    cases b with
    | false =>
      go_wp2_with fail
      go_ret
      rw [HE.out]
      exact ⟨rfl, HB3.out⟩
    | true =>
      go_wp2_with fail
      go_ret
      rw [HE.out]
      exact ⟨rfl, HB3.out⟩
/-! ### What an inode holds -/
theorem taSS (v : Value) (w : World) : (Instr.typeAssert (.iface 76 v) 20 76 true).run Try.prog w = .ok (.tuple #[v, .bool true]) w := by kernel_rfl
theorem taSF (v : Value) (w : World) : (Instr.typeAssert (.iface 76 v) 20 78 true).run Try.prog w = .ok (.tuple #[.pointer none, .bool false]) w := by kernel_rfl
theorem taST (v : Value) (w : World) : (Instr.typeAssert (.iface 76 v) 20 82 true).run Try.prog w = .ok (.tuple #[.string ⟨#[]⟩, .bool false]) w := by kernel_rfl
theorem taFS (v : Value) (w : World) : (Instr.typeAssert (.iface 78 v) 20 76 true).run Try.prog w = .ok (.tuple #[.pointer none, .bool false]) w := by kernel_rfl
theorem taFF (v : Value) (w : World) : (Instr.typeAssert (.iface 78 v) 20 78 true).run Try.prog w = .ok (.tuple #[v, .bool true]) w := by kernel_rfl
theorem taFT (v : Value) (w : World) : (Instr.typeAssert (.iface 78 v) 20 82 true).run Try.prog w = .ok (.tuple #[.string ⟨#[]⟩, .bool false]) w := by kernel_rfl
theorem taTS (v : Value) (w : World) : (Instr.typeAssert (.iface 82 v) 20 76 true).run Try.prog w = .ok (.tuple #[.pointer none, .bool false]) w := by kernel_rfl
theorem taTF (v : Value) (w : World) : (Instr.typeAssert (.iface 82 v) 20 78 true).run Try.prog w = .ok (.tuple #[.pointer none, .bool false]) w := by kernel_rfl
theorem taTT (v : Value) (w : World) : (Instr.typeAssert (.iface 82 v) 20 82 true).run Try.prog w = .ok (.tuple #[v, .bool true]) w := by kernel_rfl

theorem NdW.cells {w : World} {bs : Nat} {Y : Lay} {I : List Nod} {N : List Nm} {x : Nod} (h : NdW w bs Y I N x) : w.cell? ⟨Y.ip x.id, 0, none⟩ = some (.int .i64 (x.id : Int)) ∧ w.cell? ⟨Y.ip x.id, 1, none⟩ = some (.int .i64 (x.gen : Int)) ∧ w.cell? ⟨Y.ip x.id, 2, none⟩ = some (.int .i64 x.mode) ∧ w.cell? ⟨Y.ip x.id, 3, none⟩ = some (.int .i64 (links I N x : Int)) ∧ w.cell? ⟨Y.ip x.id, 4, none⟩ = some (.int .i64 x.time) ∧ w.cell? ⟨Y.ip x.id, 5, none⟩ = some (holdV Y x) :=
  ⟨cell_of h.box (j := 0) rfl, cell_of h.box (j := 1) rfl, cell_of h.box (j := 2) rfl, cell_of h.box (j := 3) rfl, cell_of h.box (j := 4) rfl, cell_of h.box (j := 5) rfl⟩
theorem hold1 {Y : Lay} {x : Nod} (h : x.kind = 1) : holdV Y x = .iface 76 (pA (Y.hp x.id)) := by unfold holdV; rw [if_pos h]
theorem hold2 {Y : Lay} {x : Nod} (h : x.kind = 2) : holdV Y x = .iface 78 (pA (Y.hp x.id)) := by unfold holdV; rw [if_neg (by omega), if_pos h]
theorem hold3 {Y : Lay} {x : Nod} (h : x.kind = 3) : holdV Y x = .iface 82 (.string (B x.tg)) := by unfold holdV; rw [if_neg (by omega), if_neg (by omega)]
theorem isFolder_any {w : World} {bs : Nat} {Y : Lay} {I : List Nod} {N : List Nm} {x : Nod} (h : NdW w bs Y I N x) (hk : x.kind = 1 ∨ x.kind = 2 ∨ x.kind = 3) : Calls Try.prog 38 #[pA (Y.ip x.id)] w fun e w' => e = .returned (.bool (decide (x.kind = 2))) ∧ w = w' := by
  obtain ⟨-, -, -, -, -, c5⟩ := h.cells
  rcases hk with hk | hk | hk
  · rw [hold1 hk] at c5
    have HE : Hid (decide (x.kind = 2) = false) := Lib.hid (by rw [hk]; rfl)
    have ta := taSF
    clear h hk
    go_enter Try.func38, Try.ntmps38
    go_wp2_with fail
    go_ret
    rw [HE.out]
    exact ⟨rfl, rfl⟩
  · rw [hold2 hk] at c5
    have HE : Hid (decide (x.kind = 2) = true) := Lib.hid (by rw [hk]; rfl)
    have ta := taFF
    clear h hk
    go_enter Try.func38, Try.ntmps38
    go_wp2_with fail
    go_ret
    rw [HE.out]
    exact ⟨rfl, rfl⟩
  · rw [hold3 hk] at c5
    have HE : Hid (decide (x.kind = 2) = false) := Lib.hid (by rw [hk]; rfl)
    have ta := taTF
    clear h hk
    go_enter Try.func38, Try.ntmps38
    go_wp2_with fail
    go_ret
    rw [HE.out]
    exact ⟨rfl, rfl⟩
end Go.Proofs.Ytoaahhgngelnaaa
