/-
  A transaction that came in. No condition.
-/
import Derived.Test.YtflgemlhocjipaaGreatDoorSFrame
namespace Go.Proofs.YtflgemlhocjipaaGreatDoor
set_option maxRecDepth 100000
open Go.ChangeShapes Go.WideShapes Go.ChangeAt Go.RowKit Go.Proofs.Zn Go.Proofs.Zt

theorem okVTxn : Tryz.prog.readableRec 38 = true ∧ 38 < Tryz.prog.types.size := ⟨by kernel_rfl, of_decide_eq_true (by kernel_rfl)⟩
theorem wantVTxn : Tryz.pinned.checked.prog.wantsStandIn 38 = false := (show Tryz.prog.wantsStandIn 38 = false by kernel_rfl)
/-- One transaction as an argument. -/
theorem open_txn {H : Type} {enc : TypeId × Value → H} {W : World} {base : Nat} {v : Value} {d : DataW H} {ps : List MemPlace} (hv : Value.okWide Tryz.prog W .any base 38 v)
    (h : DataW.Trod enc Tryz.prog W 0 (fun _ => true) true 38 v d ps) : ∃ o : Opc, v = .agg #[.int .i64 o.k, .int .i64 o.s, .int .i64 o.n, .int .i64 o.sp, .int .i64 o.now, .slice o.A o.m o.c] ∧ Rd ccell 6 W o.A o.m o.l ∧ (∀ ch ∈ o.l, ch.path.length ∈ d.weights Tryz.prog 38) ∧ (∀ ch ∈ o.l, ch.path.length ≤ Rows.uptoBulk d) := by
  obtain ⟨cs, rfl, hcs⟩ := okWide_struct Tryz.underlying38 hv
  rw [cellsVTxn] at hcs
  obtain ⟨cs⟩ := cs
  match cs, hcs with
  | [v1, v2, v3, v4, v5, v6], _ =>
    obtain ⟨fuel, hf⟩ := h
    obtain ⟨xs2, k2, _, hxe2, _, hxl2, hfl2⟩ := DataW.trod_struct (cs := [v1, v2, v3, v4, v5, v6]) Tryz.underlying38 hf
    match xs2, hxl2 with
    | [z0, z1, z2, z3, z4, z5], _ =>
      have f0 := hfl2 0 _ rfl
      have f1 := hfl2 1 _ rfl
      have f2 := hfl2 2 _ rfl
      have f3 := hfl2 3 _ rfl
      have f4 := hfl2 4 _ rfl
      have f5 := hfl2 5 _ rfl
      simp [cellsInt, cellsChanges] at f0 f1 f2 f3 f4 f5
      obtain ⟨x1, e1, _⟩ := DataW.trod_int Tryz.underlying3 f0
      obtain ⟨x2, e2, _⟩ := DataW.trod_int Tryz.underlying3 f1
      obtain ⟨x3, e3, _⟩ := DataW.trod_int Tryz.underlying3 f2
      obtain ⟨x4, e4, _⟩ := DataW.trod_int Tryz.underlying3 f3
      obtain ⟨x5, e5, _⟩ := DataW.trod_int Tryz.underlying3 f4
      obtain ⟨A, m, c, l, e6, hr, hbk, hw, hpb⟩ := open_changesB f5
      simp at e1 e2 e3 e4 e5
      subst e1 e2 e3 e4 e5 e6
      injection hxe2 with hd hp'
      subst hd
      refine ⟨⟨0, x1, x2, x3, x4, x5, A, m, c, l⟩, rfl, hr, fun ch hch => ?_, fun ch hch => ?_⟩
      · simp only [DataW.weights, Tryz.underlying38]
        exact DataW.weights_mem_each (j := 5) (t := 36) (d := z5.1) rfl rfl _ (hw ch hch)
      · have h9 := hpb ch hch
        simp only [List.map_cons, List.map_nil, Rows.uptoBulk, Rows.uptoBulkAll]
        show ch.path.length ≤ _
        omega
theorem txn_arg {H : Type} {W : World} {ts : List TypeId} {ds : List (DataW H)} {j : Nat} {o : Opc} {d : DataW H} (h : (DataW.weightsEach Tryz.prog ts ds).all (· ≤ reachBytes) = true) (ht : ts[j]? = some 38) (hd : ds[j]? = some d)
    (h2 : Rd ccell 6 W o.A o.m o.l) (h3 : ∀ ch ∈ o.l, ch.path.length ∈ d.weights Tryz.prog 38) : OpcOk W o :=
  ⟨h2, fun c hc => by
    have := of_decide_eq_true (List.all_eq_true.1 h _ (DataW.weights_mem_each ht hd _ (h3 c hc)))
    simp only [reachBytes] at this
    show c.path.length ≤ 140737488355328
    omega⟩
end Go.Proofs.YtflgemlhocjipaaGreatDoor
