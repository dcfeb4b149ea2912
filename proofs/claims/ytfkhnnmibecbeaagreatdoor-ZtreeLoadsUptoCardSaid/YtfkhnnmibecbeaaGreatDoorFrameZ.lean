/-
  What comes in beside scripts: texts, numbers, two numbers in an array, lists of changes and of znodes; and how long they are under the second form's bound. No condition.
-/
import Derived.Test.YtfkhnnmibecbeaaGreatDoorFrame
import Derived.WideKeyPair
namespace Go.Proofs.YtfkhnnmibecbeaaGreatDoor
set_option maxRecDepth 100000
open Go.ChangeShapes Go.WideShapes Go.ChangeAt Go.RowKit Go.Proofs.Zn Go.Proofs.Zt

theorem okstr : Tryz.prog.readableRec 9 = true ∧ 9 < Tryz.prog.types.size := ⟨by kernel_rfl, of_decide_eq_true (by kernel_rfl)⟩
theorem wantstr : Tryz.pinned.checked.prog.wantsStandIn 9 = false := (show Tryz.prog.wantsStandIn 9 = false by kernel_rfl)
theorem okint : Tryz.prog.readableRec 3 = true ∧ 3 < Tryz.prog.types.size := ⟨by kernel_rfl, of_decide_eq_true (by kernel_rfl)⟩
theorem wantint : Tryz.pinned.checked.prog.wantsStandIn 3 = false := (show Tryz.prog.wantsStandIn 3 = false by kernel_rfl)
theorem oktwo : Tryz.prog.readableRec 53 = true ∧ 53 < Tryz.prog.types.size := ⟨by kernel_rfl, of_decide_eq_true (by kernel_rfl)⟩
theorem wanttwo : Tryz.pinned.checked.prog.wantsStandIn 53 = false := (show Tryz.prog.wantsStandIn 53 = false by kernel_rfl)
theorem okChanges : Tryz.prog.readableRec 54 = true ∧ 54 < Tryz.prog.types.size := ⟨by kernel_rfl, of_decide_eq_true (by kernel_rfl)⟩
theorem wantChanges : Tryz.pinned.checked.prog.wantsStandIn 54 = false := (show Tryz.prog.wantsStandIn 54 = false by kernel_rfl)
theorem okZnodes : Tryz.prog.readableRec 27 = true ∧ 27 < Tryz.prog.types.size := ⟨by kernel_rfl, of_decide_eq_true (by kernel_rfl)⟩
theorem wantZnodes : Tryz.pinned.checked.prog.wantsStandIn 27 = false := (show Tryz.prog.wantsStandIn 27 = false by kernel_rfl)
/-- Changes that a cell names. -/
theorem open_changesB {H : Type} {enc : TypeId × Value → H} {W : World} {held : Bool} {fuel : Nat} {v : Value} {x : DataW H × List MemPlace} (h : DataW.trod enc Tryz.prog W 0 (fun _ => true) held fuel 54 [v] = some x) :
    ∃ A m c l, v = .slice A m c ∧ Rd ccell 6 W A m l ∧ m + 1 ≤ Rows.uptoBulk x.1 ∧ (∀ ch ∈ l, ch.path.length ∈ x.1.weights Tryz.prog 54) ∧ (∀ ch ∈ l, ch.path.length ≤ Rows.uptoBulk x.1) := by
  rcases Go.Deep.open_slice Tryz.underlying54 h with ⟨hcs, hx⟩ | ⟨a, len, cap, m, n, D, Pl, hcs, _, hl, hm, hmm, hx, hel⟩
  · simp at hcs
    subst hx
    exact ⟨none, 0, 0, [], hcs, Rd.nil _ _ _ _, by simp [Rows.uptoBulk], fun _ h => (by cases h), fun _ h => (by cases h)⟩
  · simp at hcs
    subst hcs hx
    simp only [if_true] at hmm
    obtain rfl : cap = m := hmm.symm
    rw [cellsChange] at hel
    have each : ∀ i, i < len → ∃ ch : Chg, (∀ j u, (ccell ch)[j]? = some u → W.cell? ((a.add (i * 6)).add j) = some u) ∧ ch.path.length ∈ (D i).weights Tryz.prog 59 ∧ ch.path.length ≤ Rows.uptoBulk (D i) := by
      intro i hi
      obtain ⟨cs, h1, h2⟩ := hel i (by omega)
      obtain ⟨_, hlen, hcell⟩ := World.cells?_some h1
      obtain ⟨xs, k, _, hxe, _, hxl, hfl⟩ := DataW.trod_struct Tryz.underlying59 h2
      match xs, hxl, cs, hlen with
      | [y0, y1, y2, y3, y4, y5], _, [v0, v1, v2, v3, v4, v5], _ =>
        have g0 := hfl 0 _ rfl
        have g1 := hfl 1 _ rfl
        have g2 := hfl 2 _ rfl
        have g3 := hfl 3 _ rfl
        have g4 := hfl 4 _ rfl
        have g5 := hfl 5 _ rfl
        simp [cellsInt, cellsStr, cellsBool] at g0 g1 g2 g3 g4 g5
        obtain ⟨x0, e0, _⟩ := DataW.trod_int Tryz.underlying3 g0
        obtain ⟨s1, e1, q1, _⟩ := DataW.trod_string Tryz.underlying9 g1
        obtain ⟨s2, e2, _⟩ := DataW.trod_string Tryz.underlying9 g2
        obtain ⟨x3, e3, _⟩ := DataW.trod_int Tryz.underlying3 g3
        obtain ⟨b4, e4, _⟩ := DataW.trod_bool Tryz.underlying4 g4
        obtain ⟨b5, e5, _⟩ := DataW.trod_bool Tryz.underlying4 g5
        simp at e0 e1 e2 e3 e4 e5
        subst e0 e1 e2 e3 e4 e5
        refine ⟨⟨x0, L s1, L s2, x3, b4, b5⟩, fun j u hu => ?_, ?_, ?_⟩
        · have hj : j < 6 := by
            have := (List.getElem?_eq_some_iff.1 hu).1
            simpa [ccell] using this
          have c := hcell j (by omega)
          simp only [ccell, BL] at hu
          rw [hu] at c
          exact c
        · simp only [Prod.mk.injEq] at hxe
          rw [hxe.1]
          simp only [DataW.weights, Tryz.underlying59]
          refine DataW.weights_mem_each (j := 1) (t := 9) (d := .lit (.string s1.data.toList)) rfl (by rw [q1]; rfl) _ ?_
          simp [DataW.weights, L]
        · simp only [Prod.mk.injEq] at hxe
          rw [hxe.1]
          simp only [List.map_cons, List.map_nil, Rows.uptoBulk, Rows.uptoBulkAll]
          have hb : Rows.uptoBulk y1.1 = s1.data.toList.length + 1 := by rw [q1]; simp [Rows.uptoBulk]
          rw [hb]
          show s1.data.toList.length ≤ _
          omega
    obtain ⟨q, hq⟩ := Go.Deep.choose_lt each
    refine ⟨some a, len, cap, (List.range len).map q, rfl, ⟨by simp, fun hp => ?_⟩, ?_, fun ch hch => ?_, fun ch hch => ?_⟩
    · have h0 : W.cell? ((a.add (0 * 6)).add 0) = some (.int .i64 (q 0).kind) := (hq 0 hp).1 0 _ rfl
      have hspot : a.spot = none := by
        have := World.cell?_spot h0
        simpa [Addr.add] using this
      obtain ⟨b, off, spot⟩ := a
      simp only at hspot
      subst hspot
      refine ⟨b, off, rfl, fun i hi j u hu => ?_⟩
      have hi' : i < len := by simpa using hi
      have := (hq i hi').1 j u (by simpa using hu)
      rw [Go.WideShapes.add_plain, Go.WideShapes.add_plain] at this
      exact this
    · simp only [Rows.uptoBulk]
      have := bulk_len ((List.range len).map D)
      simp only [List.length_map, List.length_range] at this
      omega
    · obtain ⟨i, hi, rfl⟩ := List.mem_map.1 hch
      have hi' := List.mem_range.1 hi
      simp only [DataW.weights, Tryz.underlying54, List.mem_cons, List.mem_append]
      exact Or.inr (Or.inl (weightsAll_mem (List.mem_map.2 ⟨i, hi, rfl⟩) _ (hq i hi').2.1))
    · obtain ⟨i, hi, rfl⟩ := List.mem_map.1 hch
      have hi' := List.mem_range.1 hi
      have h1 := (hq i hi').2.2
      have h2 := bulk_part (List.mem_map.2 ⟨i, hi, rfl⟩ : D i ∈ (List.range len).map D)
      simp only [Rows.uptoBulk]
      omega
/-- A script that came in. -/
theorem open_scriptB {H : Type} {enc : TypeId × Value → H} {W : World} {base : Nat} {v : Value} {d : DataW H} {ps : List MemPlace} (hv : Value.okWide Tryz.prog W .any base 22 v)
    (h : DataW.Trod enc Tryz.prog W 0 (fun _ => true) true 22 v d ps) : ∃ A n c l, v = .slice A n c ∧ (A = none → c = 0) ∧ Rd ocell 4 W A n l ∧ (∀ o ∈ l, Rd ccell 6 W o.A o.m o.l) ∧ tot l + 1 ≤ Rows.uptoBulk d ∧
      (∀ o ∈ l, ∀ ch ∈ o.l, ch.path.length ∈ d.weights Tryz.prog 22) ∧ (∀ o ∈ l, ∀ ch ∈ o.l, ch.path.length ≤ Rows.uptoBulk d) := by
  obtain ⟨a0, len, cap, rfl⟩ := okWide_slice Tryz.underlying22 hv
  obtain ⟨fuel, hf⟩ := h
  rcases Go.Deep.open_slice Tryz.underlying22 hf with ⟨hcs, hx⟩ | ⟨a, len', cap', m, n, D, Pl, hcs, _, hl, hm, hmm, hx, hel⟩
  · simp [Value.cells] at hcs
    obtain ⟨rfl, rfl, rfl⟩ := hcs
    simp only [Prod.mk.injEq] at hx
    obtain ⟨rfl, rfl⟩ := hx
    exact ⟨none, 0, 0, [], rfl, fun _ => rfl, Rd.nil _ _ _ _, fun _ h => (by cases h), by simp [Rows.uptoBulk, tot], fun _ h => (by cases h), fun _ h => (by cases h)⟩
  · simp [Value.cells] at hcs
    obtain ⟨rfl, rfl, rfl⟩ := hcs
    simp only [Prod.mk.injEq] at hx
    obtain ⟨rfl, rfl⟩ := hx
    simp only [if_true] at hmm
    obtain rfl : cap = m := hmm.symm
    rw [cellsOp] at hel
    have each : ∀ i, i < len → ∃ o : Opv, (∀ j u, (ocell o)[j]? = some u → W.cell? ((a.add (i * 4)).add j) = some u) ∧ Rd ccell 6 W o.A o.m o.l ∧ o.m + 1 ≤ Rows.uptoBulk (D i) ∧ (∀ ch ∈ o.l, ch.path.length ∈ (D i).weights Tryz.prog 68) ∧ (∀ ch ∈ o.l, ch.path.length ≤ Rows.uptoBulk (D i)) := by
      intro i hi
      obtain ⟨cs, h1, h2⟩ := hel i (by omega)
      obtain ⟨_, hlen, hcell⟩ := World.cells?_some h1
      obtain ⟨xs, k, _, hxe, _, hxl, hfl⟩ := DataW.trod_struct Tryz.underlying68 h2
      match xs, hxl, cs, hlen with
      | [y0, y1, y2, y3], _, [v0, v1, v2, v3], _ =>
        have g0 := hfl 0 _ rfl
        have g1 := hfl 1 _ rfl
        have g2 := hfl 2 _ rfl
        have g3 := hfl 3 _ rfl
        simp [cellsInt, cellsChanges] at g0 g1 g2 g3
        obtain ⟨x0, e0, _⟩ := DataW.trod_int Tryz.underlying3 g0
        obtain ⟨x1, e1, _⟩ := DataW.trod_int Tryz.underlying3 g1
        obtain ⟨x2, e2, _⟩ := DataW.trod_int Tryz.underlying3 g2
        obtain ⟨A, m, c, l, e3, hr, hbk, hw, hpb⟩ := open_changesB g3
        simp at e0 e1 e2
        subst e0 e1 e2 e3
        simp only [Prod.mk.injEq] at hxe
        refine ⟨⟨x0, x1, x2, A, m, c, l⟩, fun j u hu => ?_, hr, ?_, fun ch hch => ?_, fun ch hch => ?_⟩
        · have hj : j < 4 := by
            have := (List.getElem?_eq_some_iff.1 hu).1
            simpa [ocell] using this
          have c := hcell j (by omega)
          simp only [ocell] at hu
          rw [hu] at c
          exact c
        · rw [hxe.1]
          simp only [List.map_cons, List.map_nil, Rows.uptoBulk, Rows.uptoBulkAll]
          omega
        · rw [hxe.1]
          simp only [DataW.weights, Tryz.underlying68]
          exact DataW.weights_mem_each (j := 3) (t := 54) (d := y3.1) rfl rfl _ (hw ch hch)
        · rw [hxe.1]
          have := hpb ch hch
          simp only [List.map_cons, List.map_nil, Rows.uptoBulk, Rows.uptoBulkAll]
          show ch.path.length ≤ _
          omega
    obtain ⟨q, hq⟩ := Go.Deep.choose_lt each
    refine ⟨some a, len, cap, (List.range len).map q, rfl, fun e => by (cases e), ⟨by simp, fun hp => ?_⟩, fun o ho => ?_, ?_, fun o ho ch hch => ?_, fun o ho ch hch => ?_⟩
    · have h0 : W.cell? ((a.add (0 * 4)).add 0) = some (.int .i64 (q 0).k) := (hq 0 hp).1 0 _ rfl
      have hspot : a.spot = none := by
        have := World.cell?_spot h0
        simpa [Addr.add] using this
      obtain ⟨b, off, spot⟩ := a
      simp only at hspot
      subst hspot
      refine ⟨b, off, rfl, fun i hi j u hu => ?_⟩
      have hi' : i < len := by simpa using hi
      have := (hq i hi').1 j u (by simpa using hu)
      rw [Go.WideShapes.add_plain, Go.WideShapes.add_plain] at this
      exact this
    · obtain ⟨i, hi, rfl⟩ := List.mem_map.1 ho
      exact (hq i (List.mem_range.1 hi)).2.1
    · simp only [Rows.uptoBulk]
      have := tot_bulk (len := len) (q := q) (D := D) (fun i hi => (hq i hi).2.2.1)
      omega
    · obtain ⟨i, hi, rfl⟩ := List.mem_map.1 ho
      have hi' := List.mem_range.1 hi
      simp only [DataW.weights, Tryz.underlying22, List.mem_cons, List.mem_append]
      exact Or.inr (Or.inl (weightsAll_mem (List.mem_map.2 ⟨i, hi, rfl⟩) _ ((hq i hi').2.2.2.1 ch hch)))
    · obtain ⟨i, hi, rfl⟩ := List.mem_map.1 ho
      have hi' := List.mem_range.1 hi
      have h1 := (hq i hi').2.2.2.2 ch hch
      have h2 := bulk_part (List.mem_map.2 ⟨i, hi, rfl⟩ : D i ∈ (List.range len).map D)
      simp only [Rows.uptoBulk]
      omega

instance : Inhabited Nd := ⟨nd0⟩
theorem cellsZnode : Tryz.prog.cellsOf 41 = 9 := by kernel_rfl
theorem cellsStat : Tryz.prog.cellsOf 39 = 6 := by kernel_rfl
theorem open_txt {H : Type} {enc : TypeId × Value → H} {W : World} {base : Nat} {v : Value} {d : DataW H} {ps : List MemPlace} (hv : Value.okWide Tryz.prog W .any base 9 v)
    (h : DataW.Trod enc Tryz.prog W 0 (fun _ => true) true 9 v d ps) : ∃ p : Txt, v = .string (B p) ∧ p.length + 1 = Rows.uptoBulk d := by
  obtain ⟨s, h1, h2, _, _⟩ := Go.ChangeMaps.open_string Tryz.underlying9 hv h
  exact ⟨L s, by rw [BL]; exact h1, by rw [h2]; rfl⟩
theorem open_i64 {H : Type} {enc : TypeId × Value → H} {W : World} {base : Nat} {v : Value} {d : DataW H} {ps : List MemPlace} (hv : Value.okWide Tryz.prog W .any base 3 v)
    (h : DataW.Trod enc Tryz.prog W 0 (fun _ => true) true 3 v d ps) : ∃ x : Int, v = .int .i64 x := by
  obtain ⟨x, h1, _, _, _⟩ := open_int Tryz.underlying3 hv h
  exact ⟨x, h1⟩
theorem arrTwo : Go.WideMaps.ArrKey Tryz.prog 53 3 2 := ⟨Tryz.underlying53, by kernel_rfl, by kernel_rfl, by kernel_rfl⟩
theorem open_two {H : Type} {enc : TypeId × Value → H} {W : World} {base : Nat} {v : Value} {d : DataW H} {ps : List MemPlace} (hv : Value.okWide Tryz.prog W .any base 53 v)
    (h : DataW.Trod enc Tryz.prog W 0 (fun _ => true) true 53 v d ps) : ∃ x y : Int, v = .agg #[.int .i64 x, .int .i64 y] := by
  obtain ⟨a, b, e, _⟩ := Go.WideMaps.open_pair arrTwo Tryz.underlying3 hv h
  exact ⟨a, b, e⟩
theorem open_chgs {H : Type} {enc : TypeId × Value → H} {W : World} {base : Nat} {v : Value} {d : DataW H} {ps : List MemPlace} (hv : Value.okWide Tryz.prog W .any base 54 v)
    (h : DataW.Trod enc Tryz.prog W 0 (fun _ => true) true 54 v d ps) : ∃ A m c l, v = .slice A m c ∧ Rd ccell 6 W A m l ∧ ∀ ch ∈ l, ch.path.length ≤ Rows.uptoBulk d := by
  obtain ⟨a0, len, cap, rfl⟩ := okWide_slice Tryz.underlying54 hv
  obtain ⟨fuel, hf⟩ := h
  obtain ⟨A, m, c, l, e, hr, _, _, hp⟩ := open_changesB (v := .slice a0 len cap) (x := (d, ps)) (by simpa [Value.cells] using hf)
  exact ⟨A, m, c, l, e, hr, hp⟩
theorem bulk_le {H : Type} {ds : List (DataW H)} {d : DataW H} {n : Nat} (hk : Rows.uptoSmall H ds = true) (hd : d ∈ ds) (h : n ≤ Rows.uptoBulk d) : n ≤ 1048576 := by
  have h1 := bulk_part hd
  have h2 := of_decide_eq_true hk
  omega
/-- Znodes that came in. -/
theorem open_znodes {H : Type} {enc : TypeId × Value → H} {W : World} {base : Nat} {v : Value} {d : DataW H} {ps : List MemPlace} (hv : Value.okWide Tryz.prog W .any base 27 v)
    (h : DataW.Trod enc Tryz.prog W 0 (fun _ => true) true 27 v d ps) : ∃ A n c l, v = .slice A n c ∧ Rd ncell 9 W A n l ∧ n ≤ c ∧ c ≤ 9223372036854775807 ∧ ∀ z ∈ l, z.path.length ≤ Rows.uptoBulk d := by
  obtain ⟨a0, len, cap, rfl⟩ := okWide_slice Tryz.underlying27 hv
  obtain ⟨fuel, hf⟩ := h
  rcases Go.Deep.open_slice Tryz.underlying27 hf with ⟨hcs, hx⟩ | ⟨a, len', cap', m, n, D, Pl, hcs, _, hl, hm, hmm, hx, hel⟩
  · simp [Value.cells] at hcs
    obtain ⟨rfl, rfl, rfl⟩ := hcs
    exact ⟨none, 0, 0, [], rfl, Rd.nil _ _ _ _, Nat.le_refl _, by omega, fun _ h => (by cases h)⟩
  · simp [Value.cells] at hcs
    obtain ⟨rfl, rfl, rfl⟩ := hcs
    simp only [Prod.mk.injEq] at hx
    obtain ⟨rfl, rfl⟩ := hx
    simp only [if_true] at hmm
    obtain rfl : cap = m := hmm.symm
    rw [cellsZnode] at hel
    have each : ∀ i, i < len → ∃ z : Nd, (∀ j u, (ncell z)[j]? = some u → W.cell? ((a.add (i * 9)).add j) = some u) ∧ z.path.length ≤ Rows.uptoBulk (D i) := by
      intro i hi
      obtain ⟨cs, h1, h2⟩ := hel i (by omega)
      obtain ⟨_, hlen, hcell⟩ := World.cells?_some h1
      obtain ⟨xs, k, _, hxe, _, hxl, hfl⟩ := DataW.trod_struct Tryz.underlying41 h2
      match xs, hxl, cs, hlen with
      | [y0, y1, y2, y3], _, [v0, v1, v2, v3, v4, v5, v6, v7, v8], _ =>
        have g0 := hfl 0 _ rfl
        have g1 := hfl 1 _ rfl
        have g2 := hfl 2 _ rfl
        have g3 := hfl 3 _ rfl
        simp [cellsInt, cellsStr, cellsStat] at g0 g1 g2 g3
        obtain ⟨s0, e0, q0, _⟩ := DataW.trod_string Tryz.underlying9 g0
        obtain ⟨s1, e1, _⟩ := DataW.trod_string Tryz.underlying9 g1
        obtain ⟨x8, e8, _⟩ := DataW.trod_int Tryz.underlying3 g3
        obtain ⟨xs2, k2, _, hxe2, _, hxl2, hfl2⟩ := DataW.trod_struct Tryz.underlying39 g2
        match xs2, hxl2 with
        | [z0, z1, z2, z3, z4, z5], _ =>
          have f0 := hfl2 0 _ rfl
          have f1 := hfl2 1 _ rfl
          have f2 := hfl2 2 _ rfl
          have f3 := hfl2 3 _ rfl
          have f4 := hfl2 4 _ rfl
          have f5 := hfl2 5 _ rfl
          simp [cellsInt] at f0 f1 f2 f3 f4 f5
          obtain ⟨x2, e2, _⟩ := DataW.trod_int Tryz.underlying3 f0
          obtain ⟨x3, e3, _⟩ := DataW.trod_int Tryz.underlying3 f1
          obtain ⟨x4, e4, _⟩ := DataW.trod_int Tryz.underlying3 f2
          obtain ⟨x5, e5, _⟩ := DataW.trod_int Tryz.underlying3 f3
          obtain ⟨x6, e6, _⟩ := DataW.trod_int Tryz.underlying3 f4
          obtain ⟨x7, e7, _⟩ := DataW.trod_int Tryz.underlying3 f5
          simp at e0 e1 e2 e3 e4 e5 e6 e7 e8
          subst e0 e1 e2 e3 e4 e5 e6 e7 e8
          refine ⟨⟨L s0, L s1, x2, x3, x4, x5, x6, x7, x8⟩, fun j u hu => ?_, ?_⟩
          · have hj : j < 9 := by
              have := (List.getElem?_eq_some_iff.1 hu).1
              simpa [ncell] using this
            have c := hcell j (by omega)
            simp only [ncell, BL] at hu
            rw [hu] at c
            exact c
          · simp only [Prod.mk.injEq] at hxe
            rw [hxe.1]
            simp only [List.map_cons, List.map_nil, Rows.uptoBulk, Rows.uptoBulkAll]
            have hb : Rows.uptoBulk y0.1 = s0.data.toList.length + 1 := by rw [q0]; simp [Rows.uptoBulk]
            rw [hb]
            show s0.data.toList.length ≤ _
            omega
    obtain ⟨q, hq⟩ := Go.Deep.choose_lt each
    refine ⟨some a, len, cap, (List.range len).map q, rfl, ⟨by simp, fun hp => ?_⟩, hl, by unfold maxLen at hm; omega, fun z hz => ?_⟩
    · have h0 : W.cell? ((a.add (0 * 9)).add 0) = some (.string (B (q 0).path)) := (hq 0 hp).1 0 _ rfl
      have hspot : a.spot = none := by
        have := World.cell?_spot h0
        simpa [Addr.add] using this
      obtain ⟨b, off, spot⟩ := a
      simp only at hspot
      subst hspot
      refine ⟨b, off, rfl, fun i hi j u hu => ?_⟩
      have hi' : i < len := by simpa using hi
      have := (hq i hi').1 j u (by simpa using hu)
      rw [Go.WideShapes.add_plain, Go.WideShapes.add_plain] at this
      exact this
    · obtain ⟨i, hi, rfl⟩ := List.mem_map.1 hz
      have h1 := (hq i (List.mem_range.1 hi)).2
      have h2 := bulk_part (List.mem_map.2 ⟨i, hi, rfl⟩ : D i ∈ (List.range len).map D)
      simp only [Rows.uptoBulk]
      omega
end Go.Proofs.YtfkhnnmibecbeaaGreatDoor
