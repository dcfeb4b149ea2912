/-
  What every law's proof of this seat shares: scripts, numbers and texts that came in, how long they are; a world in which the listed tables lie, and that arguments read as before where older memory is as it was. No condition.
  A transaction that came in. No condition.
  A transaction that came in, its versions within an int. No condition.
  Bytes that came in. No condition.
-/
import Derived.Test.YtflgemlhocjipaaGreatDoorSFew
import Derived.Test.YtflgemlhocjipaaGreatDoorCards
import Derived.Test.YtflgemlhocjipaaGreatDoorTie
import Derived.WalkKit
import Derived.ProofKit
import Derived.OpenShut
import Derived.Deep.DeepHandedRow
import Derived.Lib.LaidTab
import Derived.Carry
import Derived.SizedLaws
import Derived.ChangeMaps5
import Derived.Test.YtflgemlhocjipaaGreatDoorCMath
import Derived.Test.YtflgemlhocjipaaGreatDoorQRDec
import Derived.Deep.Slices
namespace Go.Proofs.YtflgemlhocjipaaGreatDoor
set_option maxRecDepth 100000
open Go.ChangeShapes Go.WideShapes Go.ChangeAt Go.RowKit Go.Proofs.Zn Go.Proofs.Zt

theorem ownK : ownKnob Tryz.prog.godebug = none := by kernel_rfl
theorem laidOut : laidOutB Tryz.prog = true := by kernel_rfl
theorem args_stay {H : Type} {enc : TypeId × Value → H} {W W' : World} (hb : Below W.heap.size W W') {sp : Nat → Bool} : ∀ {ts : List TypeId} {vs : List Value} {ds : List (DataW H)} {ps : List MemPlace},
    (∀ t ∈ ts, Tryz.prog.readableRec t = true ∧ t < Tryz.prog.types.size) → DataW.TrodAll enc Tryz.prog W 0 (fun _ => true) true ts vs ds ps → (∀ p ∈ ps, p.block < W.heap.size) → (∀ p ∈ ps, sp p.block = true) →
    DataW.TrodAll enc Tryz.prog W' 0 sp true ts vs ds ps
  | [], vs, ds, ps, _, h, _, _ => by
    obtain ⟨rfl, rfl, rfl⟩ := trodAll_nil h
    exact trodAll_mk0
  | t :: ts, vs, ds, ps, hr, h, hlt, hs => by
    obtain ⟨v, vs', d, ds', p, q, rfl, rfl, rfl, h1, h2⟩ := trodAll_cons h
    exact trodAll_cons_mk (WideElems.Trod_stays laidOut (hr t (by simp)).1 (hr t (by simp)).2 h1 (fun x hx => hb.same (hlt x (by simp [hx]))) (fun x hx => hs x (by simp [hx])))
      (args_stay hb (fun u hu => hr u (by simp [hu])) h2 (fun x hx => hlt x (by simp [hx])) (fun x hx => hs x (by simp [hx])))

section
variable {H : Type} {enc : TypeId × Value → H} {P : Program}
theorem post_of_below {f : Func} {s : ChangeSpec} {apart fresh handsOn again : Bool} {W W' : World} {args : Array Value} {v : Value} {ds gs : List (DataW H)} {before pa pv : List MemPlace}
    (hW : DataW.Whole enc P f.params.toList s.vars apart W args.toList ds gs before)
    (hres : ∀ (b : Nat) (sp : Nat → Bool) (hd : Bool), DataW.TrodAll enc P W' b sp hd f.resultTypes.toList (v.resultList f.resultTypes.size) (s.fn H (ds ++ gs)).results [])
    (hargs : ∀ sp : Nat → Bool, (∀ p ∈ before, sp p.block = true) → DataW.TrodAll enc P W' 0 sp true f.params.toList args.toList (s.fn H (ds ++ gs)).args pa)
    (hvars : ∀ sp : Nat → Bool, (∀ p ∈ before, sp p.block = true) → DataW.TrodVars enc P W' sp s.vars (s.fn H (ds ++ gs)).vars pv)
    (hps : before = pa ++ pv) (hb : Below W.heap.size W W')
    (hok : ∀ (j : Nat) (t : TypeId) (r : Value), f.resultTypes[j]? = some t → (v.resultList f.resultTypes.size)[j]? = some r → Value.okWide P W' .any 0 t r) :
    s.post enc P f apart fresh handsOn again W args v W' := by
  have hlt : ∀ p ∈ before, p.block < W.heap.size := fun p hp => hW.lt p hp
  have hold : ∀ p ∈ before, (fun b => decide (b < W.heap.size)) p.block = true := fun p hp => by simpa using hlt p hp
  refine ⟨ds, gs, before, [], pa, pv, hW, hres _ _ _, hargs _ hold, hvars _ hold, World.keptBut_mono (fun p hp => ⟨hp, ?_⟩) (hb.frame (· ∈ before)), fun _ => ?_⟩
  · rw [hps, List.mem_append] at hp
    exact Or.inr hp
  · obtain ⟨_, _, _, _, _, hz, hn⟩ := hW
    refine ⟨hok, _, _, ([] ++ pa) ++ pv, ⟨[] ++ pa, pv, trodAll_append (hargs _ (fun _ _ => rfl)) (hres _ _ _), hvars _ (fun _ _ => rfl), rfl, ?_, ?_⟩, ?_⟩
    · intro b off hp
      have hin : MemPlace.cell b off ∈ before := by rw [hps]; simpa using hp
      rw [hb.frozen (hlt _ hin)]
      exact hz b off hin
    · intro ha
      have := hn ha
      rw [hps] at this
      simpa using this
    · intro p hp _
      rw [hps]
      simpa using hp
end

/-- The post of a law: true, the arguments as before. -/
theorem law_post {H : Type} {enc : TypeId × Value → H} {f : Func} {s : ChangeSpec} {W W' : World} {args : Array Value} {ds gs : List (DataW H)} {before : List MemPlace}
    (hvs : s.vars = []) (hfn : ∀ gs', gs' = [] → s.fn H (ds ++ gs') = { results := [.lit (.bool true)], args := ds }) (hrt : f.resultTypes = #[4])
    (hts : ∀ t ∈ f.params.toList, Tryz.prog.readableRec t = true ∧ t < Tryz.prog.types.size)
    (hW : DataW.Whole enc Tryz.prog f.params.toList s.vars false W args.toList ds gs before) (hb : Below W.heap.size W W') :
    s.post enc Tryz.prog f false true false false W args (.bool true) W' := by
  have hW' := hW
  obtain ⟨p, q, hA0, hV, rfl, hfz, hnd⟩ := hW
  have hA : DataW.TrodAll enc Tryz.prog W 0 (fun _ => true) true f.params.toList args.toList ds p := hA0
  rw [hvs] at hV
  obtain ⟨rfl, rfl⟩ := trodVars_none hV
  have hlt : ∀ x ∈ p, x.block < W.heap.size := fun x hx => hW'.lt x (by simp [hx])
  have e := hfn [] rfl
  refine post_of_below (pa := p) (pv := []) hW' (fun b sp hd => ?_) (fun sp hsp => ?_) (fun sp hsp => ?_) rfl hb ?_
  · rw [e, hrt]; exact trodAll_cons_mk (shut_bool Tryz.underlying4 _) trodAll_mk0
  · rw [e]; exact args_stay hb hts hA hlt (fun x hx => hsp x (by simp [hx]))
  · rw [e, hvs]; rfl
  · exact Go.RowKit.ok_one hrt rfl (okWide_bool_mk Tryz.underlying4 _)
/-- The cells of the two tables that the rows list. -/
def firstCells : Array Value := (Go.Pinned.utf8FirstZ.map fun (n : Nat) => Value.int .u8 n).toArray
def rangeCells : Array Value := ((([128, 191, 160, 191, 128, 159, 144, 191, 128, 143] : List Int) ++ List.replicate 22 0).map fun (n : Int) => Value.int .u8 n).toArray
def lay (C : Array Value) : Obj → Obj
  | .cells _ t frozen => .cells C t frozen
  | o => o
noncomputable def laidWorld (os : Os) : World :=
  { World.holding Tryz.prog os ⟨#[], #[], []⟩ with heap := ((World.holding Tryz.prog os ⟨#[], #[], []⟩).heap.modify 1 (lay firstCells)).modify 2 (lay rangeCells) }
instance : Inhabited Chg := ⟨⟨0, [], [], 0, false, false⟩⟩
instance : Inhabited Opc := ⟨⟨0, 0, 0, 0, 0, 0, none, 0, 0, []⟩⟩
theorem cellsStr : Tryz.prog.cellsOf 9 = 1 := by kernel_rfl
theorem cellsInt : Tryz.prog.cellsOf 3 = 1 := by kernel_rfl
theorem cellsBool : Tryz.prog.cellsOf 4 = 1 := by kernel_rfl
theorem cellsChange : Tryz.prog.cellsOf 79 = 6 := by kernel_rfl
theorem cellsChanges : Tryz.prog.cellsOf 36 = 1 := by kernel_rfl
theorem cellsVTxn : Tryz.prog.cellsOf 38 = 6 := by kernel_rfl
theorem weightsAll_mem {H : Type} {P : Program} {e : TypeId} : ∀ {l : List (DataW H)} {d : DataW H}, d ∈ l → ∀ n ∈ d.weights P e, n ∈ DataW.weightsAll P e l
  | d' :: r, d, hd, n, hn => by
    simp only [DataW.weightsAll, List.mem_append]
    rcases List.mem_cons.1 hd with rfl | h
    · exact Or.inl hn
    · exact Or.inr (weightsAll_mem h n hn)
end Go.Proofs.YtflgemlhocjipaaGreatDoor
namespace Go.Proofs.YtflgemlhocjipaaGreatDoor
set_option maxRecDepth 100000
open Go.ChangeShapes Go.WideShapes Go.ChangeAt Go.RowKit Go.Proofs.Zn Go.Proofs.Zt

theorem okVTxn : Tryz.prog.readableRec 38 = true ∧ 38 < Tryz.prog.types.size := ⟨by kernel_rfl, of_decide_eq_true (by kernel_rfl)⟩
theorem wantVTxn : Tryz.pinned.checked.prog.wantsStandIn 38 = false := (show Tryz.prog.wantsStandIn 38 = false by kernel_rfl)
end Go.Proofs.YtflgemlhocjipaaGreatDoor
namespace Go.Proofs.YtflgemlhocjipaaGreatDoor
set_option maxRecDepth 100000
open Go.ChangeShapes Go.WideShapes Go.ChangeAt Go.RowKit Go.Proofs.Zn Go.Proofs.Zt

/-- Changes that a cell names. -/
theorem open_changesV {H : Type} {enc : TypeId × Value → H} {W : World} {held : Bool} {fuel : Nat} {v : Value} {x : DataW H × List MemPlace} (h : DataW.trod enc Tryz.prog W 0 (fun _ => true) held fuel 36 [v] = some x) :
    ∃ A m c l, v = .slice A m c ∧ Rd ccell 6 W A m l ∧ m ≤ 9223372036854775807 ∧ VerOk l ∧ (∀ ch ∈ l, ch.path.length ∈ x.1.weights Tryz.prog 36) := by
  rcases Go.Deep.open_slice Tryz.underlying36 h with ⟨hcs, hx⟩ | ⟨a, len, cap, m, n, D, Pl, hcs, _, hl, hm, hmm, hx, hel⟩
  · simp at hcs
    subst hx
    exact ⟨none, 0, 0, [], hcs, Rd.nil _ _ _ _, by omega, fun _ h => (by cases h), fun _ h => (by cases h)⟩
  · simp at hcs
    subst hcs hx
    simp only [if_true] at hmm
    obtain rfl : cap = m := hmm.symm
    rw [cellsChange] at hel
    have each : ∀ i, i < len → ∃ ch : Chg, (∀ j u, (ccell ch)[j]? = some u → W.cell? ((a.add (i * 6)).add j) = some u) ∧ ch.path.length ∈ (D i).weights Tryz.prog 79 ∧ -9223372036854775808 ≤ ch.ver ∧ ch.ver ≤ 9223372036854775807 := by
      intro i hi
      obtain ⟨cs, h1, h2⟩ := hel i (by omega)
      obtain ⟨_, hlen, hcell⟩ := World.cells?_some h1
      obtain ⟨xs, k, _, hxe, _, hxl, hfl⟩ := DataW.trod_struct Tryz.underlying79 h2
      match xs, hxl, cs, hlen with
      | [y0, y1, y2, y3, y4, y5], _, [v0, v1, v2, v3, v4, v5], _ =>
        have g0 := hfl 0 _ rfl
        have g1 := hfl 1 _ rfl
        have g2 := hfl 2 _ rfl
        have g3 := hfl 3 _ rfl
        have g4 := hfl 4 _ rfl
        have g5 := hfl 5 _ rfl
        simp [cellsInt, cellsStr, cellsBool] at g0 g1 g2 g3 g4 g5
        obtain ⟨x0, e0, _⟩ := DataW.trod_int Tryz.underlying3 g0
        obtain ⟨s1, e1, q1, _⟩ := DataW.trod_string Tryz.underlying9 g1
        obtain ⟨s2, e2, _⟩ := DataW.trod_string Tryz.underlying9 g2
        obtain ⟨x3, e3, _, wf3⟩ := DataW.trod_int Tryz.underlying3 g3
        obtain ⟨b4, e4, _⟩ := DataW.trod_bool Tryz.underlying4 g4
        obtain ⟨b5, e5, _⟩ := DataW.trod_bool Tryz.underlying4 g5
        simp at e0 e1 e2 e3 e4 e5
        subst e0 e1 e2 e3 e4 e5
        refine ⟨⟨x0, L s1, L s2, x3, b4, b5⟩, fun j u hu => ?_, ?_, ?_⟩
        · have hj : j < 6 := by
            have := (List.getElem?_eq_some_iff.1 hu).1
            simpa [ccell] using this
          have c := hcell j (by omega)
          simp only [ccell, BL] at hu
          rw [hu] at c
          exact c
        · simp only [Prod.mk.injEq] at hxe
          rw [hxe.1]
          simp only [DataW.weights, Tryz.underlying79]
          refine DataW.weights_mem_each (j := 1) (t := 9) (d := .lit (.string s1.data.toList)) rfl (by rw [q1]; rfl) _ ?_
          simp [DataW.weights, L]
        · simpa [Lit.wf, IntKind.min, IntKind.max, IntKind.signed, IntKind.bits] using wf3
    obtain ⟨q, hq⟩ := Go.Deep.choose_lt each
    refine ⟨some a, len, cap, (List.range len).map q, rfl, ⟨by simp, fun hp => ?_⟩, by unfold maxLen at hm; omega, fun ch hch => ?_, fun ch hch => ?_⟩
    · have h0 : W.cell? ((a.add (0 * 6)).add 0) = some (.int .i64 (q 0).kind) := (hq 0 hp).1 0 _ rfl
      have hspot : a.spot = none := by
        have := World.cell?_spot h0
        simpa [Addr.add] using this
      obtain ⟨b, off, spot⟩ := a
      simp only at hspot
      subst hspot
      refine ⟨b, off, rfl, fun i hi j u hu => ?_⟩
      have hi' : i < len := by simpa using hi
      have := (hq i hi').1 j u (by simpa using hu)
      rw [Go.WideShapes.add_plain, Go.WideShapes.add_plain] at this
      exact this
    · obtain ⟨i, hi, rfl⟩ := List.mem_map.1 hch
      exact (hq i (List.mem_range.1 hi)).2.2
    · obtain ⟨i, hi, rfl⟩ := List.mem_map.1 hch
      have hi' := List.mem_range.1 hi
      simp only [DataW.weights, Tryz.underlying36, List.mem_cons, List.mem_append]
      exact Or.inr (Or.inl (weightsAll_mem (List.mem_map.2 ⟨i, hi, rfl⟩) _ (hq i hi').2.1))
/-- One transaction as an argument. -/
theorem open_txnV {H : Type} {enc : TypeId × Value → H} {W : World} {base : Nat} {v : Value} {d : DataW H} {ps : List MemPlace} (hv : Value.okWide Tryz.prog W .any base 38 v)
    (h : DataW.Trod enc Tryz.prog W 0 (fun _ => true) true 38 v d ps) : ∃ o : Opc, v = .agg #[.int .i64 o.k, .int .i64 o.s, .int .i64 o.n, .int .i64 o.sp, .int .i64 o.now, .slice o.A o.m o.c] ∧ Rd ccell 6 W o.A o.m o.l ∧ (∀ ch ∈ o.l, ch.path.length ∈ d.weights Tryz.prog 38) ∧ VerOk o.l ∧ o.m ≤ 9223372036854775807 := by
  obtain ⟨cs, rfl, hcs⟩ := okWide_struct Tryz.underlying38 hv
  rw [cellsVTxn] at hcs
  obtain ⟨cs⟩ := cs
  match cs, hcs with
  | [v1, v2, v3, v4, v5, v6], _ =>
    obtain ⟨fuel, hf⟩ := h
    obtain ⟨xs2, k2, _, hxe2, _, hxl2, hfl2⟩ := DataW.trod_struct (cs := [v1, v2, v3, v4, v5, v6]) Tryz.underlying38 hf
    match xs2, hxl2 with
    | [z0, z1, z2, z3, z4, z5], _ =>
      have f0 := hfl2 0 _ rfl
      have f1 := hfl2 1 _ rfl
      have f2 := hfl2 2 _ rfl
      have f3 := hfl2 3 _ rfl
      have f4 := hfl2 4 _ rfl
      have f5 := hfl2 5 _ rfl
      simp [cellsInt, cellsChanges] at f0 f1 f2 f3 f4 f5
      obtain ⟨x1, e1, _⟩ := DataW.trod_int Tryz.underlying3 f0
      obtain ⟨x2, e2, _⟩ := DataW.trod_int Tryz.underlying3 f1
      obtain ⟨x3, e3, _⟩ := DataW.trod_int Tryz.underlying3 f2
      obtain ⟨x4, e4, _⟩ := DataW.trod_int Tryz.underlying3 f3
      obtain ⟨x5, e5, _⟩ := DataW.trod_int Tryz.underlying3 f4
      obtain ⟨A, m, c, l, e6, hr, hm, hver, hw⟩ := open_changesV f5
      simp at e1 e2 e3 e4 e5
      subst e1 e2 e3 e4 e5 e6
      injection hxe2 with hd hp'
      subst hd
      refine ⟨⟨0, x1, x2, x3, x4, x5, A, m, c, l⟩, rfl, hr, fun ch hch => ?_, hver, hm⟩
      simp only [DataW.weights, Tryz.underlying38]
      exact DataW.weights_mem_each (j := 5) (t := 36) (d := z5.1) rfl rfl _ (hw ch hch)
end Go.Proofs.YtflgemlhocjipaaGreatDoor
namespace Go.Proofs.YtflgemlhocjipaaGreatDoor
set_option maxRecDepth 100000
open Go.ChangeShapes Go.WideShapes Go.ChangeAt Go.RowKit

theorem okbytes : Tryz.prog.readableRec 54 = true ∧ 54 < Tryz.prog.types.size := ⟨by kernel_rfl, of_decide_eq_true (by kernel_rfl)⟩
theorem wantbytes : Tryz.pinned.checked.prog.wantsStandIn 54 = false := (show Tryz.prog.wantsStandIn 54 = false by kernel_rfl)
theorem cellsU8 : Tryz.prog.cellsOf 5 = 1 := by kernel_rfl
theorem bytesU8 : Tryz.prog.bytesOf 5 = 1 := by kernel_rfl
/-- How a slice that came in reads, as far as its capacity goes. -/
def CapIs {H : Type} (d : DataW H) (cap : Nat) : Prop := (d = .nil ∧ cap = 0) ∨ ∃ es sp, d = .slice es sp ∧ es.length + sp.length = cap
theorem cap_bytes {H : Type} {ts : List TypeId} {ds : List (DataW H)} {j cap : Nat} {d : DataW H} (h : (DataW.weightsEach Tryz.prog ts ds).all (· ≤ reachBytes) = true) (ht : ts[j]? = some 54) (hd : ds[j]? = some d) (hs : CapIs d cap) : cap ≤ 140737488351232 := by
  rcases hs with ⟨_, rfl⟩ | ⟨es, sp, rfl, rfl⟩
  · omega
  · have := sized_slice h ht hd Tryz.underlying54
    rw [bytesU8] at this
    simp only [reachBytes] at this
    omega
/-- A slice of numbers of a kind that came in. -/
theorem open_nums {K : IntKind} {t e : TypeId} {H : Type} {enc : TypeId × Value → H} {W : World} {base : Nat} {v : Value} {d : DataW H} {ps : List MemPlace} (ht : Tryz.prog.underlying t = some (.slice e)) (he : Tryz.prog.underlying e = some (.int K)) (hc1 : Tryz.prog.cellsOf e = 1)
    (hv : Value.okWide Tryz.prog W .any base t v) (h : DataW.Trod enc Tryz.prog W 0 (fun _ => true) true t v d ps) :
    ∃ ad len cap zs, v = .slice ad len cap ∧ Pq.Reads K W ad len zs ∧ len ≤ cap ∧ CapIs d cap ∧ ∀ z ∈ zs, (Lit.int K z).wf = true := by
  obtain ⟨a0, len, cap, rfl⟩ := okWide_slice ht hv
  obtain ⟨fuel, hf⟩ := h
  rcases open_ints ht he hc1 hf with ⟨hcs, hx⟩ | ⟨a, len', cap', zs, hcs, _, hl, hm, hz, hx, hcell, hwz⟩
  · simp [Value.cells] at hcs
    obtain ⟨rfl, rfl, rfl⟩ := hcs
    obtain ⟨rfl, rfl⟩ := hx
    exact ⟨none, 0, 0, [], rfl, ⟨rfl, fun h => absurd h (by omega)⟩, by omega, .inl ⟨rfl, rfl⟩, fun z hz => by cases hz⟩
  · simp [Value.cells] at hcs
    obtain ⟨rfl, rfl, rfl⟩ := hcs
    have hx' := hx
    simp only [Prod.mk.injEq] at hx'
    obtain ⟨rfl, rfl⟩ := hx'
    simp only [if_true] at hz
    refine ⟨some a, len, cap, zs.take len, rfl, ⟨by rw [List.length_take]; omega, fun hp => ?_⟩, hl, .inr ⟨_, _, rfl, by simp [lits]; omega⟩, fun z hz => hwz z (List.mem_of_mem_take hz)⟩
    obtain ⟨b, off, rfl, hc⟩ := ints_at hcell (by omega)
    refine ⟨b, off, rfl, fun i hi => ?_⟩
    rw [hc i (by omega), List.getD_eq_getElem?_getD, List.getD_eq_getElem?_getD, List.getElem?_take, if_pos hi]
theorem open_bytes {H : Type} {enc : TypeId × Value → H} {W : World} {base : Nat} {v : Value} {d : DataW H} {ps : List MemPlace} (hv : Value.okWide Tryz.prog W .any base 54 v)
    (h : DataW.Trod enc Tryz.prog W 0 (fun _ => true) true 54 v d ps) : ∃ ad len cap zs, v = .slice ad len cap ∧ Pq.Reads .u8 W ad len zs ∧ len ≤ cap ∧ CapIs d cap ∧ Pq.Bys zs := by
  obtain ⟨ad, len, cap, zs, h1, h2, h3, h4, h5⟩ := open_nums Tryz.underlying54 Tryz.underlying5 cellsU8 hv h
  exact ⟨ad, len, cap, zs, h1, h2, h3, h4, fun z hz => bounds_u8 (h5 z hz)⟩
end Go.Proofs.YtflgemlhocjipaaGreatDoor
