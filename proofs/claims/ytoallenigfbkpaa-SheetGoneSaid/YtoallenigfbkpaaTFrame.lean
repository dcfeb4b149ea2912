/-
  What every law's proof of this seat shares: scripts, bytes and numbers out of what came in, and that arguments read as before where older memory is as it was. No condition.
-/
import Derived.Test.YtoallenigfbkpaaTOps
import Derived.WalkKit
import Derived.ProofKit
import Derived.OpenShut
import Derived.Deep.DeepHandedRow
import Derived.Deep.Slices
import Derived.Lib.LaidTab
import Derived.Carry
import Derived.SizedLaws
import Derived.WideKeyPair
namespace Go.Proofs.Ytoallenigfbkpaa
open Go.ChangeShapes Go.WideShapes Go.ChangeAt Go.RowKit Go.Proofs.Sg

theorem own : ownKnob Try.prog.godebug = none := by kernel_rfl
theorem cells5 : Try.prog.cellsOf 5 = 1 := by kernel_rfl
theorem cells3 : Try.prog.cellsOf 3 = 1 := by kernel_rfl
theorem cells27 : Try.prog.cellsOf 27 = 1 := by kernel_rfl
theorem cells40 : Try.prog.cellsOf 40 = 4 := by kernel_rfl
theorem laidOut : laidOutB Try.prog = true := by kernel_rfl
theorem ok22 : Try.prog.readableRec 22 = true ∧ 22 < Try.prog.types.size := ⟨by kernel_rfl, of_decide_eq_true (by kernel_rfl)⟩
theorem ok27 : Try.prog.readableRec 27 = true ∧ 27 < Try.prog.types.size := ⟨by kernel_rfl, of_decide_eq_true (by kernel_rfl)⟩
theorem ok46 : Try.prog.readableRec 46 = true ∧ 46 < Try.prog.types.size := ⟨by kernel_rfl, of_decide_eq_true (by kernel_rfl)⟩
theorem ok3 : Try.prog.readableRec 3 = true ∧ 3 < Try.prog.types.size := ⟨by kernel_rfl, of_decide_eq_true (by kernel_rfl)⟩

theorem args_stay {H : Type} {enc : TypeId × Value → H} {W W' : World} (hb : Below W.heap.size W W') {sp : Nat → Bool} : ∀ {ts : List TypeId} {vs : List Value} {ds : List (DataW H)} {ps : List MemPlace},
    (∀ t ∈ ts, Try.prog.readableRec t = true ∧ t < Try.prog.types.size) → DataW.TrodAll enc Try.prog W 0 (fun _ => true) true ts vs ds ps → (∀ p ∈ ps, p.block < W.heap.size) → (∀ p ∈ ps, sp p.block = true) →
    DataW.TrodAll enc Try.prog W' 0 sp true ts vs ds ps
  | [], vs, ds, ps, _, h, _, _ => by
    obtain ⟨rfl, rfl, rfl⟩ := trodAll_nil h
    exact trodAll_mk0
  | t :: ts, vs, ds, ps, hr, h, hlt, hs => by
    obtain ⟨v, vs', d, ds', p, q, rfl, rfl, rfl, h1, h2⟩ := trodAll_cons h
    exact trodAll_cons_mk (WideElems.Trod_stays laidOut (hr t (by simp)).1 (hr t (by simp)).2 h1 (fun x hx => hb.same (hlt x (by simp [hx]))) (fun x hx => hs x (by simp [hx])))
      (args_stay hb (fun u hu => hr u (by simp [hu])) h2 (fun x hx => hlt x (by simp [hx])) (fun x hx => hs x (by simp [hx])))

section
variable {H : Type} {enc : TypeId × Value → H} {P : Program}
theorem post_of_below {f : Func} {s : ChangeSpec} {apart fresh handsOn again : Bool} {W W' : World} {args : Array Value} {v : Value} {ds gs : List (DataW H)} {before pa pv : List MemPlace}
    (hW : DataW.Whole enc P f.params.toList s.vars apart W args.toList ds gs before)
    (hres : ∀ (b : Nat) (sp : Nat → Bool) (hd : Bool), DataW.TrodAll enc P W' b sp hd f.resultTypes.toList (v.resultList f.resultTypes.size) (s.fn H (ds ++ gs)).results [])
    (hargs : ∀ sp : Nat → Bool, (∀ p ∈ before, sp p.block = true) → DataW.TrodAll enc P W' 0 sp true f.params.toList args.toList (s.fn H (ds ++ gs)).args pa)
    (hvars : ∀ sp : Nat → Bool, (∀ p ∈ before, sp p.block = true) → DataW.TrodVars enc P W' sp s.vars (s.fn H (ds ++ gs)).vars pv)
    (hps : before = pa ++ pv) (hb : Below W.heap.size W W')
    (hok : ∀ (j : Nat) (t : TypeId) (r : Value), f.resultTypes[j]? = some t → (v.resultList f.resultTypes.size)[j]? = some r → Value.okWide P W' .any 0 t r) :
    s.post enc P f apart fresh handsOn again W args v W' := by
  have hlt : ∀ p ∈ before, p.block < W.heap.size := fun p hp => hW.lt p hp
  have hold : ∀ p ∈ before, (fun b => decide (b < W.heap.size)) p.block = true := fun p hp => by simpa using hlt p hp
  refine ⟨ds, gs, before, [], pa, pv, hW, hres _ _ _, hargs _ hold, hvars _ hold, World.keptBut_mono (fun p hp => ⟨hp, ?_⟩) (hb.frame (· ∈ before)), fun _ => ?_⟩
  · rw [hps, List.mem_append] at hp
    exact Or.inr hp
  · obtain ⟨_, _, _, _, _, hz, hn⟩ := hW
    refine ⟨hok, _, _, ([] ++ pa) ++ pv, ⟨[] ++ pa, pv, trodAll_append (hargs _ (fun _ _ => rfl)) (hres _ _ _), hvars _ (fun _ _ => rfl), rfl, ?_, ?_⟩, ?_⟩
    · intro b off hp
      have hin : MemPlace.cell b off ∈ before := by rw [hps]; simpa using hp
      rw [hb.frozen (hlt _ hin)]
      exact hz b off hin
    · intro ha
      have := hn ha
      rw [hps] at this
      simpa using this
    · intro p hp _
      rw [hps]
      simpa using hp
end

/-- The post of a law: true, the arguments as before. -/
theorem law_post {H : Type} {enc : TypeId × Value → H} {f : Func} {s : ChangeSpec} {W W' : World} {args : Array Value} {ds gs : List (DataW H)} {before : List MemPlace}
    (hvs : s.vars = []) (hfn : ∀ gs', gs' = [] → s.fn H (ds ++ gs') = { results := [.lit (.bool true)], args := ds }) (hrt : f.resultTypes = #[4])
    (hts : ∀ t ∈ f.params.toList, Try.prog.readableRec t = true ∧ t < Try.prog.types.size)
    (hW : DataW.Whole enc Try.prog f.params.toList s.vars false W args.toList ds gs before) (hb : Below W.heap.size W W') :
    s.post enc Try.prog f false true false false W args (.bool true) W' := by
  have hW' := hW
  obtain ⟨p, q, hA0, hV, rfl, hfz, hnd⟩ := hW
  have hA : DataW.TrodAll enc Try.prog W 0 (fun _ => true) true f.params.toList args.toList ds p := hA0
  rw [hvs] at hV
  obtain ⟨rfl, rfl⟩ := trodVars_none hV
  have hlt : ∀ x ∈ p, x.block < W.heap.size := fun x hx => hW'.lt x (by simp [hx])
  have e := hfn [] rfl
  refine post_of_below (pa := p) (pv := []) hW' (fun b sp hd => ?_) (fun sp hsp => ?_) (fun sp hsp => ?_) rfl hb ?_
  · rw [e, hrt]; exact trodAll_cons_mk (shut_bool Try.underlying4 _) trodAll_mk0
  · rw [e]; exact args_stay hb hts hA hlt (fun x hx => hsp x (by simp [hx]))
  · rw [e, hvs]; rfl
  · exact ok_one hrt rfl (okWide_bool_mk Try.underlying4 _)

/-- A cell that reads as a slice of bytes. -/
theorem open_bytes_cell {H : Type} {enc : TypeId × Value → H} {W : World} {held : Bool} {fuel : Nat} {v : Value} {x : DataW H × List MemPlace} (h : DataW.trod enc Try.prog W 0 (fun _ => true) held fuel 27 [v] = some x) :
    ∃ A l c zs, v = .slice A l c ∧ Rd bcell 1 W A l zs ∧ l ≤ c := by
  rcases open_ints Try.underlying27 Try.underlying5 cells5 h with ⟨hcs, _⟩ | ⟨a, len', cap', zs, hcs, _, hl, hm, hz, hx, hcell, hwz⟩
  · simp at hcs
    exact ⟨none, 0, 0, [], hcs, Rd.nil _ _ _ _, Nat.le_refl _⟩
  · simp at hcs
    simp only [if_true] at hz
    have hzl : (zs.take len').length = len' := by rw [List.length_take]; omega
    refine ⟨some a, len', cap', (zs.take len').map (fun z => UInt8.ofNat z.toNat), hcs, ⟨by rw [List.length_map, hzl], fun hp => ?_⟩, by omega⟩
    obtain ⟨b, off, rfl, hc⟩ := ints_at hcell (by omega)
    refine ⟨b, off, rfl, fun i hi j u hu => ?_⟩
    rw [List.length_map, hzl] at hi
    have hi' : i < zs.length := by omega
    rcases j with _ | j
    · have h1 := hc i hi'
      rw [List.getD_eq_getElem?_getD, List.getElem?_eq_getElem hi'] at h1
      have hb := bounds_u8 (hwz zs[i] (List.getElem_mem hi'))
      have e : ((List.map (fun z => UInt8.ofNat z.toNat) (zs.take len'))[i]'(by rw [List.length_map, hzl]; exact hi)).toNat = zs[i].toNat := by
        rw [List.getElem_map, List.getElem_take]
        have : (UInt8.ofNat zs[i].toNat).toNat = zs[i].toNat % 256 := by simp
        rw [this]; omega
      have e2 : u = .int .u8 zs[i] := by
        have := Option.some.inj hu
        rw [← this, e]
        congr 1; omega
      rw [e2, Nat.mul_one, Nat.add_zero]
      exact h1
    · cases hu
theorem rd_under {w : World} {A : Option Addr} {n : Nat} {l : List UInt8} (h : Rd bcell 1 w A n l) : Under w.heap.size A n := fun hl a ha => by
  obtain ⟨b, off, e, hc⟩ := h.cells hl
  rw [e] at ha
  injection ha with ha
  rw [← ha]
  exact cell_lt (hc 0 (by rw [h.len]; exact hl) 0 _ rfl)
theorem open_bytes {H : Type} {enc : TypeId × Value → H} {W : World} {base : Nat} {v : Value} {d : DataW H} {ps : List MemPlace} (hv : Value.okWide Try.prog W .any base 27 v)
    (h : DataW.Trod enc Try.prog W 0 (fun _ => true) true 27 v d ps) : ∃ ad len cap zs, v = .slice ad len cap ∧ Rd bcell 1 W ad len zs ∧ len ≤ cap := by
  obtain ⟨a0, len, cap, rfl⟩ := okWide_slice Try.underlying27 hv
  obtain ⟨fuel, hf⟩ := h
  have hf' : DataW.trod enc Try.prog W 0 (fun _ => true) true fuel 27 [.slice a0 len cap] = some (d, ps) := by simpa [Value.cells] using hf
  obtain ⟨A, l, c, zs, e, hr⟩ := open_bytes_cell hf'
  exact ⟨A, l, c, zs, e, hr⟩
theorem open_i64 {H : Type} {enc : TypeId × Value → H} {W : World} {base : Nat} {v : Value} {d : DataW H} {ps : List MemPlace} (hv : Value.okWide Try.prog W .any base 3 v)
    (h : DataW.Trod enc Try.prog W 0 (fun _ => true) true 3 v d ps) : ∃ x : Int, v = .int .i64 x ∧ -9223372036854775808 ≤ x ∧ x ≤ 9223372036854775807 := by
  obtain ⟨x, rfl, rfl, rfl, hw⟩ := open_int Try.underlying3 hv h
  exact ⟨x, rfl, (bounds_i64 hw).1, (bounds_i64 hw).2⟩
instance : Inhabited Opr := ⟨op0⟩
/-- A script that came in. -/
theorem open_ops {H : Type} {enc : TypeId × Value → H} {W : World} {base : Nat} {v : Value} {d : DataW H} {ps : List MemPlace} (hv : Value.okWide Try.prog W .any base 22 v)
    (h : DataW.Trod enc Try.prog W 0 (fun _ => true) true 22 v d ps) : ∃ ad len cap os, v = .slice ad len cap ∧ OReads W W.heap.size ad len os := by
  obtain ⟨a0, len, cap, rfl⟩ := okWide_slice Try.underlying22 hv
  obtain ⟨fuel, hf⟩ := h
  rcases Go.Deep.open_slice Try.underlying22 hf with ⟨hcs, hx⟩ | ⟨a, len', cap', m, n, D, Pl, hcs, _, hl, hm, hmm, hx, hel⟩
  · simp [Value.cells] at hcs
    obtain ⟨rfl, rfl, rfl⟩ := hcs
    exact ⟨none, 0, 0, [], rfl, rfl, fun h => absurd h (by omega)⟩
  · simp [Value.cells] at hcs
    obtain ⟨rfl, rfl, rfl⟩ := hcs
    simp only [if_true] at hmm
    obtain rfl : cap = m := hmm.symm
    rw [cells40] at hel
    have each : ∀ i, i < len → ∃ o : Opr, W.cell? ((a.add (i * 4)).add 0) = some (.int .i64 o.k) ∧ W.cell? ((a.add (i * 4)).add 1) = some (.int .i64 o.p) ∧ W.cell? ((a.add (i * 4)).add 2) = some (.int .i64 o.n) ∧
        (∃ A l c, W.cell? ((a.add (i * 4)).add 3) = some (.slice A l c) ∧ Rd bcell 1 W A l o.b ∧ Under W.heap.size A l ∧ l ≤ c) ∧ o.p ≤ 9223372036854775807 ∧ o.n ≤ 9223372036854775807 := by
      intro i hi
      obtain ⟨cs, h1, h2⟩ := hel i (by omega)
      obtain ⟨_, hlen, hcell⟩ := World.cells?_some h1
      obtain ⟨xs, k, _, _, _, hxl, hfl⟩ := DataW.trod_struct Try.underlying40 h2
      match xs, hxl, cs, hlen with
      | [y0, y1, y2, y3], _, [v0, v1, v2, v3], _ =>
        have g0 := hfl 0 _ rfl
        have g1 := hfl 1 _ rfl
        have g2 := hfl 2 _ rfl
        have g3 := hfl 3 _ rfl
        simp [cells3, cells27] at g0 g1 g2 g3
        obtain ⟨x0, e0, _⟩ := DataW.trod_int Try.underlying3 g0
        obtain ⟨x1, e1, w1⟩ := DataW.trod_int Try.underlying3 g1
        obtain ⟨x2, e2, w2⟩ := DataW.trod_int Try.underlying3 g2
        obtain ⟨A, l, c, zs, e3, hr, hlc⟩ := open_bytes_cell g3
        have c0 := hcell 0 (by omega)
        have c1 := hcell 1 (by omega)
        have c2 := hcell 2 (by omega)
        have c3 := hcell 3 (by omega)
        simp at e0 e1 e2 c0 c1 c2 c3
        subst e0 e1 e2 e3
        exact ⟨⟨x0, x1, x2, zs⟩, by simpa using c0, by simpa using c1, by simpa using c2, ⟨A, l, c, by simpa using c3, hr, rd_under hr, hlc⟩, (bounds_i64 w1.2).2, (bounds_i64 w2.2).2⟩
    obtain ⟨q, hq⟩ := Go.Deep.choose_lt each
    refine ⟨some a, len, cap, (List.range len).map q, rfl, ⟨by simp, fun hp => ?_⟩⟩
    have hspot : a.spot = none := by
      have := World.cell?_spot (hq 0 hp).1
      simpa [Addr.add] using this
    obtain ⟨b, off, spot⟩ := a
    simp only at hspot
    subst hspot
    refine ⟨b, off, rfl, ?_, fun i hi => ?_⟩
    · have := (hq 0 hp).1
      rw [Go.WideShapes.add_plain, Go.WideShapes.add_plain] at this
      exact cell_lt this
    have e : ((List.range len).map q).getD i op0 = q i := by
      rw [List.getD_eq_getElem?_getD, List.getElem?_map, List.getElem?_range hi]; rfl
    rw [e]
    obtain ⟨h0, h1, h2, ⟨A, l, c, h3, h4⟩, h5⟩ := hq i hi
    rw [Go.WideShapes.add_plain, Go.WideShapes.add_plain] at h0 h1 h2 h3
    exact ⟨h0, h1, h2, ⟨A, l, c, h3, h4⟩, h5⟩
/-! ### Two numbers, two slices of bytes, in an array -/
theorem arrTwo : Go.WideMaps.ArrKey Try.prog 46 3 2 := ⟨Try.underlying46, by kernel_rfl, by kernel_rfl, by kernel_rfl⟩
theorem open_pair {H : Type} {enc : TypeId × Value → H} {W : World} {base : Nat} {v : Value} {d : DataW H} {ps : List MemPlace} (hv : Value.okWide Try.prog W .any base 46 v)
    (h : DataW.Trod enc Try.prog W 0 (fun _ => true) true 46 v d ps) : ∃ x y : Int, v = .agg #[.int .i64 x, .int .i64 y] := by
  obtain ⟨a, b, e, _⟩ := Go.WideMaps.open_pair arrTwo Try.underlying3 hv h
  exact ⟨a, b, e⟩
theorem ok47 : Try.prog.readableRec 47 = true ∧ 47 < Try.prog.types.size := ⟨by kernel_rfl, of_decide_eq_true (by kernel_rfl)⟩
theorem cellsTwob : Try.prog.cellsOf 47 = 2 := by kernel_rfl
theorem open_twob {H : Type} {enc : TypeId × Value → H} {W : World} {base : Nat} {v : Value} {d : DataW H} {ps : List MemPlace} (hv : Value.okWide Try.prog W .any base 47 v)
    (h : DataW.Trod enc Try.prog W 0 (fun _ => true) true 47 v d ps) : ∃ A1 n1 c1 b1 A2 n2 c2 b2, v = .agg #[.slice A1 n1 c1, .slice A2 n2 c2] ∧ Rd bcell 1 W A1 n1 b1 ∧ n1 ≤ c1 ∧ Rd bcell 1 W A2 n2 b2 ∧ n2 ≤ c2 := by
  simp only [Value.okWide, Try.underlying47] at hv
  obtain ⟨xs, rfl, hs, _⟩ := hv
  rw [cellsTwob] at hs
  obtain ⟨fuel, hf⟩ := h
  obtain ⟨l⟩ := xs
  match l, hs with
  | [v0, v1], _ =>
    obtain ⟨ys, m, _, ex, hlen, hl, hel⟩ := DataW.trod_array Try.underlying47 hf
    rw [cells27] at hel
    match ys, hl with
    | [y0, y1], _ =>
      have k0 := hel 0 (by omega)
      have k1 := hel 1 (by omega)
      simp [Value.cells] at k0 k1
      obtain ⟨A1, n1, c1, b1, e1, r1, l1⟩ := open_bytes_cell k0
      obtain ⟨A2, n2, c2, b2, e2, r2, l2⟩ := open_bytes_cell k1
      subst e1 e2
      exact ⟨A1, n1, c1, b1, A2, n2, c2, b2, rfl, r1, l1, r2, l2⟩
end Go.Proofs.Ytoallenigfbkpaa
