/-
  What alive and few answer. Condition: memory holds the script.
  Scripts in memory; what few returns. Condition: memory holds the script.
  What every law's proof of this seat shares: scripts, numbers and texts that came in, how long they are; a world in which the listed tables lie, and that arguments read as before where older memory is as it was. No condition.
  Texts that came in, in a row. No condition.
-/
import Derived.Test.YtflgemlhocjipaaGreatDoorSApp
import Derived.Test.YtflgemlhocjipaaGreatDoorCards
import Derived.Test.YtflgemlhocjipaaGreatDoorTie
import Derived.WalkKit
import Derived.ProofKit
import Derived.OpenShut
import Derived.Deep.DeepHandedRow
import Derived.Lib.LaidTab
import Derived.Carry
import Derived.SizedLaws
import Derived.ChangeMaps5
namespace Go.Proofs.YtflgemlhocjipaaGreatDoor
set_option maxRecDepth 100000
open Go.ChangeShapes Go.WideShapes Go.ChangeAt Go.RowKit Go.Proofs.Zn Go.Proofs.Zt
open Go.Proofs.Zs (St Lst Rep Tx)

def cA : Chg := ⟨1, [47, 97], [], 0, false, false⟩
def tA : Tx := ⟨1, 0, 0, 10, 0, []⟩
def tB : Tx := ⟨4, 1, 1, 0, 0, [cA]⟩
def sA : St := (Zs.app Zs.new 1 tA).1
def sB : St := (Zs.app sA 2 tB).1
theorem sA_r : (Zs.app Zs.new 1 tA).2.1.c = 0 ∧ (Zs.app Zs.new 1 tA).2.1.s = 1 ∧ (Zs.app Zs.new 1 tA).2.1.ps.length = 0 := by decide
theorem sB_r : (Zs.app sA 2 tB).2.1.c = 0 ∧ (Zs.app sA 2 tB).2.1.ps.length = 1 ∧ (Zs.app sA 2 tB).2.2.length = 2 ∧ sB.z = 2 := by decide
theorem sA_gd : Zs.Gd sA := Zs.app_gd Zs.new_gd _ _
set_option maxHeartbeats 2000000 in
theorem alive_any (w : World) : Calls Tryz.prog 12 #[] w fun e w' => e = .returned (.bool true) ∧ Below w.heap.size w w' := by
  have HN := Lib.hid (snew_any w)
  go_enter Tryz.func12, Tryz.ntmps12
  go_wp2_with fail
  refine HN.out.mono ?_
  rintro e w1 ⟨sp, rfl, hst, hb1⟩
  have HA := Lib.hid (sapply_any (At := none) (nt := 0) (ct := 0) hst Zs.new_gd 1 tA (Rd.nil _ _ _ _) (fun h => absurd h (by omega)) (fun c hc => (by cases hc)))
  have HB1 := Lib.hid hb1
  clear hst hb1
  go_upto_region 4 with fail
  go_wp2_with fail
  refine HA.out.mono ?_
  rintro e w2 ⟨vp, ve, rfl, hst2, hsk2, ho1, ho2⟩
  obtain ⟨a1, a2, a3⟩ := sA_r
  obtain ⟨Ap, cp, rfl, -, -, -⟩ := own_form ho1
  rw [a1, a2, a3]
  have HB2 : Hid (Below w.heap.size w w2) := Lib.hid (HB1.out.trans (hsk2.below HB1.out.size))
  obtain ⟨w3, hw3⟩ : ∃ xx, xx = w2.alloc (.cells #[.int .i64 0, .int .i64 1, .slice Ap 0 cp] 42) := ⟨_, rfl⟩
  obtain ⟨ra, era⟩ : ∃ xx, xx = w2.heap.size := ⟨_, rfl⟩
  have hbw3 : Below w2.heap.size w2 w3 := by rw [hw3]; exact box_below w2 _
  have hkra : w3.heap[ra]? = some (.cells #[.int .i64 0, .int .i64 1, .slice Ap 0 cp] 42 (0, 0)) := by rw [hw3, era]; exact new_block w2 _
  obtain ⟨w4, hw4⟩ : ∃ xx, xx = w3.alloc (.cells #[.int .i64 1, .string ⟨#[47, 97]⟩, .string ⟨#[]⟩, .int .i64 0, .bool false, .bool false] 79) := ⟨_, rfl⟩
  obtain ⟨cb, ecb⟩ : ∃ xx, xx = w3.heap.size := ⟨_, rfl⟩
  have hbw4 : Below w3.heap.size w3 w4 := by rw [hw4]; exact box_below w3 _
  have hkcb : w4.heap[cb]? = some (.cells #[.int .i64 1, .string ⟨#[47, 97]⟩, .string ⟨#[]⟩, .int .i64 0, .bool false, .bool false] 79 (0, 0)) := by rw [hw4, ecb]; exact new_block w3 _
  have hb24 : Below w2.heap.size w2 w4 := hbw3.trans (hbw4.mono hbw3.size)
  have hst4 := hst2.below hb24
  have hrd : Rd ccell 6 w4 (some ⟨cb, 0, none⟩) 1 [cA] := ⟨rfl, fun _ => ⟨cb, 0, rfl, fun i hi j v hv => by
    obtain rfl : i = 0 := by simp at hi; omega
    rw [cell_of_row w4 cb _ _ _ _ hkcb]
    rw [show 0 + 0 * 6 + j = j by omega]
    match j, hv with
    | 0, hv => simpa [ccell, cA] using hv
    | 1, hv => simpa [ccell, cA] using hv
    | 2, hv => simpa [ccell, cA] using hv
    | 3, hv => simpa [ccell, cA] using hv
    | 4, hv => simpa [ccell, cA] using hv
    | 5, hv => simpa [ccell, cA] using hv
    | (m + 6), hv => simp [ccell] at hv⟩⟩
  have htg : Tg w4 w.heap.size (some ⟨cb, 0, none⟩) 1 := fun _ a e => by
    injection e with e
    subst e
    exact .inr ⟨_, _, _, hkcb, by decide⟩
  have hab := (sapply_any (S := sA) (ct := 1) hst4 sA_gd 2 tB hrd htg (fun c hc => by
    rw [List.mem_singleton.1 hc]; unfold ChOk cA; decide))
  obtain ⟨g1, g2, g3, g4⟩ := sB_r
  unfold sB at g4
  obtain ⟨R, hR⟩ : ∃ R, Zs.app sA 2 tB = R := ⟨_, rfl⟩
  rw [hR] at hab g1 g2 g3 g4
  have HAB := Lib.hid hab
  have HG := Lib.hid (And.intro g1 (And.intro g2 (And.intro g3 g4)))
  have HB4 : Hid (Below w.heap.size w w4) := Lib.hid (HB2.out.trans (hb24.mono HB2.out.size))
  have HK4 := Lib.hid (blk_below hkra hbw4)
  have HW3 := Lib.hid hw3
  have HW4 := Lib.hid hw4
  have ERA := Lib.hid era
  have ECB := Lib.hid ecb
  clear hab g1 g2 g3 g4 hR a1 a2 a3 hst2 hsk2 ho1 ho2 hw3 hw4 era ecb hbw3 hbw4 hkra hkcb hb24 hst4 hrd htg
  go_upto_region 5 with fail
  rw [← HW3.out, ← ERA.out]
  go_wp2_with (rw [← HW4.out, ← ECB.out])
  refine HAB.out.mono ?_
  rintro e w5 ⟨vp2, ve2, rfl, hst5, hsk5, ho3, ho4⟩
  obtain ⟨A3, c3, rfl, -, -, -⟩ := own_form ho3
  obtain ⟨A4, c4, rfl, -, -, -⟩ := own_form ho4
  rw [HG.out.1, HG.out.2.1, HG.out.2.2.1]
  obtain ⟨w6, hw6⟩ : ∃ xx, xx = w5.alloc (.cells #[.int .i64 0, .int .i64 R.2.1.s, .slice A3 1 c3] 42) := ⟨_, rfl⟩
  obtain ⟨rb, erb⟩ : ∃ xx, xx = w5.heap.size := ⟨_, rfl⟩
  have hbw6 : Below w5.heap.size w5 w6 := by rw [hw6]; exact box_below w5 _
  have hkrb : w6.heap[rb]? = some (.cells #[.int .i64 0, .int .i64 R.2.1.s, .slice A3 1 c3] 42 (0, 0)) := by rw [hw6, erb]; exact new_block w5 _
  have hra6 := blk_below (hsk5.blk HK4.out (by decide)) hbw6
  have HZ : Hid (Calls Tryz.prog 37 #[.pointer (some ⟨sp, 0, none⟩)] w6 fun e w' => e = .returned (.int .i64 2) ∧ w6 = w') := Lib.hid (by
    have := szxid_any (hst5.below hbw6)
    rw [HG.out.2.2.2] at this; exact this)
  have HB6 : Hid (Below w.heap.size w w6) := Lib.hid ((HB4.out.trans (hsk5.below HB4.out.size)).trans (hbw6.mono (Nat.le_trans HB4.out.size hsk5.size)))
  have HW6 := Lib.hid hw6
  have ERB := Lib.hid erb
  have a0 := cell_of hra6 (j := 0) rfl
  have a1 := cell_of hra6 (j := 1) rfl
  have a2 := cell_of hra6 (j := 2) rfl
  have b0 := cell_of hkrb (j := 0) rfl
  have b1 := cell_of hkrb (j := 1) rfl
  have b2 := cell_of hkrb (j := 2) rfl
  clear hst5 hsk5 ho3 ho4 hra6 hkrb hbw6 hw6 erb
  go_upto_region 6 with fail
  rw [← HW6.out, ← ERB.out]
  go_wp2_with fail
  refine HZ.out.mono ?_
  rintro e w7 ⟨rfl, rfl⟩
  go_wp2_with fail
  go_ret
  exact ⟨rfl, HB6.out⟩
end Go.Proofs.YtflgemlhocjipaaGreatDoor
namespace Go.Proofs.YtflgemlhocjipaaGreatDoor
set_option maxRecDepth 100000
open Go.ChangeShapes Go.WideShapes Go.ChangeAt Go.RowKit Go.Proofs.Zn Go.Proofs.Zt
open Go.Proofs.Zs (St Lst Rep Tx)

/-- A transaction of a script, with its number and the place of its changes. -/
structure Opc where
  zx : Int
  k : Int
  s : Int
  n : Int
  sp : Int
  now : Int
  A : Option Addr
  m : Nat
  c : Nat
  l : List Chg
def occell (o : Opc) : List Value := [.int .i64 o.zx, .int .i64 o.k, .int .i64 o.s, .int .i64 o.n, .int .i64 o.sp, .int .i64 o.now, .slice o.A o.m o.c]
structure OpcOk (w : World) (o : Opc) : Prop where
  rd : Rd ccell 6 w o.A o.m o.l
  ok : ∀ c ∈ o.l, ChOk c
structure Scr (w : World) (A : Option Addr) (n : Nat) (l : List Opc) : Prop where
  rd : Rd occell 7 w A n l
  ok : ∀ o ∈ l, OpcOk w o
theorem OpcOk.below {w w' : World} {o : Opc} (h : OpcOk w o) (hb : Below w.heap.size w w') : OpcOk w' o := ⟨h.rd.below hb, h.ok⟩
theorem Scr.below {w w' : World} {A : Option Addr} {n : Nat} {l : List Opc} (h : Scr w A n l) (hb : Below w.heap.size w w') : Scr w' A n l := ⟨h.rd.below hb, fun o ho => (h.ok o ho).below hb⟩
end Go.Proofs.YtflgemlhocjipaaGreatDoor
namespace Go.Proofs.YtflgemlhocjipaaGreatDoor
set_option maxRecDepth 100000
open Go.ChangeShapes Go.WideShapes Go.ChangeAt Go.RowKit Go.Proofs.Zn Go.Proofs.Zt

theorem ownK : ownKnob Tryz.prog.godebug = none := by kernel_rfl
theorem laidOut : laidOutB Tryz.prog = true := by kernel_rfl
theorem args_stay {H : Type} {enc : TypeId × Value → H} {W W' : World} (hb : Below W.heap.size W W') {sp : Nat → Bool} : ∀ {ts : List TypeId} {vs : List Value} {ds : List (DataW H)} {ps : List MemPlace},
    (∀ t ∈ ts, Tryz.prog.readableRec t = true ∧ t < Tryz.prog.types.size) → DataW.TrodAll enc Tryz.prog W 0 (fun _ => true) true ts vs ds ps → (∀ p ∈ ps, p.block < W.heap.size) → (∀ p ∈ ps, sp p.block = true) →
    DataW.TrodAll enc Tryz.prog W' 0 sp true ts vs ds ps
  | [], vs, ds, ps, _, h, _, _ => by
    obtain ⟨rfl, rfl, rfl⟩ := trodAll_nil h
    exact trodAll_mk0
  | t :: ts, vs, ds, ps, hr, h, hlt, hs => by
    obtain ⟨v, vs', d, ds', p, q, rfl, rfl, rfl, h1, h2⟩ := trodAll_cons h
    exact trodAll_cons_mk (WideElems.Trod_stays laidOut (hr t (by simp)).1 (hr t (by simp)).2 h1 (fun x hx => hb.same (hlt x (by simp [hx]))) (fun x hx => hs x (by simp [hx])))
      (args_stay hb (fun u hu => hr u (by simp [hu])) h2 (fun x hx => hlt x (by simp [hx])) (fun x hx => hs x (by simp [hx])))

section
variable {H : Type} {enc : TypeId × Value → H} {P : Program}
theorem post_of_below {f : Func} {s : ChangeSpec} {apart fresh handsOn again : Bool} {W W' : World} {args : Array Value} {v : Value} {ds gs : List (DataW H)} {before pa pv : List MemPlace}
    (hW : DataW.Whole enc P f.params.toList s.vars apart W args.toList ds gs before)
    (hres : ∀ (b : Nat) (sp : Nat → Bool) (hd : Bool), DataW.TrodAll enc P W' b sp hd f.resultTypes.toList (v.resultList f.resultTypes.size) (s.fn H (ds ++ gs)).results [])
    (hargs : ∀ sp : Nat → Bool, (∀ p ∈ before, sp p.block = true) → DataW.TrodAll enc P W' 0 sp true f.params.toList args.toList (s.fn H (ds ++ gs)).args pa)
    (hvars : ∀ sp : Nat → Bool, (∀ p ∈ before, sp p.block = true) → DataW.TrodVars enc P W' sp s.vars (s.fn H (ds ++ gs)).vars pv)
    (hps : before = pa ++ pv) (hb : Below W.heap.size W W')
    (hok : ∀ (j : Nat) (t : TypeId) (r : Value), f.resultTypes[j]? = some t → (v.resultList f.resultTypes.size)[j]? = some r → Value.okWide P W' .any 0 t r) :
    s.post enc P f apart fresh handsOn again W args v W' := by
  have hlt : ∀ p ∈ before, p.block < W.heap.size := fun p hp => hW.lt p hp
  have hold : ∀ p ∈ before, (fun b => decide (b < W.heap.size)) p.block = true := fun p hp => by simpa using hlt p hp
  refine ⟨ds, gs, before, [], pa, pv, hW, hres _ _ _, hargs _ hold, hvars _ hold, World.keptBut_mono (fun p hp => ⟨hp, ?_⟩) (hb.frame (· ∈ before)), fun _ => ?_⟩
  · rw [hps, List.mem_append] at hp
    exact Or.inr hp
  · obtain ⟨_, _, _, _, _, hz, hn⟩ := hW
    refine ⟨hok, _, _, ([] ++ pa) ++ pv, ⟨[] ++ pa, pv, trodAll_append (hargs _ (fun _ _ => rfl)) (hres _ _ _), hvars _ (fun _ _ => rfl), rfl, ?_, ?_⟩, ?_⟩
    · intro b off hp
      have hin : MemPlace.cell b off ∈ before := by rw [hps]; simpa using hp
      rw [hb.frozen (hlt _ hin)]
      exact hz b off hin
    · intro ha
      have := hn ha
      rw [hps] at this
      simpa using this
    · intro p hp _
      rw [hps]
      simpa using hp
end

/-- The post of a law: true, the arguments as before. -/
theorem law_post {H : Type} {enc : TypeId × Value → H} {f : Func} {s : ChangeSpec} {W W' : World} {args : Array Value} {ds gs : List (DataW H)} {before : List MemPlace}
    (hvs : s.vars = []) (hfn : ∀ gs', gs' = [] → s.fn H (ds ++ gs') = { results := [.lit (.bool true)], args := ds }) (hrt : f.resultTypes = #[4])
    (hts : ∀ t ∈ f.params.toList, Tryz.prog.readableRec t = true ∧ t < Tryz.prog.types.size)
    (hW : DataW.Whole enc Tryz.prog f.params.toList s.vars false W args.toList ds gs before) (hb : Below W.heap.size W W') :
    s.post enc Tryz.prog f false true false false W args (.bool true) W' := by
  have hW' := hW
  obtain ⟨p, q, hA0, hV, rfl, hfz, hnd⟩ := hW
  have hA : DataW.TrodAll enc Tryz.prog W 0 (fun _ => true) true f.params.toList args.toList ds p := hA0
  rw [hvs] at hV
  obtain ⟨rfl, rfl⟩ := trodVars_none hV
  have hlt : ∀ x ∈ p, x.block < W.heap.size := fun x hx => hW'.lt x (by simp [hx])
  have e := hfn [] rfl
  refine post_of_below (pa := p) (pv := []) hW' (fun b sp hd => ?_) (fun sp hsp => ?_) (fun sp hsp => ?_) rfl hb ?_
  · rw [e, hrt]; exact trodAll_cons_mk (shut_bool Tryz.underlying4 _) trodAll_mk0
  · rw [e]; exact args_stay hb hts hA hlt (fun x hx => hsp x (by simp [hx]))
  · rw [e, hvs]; rfl
  · exact Go.RowKit.ok_one hrt rfl (okWide_bool_mk Tryz.underlying4 _)
theorem okstrs : Tryz.prog.readableRec 40 = true ∧ 40 < Tryz.prog.types.size := ⟨by kernel_rfl, of_decide_eq_true (by kernel_rfl)⟩
theorem wantstrs : Tryz.pinned.checked.prog.wantsStandIn 40 = false := (show Tryz.prog.wantsStandIn 40 = false by kernel_rfl)
/-- The cells of the two tables that the rows list. -/
def firstCells : Array Value := (Go.Pinned.utf8FirstZ.map fun (n : Nat) => Value.int .u8 n).toArray
def rangeCells : Array Value := ((([128, 191, 160, 191, 128, 159, 144, 191, 128, 143] : List Int) ++ List.replicate 22 0).map fun (n : Int) => Value.int .u8 n).toArray
def lay (C : Array Value) : Obj → Obj
  | .cells _ t frozen => .cells C t frozen
  | o => o
noncomputable def laidWorld (os : Os) : World :=
  { World.holding Tryz.prog os ⟨#[], #[], []⟩ with heap := ((World.holding Tryz.prog os ⟨#[], #[], []⟩).heap.modify 1 (lay firstCells)).modify 2 (lay rangeCells) }
instance : Inhabited Chg := ⟨⟨0, [], [], 0, false, false⟩⟩
instance : Inhabited Opc := ⟨⟨0, 0, 0, 0, 0, 0, none, 0, 0, []⟩⟩
theorem cellsStr : Tryz.prog.cellsOf 9 = 1 := by kernel_rfl
theorem weightsAll_mem {H : Type} {P : Program} {e : TypeId} : ∀ {l : List (DataW H)} {d : DataW H}, d ∈ l → ∀ n ∈ d.weights P e, n ∈ DataW.weightsAll P e l
  | d' :: r, d, hd, n, hn => by
    simp only [DataW.weightsAll, List.mem_append]
    rcases List.mem_cons.1 hd with rfl | h
    · exact Or.inl hn
    · exact Or.inr (weightsAll_mem h n hn)
end Go.Proofs.YtflgemlhocjipaaGreatDoor
namespace Go.Proofs.YtflgemlhocjipaaGreatDoor
set_option maxRecDepth 100000
open Go.ChangeShapes Go.WideShapes Go.ChangeAt Go.RowKit Go.Proofs.Zn Go.Proofs.Zt

theorem open_texts {H : Type} {enc : TypeId × Value → H} {W : World} {base : Nat} {v : Value} {d : DataW H} {ps : List MemPlace} (hv : Value.okWide Tryz.prog W .any base 40 v)
    (h : DataW.Trod enc Tryz.prog W 0 (fun _ => true) true 40 v d ps) : ∃ A n c l, v = .slice A n c ∧ n ≤ c ∧ Rd scell 1 W A n l ∧ (∀ s ∈ l, s.length ∈ d.weights Tryz.prog 40) := by
  obtain ⟨a0, len, cap, rfl⟩ := okWide_slice Tryz.underlying40 hv
  obtain ⟨fuel, hf⟩ := h
  rcases Go.Deep.open_slice Tryz.underlying40 hf with ⟨hcs, hx⟩ | ⟨a, len', cap', m, n, D, Pl, hcs, _, hl, hm, hmm, hx, hel⟩
  · simp [Value.cells] at hcs
    obtain ⟨rfl, rfl, rfl⟩ := hcs
    simp only [Prod.mk.injEq] at hx
    obtain ⟨rfl, rfl⟩ := hx
    exact ⟨none, 0, 0, [], rfl, Nat.le_refl _, Rd.nil _ _ _ _, fun _ h => (by cases h)⟩
  · simp [Value.cells] at hcs
    obtain ⟨rfl, rfl, rfl⟩ := hcs
    simp only [Prod.mk.injEq] at hx
    obtain ⟨rfl, rfl⟩ := hx
    simp only [if_true] at hmm
    obtain rfl : cap = m := hmm.symm
    rw [cellsStr] at hel
    have each : ∀ i, i < len → ∃ s : Txt, W.cell? (a.add (i * 1)) = some (.string (B s)) ∧ s.length ∈ (D i).weights Tryz.prog 9 := by
      intro i hi
      obtain ⟨cs, h1, h2⟩ := hel i (by omega)
      obtain ⟨_, hlen, hcell⟩ := World.cells?_some h1
      match cs, hlen with
      | [v0], _ =>
        obtain ⟨s1, e1, q1, _⟩ := DataW.trod_string Tryz.underlying9 h2
        simp at e1
        subst e1
        refine ⟨L s1, ?_, ?_⟩
        · have c := hcell 0 (by omega)
          have e : (a.add (i * 1)).add 0 = a.add (i * 1) := by simp [Addr.add]
          rw [e] at c
          rw [BL]
          exact c
        · have hD : D i = .lit (.string s1.data.toList) := congrArg Prod.fst q1
          rw [hD]
          simp [DataW.weights, L]
    obtain ⟨q, hq⟩ := Go.Deep.choose_lt each
    refine ⟨some a, len, cap, (List.range len).map q, rfl, hl, ⟨by simp, fun hp => ?_⟩, fun s hs => ?_⟩
    · have h0 := (hq 0 hp).1
      have hspot : a.spot = none := by
        have := World.cell?_spot h0
        simpa [Addr.add] using this
      obtain ⟨b, off, spot⟩ := a
      simp only at hspot
      subst hspot
      refine ⟨b, off, rfl, fun i hi j u hu => ?_⟩
      have hi' : i < len := by simpa using hi
      have hj : j < 1 := by
        have := (List.getElem?_eq_some_iff.1 hu).1
        simpa [scell] using this
      obtain rfl : j = 0 := by omega
      have := (hq i hi').1
      rw [Go.WideShapes.add_plain] at this
      simp [scell] at hu
      rw [← hu]
      exact this
    · obtain ⟨i, hi, rfl⟩ := List.mem_map.1 hs
      have hi' := List.mem_range.1 hi
      simp only [DataW.weights, Tryz.underlying40, List.mem_cons, List.mem_append]
      exact Or.inr (Or.inl (weightsAll_mem (List.mem_map.2 ⟨i, hi, rfl⟩) _ (hq i hi').2))
theorem texts_arg {H : Type} {ts : List TypeId} {ds : List (DataW H)} {j : Nat} {l : List Txt} {d : DataW H} (h : (DataW.weightsEach Tryz.prog ts ds).all (· ≤ reachBytes) = true) (ht : ts[j]? = some 40) (hd : ds[j]? = some d)
    (h1 : ∀ s ∈ l, s.length ∈ d.weights Tryz.prog 40) : ∀ s ∈ l, s.length ≤ maxLen := fun s hs => by
  have := of_decide_eq_true (List.all_eq_true.1 h _ (DataW.weights_mem_each ht hd _ (h1 s hs)))
  simp only [reachBytes] at this
  unfold maxLen
  omega
end Go.Proofs.YtflgemlhocjipaaGreatDoor
