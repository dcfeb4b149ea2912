/-
  What takeBack leaves of sectors on which writes wait: those of a crash. Condition: no more bytes are torn than a sector has.
-/
import Derived.Test.YtdbpnfceabklkaaWrite
namespace Go.Proofs.Ytdbpnfceabklkaa
set_option maxRecDepth 100000
open Go.ChangeShapes Go.WideShapes Go.ChangeAt Go.RowKit

/-- The end of an array as a slice. -/
theorem arr_from (a : Addr) (b : Nat) (hb : b ≤ 64) : ∃ A : Option Addr, (∀ W : World, (Instr.sliceAt 87 (.pointer (some a)) (some (.int .i64 (b : Int))) none none).run Try.prog W = .ok (.slice A (64 - b) (64 - b)) W) ∧ (b < 64 → A = some (a.add b)) := by
  obtain ⟨i0, hi, hz0, hz1, hz2⟩ := info_parts info5
  refine ⟨some (if 64 = b then a else a.add (b * 1)), fun W => ?_, fun h => by rw [if_neg (by omega), Nat.mul_one]⟩
  have ha : Try.prog.arrayLen 87 = 64 := by kernel_rfl
  have he : Try.prog.elem 87 = 5 := by kernel_rfl
  have hu : Try.prog.underlying 87 = some (.array (Try.prog.arrayLen 87) (Try.prog.elem 87)) := by kernel_rfl
  rw [run_sliceAt_array_l (P := Try.prog) W 87 a hu .i64 (b : Int) (by omega) (by rw [ha]; omega), ha, he]
  simp [sizeOf, typeInfo, hi, hz1, slicedAt]
theorem splice_suffix {L Y1 Y2 : List Value} {o : Nat} (h1 : (L.drop o).take Y1.length = Y1) : splice L (o + Y1.length) Y2 = splice L o (Y1 ++ Y2) := by
  simp only [splice]
  rw [List.take_add, h1, List.append_assoc, List.append_assoc, List.length_append, Nat.add_assoc]
/-- The end of a sector laid anew. -/
theorem flat_tail {l : List (List Int)} {n b : Nat} {s : List Int} (hl : Lok l) (hn : n < l.length) (hb : b ≤ 64) (hs : s.length = 64) : splice (flat l) (n * 64 + b) (ints (s.drop b)) = flat (l.set n ((l.getD n []).take b ++ s.drop b)) := by
  have hx := lok_getD hl hn
  have hp := part_at ints 64 l n hn (lok_parts hl)
  rw [← getD_eq [] hn] at hp
  have hlen : (ints ((l.getD n []).take b)).length = b := by rw [ints_length, List.length_take, hx.1]; omega
  have h2 := flat_length hl
  have h3 : (n + 1) * 64 ≤ l.length * 64 := Nat.mul_le_mul_right _ hn
  have h1 : ((flat l).drop (n * 64)).take (ints ((l.getD n []).take b)).length = ints ((l.getD n []).take b) := by
    rw [hlen]
    have : ((flat l).drop (n * 64)).take b = (((flat l).drop (n * 64)).take 64).take b := by rw [List.take_take]; congr 1; omega
    rw [this]
    show (((l.flatMap ints).drop (n * 64)).take 64).take b = _
    rw [hp]
    simp [ints]
  have e := splice_suffix (Y2 := ints (s.drop b)) h1
  rw [hlen] at e
  rw [e]
  have e2 : ints ((l.getD n []).take b) ++ ints (s.drop b) = ints ((l.getD n []).take b ++ s.drop b) := by simp [ints]
  rw [e2]
  exact part_set ints 64 l n hn _ (lok_parts hl) (by rw [ints_length, List.length_append, List.length_take, List.length_drop, hx.1, hs]; omega)
/-- A copy as one step of a region. -/
theorem copy_op {ops : Array Oper} {o : Oper} {a : Act} {w : World} {K : Act → World → Prop} {Q : Exit → Act → World → Prop} {E : Prop} (hgd : o.guard = none) (d s : Operand)
    (ho : o.op = .call { callee := .builtin .copy, args := #[d, s], argTypes := #[48, 48] })
    (dp sp : Option Addr) (dLen dCap sLen sCap : Nat) (hd : a.eval d = .slice dp dLen dCap) (hs : a.eval s = .slice sp sLen sCap)
    (g off : Nat) (cur : List Value) (t : TypeId) (hg : w.heap[g]? = some (.cells cur.toArray t (0, 0))) (cs : List Value) (hn : cs.length = Nat.min sLen dLen)
    (hpos : 0 < cs.length → dp = some ⟨g, off, none⟩ ∧ ∃ ad, sp = some ad ∧ ∀ j v, cs[j]? = some v → w.cell? (ad.add j) = some v) (hfit : off + cs.length ≤ cur.length) (h1 : ∀ v ∈ cs, v.oneCell' = true)
    (h : ∀ w', w'.heap[g]? = some (.cells (splice cur off cs).toArray t (0, 0)) → w.grownBy w' (some g) → K (a.put o.dst (goInt cs.length)) w') :
    if Region.wanted o (yielded ops a.tmps) = true then Oper.wp Try.prog o a w K Q else E := by
  have hw : Region.wanted o (yielded ops a.tmps) = true := by simp [Region.wanted, hgd]
  rw [if_pos hw]
  obtain ⟨w', hrun, h2, h3⟩ := run_copy_grown o.type dp sp dLen dCap sLen sCap g off cur t hg cs hn hpos hfit h1
  unfold Oper.wp execOp
  simp only [ho, resolve, invoke, builtin, Sem.run_bind, Sem.run_pure, Result.andThen_ok, List.map_toArray, List.map_cons, List.map_nil, hd, hs, hrun]
  exact h w' h2 h3
/-- What the round reads. -/
structure BkMem (w : World) (B B2 p g c : Nat) (wv : Value) (left : Int) (dd : Bool) (l : List (List Int)) (ws : List Wr) (K t : Nat) : Prop where
  here : w.heap[p]? = some (.cells #[.slice (some ⟨g, 0, none⟩) l.length c, wv, .int .i64 left, .bool dd] 84 (0, 0))
  wrs : w.ownsRow B 91 65 wv ws.length (wcells (was l ws))
  secs : w.ownsRow B2 87 64 (.slice (some ⟨g, 0, none⟩) l.length c) l.length (flat (ups l ws))
/-- What the loop keeps. -/
def BRel (w : World) (B2 g c : Nat) (l : List (List Int)) (ws : List Wr) (K t : Nat) (va : Value) (wr : World) : Prop :=
  ∃ a : Nat, va = .int .i64 ((a : Int) - 1) ∧ a ≤ ws.length ∧ (K ≤ a ∨ a = ws.length) ∧ wr.ownsRow B2 87 64 (.slice (some ⟨g, 0, none⟩) l.length c) l.length (flat (tb l ws K t a)) ∧ w.grownBy wr (some g)
/-- What takeBack leaves. -/
def BkPost (w : World) (B2 g c : Nat) (l : List (List Int)) (ws : List Wr) (K t : Nat) (e : Ending) (w' : World) : Prop :=
  e = .returned (.tuple #[]) ∧ w'.ownsRow B2 87 64 (.slice (some ⟨g, 0, none⟩) l.length c) l.length (flat (crashL l ws K t)) ∧ w.grownBy w' (some g)
theorem BkMem.at {w wr : World} {B B2 p g c : Nat} {wv : Value} {left : Int} {dd : Bool} {l : List (List Int)} {ws : List Wr} {K t : Nat} (h : BkMem w B B2 p g c wv left dd l ws K t) (hg : w.grownBy wr (some g)) :
    wr.heap[p]? = some (.cells #[.slice (some ⟨g, 0, none⟩) l.length c, wv, .int .i64 left, .bool dd] 84 (0, 0)) ∧ wr.ownsRow B 91 65 wv ws.length (wcells (was l ws)) := by
  have hg' : w.grownBy wr (Value.slice (some ⟨g, 0, none⟩) l.length c).ownBlock := hg
  refine ⟨?_, h.wrs.kept hg' (own_apart h.wrs h.secs (by decide))⟩
  rw [hg'.block p (Array.getElem?_eq_some_iff.1 h.here).1 (fun e' => own_ne h.secs h.here (by decide) e'.symm)]
  exact h.here

theorem tb_len (l : List (List Int)) (ws : List Wr) (K t a : Nat) : (tb l ws K t a).length = l.length := by
  unfold tb; split
  · exact crash_length _ _ _ _
  · exact ups_length _ _
theorem bk_copy {w1 : World} {g m H b : Nat} {A1 A2 : Option Addr} {old : List Int} (hA1 : b < 64 → A1 = some ((⟨g, m * 64, none⟩ : Addr).add b)) (hA2 : b < 64 → A2 = some ((⟨H, 1, none⟩ : Addr).add b)) (ho : Sok old)
    (hx : ∀ j v, (ints old)[j]? = some v → w1.cell? ⟨H, 1 + j, none⟩ = some v) (hb : b ≤ 64) :
    (ints (old.drop b)).length = Nat.min (64 - b) (64 - b) ∧ (0 < (ints (old.drop b)).length → A1 = some ⟨g, m * 64 + b, none⟩ ∧ ∃ ad, A2 = some ad ∧ ∀ j v, (ints (old.drop b))[j]? = some v → w1.cell? (ad.add j) = some v) := by
  have hl : (ints (old.drop b)).length = 64 - b := by rw [ints_length, List.length_drop, ho.1]
  refine ⟨by rw [hl]; simp, fun hp => ⟨by rw [hA1 (by omega), Go.WideShapes.add_plain], _, hA2 (by omega), fun j v hv => ?_⟩⟩
  rw [Go.WideShapes.add_plain, Go.WideShapes.add_plain, Nat.add_assoc]
  refine hx (b + j) v ?_
  simp only [ints, List.getElem?_map, List.getElem?_drop] at hv ⊢
  exact hv
theorem bk_keep {w1 w2 : World} {p g H : Nat} {v1 v2 : Value} (h : w1.cell? ⟨p, 0, none⟩ = some v1 ∧ w1.cell? ⟨H, 0, none⟩ = some v2) (hp : p ≠ g) (hH : H ≠ g) (hg : w1.grownBy w2 (some g)) : w2.cell? ⟨p, 0, none⟩ = some v1 ∧ w2.cell? ⟨H, 0, none⟩ = some v2 :=
  ⟨hg.cell h.1 (fun e => hp (Option.some.inj e)), hg.cell h.2 (fun e => hH (Option.some.inj e))⟩
theorem bk_round {w wr w2 : World} {B B2 p g c : Nat} {wv : Value} {left : Int} {dd : Bool} {l : List (List Int)} {ws : List Wr} {K t q m b : Nat} {C : Array Value} {curb : List Value} {old : List Int} (_ : BkMem w B B2 p g c wv left dd l ws K t) (hl : Lok l) (hw : Wok l.length ws) (hq : q < ws.length) (hK : K ≤ q)
    (hrow : wr.ownsRow B2 87 64 (.slice (some ⟨g, 0, none⟩) l.length c) l.length (flat (tb l ws K t (q + 1)))) (hgr : w.grownBy wr (some g)) (hgb : wr.heap[g]? = some (.cells curb.toArray 87 (0, 0))) (hm : m = ws[q].1) (ho : old = (ups l (ws.take q)).getD m []) (hb : b = if q = K then t else 0) (hb64 : b ≤ 64)
    (hg2 : w2.heap[g]? = some (.cells (splice curb (m * 64 + b) (ints (old.drop b))).toArray 87 (0, 0))) (hgr2 : ((wr.alloc (.cells C 91)).drew).grownBy w2 (some g)) : BRel w B2 g c l ws K t (.int .i64 ((q : Int) - 1)) w2 := by
  have hx := hw _ (List.getElem_mem hq)
  have hml : m < l.length := by rw [hm]; exact hx.1
  have hold : Sok old := by rw [ho]; exact lok_getD (lok_ups hl (wok_take q hw)) (by rw [ups_length]; exact hml)
  have hT : Lok (tb l ws K t (q + 1)) := by
    unfold tb; rw [if_neg (by omega)]; exact lok_ups hl (wok_take _ hw)
  have hml' : m < (tb l ws K t (q + 1)).length := by rw [tb_len]; exact hml
  have hfit : (m + 1) * 64 ≤ l.length * 64 := Nat.mul_le_mul_right _ hml
  refine ⟨q, rfl, by omega, .inl hK, ?_, hgr.trans ⟨hgr2.os, hgr2.tape, hgr2.output, Nat.le_trans (by simp) hgr2.size, fun k hk hne => (hgr2.block k (by simp; omega) hne).trans (Below.heap_alloc wr _ k hk)⟩⟩
  have r := own_splice hrow hgb (m * 64 + b) (ints (old.drop b)) (by rw [ints_length, List.length_drop, hold.1]; omega) hg2
  rw [flat_tail hT hml' hb64 hold.1] at r
  have e := tb_step (l := l) (ws := ws) (K := K) (t := t) (a := q) hw hq hK b hb
  rw [← hm, ← ho] at e
  rw [e] at r
  exact r
theorem cell_new (w : World) (C : Array Value) (t : TypeId) (j : Nat) : ((w.alloc (.cells C t)).drew).cell? ⟨w.heap.size, j, none⟩ = C[j]? := by
  show (w.alloc (.cells C t)).cell? _ = _
  rw [cell_of_row _ _ j C t _ (new_block w _)]
set_option maxHeartbeats 2000000 in
theorem back_any (B B2 p g c : Nat) (wv : Value) (left : Int) (dd : Bool) (l : List (List Int)) (ws : List Wr) (K t : Nat) (w : World) (h : BkMem w B B2 p g c wv left dd l ws K t) (hl : Lok l) (hw : Wok l.length ws) (ht : t ≤ 64) (hlen : ws.length ≤ 100000) :
    Calls Try.prog 42 #[.pointer (some ⟨p, 0, none⟩), .int .i64 (K : Int), .int .i64 (t : Int)] w (BkPost w B2 g c l ws K t) := by
  obtain ⟨Aw, cw, rfl, -, -, hgw⟩ := own_form h.wrs
  have H := Lib.hid h
  have HL := Lib.hid hl
  have HWK := Lib.hid hw
  have HGW := Lib.hid hgw
  have c1 : w.cell? ⟨p, 1, none⟩ = some (.slice Aw ws.length cw) := cell_block h.here rfl
  clear h hl hw hgw
  go_enter Try.func42, Try.ntmps42
  go_wp2
  go_loopw [6] (fun va wr => BRel w B2 g c l ws K t va wr) (fun va _ => (intOf va + 1).toNat)
  case atStart => exact ⟨ws.length, rfl, Nat.le_refl _, .inr rfl, by rw [tb_start]; exact H.out.secs, World.grownBy.refl _ _⟩
  case round =>
    obtain ⟨a, rfl, ha, hKa, hrow, hgr⟩ := hrel
    by_cases hlt : K < a
    · obtain ⟨q, rfl⟩ : ∃ q, a = q + 1 := ⟨a - 1, by omega⟩
      have e1 : ((q + 1 : Nat) : Int) - 1 = (q : Int) := by omega
      rw [e1]
      clear e1
      have hq : q < ws.length := by omega
      obtain ⟨gw, rfl⟩ := HGW.out (by omega)
      have hat := H.out.at hgr
      have hwas : q < (was l ws).length := by rw [was_length]; exact hq
      have hwo := was_ok HL.out HWK.out
      obtain ⟨m, hm⟩ : ∃ m, m = ws[q].1 := ⟨_, rfl⟩
      obtain ⟨old, ho⟩ : ∃ old, old = (ups l (ws.take q)).getD m [] := ⟨_, rfl⟩
      have hwx : (was l ws)[q] = (m, old) := by rw [was_at l ws q hq, ← hm, ← ho]
      obtain ⟨cs, hcs⟩ : ∃ cs, cs = wcell (m, old) := ⟨_, rfl⟩
      have hold : Sok old := by have := (hwo _ (List.getElem_mem hwas)).2; rwa [hwx] at this
      have hml : m < l.length := by rw [hm]; exact (HWK.out _ (List.getElem_mem hq)).1
      have hcl : cs.length = 65 := by rw [hcs, wcell, List.length_cons, ints_length, hold.1]
      obtain ⟨C, hC⟩ : ∃ C, C = cs.toArray := ⟨_, rfl⟩
      obtain ⟨curb, hgb, -, hgl, hcf, -⟩ := own_block hrow
      have HRG : Hid (wr.rangeAt gw (q * 65) cs) := Lib.hid (own_range hat.2 _ _ fun j hj => by
        rw [hcl] at hj
        have := part_get wcell 65 (was l ws) q hwas (wok_parts hwo) j hj
        rw [hwx, ← hcs] at this
        exact this)
      have HCC := Lib.hid hC
      have HCL : Hid ((Try.prog.info? 91).map (·.size) = some cs.length) := Lib.hid (by rw [hcl]; exact size74)
      have HC2 : Hid ((Try.prog.info? 91).map (·.size) = some C.size) := Lib.hid (by rw [hC, List.size_toArray, hcl]; exact size74)
      have HZS : Hid ((#[Value.int .i64 0] ++ Z64).size = C.size) := Lib.hid (by
        have hz65 : (#[Value.int .i64 0] ++ Z64).size = 65 := by kernel_rfl
        rw [hz65, hC, List.size_toArray, hcl])
      have HON : Hid (C.all (·.oneCell') = true) := Lib.hid (by rw [hC]; exact all_oneCell_toArray (by rw [hcs]; exact wcell_one _))
      have HOLD := Lib.hid hold
      have HBX : Hid (∀ j v, (ints old)[j]? = some v → ((wr.alloc (.cells C 91)).drew).cell? ⟨wr.heap.size, 1 + j, none⟩ = some v) := Lib.hid (fun j v hv => by
        rw [cell_new, hC, hcs]
        simpa [wcell, Nat.add_comm 1 j] using hv)
      have hne := own_ne H.out.secs H.out.here (by decide)
      have HPG : Hid (p ≠ g) := Lib.hid (fun e => hne (by rw [e]; rfl))
      have HBG : Hid (wr.heap.size ≠ g) := Lib.hid (by omega)
      have d0 : wr.cell? ⟨p, 0, none⟩ = some (.slice (some ⟨g, 0, none⟩) l.length c) := cell_block hat.1 rfl
      have d1 : wr.cell? ⟨p, 1, none⟩ = some (.slice (some ⟨gw, 0, none⟩) ws.length cw) := cell_block hat.1 rfl
      have HSS : Hid (((wr.alloc (.cells C 91)).drew).cell? ⟨p, 0, none⟩ = some (.slice (some ⟨g, 0, none⟩) l.length c) ∧ ((wr.alloc (.cells C 91)).drew).cell? ⟨wr.heap.size, 0, none⟩ = some (.int .i64 (m : Int))) := Lib.hid ⟨((box_below wr _).cell (p := ⟨p, 0, none⟩) (cell_lt d0)).trans d0, by rw [cell_new, hC, hcs]; rfl⟩
      have HGB : Hid (((wr.alloc (.cells C 91)).drew).heap[g]? = some (.cells curb.toArray 87 (0, 0))) := Lib.hid ((Below.heap_alloc wr _ g hgl).trans hgb)
      have HGC := Lib.hid hgb
      have HFIT : Hid (m * 64 + 64 ≤ curb.length) := Lib.hid (by have : (m + 1) * 64 ≤ l.length * 64 := Nat.mul_le_mul_right _ hml; omega)
      have HRW := Lib.hid hrow
      have HGR := Lib.hid hgr
      have HQ := Lib.hid hq
      have HKQ : Hid (K ≤ q) := Lib.hid (by omega)
      have HM := Lib.hid hm
      have HO := Lib.hid ho
      have hm0 : (0 : Int) ≤ (m : Int) := by omega
      have hm1 : (m : Int) < (l.length : Int) := by omega
      have hq0 : (0 : Int) ≤ (q : Int) := by omega
      have hq1 : (q : Int) < (ws.length : Int) := by omega
      have hKq : (K : Int) ≤ (q : Int) := by omega
      clear hat hwas hwo hwx hcs hold hml hcl hC hgb hgl hcf hrow hgr hm ho hne ha hKa hlt
      by_cases hqK : q = K
      · subst hqK
        obtain ⟨A1, hs1, hA1⟩ := arr_from ⟨g, m * 64, none⟩ t ht
        obtain ⟨A2, hs2, hA2⟩ := arr_from ⟨wr.heap.size, 1, none⟩ t ht
        have hs1' : ∀ W : World, (Instr.sliceAt 87 (.pointer (some ⟨g, m * 64, none⟩)) (some (.int .i64 (t : Int))) none none).run Try.prog W = .ok (.slice A1 (64 - t) (64 - t)) W := hs1
        have hs2' : ∀ W : World, (Instr.sliceAt 87 (.pointer (some ⟨wr.heap.size, 1, none⟩)) (some (.int .i64 (t : Int))) none none).run Try.prog W = .ok (.slice A2 (64 - t) (64 - t)) W := hs2
        have HCP := Lib.hid (bk_copy (w1 := (wr.alloc (.cells C 91)).drew) (hA1 := hA1) (hA2 := hA2) HOLD.out HBX.out (b := t) ht)
        have HFB : Hid (m * 64 + t + (ints (old.drop t)).length ≤ curb.length) := Lib.hid (by rw [ints_length, List.length_drop, HOLD.out.1]; have := ht; have := HFIT.out; omega)
        clear hs1 hs2 hA1 hA2
        go_wp2_with (first
          | ((with_reducible refine wpList_load_mid rfl 91 (.tmp 29) rfl gw (q * 65) ?_ cs _ HRG.out Try.underlying91 ?_ HCL.out ?_); rfl; rfl; rw [← HCC.out])
          | (with_reducible refine wpList_alloc74 rfl rfl ?_)
          | ((with_reducible refine wpList_store_new rfl 91 (.tmp 8) (.tmp 30) rfl (#[Value.int .i64 0] ++ Z64) C ?_ ?_ HC2.out HZS.out HON.out ?_); rfl; rfl)
          | fail)
        go_region_held3 (fun w' => w'.cell? ⟨p, 0, none⟩ = some (.slice (some ⟨g, 0, none⟩) l.length c) ∧ w'.cell? ⟨wr.heap.size, 0, none⟩ = some (.int .i64 (m : Int))) (first | exact HSS.out | assumption)
          (first
            | (refine copy_op rfl (.tmp 39) (.tmp 42) rfl A1 A2 (64 - t) (64 - t) (64 - t) (64 - t) rfl rfl g (m * 64 + t) curb 87 HGB.out (ints (old.drop t)) HCP.out.1 HCP.out.2 HFB.out (ints_one _) ?_; intro w2 hg2 hgr2; have HX := Lib.hid (bk_round H.out HL.out HWK.out HQ.out HKQ.out HRW.out HGR.out HGC.out HM.out HO.out (b := t) (if_pos rfl).symm ht hg2 hgr2); have hS2 := bk_keep HSS.out HPG.out HBG.out hgr2; clear hg2 hgr2))
        go_wp2
        go_roundw
        case rel => exact HX.out
        case measure => simp [intOf] <;> omega
      · have HBE : 0 = if q = K then t else 0 := by rw [if_neg hqK]
        have hqk : ((q : Int) == (K : Int)) = false := by simp; omega
        clear hqK
        have HE1 := Lib.hid HBE
        clear HBE
        obtain ⟨A1, hs1, hA1⟩ := arr_from ⟨g, m * 64, none⟩ 0 (by decide)
        obtain ⟨A2, hs2, hA2⟩ := arr_from ⟨wr.heap.size, 1, none⟩ 0 (by decide)
        have hs1' : ∀ W : World, (Instr.sliceAt 87 (.pointer (some ⟨g, m * 64, none⟩)) (some (.int .i64 0)) none none).run Try.prog W = .ok (.slice A1 (64 - 0) (64 - 0)) W := hs1
        have hs2' : ∀ W : World, (Instr.sliceAt 87 (.pointer (some ⟨wr.heap.size, 1, none⟩)) (some (.int .i64 0)) none none).run Try.prog W = .ok (.slice A2 (64 - 0) (64 - 0)) W := hs2
        have HCP := Lib.hid (bk_copy (w1 := (wr.alloc (.cells C 91)).drew) (hA1 := hA1) (hA2 := hA2) HOLD.out HBX.out (b := 0) (by decide))
        have HFB : Hid (m * 64 + 0 + (ints (old.drop 0)).length ≤ curb.length) := Lib.hid (by rw [ints_length, List.length_drop, HOLD.out.1]; have := HFIT.out; omega)
        clear hs1 hs2 hA1 hA2
        go_wp2_with (first
          | ((with_reducible refine wpList_load_mid rfl 91 (.tmp 29) rfl gw (q * 65) ?_ cs _ HRG.out Try.underlying91 ?_ HCL.out ?_); rfl; rfl; rw [← HCC.out])
          | (with_reducible refine wpList_alloc74 rfl rfl ?_)
          | ((with_reducible refine wpList_store_new rfl 91 (.tmp 8) (.tmp 30) rfl (#[Value.int .i64 0] ++ Z64) C ?_ ?_ HC2.out HZS.out HON.out ?_); rfl; rfl)
          | fail)
        go_region_held3 (fun w' => w'.cell? ⟨p, 0, none⟩ = some (.slice (some ⟨g, 0, none⟩) l.length c) ∧ w'.cell? ⟨wr.heap.size, 0, none⟩ = some (.int .i64 (m : Int))) (first | exact HSS.out | assumption)
          (first
            | (refine copy_op rfl (.tmp 39) (.tmp 42) rfl A1 A2 (64 - 0) (64 - 0) (64 - 0) (64 - 0) rfl rfl g (m * 64 + 0) curb 87 HGB.out (ints (old.drop 0)) HCP.out.1 HCP.out.2 HFB.out (ints_one _) ?_; intro w2 hg2 hgr2; have HX := Lib.hid (bk_round H.out HL.out HWK.out HQ.out HKQ.out HRW.out HGR.out HGC.out HM.out HO.out (b := 0) (Hid.out HE1) (by decide) hg2 hgr2); have hS2 := bk_keep HSS.out HPG.out HBG.out hgr2; clear hg2 hgr2))
        go_wp2
        go_roundw
        case rel => exact HX.out
        case measure => simp [intOf] <;> omega
    · have hx := tb_end (l := l) (ws := ws) (K := K) (t := t) (a := a) (by omega) hKa
      rw [hx] at hrow
      have HRW := Lib.hid hrow
      have HGR := Lib.hid hgr
      have h9 : ¬ (K : Int) ≤ (a : Int) - 1 := by omega
      clear hrow hgr hx ha hKa hlt
      go_wp2
      go_end0
      exact ⟨rfl, HRW.out, HGR.out⟩
end Go.Proofs.Ytdbpnfceabklkaa
