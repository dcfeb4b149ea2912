/-
  What Write leaves of the program's disk: the write waits, the sector has the bytes, and bytes 0 behind them; or it is told what is amiss. Condition: not too many writes wait; the bytes are not the disk's own.
-/
import Derived.Test.YtdbpnfceabklkaaLay
import Derived.Deep.RegionHeld3
import Derived.Deep.AppendLies
import Derived.Deep.DeepCutAuto
namespace Go.Proofs.Ytdbpnfceabklkaa
set_option maxRecDepth 100000
open Go.ChangeShapes Go.WideShapes Go.ChangeAt Go.RowKit

/-- What the append's region reads of the sectors. -/
def WS (p g n m c : Nat) (cs : List Value) (w' : World) : Prop := w'.cell? ⟨p, 0, none⟩ = some (.slice (some ⟨g, 0, none⟩) m c) ∧ w'.frozen? ⟨p, 1, none⟩ = false ∧ w'.rangeAt g (n * 64) cs
/-- One operation is taken first. -/
theorem take_op {ops : Array Oper} {Q : Exit → Act → World → Prop} {S : World → Prop} {fuel : Nat} {listed : Array Bool} {l : List Value} {ds : List Deferred} {w : World} (i d : Nat) (v : Value) {o : Oper} (hi : ops[i]? = some o) (hd : o.dst = some d)
    (hs : Region.noSelect ops = true) (hf : Region.free .any ops listed i = true) (hr : (Region.ready .any ops listed).contains i = true) (hQ : ∀ c a w, Q (.panic c) (a.put o.dst v) w → Q (.panic c) a w)
    (hy : YieldsIf Try.prog ops S o v (Act.mk l.toArray ds)) (hS : S w) (h : wpAnyH Try.prog .any ops Q S fuel (listed.setIfInBounds i true) (Act.mk (l.set d v).toArray ds) w) : wpAnyH Try.prog .any ops Q S (fuel + 1) listed (Act.mk l.toArray ds) w := by
  refine wpAnyH_take hi hs hf hr hQ hy hS ?_
  rw [hd]
  simpa [Act.put] using h
theorem put_lit (l : List Value) (ds : List Deferred) (o : Option Tmp) (d : Nat) (v : Value) (hd : o = some d) : (Act.mk l.toArray ds).put o v = Act.mk (l.set d v).toArray ds := by
  subst hd; simp [Act.put]
theorem row1_op {l : List Value} {ds : List Deferred} {o : Oper} {w : World} {K : Act → World → Prop} {Q : Exit → Act → World → Prop} (d : Nat) (hd : o.dst = some d) (x : Operand) (ho : o.op = .buildSlice 82 1 #[(0, x)]) (C : Array Value) (hx : (Act.mk l.toArray ds).eval x = .agg C) (hC : C.size = 65)
    (h : K (Act.mk (l.set d (.slice (some ⟨w.heap.size, 0, none⟩) 1 1)).toArray ds) (w.alloc (.cells C 91))) : o.wp Try.prog (Act.mk l.toArray ds) w K Q := by
  refine wp_row1 x ho C hx hC ?_
  rw [put_lit l ds _ d _ hd]; exact h
/-- An append of one write. -/
theorem app_op {ops : Array Oper} {l : List Value} {ds : List Deferred} {o : Oper} {w : World} {K : Act → World → Prop} {Q : Exit → Act → World → Prop} {E : Prop} (d : Nat) (hd : o.dst = some d) (hgd : o.guard = none) (s x : Operand)
    (ho : o.op = .call { callee := .builtin .append, args := #[s, x], argTypes := #[82, 82] }) (B : Nat) (v : Value) (n : Nat) (xs : List Value) (hs : (Act.mk l.toArray ds).eval s = v) (hown : w.ownsRow B 91 65 v n xs) (g : Nat) (C : Array Value)
    (hx : (Act.mk l.toArray ds).eval x = .slice (some ⟨g, 0, none⟩) 1 1) (hC : C.size = 65) (hg : w.heap[g]? = some (.cells C 91 (0, 0))) (h1 : ∀ u ∈ C.toList, u.oneCell' = true) (hn : n ≤ 100000) (hB : B ≤ w.heap.size)
    (h : ∀ v' w', w'.ownsRow B 91 65 v' (n + 1) (xs ++ C.toList) → w.grownBy w' v.ownBlock → K (Act.mk (l.set d v').toArray ds) w') :
    if Region.wanted o (yielded ops (Act.mk l.toArray ds).tmps) = true then Oper.wp Try.prog o (Act.mk l.toArray ds) w K Q else E := by
  obtain ⟨i0, hi, hz0, hz1, hz2⟩ := info_parts info74
  refine step_append_lies (P := Try.prog) _ hgd s x 82 ho B 91 i0 (.agg (#[Value.int .i64 0] ++ Z64)) 65 72 Try.underlying82 hi hz0 hz1 hz2 (by kernel_rfl) (by decide) v n xs hs hown ⟨g, 0, none⟩ 1 1 C.toList hx (by rw [Array.length_toList]; omega) (World.news_of_block hg) h1 (by decide) (by unfold maxLen; omega) (by omega) hB _ rfl ?_
  intro g2 cap2 w2 h2 h3 _ _
  rw [put_lit l ds _ d _ hd]
  exact h _ _ h2 h3
/-- What Write leaves. -/
def WrPost (w : World) (B p : Nat) (D : Dk) (n : Int) (zs : List Int) (e : Ending) (w' : World) : Prop :=
  e = .returned (.int .i64 (doD D 0 n 0 zs).2.2) ∧ PDisk w' B p (doD D 0 n 0 zs).1 ∧ Kp B w w'
theorem do_write {D : Dk} {n : Nat} {zs : List Int} (hd : D.dead = false) (hn : n < D.firm.length) (hz : zs.length ≤ 64) :
    doD D 0 (n : Int) 0 zs = (dies (putD D n zs), [], if (dies (putD D n zs)).dead = true then 40 else 0) := by
  unfold doD
  rw [if_neg (by decide), if_neg (by decide), if_neg (by decide), if_neg (by simp [hd]), if_neg (by decide), if_neg (by omega), if_neg (by decide)]
  rfl
theorem write_end {w wc w5 w6 : World} {B p g c : Nat} {D : Dk} {wv v2 : Value} {left : Int} {n : Nat} {zs : List Int} {cur0 : List Value} {e : Ending} (h : PD w B p D (.slice (some ⟨g, 0, none⟩) D.firm.length c) wv left) (hn : n < D.firm.length) (hd : D.dead = false) (hz : zs.length ≤ 64) (hb : Bys zs)
    (h1 : AppPost w B p D (.slice (some ⟨g, 0, none⟩) D.firm.length c) left n wc v2) (hg : wc.heap[g]? = some (.cells cur0.toArray 87 (0, 0))) (h5 : w5.heap[g]? = some (.cells (splice (splice cur0 (n * 64) (ints (List.replicate 64 0))) (n * 64) (ints zs)).toArray 87 (0, 0))) (hgr : wc.grownBy w5 (some g))
    (h6 : SpendPost w5 p (.slice (some ⟨g, 0, none⟩) D.firm.length c) v2 left D.dead e w6) : WrPost w B p D (n : Int) zs e w6 := by
  have hl := cur_ok h.ok
  have hn' : n < (cur D).length := by rw [cur_len]; exact hn
  have hfit : (n + 1) * 64 ≤ D.firm.length * 64 := Nat.mul_le_mul_right _ hn
  have hz64 : (ints (List.replicate 64 0)).length = 64 := by rw [ints_length, List.length_replicate]
  have hzl : (ints zs).length ≤ 64 := by rw [ints_length]; exact hz
  have hB : B ≤ wc.heap.size := Nat.le_trans h.size h1.kp.below.size
  have hgr' : wc.grownBy w5 (Value.slice (some ⟨g, 0, none⟩) D.firm.length c).ownBlock := hgr
  have hst : w5.heap[p]? = some (.cells #[.slice (some ⟨g, 0, none⟩) D.firm.length c, v2, .int .i64 left, .bool D.dead] 84 (0, 0)) := by
    rw [hgr'.block p (Array.getElem?_eq_some_iff.1 h1.here).1 (fun e' => own_ne h1.secs h1.here (by decide) e'.symm)]
    exact h1.here
  have hrow : w5.ownsRow B 91 65 v2 (D.wait.length + 1) (wcells (was D.firm D.wait ++ [(n, (cur D).getD n [])])) := h1.wrs.kept hgr' (own_apart h1.wrs h1.secs (by decide))
  have hsec : w5.ownsRow B 87 64 (.slice (some ⟨g, 0, none⟩) D.firm.length c) D.firm.length (flat ((cur D).set n (pad zs))) := by
    rw [← flat_put hl hn' hz]
    rcases h1.secs.2 with ⟨h0, _⟩ | ⟨g', cap, cur', e1, hbg, hgg, hnc, hcm, hcs, ht⟩
    · cases h0
    · have hx := h1.secs.1
      simp only [Value.slice.injEq, Option.some.injEq, Addr.mk.injEq] at e1
      obtain ⟨⟨rfl, _⟩, _, rfl⟩ := e1
      rw [hgg] at hg
      injection hg with hg
      injection hg with e2 _
      subst e2
      have hs1 := (setRow_heap wc g _ (splice cur0 (n * 64) (ints (List.replicate 64 0))).toArray 87 _ hgg)
      have r1 := own_splice h1.secs hgg (n * 64) (ints (List.replicate 64 0)) (by omega) hs1
      exact own_splice r1 hs1 (n * 64) (ints zs) (by omega) h5
  have hk5 : Kp B w w5 := h1.kp.trans (kp_grown h1.secs (.inr (.inl rfl)) hB hgr')
  obtain ⟨he, ⟨v, j, hw⟩, hst6⟩ := h6
  have hlife := spend_life (D := putD D n zs) (left := left) hd (h.life hd)
  have hk6 : Kp B w w6 ∧ w6.ownsRow B 87 64 (.slice (some ⟨g, 0, none⟩) D.firm.length c) D.firm.length (flat ((cur D).set n (pad zs))) ∧ w6.ownsRow B 91 65 v2 (D.wait.length + 1) (wcells (was D.firm D.wait ++ [(n, (cur D).getD n [])])) := by
    rcases hw with rfl | rfl
    · exact ⟨hk5.trans (struct_kp h.base hst j v), struct_row hsec hst (by decide) rfl _ _, struct_row hrow hst (by decide) rfl _ _⟩
    · exact ⟨hk5, hsec, hrow⟩
  have hdo := do_write hd hn hz
  have hok : Dok (dies (putD D n zs)) := dies_dok (put_dok h.ok hn hb hz)
  refine ⟨by rw [he, hdo]; exact ret_i (by rw [hlife.1]; by_cases h1 : left = 1 <;> simp [h1]), ?_, hk6.1⟩
  rw [hdo]
  refine ⟨.slice (some ⟨g, 0, none⟩) D.firm.length c, v2, if 1 < left then left - 1 else left, hok, h.base, ?_, ?_, ?_, ?_, hlife.2⟩
  · show w6.heap[p]? = some (.cells #[_, v2, _, .bool (dies (putD D n zs)).dead] 84 (0, 0))
    rw [hlife.1]
    rw [hd] at hst6
    exact hst6
  · show w6.ownsRow B 87 64 _ (dies (putD D n zs)).firm.length (flat (ups (dies (putD D n zs)).firm (dies (putD D n zs)).wait))
    rw [dies_firm, dies_wait]
    show w6.ownsRow B 87 64 _ D.firm.length (flat (ups D.firm (D.wait ++ [(n, pad zs)])))
    rw [ups_snoc]
    exact hk6.2.1
  · show w6.ownsRow B 91 65 _ (dies (putD D n zs)).wait.length (wcells (was (dies (putD D n zs)).firm (dies (putD D n zs)).wait))
    rw [dies_firm, dies_wait]
    show w6.ownsRow B 91 65 _ (D.wait ++ [(n, pad zs)]).length (wcells (was D.firm (D.wait ++ [(n, pad zs)])))
    rw [was_snoc, List.length_append]
    exact hk6.2.2
  · have := h.left_hi
    split <;> omega
theorem cell_block {w : World} {p j : Nat} {cs : Array Value} {v : Value} (h : w.heap[p]? = some (.cells cs 84 (0, 0))) (hv : cs[j]? = some v) : w.cell? ⟨p, j, none⟩ = some v := by rw [cell_of_row w p j cs 84 _ h]; exact hv
/-- Behind the zeros. -/
structure WrMid (w : World) (p g c : Nat) (D : Dk) (n : Nat) (A : Option Addr) (len : Nat) (zs : List Int) (cur0 : List Value) (wc w4 : World) : Prop where
  cell : w4.cell? ⟨p, 0, none⟩ = some (.slice (some ⟨g, 0, none⟩) D.firm.length c)
  row : w4.heap[g]? = some (.cells (splice cur0 (n * 64) (ints (List.replicate 64 0))).toArray 87 (0, 0))
  grown : wc.grownBy w4 (some g)
  zlen : zs.length = len
  bys : Bys zs
  src : 0 < (ints zs).length → ∃ ad, A = some ad ∧ ∀ j v, (ints zs)[j]? = some v → w4.cell? (ad.add j) = some v
  fit : n * 64 + (ints zs).length ≤ (splice cur0 (n * 64) (ints (List.replicate 64 0))).length
  min : (ints zs).length = Nat.min len 64
theorem write_mid {w wc w4 : World} {B p g c : Nat} {D : Dk} {wv v2 : Value} {left : Int} {n : Nat} {A : Option Addr} {len : Nat} {zs : List Int} {cur0 : List Value} (h : PD w B p D (.slice (some ⟨g, 0, none⟩) D.firm.length c) wv left) (hR : ∀ w', Kp B w w' → Reads w' A len zs) (hl : len ≤ 64)
    (h1 : AppPost w B p D (.slice (some ⟨g, 0, none⟩) D.firm.length c) left n wc v2) (hf : n * 64 + 64 ≤ cur0.length) (hg : w4.heap[g]? = some (.cells (splice cur0 (n * 64) Z64.toList).toArray 87 (0, 0))) (hgr : wc.grownBy w4 (some g)) : WrMid w p g c D n A len zs cur0 wc w4 := by
  have hpg : some p ≠ some g := fun e' => own_ne h1.secs h1.here (by decide) e'.symm
  have hk := hR w4 (h1.kp.trans (kp_grown h1.secs (.inr (.inl rfl)) (Nat.le_trans h.size h1.kp.below.size) hgr))
  have hz64 : (ints (List.replicate 64 0)).length = 64 := by rw [ints_length, List.length_replicate]
  have hzl : zs.length = len := hk.1
  refine ⟨hgr.cell (cell_block h1.here (j := 0) rfl) hpg, by rw [← z64_list]; exact hg, hgr, hzl, hk.bys, fun hp => reads_cells hk (by rw [ints_length] at hp; omega), by rw [length_splice _ _ _ (by omega), ints_length]; omega, ?_⟩
  rw [ints_length, hzl]
  simp [Nat.min_def]
  omega
theorem sec_range {w : World} {B g c : Nat} {D : Dk} {n : Nat} (hs : w.ownsRow B 87 64 (.slice (some ⟨g, 0, none⟩) D.firm.length c) D.firm.length (flat (cur D))) (hok : Dok D) (hn : n < D.firm.length) : w.rangeAt g (n * 64) (ints ((cur D).getD n [])) := by
  have hc := cur_ok hok
  have hn' : n < (cur D).length := by rw [cur_len]; exact hn
  rw [getD_eq _ hn']
  refine own_range hs _ _ fun j hj => ?_
  rw [lok_parts hc _ (List.getElem_mem hn')] at hj
  exact part_get ints 64 (cur D) n hn' (lok_parts hc) j hj
theorem sec_len {D : Dk} (hok : Dok D) {n : Nat} (hn : n < D.firm.length) : (ints ((cur D).getD n [])).length = 64 := by
  rw [ints_length]; exact (lok_getD (cur_ok hok) (by rw [cur_len]; exact hn)).1
theorem ws_mid {w w2 : World} {B p g c : Nat} {D : Dk} {wv v2 : Value} {left : Int} {n : Nat} (h : PD w B p D (.slice (some ⟨g, 0, none⟩) D.firm.length c) wv left) (hn : n < D.firm.length) (h2 : AppMid w B p D (.slice (some ⟨g, 0, none⟩) D.firm.length c) wv left n w2 v2) : WS p g n D.firm.length c (ints ((cur D).getD n [])) w2 :=
  ⟨cell_block h2.here rfl, frozen_of_row w2 p 1 _ _ h2.here, sec_range h2.secs h.ok hn⟩
theorem ws_post {w w2 : World} {B p g c : Nat} {D : Dk} {wv v2 : Value} {left : Int} {n : Nat} (h : PD w B p D (.slice (some ⟨g, 0, none⟩) D.firm.length c) wv left) (hn : n < D.firm.length) (h2 : AppPost w B p D (.slice (some ⟨g, 0, none⟩) D.firm.length c) left n w2 v2) : WS p g n D.firm.length c (ints ((cur D).getD n [])) w2 :=
  ⟨cell_block h2.here rfl, frozen_of_row w2 p 1 _ _ h2.here, sec_range h2.secs h.ok hn⟩
theorem write_struct {w wc w5 : World} {B p g c : Nat} {D : Dk} {v2 : Value} {left : Int} {n : Nat} (h1 : AppPost w B p D (.slice (some ⟨g, 0, none⟩) D.firm.length c) left n wc v2) (hgr : wc.grownBy w5 (some g)) :
    w5.heap[p]? = some (.cells #[.slice (some ⟨g, 0, none⟩) D.firm.length c, v2, .int .i64 left, .bool D.dead] 84 (0, 0)) := by
  rw [hgr.block p (Array.getElem?_eq_some_iff.1 h1.here).1 (fun e' => own_ne h1.secs h1.here (by decide) e'.symm)]
  exact h1.here
set_option maxHeartbeats 1000000 in
theorem write_good (B p g c : Nat) (wv : Value) (left : Int) (D : Dk) (n : Nat) (A : Option Addr) (len cap : Nat) (zs : List Int) (w : World) (h : PD w B p D (.slice (some ⟨g, 0, none⟩) D.firm.length c) wv left)
    (hn : n < D.firm.length) (hd : D.dead = false) (hR : ∀ w', Kp B w w' → Reads w' A len zs) (hl : len ≤ 64) (hm : D.wait.length ≤ 100000) :
    Calls Try.prog 28 #[.pointer (some ⟨p, 0, none⟩), .int .i64 (n : Int), .slice A len cap] w (WrPost w B p D (n : Int) zs) := by
  have H := Lib.hid h
  have HA : Hid (amiss D (n : Int) = 0) := Lib.hid (by unfold amiss; rw [if_neg (by simp [hd]), if_neg (by omega)])
  have HAM := Lib.hid (amiss_any B p D (n : Int) w ⟨_, _, _, h⟩)
  have HR := Lib.hid hR
  have HD := Lib.hid hd
  obtain ⟨c0, c1, c2, c3⟩ := h.cell
  have f1 := h.free 1
  have hl64 : (len : Int) ≤ 64 := by omega
  have hn0 : (0 : Int) ≤ (n : Int) := by omega
  have hnm : (n : Int) < (D.firm.length : Int) := by omega
  obtain ⟨cs, hcs⟩ : ∃ cs, cs = ints ((cur D).getD n []) := ⟨_, rfl⟩
  have hrg : w.rangeAt g (n * 64) cs := by rw [hcs]; exact sec_range h.secs h.ok hn
  have hcl : cs.length = 64 := by rw [hcs]; exact sec_len h.ok hn
  obtain ⟨C1, hC1⟩ : ∃ C1, C1 = #[Value.int .i64 (n : Int)] ++ cs.toArray := ⟨_, rfl⟩
  have HCE := Lib.hid hcs
  have HCA := Lib.hid hC1
  have HCL := Lib.hid hcl
  have HCS : Hid (C1.size = 65) := Lib.hid (by rw [hC1]; simp [hcl])
  have HCW : Hid (C1.toList = wcell (n, (cur D).getD n [])) := Lib.hid (by rw [hC1, hcs]; simp [wcell])
  have HON : Hid (∀ u ∈ C1.toList, u.oneCell' = true) := Lib.hid (by rw [HCW.out]; exact wcell_one _)
  have HNB : Hid ((w.drew.alloc (.cells C1 91)).heap[w.heap.size]? = some (.cells C1 91 (0, 0))) := Lib.hid (new_block w.drew _)
  have hbb : Below w.heap.size w (w.drew.alloc (.cells C1 91)) := ((Below.refl _ _).drew).alloc (Nat.le_refl _) _
  have HBS : Hid (B ≤ (w.drew.alloc (.cells C1 91)).heap.size) := Lib.hid (h.kept hbb).size
  have HC2 : Hid ((w.alloc (.cells C1 91)).cell? ⟨p, 1, none⟩ = some wv) := Lib.hid (h.kept hbb).cell.2.1
  have HS2 : Hid (WS p g n D.firm.length c cs (w.drew.alloc (.cells C1 91))) := Lib.hid ⟨(h.kept hbb).cell.1, (h.kept hbb).free 1, by rw [hcs]; exact sec_range (h.kept hbb).secs h.ok hn⟩
  have HWS : Hid (WS p g n D.firm.length c cs w.drew) := Lib.hid ⟨c0, f1, by simpa using hrg⟩
  have HN := Lib.hid hn
  have HW := Lib.hid (h.kept hbb).wrs
  have HC1 := Lib.hid (h.kept (Below.refl _ _).drew).cell.2.1
  clear h hd hn hcs hrg hcl hR hC1 hbb
  go_enter Try.func28, Try.ntmps28
  go_wp2_with fail
  refine HAM.out.mono ?_
  rintro e w' ⟨rfl, rfl⟩
  rw [HA.out]
  go_upto_region 6 with fail
  go_cut [] (fun wx => ∃ v2, AppPost w B p D (.slice (some ⟨g, 0, none⟩) D.firm.length c) left n wx v2)
  case first =>
    refine wp_region_held_drew (S := WS p g n D.firm.length c cs) (by kernel_rfl) HWS.out (fun hHeld => ?_)
    refine take_op 0 17 (.pointer (some ⟨p, 0, none⟩)) rfl rfl (by kernel_rfl) (by kernel_rfl) (by kernel_rfl) (fun _ _ _ h => h) (.inl ⟨by rfl, fun w' hw' => by go_simp⟩) hHeld ?_
    simp only [List.set_cons_zero, List.set_cons_succ]
    refine take_op 1 18 (.pointer (some ⟨p, 0, none⟩)) rfl rfl (by kernel_rfl) (by kernel_rfl) (by kernel_rfl) (fun _ _ _ h => h) (.inl ⟨by rfl, fun w' hw' => by go_simp⟩) hHeld ?_
    simp only [List.set_cons_zero, List.set_cons_succ]
    refine take_op 2 19 (.pointer (some ⟨p, 0, none⟩)) rfl rfl (by kernel_rfl) (by kernel_rfl) (by kernel_rfl) (fun _ _ _ h => h) (.inl ⟨by rfl, fun w' hw' => by go_simp⟩) hHeld ?_
    simp only [List.set_cons_zero, List.set_cons_succ]
    refine take_op 3 20 (.pointer (some ⟨p, 1, none⟩)) rfl rfl (by kernel_rfl) (by kernel_rfl) (by kernel_rfl) (fun _ _ _ h => h) (.inl ⟨by rfl, fun w' hw' => by go_simp⟩) hHeld ?_
    simp only [List.set_cons_zero, List.set_cons_succ]
    refine take_op 5 22 (.int .i64 (n : Int)) rfl rfl (by kernel_rfl) (by kernel_rfl) (by kernel_rfl) (fun _ _ _ h => h) (.inl ⟨by rfl, fun w' hw' => by go_simp⟩) hHeld ?_
    simp only [List.set_cons_zero, List.set_cons_succ]
    refine take_op 6 23 (.pointer (some ⟨p, 0, none⟩)) rfl rfl (by kernel_rfl) (by kernel_rfl) (by kernel_rfl) (fun _ _ _ h => h) (.inl ⟨by rfl, fun w' hw' => by go_simp⟩) hHeld ?_
    simp only [List.set_cons_zero, List.set_cons_succ]
    refine take_op 7 24 (.pointer (some ⟨p, 0, none⟩)) rfl rfl (by kernel_rfl) (by kernel_rfl) (by kernel_rfl) (fun _ _ _ h => h) (.inl ⟨by rfl, fun w' hw' => by go_simp⟩) hHeld ?_
    simp only [List.set_cons_zero, List.set_cons_succ]
    refine take_op 8 25 (.pointer (some ⟨p, 0, none⟩)) rfl rfl (by kernel_rfl) (by kernel_rfl) (by kernel_rfl) (fun _ _ _ h => h) (.inl ⟨by rfl, fun w' hw' => by go_simp⟩) hHeld ?_
    simp only [List.set_cons_zero, List.set_cons_succ]
    refine take_op 9 26 (.slice (some ⟨g, 0, none⟩) D.firm.length c) rfl rfl (by kernel_rfl) (by kernel_rfl) (by kernel_rfl) (fun _ _ _ h => h) (.inl ⟨by rfl, fun w' hw' => by have := hw'.1; go_simp⟩) hHeld ?_
    simp only [List.set_cons_zero, List.set_cons_succ]
    refine take_op 10 27 (.int .i64 (n : Int)) rfl rfl (by kernel_rfl) (by kernel_rfl) (by kernel_rfl) (fun _ _ _ h => h) (.inl ⟨by rfl, fun w' hw' => by go_simp⟩) hHeld ?_
    simp only [List.set_cons_zero, List.set_cons_succ]
    refine take_op 11 28 (.pointer (some ⟨g, n * 64, none⟩)) rfl rfl (by kernel_rfl) (by kernel_rfl) (by kernel_rfl) (fun _ _ _ h => h) (.inl ⟨by rfl, fun w' hw' => by go_simp⟩) hHeld ?_
    simp only [List.set_cons_zero, List.set_cons_succ]
    refine take_op 12 29 (.agg cs.toArray) rfl rfl (by kernel_rfl) (by kernel_rfl) (by kernel_rfl) (fun _ _ _ h => h) (yieldsIf_load_mid (by rfl) 87 (.tmp 28) rfl g (n * 64) rfl cs (.array 64 5) (fun w h => h.2.2) Try.underlying87 rfl (by rw [HCL.out]; exact size66)) hHeld ?_
    simp only [List.set_cons_zero, List.set_cons_succ]
    refine take_op 13 30 (.agg C1) rfl rfl (by kernel_rfl) (by kernel_rfl) (by kernel_rfl) (fun _ _ _ h => h) (by rw [HCA.out]; exact yields_build74 (by rfl) (.tmp 22) (.tmp 29) rfl (n : Int) cs.toArray rfl rfl (by rw [List.size_toArray]; exact HCL.out)) hHeld ?_
    simp only [List.set_cons_zero, List.set_cons_succ]
    have hc1 := HC1.out
    have hc2 := HC2.out
    refine wpAnyH_ready (rs := [4, 14]) (by kernel_rfl) (by simp) (AllReadyH.cons rfl (fun K hK => ?_) (AllReadyH.cons rfl (fun K hK => ?_) AllReadyH.nil))
    · go_simp
      refine hK.out _ _ hHeld (fun _ => ?_)
      refine wpAnyH_ready (rs := [14]) (by kernel_rfl) (by simp) (AllReadyH.cons rfl (fun K2 hK2 => ?_) AllReadyH.nil)
      rw [if_pos (by rfl)]
      refine row1_op 31 rfl (.tmp 30) rfl C1 rfl HCS.out ?_
      simp only [List.set_cons_zero, List.set_cons_succ]
      refine hK2.out _ _ HS2.out (fun _ => ?_)
      refine wpAnyH_ready (rs := [15]) (by kernel_rfl) (by simp) (AllReadyH.cons rfl (fun K3 hK3 => ?_) AllReadyH.nil)
      refine app_op 32 rfl rfl (.tmp 21) (.tmp 31) rfl B wv D.wait.length (wcells (was D.firm D.wait)) rfl HW.out w.heap.size C1 rfl HCS.out HNB.out HON.out hm HBS.out ?_
      intro v2 w2 hown hgrow
      obtain ⟨A2, k2, rfl, -, -, -⟩ := own_form hown
      have HM := Lib.hid (app_mid H.out HCW.out hown hgrow)
      have HS3 := Lib.hid (ws_mid H.out HN.out HM.out)
      have hd1 := cell_block HM.out.here (j := 1) rfl
      have hd2 := frozen_of_row w2 p 1 _ _ HM.out.here
      have HS4 := Lib.hid (ws_post H.out HN.out (HM.out.post H.out.base))
      clear hown hgrow
      rw [← HCE.out] at HS3 HS4
      simp only [List.set_cons_zero, List.set_cons_succ]
      refine hK3.out _ _ HS3.out (fun hHeld3 => ?_)
      refine take_op 16 33 (.pointer (some ⟨p, 0, none⟩)) rfl rfl (by kernel_rfl) (by kernel_rfl) (by kernel_rfl) (fun _ _ _ h => h) (.inl ⟨by rfl, fun w' hw' => by go_simp⟩) hHeld3 ?_
      simp only [List.set_cons_zero, List.set_cons_succ]
      refine take_op 17 34 (.pointer (some ⟨p, 1, none⟩)) rfl rfl (by kernel_rfl) (by kernel_rfl) (by kernel_rfl) (fun _ _ _ h => h) (.inl ⟨by rfl, fun w' hw' => by go_simp⟩) hHeld3 ?_
      simp only [List.set_cons_zero, List.set_cons_succ]
      refine wpAnyH_ready (rs := [18]) (by kernel_rfl) (by simp) (AllReadyH.cons rfl (fun K4 hK4 => ?_) AllReadyH.nil)
      go_simp
      refine hK4.out _ _ HS4.out (fun _ => ?_)
      refine wpAnyH_done (by kernel_rfl) ?_ _
      go_wp2_with fail
      go_meet
      exact ⟨_, HM.out.post H.out.base⟩
    · rw [if_pos (by rfl)]
      refine row1_op 31 rfl (.tmp 30) rfl C1 rfl HCS.out ?_
      simp only [List.set_cons_zero, List.set_cons_succ]
      refine hK.out _ _ HS2.out (fun hHeld2 => ?_)
      refine wpAnyH_ready (rs := [4]) (by kernel_rfl) (by simp) (AllReadyH.cons rfl (fun K2 hK2 => ?_) AllReadyH.nil)
      go_simp
      refine hK2.out _ _ hHeld2 (fun _ => ?_)
      refine wpAnyH_ready (rs := [15]) (by kernel_rfl) (by simp) (AllReadyH.cons rfl (fun K3 hK3 => ?_) AllReadyH.nil)
      refine app_op 32 rfl rfl (.tmp 21) (.tmp 31) rfl B wv D.wait.length (wcells (was D.firm D.wait)) rfl HW.out w.heap.size C1 rfl HCS.out HNB.out HON.out hm HBS.out ?_
      intro v2 w2 hown hgrow
      obtain ⟨A2, k2, rfl, -, -, -⟩ := own_form hown
      have HM := Lib.hid (app_mid H.out HCW.out hown hgrow)
      have HS3 := Lib.hid (ws_mid H.out HN.out HM.out)
      have hd1 := cell_block HM.out.here (j := 1) rfl
      have hd2 := frozen_of_row w2 p 1 _ _ HM.out.here
      have HS4 := Lib.hid (ws_post H.out HN.out (HM.out.post H.out.base))
      clear hown hgrow
      rw [← HCE.out] at HS3 HS4
      simp only [List.set_cons_zero, List.set_cons_succ]
      refine hK3.out _ _ HS3.out (fun hHeld3 => ?_)
      refine take_op 16 33 (.pointer (some ⟨p, 0, none⟩)) rfl rfl (by kernel_rfl) (by kernel_rfl) (by kernel_rfl) (fun _ _ _ h => h) (.inl ⟨by rfl, fun w' hw' => by go_simp⟩) hHeld3 ?_
      simp only [List.set_cons_zero, List.set_cons_succ]
      refine take_op 17 34 (.pointer (some ⟨p, 1, none⟩)) rfl rfl (by kernel_rfl) (by kernel_rfl) (by kernel_rfl) (fun _ _ _ h => h) (.inl ⟨by rfl, fun w' hw' => by go_simp⟩) hHeld3 ?_
      simp only [List.set_cons_zero, List.set_cons_succ]
      refine wpAnyH_ready (rs := [18]) (by kernel_rfl) (by simp) (AllReadyH.cons rfl (fun K4 hK4 => ?_) AllReadyH.nil)
      go_simp
      refine hK4.out _ _ HS4.out (fun _ => ?_)
      refine wpAnyH_done (by kernel_rfl) ?_ _
      go_wp2_with fail
      go_meet
      exact ⟨_, HM.out.post H.out.base⟩
  case rest =>
    obtain ⟨v2, hP⟩ := hcut
    obtain ⟨cur0, hg0, hbg, hgl, hc0, ht0⟩ := own_block hP.secs
    have hnfit : (n + 1) * 64 ≤ D.firm.length * 64 := Nat.mul_le_mul_right _ HN.out
    have HP := Lib.hid hP
    have HG0 := Lib.hid hg0
    have HF0 : Hid (n * 64 + 64 ≤ cur0.length) := Lib.hid (by omega)
    have d0 := cell_block hP.here (j := 0) rfl
    have HZ1 : Hid (Z64.all (·.oneCell') = true) := Lib.hid (by kernel_rfl)
    clear hP hg0 hbg hgl hc0 ht0 hnfit
    go_wp2_with (first
      | (with_reducible refine wpList_zero66 rfl rfl ?_)
      | ((with_reducible refine wpList_store_grown rfl (.tmp 41) (.tmp 40) rfl g (n * 64) ?_ Z64 ?_ cur0 87 HG0.out z64_size HF0.out HZ1.out ?_); rfl; rfl; intro w4 hg4 hgr4; have HX4 := Lib.hid (write_mid H.out HR.out hl HP.out HF0.out hg4 hgr4); clear hg4 hgr4; have d4 := HX4.out.cell)
      | ((with_reducible refine wpList_copy_grown rfl (.tmp 48) (.tmp 49) rfl (some ⟨g, n * 64, none⟩) A 64 64 len cap ?_ ?_ g (n * 64) (splice cur0 (n * 64) (ints (List.replicate 64 0))) 87 HX4.out.row (ints zs) HX4.out.min (fun hp => ⟨rfl, HX4.out.src hp⟩) HX4.out.fit (ints_one zs) ?_); rfl; rfl; intro w5 hg5 hgr5; have HG5 := Lib.hid hg5; have HGR5 := Lib.hid (HX4.out.grown.trans hgr5); clear hg5 hgr5)
      | fail)
    refine (spend_any p (.slice (some ⟨g, 0, none⟩) D.firm.length c) v2 left D.dead w5 (write_struct HP.out HGR5.out) H.out.left_hi).mono ?_
    intro e w6 hs6
    have HS6 := Lib.hid hs6
    obtain ⟨rfl, -⟩ := hs6
    have HE := Lib.hid (write_end H.out HN.out HD.out (by rw [HX4.out.zlen]; exact hl) HX4.out.bys HP.out HG0.out HG5.out HGR5.out HS6.out)
    obtain ⟨er, her⟩ : ∃ er : Int, er = if left = 1 then 40 else 0 := ⟨_, rfl⟩
    rw [← her] at HE ⊢
    clear HS6 her
    go_wp2
    go_ret
    exact HE.out
theorem write_bad (B p : Nat) (D : Dk) (n : Int) (A : Option Addr) (len cap : Nat) (zs : List Int) (w : World) (h : PDisk w B p D) (hz : zs.length = len)
    (hb : D.dead = true ∨ n < 0 ∨ (D.firm.length : Int) ≤ n ∨ 64 < len) :
    Calls Try.prog 28 #[.pointer (some ⟨p, 0, none⟩), .int .i64 n, .slice A len cap] w (WrPost w B p D n zs) := by
  have H := Lib.hid h
  obtain ⟨a, ha⟩ : ∃ a, a = amiss D n := ⟨_, rfl⟩
  have HAM : Hid (Calls Try.prog 43 #[.pointer (some ⟨p, 0, none⟩), .int .i64 n] w fun e w' => e = .returned (.int .i64 a) ∧ w = w') := Lib.hid (by rw [ha]; exact amiss_any B p D n w h)
  have HA := Lib.hid ha
  by_cases h0 : a = 0
  · subst h0
    have h3 : ¬ D.dead = true ∧ ¬ (n < 0 ∨ (D.firm.length : Int) ≤ n) := by
      unfold amiss at ha
      refine ⟨fun e => (by rw [if_pos e] at ha; cases ha), fun e => ?_⟩
      by_cases hd : D.dead = true
      · rw [if_pos hd] at ha; cases ha
      · rw [if_neg hd, if_pos e] at ha; cases ha
    have h64 : (64 : Int) < (len : Int) := by
      rcases hb with h | h | h | h
      · exact absurd h h3.1
      · exact absurd (.inl h) h3.2
      · exact absurd (.inr h) h3.2
      · omega
    have HX : Hid (doD D 0 n 0 zs = (D, [], 41)) := Lib.hid (by
      unfold doD
      rw [if_neg (by decide), if_neg (by decide), if_neg (by decide), if_neg h3.1, if_neg (by decide), if_pos (by omega)])
    clear h ha hb h3
    go_enter Try.func28, Try.ntmps28
    go_wp2_with fail
    refine HAM.out.mono ?_
    rintro e w' ⟨rfl, rfl⟩
    go_wp2
    go_ret
    exact ⟨by rw [HX.out]; rfl, by rw [HX.out]; exact H.out, Kp.refl _ _⟩
  · have h1 : (a != 0) = true := by simpa using h0
    have HX : Hid (doD D 0 n 0 zs = (D, [], a)) := Lib.hid (by
      unfold doD
      rw [if_neg (by decide), if_neg (by decide), if_neg (by decide)]
      unfold amiss at ha
      by_cases hd : D.dead = true
      · rw [if_pos hd] at ha ⊢; rw [ha]
      · rw [if_neg hd] at ha ⊢
        rw [if_neg (by decide)]
        by_cases hn : n < 0 ∨ (D.firm.length : Int) ≤ n
        · rw [if_pos hn] at ha; rw [if_pos (by omega), ha]
        · rw [if_neg hn] at ha; exact absurd ha h0)
    clear h ha hb h0
    go_enter Try.func28, Try.ntmps28
    go_wp2_with fail
    refine HAM.out.mono ?_
    rintro e w' ⟨rfl, rfl⟩
    go_wp2
    go_ret
    exact ⟨by rw [HX.out]; rfl, by rw [HX.out]; exact H.out, Kp.refl _ _⟩
theorem write_any (B p : Nat) (D : Dk) (n : Int) (A : Option Addr) (len cap : Nat) (zs : List Int) (w : World) (h : PDisk w B p D) (hR : ∀ w', Kp B w w' → Reads w' A len zs) (hm : D.wait.length ≤ 100000) :
    Calls Try.prog 28 #[.pointer (some ⟨p, 0, none⟩), .int .i64 n, .slice A len cap] w (WrPost w B p D n zs) := by
  have hz : zs.length = len := (hR w (Kp.refl _ _)).1
  by_cases hb : D.dead = true ∨ n < 0 ∨ (D.firm.length : Int) ≤ n ∨ 64 < len
  · exact write_bad B p D n A len cap zs w h hz hb
  · obtain ⟨sv, wv, left, h⟩ := h
    obtain ⟨m, rfl⟩ : ∃ m : Nat, n = (m : Int) := ⟨n.toNat, by omega⟩
    have hd : D.dead = false := by cases hd : D.dead <;> simp_all
    obtain ⟨S, c, rfl, -, -, hg⟩ := own_form h.secs
    obtain ⟨g, rfl⟩ := hg (by omega)
    exact write_good B p g c wv left D m A len cap zs w h (by omega) hd hR (by omega) hm
end Go.Proofs.Ytdbpnfceabklkaa
