/-
  What the document's Crash returns. Condition: not too many sectors and writes.
-/
import Derived.Test.YtogofgfdkkjnlaaRFirm
import Derived.Lib.Strings
import Derived.StillTailTactics
namespace Go.Proofs.Ytogofgfdkkjnlaa
open Go.ChangeShapes Go.WideShapes Go.ChangeAt Go.RowKit

/-- What the document's Crash leaves. -/
def RcPost (w : World) (D : Dk) (keep tear : Int) (e : Ending) (w' : World) : Prop :=
  ∃ Af cf, e = .returned (.agg #[.slice Af D.firm.length cf, .slice none 0 0, .int .i64 0, .bool false]) ∧ RDisk w' w.heap.size (.slice Af D.firm.length cf) (.slice none 0 0) (crash D keep tear) ∧ Below w.heap.size w w'
theorem sub_row {w : World} {B n c : Nat} {A : Option Addr} {xs : List Value} (h : w.ownsRow B 71 2 (.slice A n c) n xs) (k : Nat) (hk : k ≤ n) : w.ownsRow B 71 2 (.slice A k c) k (xs.take (k * 2)) ∧
    ∀ W : World, (Instr.slice 26 (.slice A n c) none (some (.int .i64 (k : Int))) none).run Try.prog W = .ok (.slice A k c) W := by
  have hx := h.1
  obtain ⟨i0, hi, hz0, hz1, hz2⟩ := info_parts info71
  have he : Try.prog.elem 26 = 71 := by kernel_rfl
  refine ⟨⟨by rw [List.length_take]; omega, ?_⟩, fun W => ?_⟩
  · rcases h.2 with ⟨h0, hn⟩ | ⟨g, cap, cur, e1, hbg, hg, hnc, hcm, hcs, ht⟩
    · simp only [Value.slice.injEq] at h0
      obtain ⟨rfl, rfl, rfl⟩ := h0
      obtain rfl : k = 0 := by omega
      exact .inl ⟨rfl, rfl⟩
    · simp only [Value.slice.injEq] at e1
      obtain ⟨rfl, -, rfl⟩ := e1
      refine .inr ⟨g, c, cur, rfl, hbg, hg, by omega, hcm, hcs, ?_⟩
      rw [← ht, List.take_take]
      congr 1
      have : k * 2 ≤ n * 2 := Nat.mul_le_mul_right _ hk
      omega
  · have hnc : n ≤ c := by
      obtain ⟨A', c', e', h1, _⟩ := own_form h
      simp only [Value.slice.injEq] at e'
      obtain ⟨-, -, rfl⟩ := e'
      exact h1
    rw [run_slice_h (P := Try.prog) (w := W) 26 A n c Try.underlying26 .i64 (k : Int) (by omega) (by omega)]
    rcases h.2 with ⟨h0, _⟩ | ⟨g, cap, cur, e1, _⟩
    · simp only [Value.slice.injEq] at h0
      obtain ⟨rfl, rfl, rfl⟩ := h0
      simp [he, sizeOf, typeInfo, hi, hz1, sliced]
    · simp only [Value.slice.injEq] at e1
      obtain ⟨rfl, -, rfl⟩ := e1
      simp [he, sizeOf, typeInfo, hi, hz1, sliced, Go.WideShapes.add_plain]
theorem str_torn (a b : List Int) (t : Nat) : strOfNums (a.take t ++ b.drop t) = (strOfNums a).extract 0 t ++ (strOfNums b).extract t (strOfNums b).size := by
  apply ByteArray.ext
  apply Array.toList_inj.1
  rw [ByteArray.data_append, Array.toList_append, Go.Lib.extract_data, Go.Lib.extract_data, strOfNums_data, strOfNums_data, strOfNums_data, strOfNums_size, List.drop_zero, Nat.sub_zero, List.map_append, List.map_take, List.map_drop]
  congr 1
  rw [List.take_of_length_le (by simp)]
/-- Behind firm. -/
structure RcMid (w : World) (B : Nat) (fv wv : Value) (D : Dk) (k : Nat) (v2 : Value) (w2 : World) : Prop where
  b0 : w2.heap[w.heap.size]? = some (.cells #[fv, wv, .int .i64 D.armed, .bool D.dead] 28 (0, 0))
  b1 : w2.heap[w.heap.size + 1]? = some (.cells #[.slice none 0 0, .slice none 0 0, .int .i64 0, .bool false] 28 (0, 0))
  row : w2.ownsRow w.heap.size 9 1 v2 D.firm.length (strs (ups D.firm (D.wait.take k)))
  below : Below w.heap.size w w2
theorem rc_mid {w w2 : World} {B : Nat} {fv wv v2 : Value} {D : Dk} {k : Nat} (h2 : w2.ownsRow ((w.alloc (.cells #[fv, wv, .int .i64 D.armed, .bool D.dead] 28)).alloc (.cells #[.slice none 0 0, .slice none 0 0, .int .i64 0, .bool false] 28)).heap.size 9 1 v2 D.firm.length (strs (ups D.firm (D.wait.take k))))
    (hb : Below ((w.alloc (.cells #[fv, wv, .int .i64 D.armed, .bool D.dead] 28)).alloc (.cells #[.slice none 0 0, .slice none 0 0, .int .i64 0, .bool false] 28)).heap.size ((w.alloc (.cells #[fv, wv, .int .i64 D.armed, .bool D.dead] 28)).alloc (.cells #[.slice none 0 0, .slice none 0 0, .int .i64 0, .bool false] 28)) w2) : RcMid w B fv wv D k v2 w2 := by
  have hs : ((w.alloc (.cells #[fv, wv, .int .i64 D.armed, .bool D.dead] 28)).alloc (.cells #[.slice none 0 0, .slice none 0 0, .int .i64 0, .bool false] 28)).heap.size = w.heap.size + 2 := by simp
  have hbx := two_boxes' w #[fv, wv, .int .i64 D.armed, .bool D.dead] #[.slice none 0 0, .slice none 0 0, .int .i64 0, .bool false] 28 28
  rw [hs] at h2 hb
  exact ⟨(hb.block _ (by omega)).trans hbx.1, (hb.block _ (by omega)).trans hbx.2, own_base h2 (by omega), ((box_below w _).trans ((box_below _ _).mono (by simp))).trans (hb.mono (by omega))⟩
theorem rc_end {w w4 w9 : World} {D : Dk} {keep tear : Int} {A : Option Addr} {c : Nat} {L : List (List Int)} {C1 : Array Value} (hL : L = crashL D.firm D.wait (kp keep) (tr tear)) (hr : w4.ownsRow w.heap.size 9 1 (.slice A D.firm.length c) D.firm.length (strs L)) (hb : Below w.heap.size w w4)
    (h1 : w4.heap[w.heap.size + 1]? = some (.cells C1 28 (0, 0))) (h9 : ∀ k, k ≠ w.heap.size + 1 → w9.heap[k]? = w4.heap[k]?) (hb9 : Below w.heap.size w4 w9) : RcPost w D keep tear (.returned (.agg #[.slice A D.firm.length c, .slice none 0 0, .int .i64 0, .bool false])) w9 := by
  refine ⟨A, c, rfl, ⟨?_, World.ownsRow_nil _ _ _ _⟩, hb.trans hb9⟩
  show w9.ownsRow w.heap.size 9 1 _ (crashL D.firm D.wait (kp keep) (tr tear)).length (strs (crashL D.firm D.wait (kp keep) (tr tear)))
  rw [crash_length, ← hL]
  refine own_tag hr fun k cs hx => ?_
  rw [h9 k (fun e => ?_)]
  · exact hx
  · subst e
    rw [h1] at hx
    injection hx with hx
    injection hx with _ e _
    exact absurd e (by decide)
theorem rc_tear {w w2 w3 : World} {B : Nat} {fv wv : Value} {D : Dk} {k m go c2 T : Nat} {keep tear : Int} {S S0 Sa Sb : ByteArray} (hm : RcMid w B fv wv D k (.slice (some ⟨go, 0, none⟩) D.firm.length c2) w2) (hb : Below w2.heap.size w2 w3) (hk : k < D.wait.length) (hK : k = min (kp keep) D.wait.length) (hT : T = tr tear)
    (hmm : m = D.wait[k].1) (hS : S = strOfNums D.wait[k].2) (hS0 : S0 = strOfNums ((ups D.firm (D.wait.take k)).getD m [])) (hSa : Sa = S.extract 0 T) (hSb : Sb = S0.extract T S0.size) :
    ∃ L, L = crashL D.firm D.wait (kp keep) (tr tear) ∧ (w3.setCell ⟨go, m, none⟩ (.string (Sa ++ Sb))).ownsRow w.heap.size 9 1 (.slice (some ⟨go, 0, none⟩) D.firm.length c2) D.firm.length (strs L) ∧ Below w.heap.size w (w3.setCell ⟨go, m, none⟩ (.string (Sa ++ Sb))) := by
  have hk' : kp keep = k := by omega
  have hr := own_below hm.row hb
  refine ⟨_, rfl, ?_, (hm.below.trans (hb.mono hm.below.size)).setCell (own_ge hm.row go rfl) _⟩
  have h := (hr.stored m (.string (Sa ++ Sb))).1
  unfold crashL
  rw [hk', if_pos hk, getD_eq _ hk]
  unfold tearL
  rw [← strs_set, str_torn, ← hmm, ← hS0, ← hS, ← hT, ← hSa, ← hSb]
  exact h
set_option maxHeartbeats 2000000 in
theorem rcrash_any (B : Nat) (fv wv : Value) (D : Dk) (keep tear : Int) (w : World) (h : RDisk w B fv wv D) (hok : Dok D) (hn : D.firm.length ≤ 65536) :
    Calls Try.prog 15 #[.agg #[fv, wv, .int .i64 D.armed, .bool D.dead], .int .i64 keep, .int .i64 tear] w (RcPost w D keep tear) := by
  have H := Lib.hid h
  have HOK := Lib.hid hok
  obtain ⟨Af, cf, rfl, -, -, -⟩ := own_form h.firm
  obtain ⟨Aw, cw, rfl, hlw, hcw, hgw⟩ := own_form h.wait
  obtain ⟨k, hk⟩ : ∃ k, k = min (kp keep) D.wait.length := ⟨_, rfl⟩
  obtain ⟨T, hT⟩ : ∃ T, T = tr tear := ⟨_, rfl⟩
  have hmn : min (max keep 0) (D.wait.length : Int) = (k : Int) := by rw [hk]; unfold kp; omega
  have hmt : min (max tear 0) 64 = (T : Int) := by rw [hT]; unfold tr; omega
  have hkl : k ≤ D.wait.length := by omega
  have HGW := Lib.hid hgw
  have HK := Lib.hid hk
  have HT := Lib.hid hT
  have hT64 : T ≤ 64 := by rw [hT]; unfold tr; omega
  have hb0 : Below w.heap.size w (((w.alloc (.cells #[.slice Af D.firm.length cf, .slice Aw D.wait.length cw, .int .i64 D.armed, .bool D.dead] 28)).alloc (.cells #[.slice none 0 0, .slice none 0 0, .int .i64 0, .bool false] 28)).drew) := ((box_below w _).trans ((box_below _ _).mono (by simp))).drew
  have hbx := two_boxes' w #[.slice Af D.firm.length cf, .slice Aw D.wait.length cw, .int .i64 D.armed, .bool D.dead] #[.slice none 0 0, .slice none 0 0, .int .i64 0, .bool false] 28 28
  have h' := h.kept hb0
  obtain ⟨hsr, hsl⟩ := sub_row h'.wait k hkl
  rw [rcells_take] at hsr
  have hlk : (D.wait.take k).length = k := by rw [List.length_take]; omega
  have HCF := Lib.hid (rfirm_any B B (.slice Af D.firm.length cf) (.slice Aw k cw) D.firm (D.wait.take k) _ h'.firm (by rw [hlk]; exact hsr) (fun x hx => (hok.2.1 x (List.mem_of_mem_take hx)).1) hn)
  have HSS : Hid ((((w.alloc (.cells #[.slice Af D.firm.length cf, .slice Aw D.wait.length cw, .int .i64 D.armed, .bool D.dead] 28)).alloc (.cells #[.slice none 0 0, .slice none 0 0, .int .i64 0, .bool false] 28)).drew).cell? ⟨w.heap.size, 0, none⟩ = some (.slice Af D.firm.length cf) ∧ (((w.alloc (.cells #[.slice Af D.firm.length cf, .slice Aw D.wait.length cw, .int .i64 D.armed, .bool D.dead] 28)).alloc (.cells #[.slice none 0 0, .slice none 0 0, .int .i64 0, .bool false] 28)).drew).cell? ⟨w.heap.size, 1, none⟩ = some (.slice Aw D.wait.length cw)) := Lib.hid
    ⟨cell_of (w := ((w.alloc _).alloc _).drew) hbx.1 rfl, cell_of (w := ((w.alloc _).alloc _).drew) hbx.1 rfl⟩
  have hk0 : (0 : Int) ≤ (k : Int) := by omega
  have hk1 : (k : Int) ≤ (D.wait.length : Int) := by omega
  clear h hok hk hT hb0 hbx h' hsr hlk hgw hlw hcw
  go_enter Try.func15, Try.ntmps15
  go_wp2
  go_region_held3 (fun w' => w'.cell? ⟨w.heap.size, 0, none⟩ = some (.slice Af D.firm.length cf) ∧ w'.cell? ⟨w.heap.size, 1, none⟩ = some (.slice Aw D.wait.length cw)) (first | exact HSS.out | assumption)
    (first
      | (go_at_call 29; refine HCF.out.mono ?_; rintro e w2 ⟨v2, rfl, h2, hb2⟩; obtain ⟨A2, c2, rfl, -, -, hg2⟩ := own_form h2; have HM := Lib.hid (rc_mid (B := B) h2 (show Below _ _ w2 from ⟨hb2.os, hb2.tape, hb2.output, hb2.size, hb2.block⟩)); have HG2 := Lib.hid hg2; clear h2 hb2 hg2; have hS2 : w2.cell? ⟨w.heap.size, 0, none⟩ = some (.slice Af D.firm.length cf) ∧ w2.cell? ⟨w.heap.size, 1, none⟩ = some (.slice Aw D.wait.length cw) := ⟨cell_of HM.out.b0 rfl, cell_of HM.out.b0 rfl⟩))
  obtain ⟨q0, q1⟩ := hS2
  by_cases hlt : k < D.wait.length
  · have hlt' : (k : Int) < (D.wait.length : Int) := by omega
    obtain ⟨gw, rfl⟩ := HGW.out (by omega)
    have hx := HOK.out.2.1 _ (List.getElem_mem hlt)
    obtain ⟨go, rfl⟩ := HG2.out (by omega)
    have hwr := own_below H.out.wait HM.out.below
    obtain ⟨m, hm⟩ : ∃ m, m = D.wait[k].1 := ⟨_, rfl⟩
    obtain ⟨S, hS⟩ : ∃ S, S = strOfNums D.wait[k].2 := ⟨_, rfl⟩
    obtain ⟨S0, hS0⟩ : ∃ S0, S0 = strOfNums ((ups D.firm (D.wait.take k)).getD m []) := ⟨_, rfl⟩
    have r1 : w2.cell? ⟨gw, k * 2, none⟩ = some (.int .i64 (m : Int)) := by rw [hm]; exact own_cell hwr _ _ (rcells_at hlt).1
    have r2 : w2.cell? ⟨gw, k * 2 + 1, none⟩ = some (.string S) := by rw [hS]; exact own_cell hwr _ _ (rcells_at hlt).2
    have hml : m < D.firm.length := by rw [hm]; exact hx.1
    have hO3 := HM.out.row.alloc (.cells #[.int .i64 (m : Int), .string S] 71)
    have r3 : (w2.alloc (.cells #[.int .i64 (m : Int), .string S] 71)).cell? ⟨go, m, none⟩ = some (.string S0) := by rw [hS0]; exact own_cell hO3 _ _ (strs_at (by rw [ups_length]; exact hml))
    have r4 : (w2.alloc (.cells #[.int .i64 (m : Int), .string S] 71)).frozen? ⟨go, m, none⟩ = false := hO3.frozenAt m
    have hss : S.size = 64 := by rw [hS, str_size]; exact hx.2.1
    have hs0 : S0.size = 64 := by rw [hS0, str_size]; exact (lok_getD (lok_ups HOK.out.1 (wok_take k HOK.out.2.1)) (by rw [ups_length]; exact hml)).1
    have hts : (T : Int) ≤ (S.size : Int) := by omega
    have hts0 : (T : Int) ≤ (S0.size : Int) := by omega
    have hm0 : (0 : Int) ≤ (m : Int) := by omega
    have hm1 : (m : Int) < (D.firm.length : Int) := by omega
    have hsz : ∀ w2 : World, (w2.alloc (.cells #[.int .i64 (m : Int), .string S] 71)).cell? ⟨w2.heap.size, 0, none⟩ = some (.int .i64 (m : Int)) ∧ (w2.alloc (.cells #[.int .i64 (m : Int), .string S] 71)).cell? ⟨w2.heap.size, 1, none⟩ = some (.string S) := fun w2 => ⟨cell_of (new_block w2 _) rfl, cell_of (new_block w2 _) rfl⟩
    have HSZ := Lib.hid (hsz w2)
    have hgo : go ≠ w2.heap.size := by
      have := (HM.out.row.lt go rfl).2; omega
    have HMM := Lib.hid hm
    have HSE := Lib.hid hS
    have HS0 := Lib.hid hS0
    obtain ⟨Sa, hSa⟩ : ∃ Sa, Sa = S.extract 0 T := ⟨_, rfl⟩
    obtain ⟨Sb, hSb⟩ : ∃ Sb, Sb = S0.extract T S0.size := ⟨_, rfl⟩
    have hsa : ∀ W : World, (Instr.slice 9 (.string S) none (some (.int .i64 (T : Int))) none).run Try.prog W = .ok (.string Sa) W := fun W => by
      rw [run_slice_string_to_if W 9 S .i64 (T : Int) Try.underlying9, if_pos ⟨by omega, by omega⟩, hSa]; rfl
    have hsb : ∀ W : World, (Instr.slice 9 (.string S0) (some (.int .i64 (T : Int))) none none).run Try.prog W = .ok (.string Sb) W := fun W => by
      rw [run_slice_string_from_if W 9 S0 .i64 (T : Int) Try.underlying9, if_pos ⟨by omega, by omega⟩, hSb]; rfl
    have hsas : Sa.size ≤ 64 := by rw [hSa, ByteArray.size_extract]; omega
    have hsbs : Sb.size ≤ 64 := by rw [hSb, ByteArray.size_extract]; omega
    have hcat : ∀ W : World, (Op.stringOp .add Sa Sb).run Try.prog W = .ok (.string (Sa ++ Sb)) W := fun W => run_string_add_sum W Sa Sb (by omega)
    have HSA := Lib.hid (And.intro hSa hSb)
    have HP : Hid ((w2.alloc (.cells #[.int .i64 (m : Int), .string S] 71)).heap[w.heap.size + 1]? = some (.cells #[.slice none 0 0, .slice none 0 0, .int .i64 0, .bool false] 28 (0, 0))) := Lib.hid ((Below.heap_alloc _ _ _ (lt_of_block HM.out.b1)).trans HM.out.b1)
    have hgh : go ≠ w.heap.size + 1 := fun e => own_ne HM.out.row HM.out.b1 (by decide) (by rw [← e]; rfl)
    clear hSa hSb hsas hsbs
    clear hx hwr hm hS hS0 hO3 hss hs0 hsz
    go_wp2
    have hz0 := HSZ.out.1
    have hz1 := HSZ.out.2
    have p0 := cell_of HP.out (j := 0) rfl
    have p1 := cell_of HP.out (j := 1) rfl
    have p2 := cell_of HP.out (j := 2) rfl
    have p3 := cell_of HP.out (j := 3) rfl
    have pf0 := frozen_of_row _ (w.heap.size + 1) 0 _ _ HP.out
    have pf1 := frozen_of_row _ (w.heap.size + 1) 1 _ _ HP.out
    have pf2 := frozen_of_row _ (w.heap.size + 1) 2 _ _ HP.out
    have pf3 := frozen_of_row _ (w.heap.size + 1) 3 _ _ HP.out
    have HAL := Lib.hid (box_below w2 (.cells #[.int .i64 (m : Int), .string S] 71))
    generalize w2.alloc (.cells #[.int .i64 (m : Int), .string S] 71) = w3 at *
    have z0 : ({ heap := w3.heap, tape := w3.tape, drawn := w3.drawn + 1, os := w3.os, output := w3.output } : World).cell? ⟨w2.heap.size, 0, none⟩ = some (.int .i64 (m : Int)) := hz0
    have z1 : ({ heap := w3.heap, tape := w3.tape, drawn := w3.drawn + 1, os := w3.os, output := w3.output } : World).cell? ⟨w2.heap.size, 1, none⟩ = some (.string S) := hz1
    have z3 : ({ heap := w3.heap, tape := w3.tape, drawn := w3.drawn + 1, os := w3.os, output := w3.output } : World).cell? ⟨go, m, none⟩ = some (.string S0) := r3
    go_still_tail 16, (by kernel_rfl)
    change wpList _ _ _ _ _ w3.drew
    clear z0 z1 z3 hz0 hz1
    go_wp2
    (try simp only [Exit.inBlock, Exit.then])
    obtain ⟨L, hL, hLr, hLb⟩ := rc_tear HM.out HAL.out hlt HK.out HT.out HMM.out HSE.out HS0.out HSA.out.1 HSA.out.2
    have hb1 : (w3.setCell ⟨go, m, none⟩ (.string (Sa ++ Sb))).heap[w.heap.size + 1]? = some (.cells #[.slice none 0 0, .slice none 0 0, .int .i64 0, .bool false] 28 (0, 0)) := by
      rw [heap_setCell_other _ _ _ _ (fun e => hgh e.symm)]; exact HP.out
    have hS4 := set4 hb1 (.slice (some ⟨go, 0, none⟩) D.firm.length c2) (.slice none 0 0) (.int .i64 0) (.bool false)
    refine bodyPost_ret (v := .agg #[.slice (some ⟨go, 0, none⟩) D.firm.length c2, .slice none 0 0, .int .i64 0, .bool false]) (results_cell_row (P := Try.prog) rfl _ _ (w.heap.size + 1) 28 _ (0, 0) _ rfl hS4.1 Try.underlying28 rfl (by kernel_rfl)) rfl ?_
    exact rc_end hL hLr hLb hb1 (fun k hk => hS4.2.1 k hk) (hS4.2.2 _ (by omega)).drew
  · have hlt' : ¬ (k : Int) < (D.wait.length : Int) := by omega
    have HL : Hid (ups D.firm (D.wait.take k) = crashL D.firm D.wait (kp keep) (tr tear)) := Lib.hid (by
      have := HK.out
      unfold crashL
      rw [if_neg (by omega), List.take_of_length_le (by omega)])
    have p0 := cell_of HM.out.b1 (j := 0) rfl
    have p1 := cell_of HM.out.b1 (j := 1) rfl
    have p2 := cell_of HM.out.b1 (j := 2) rfl
    have p3 := cell_of HM.out.b1 (j := 3) rfl
    have pf0 := frozen_of_row _ (w.heap.size + 1) 0 _ _ HM.out.b1
    have pf1 := frozen_of_row _ (w.heap.size + 1) 1 _ _ HM.out.b1
    have pf2 := frozen_of_row _ (w.heap.size + 1) 2 _ _ HM.out.b1
    have pf3 := frozen_of_row _ (w.heap.size + 1) 3 _ _ HM.out.b1
    clear hlt
    go_wp2
    (try simp only [Exit.inBlock, Exit.then])
    have hS4 := set4 HM.out.b1 (.slice A2 D.firm.length c2) (.slice none 0 0) (.int .i64 0) (.bool false)
    refine bodyPost_ret (v := .agg #[.slice A2 D.firm.length c2, .slice none 0 0, .int .i64 0, .bool false]) (results_cell_row (P := Try.prog) rfl _ _ (w.heap.size + 1) 28 _ (0, 0) _ rfl hS4.1 Try.underlying28 rfl (by kernel_rfl)) rfl ?_
    exact rc_end HL.out HM.out.row HM.out.below HM.out.b1 (fun k hk => hS4.2.1 k hk) (hS4.2.2 _ (by omega))
end Go.Proofs.Ytogofgfdkkjnlaa
