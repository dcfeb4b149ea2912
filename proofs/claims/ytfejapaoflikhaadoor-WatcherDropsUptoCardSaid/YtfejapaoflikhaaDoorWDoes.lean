/-
  What the laws' alive, same and does return and leave. Conditions: tables and rows are good; a path that is added has at most 2^21 bytes.
-/
import Derived.Test.YtfejapaoflikhaaDoorWRef3
import Derived.Test.YtfejapaoflikhaaDoorWTab
namespace Go.Proofs.YtfejapaoflikhaaDoor
set_option maxRecDepth 100000
open Go.ChangeShapes Go.WideShapes Go.ChangeAt Go.RowKit Go.Proofs.Zn Go.Proofs.Wa

theorem TK.then {a b c : World} {tp : Nat} {v v' : Value} (h : TK a b tp v) (k : TK b c tp v') (hv : ∀ g, v'.ownBlock = some g → v.ownBlock = some g ∨ a.heap.size ≤ g) : TK a c tp v :=
  ⟨k.os.trans h.os, k.tape.trans h.tape, k.output.trans h.output, Nat.le_trans h.size k.size, fun j hj hjt hjv => (k.block j (Nat.lt_of_lt_of_le hj h.size) hjt (fun e => by
    rcases hv j e with h1 | h1
    · exact hjv h1
    · omega)).trans (h.block j hj hjt hjv)⟩
theorem kp_pre {a b c : World} {Bs tp : Nat} {v : Value} {M : Tb} (hb : Below a.heap.size a b) (h : KpPost Bs tp v M b c) : KpPost Bs tp v M a c := by
  obtain ⟨v', h1, h2, h3⟩ := h
  refine ⟨v', h1, (TK.of_below hb).then h2 (fun g hg => .inl hg), fun g hg => ?_⟩
  have := hb.size
  rcases h3 g hg with h4 | h4
  · exact .inl h4
  · exact .inr (by omega)
theorem kp_post {a b c : World} {Bs tp : Nat} {v : Value} {M : Tb} (h : KpPost Bs tp v M a b) (hb : Below b.heap.size b c) : KpPost Bs tp v M a c := by
  obtain ⟨v', h1, h2, h3⟩ := h
  exact ⟨v', h1.below hb, h2.then (TK.of_below hb) h3, h3⟩
theorem kp_refl {a b : World} {Bs tp : Nat} {v : Value} {M : Tb} (h : TabW a Bs tp v M) (hb : Below a.heap.size a b) : KpPost Bs tp v M a b := ⟨v, h.below hb, TK.of_below hb, fun _ hg => .inl hg⟩
/-- Rows of other elements stay. -/
theorem kp_own {w w' : World} {Bs tp : Nat} {v : Value} {L M : Tb} (h : KpPost Bs tp v M w w') (ht : TabW w Bs tp v L) {base e sz n : Nat} {u : Value} {xs : List Value} (hu : w.ownsRow base e sz u n xs) (h1 : e ≠ 45) (h2 : e ≠ 53) : w'.ownsRow base e sz u n xs := by
  obtain ⟨v', -, k, -⟩ := h
  exact k.own ht hu h1 h2
theorem kp_below {w w' : World} {Bs tp : Nat} {v : Value} {L M : Tb} (h : KpPost Bs tp v M w w') (ht : TabW w Bs tp v L) (hB : Bs ≤ w.heap.size) : Below Bs w w' := by
  obtain ⟨v', -, k, -⟩ := h
  exact k.below ht hB
theorem kp_of_ad {Bs tp : Nat} {v : Value} {a : Tb × Bool} {w w' : World} {e : Ending} (h : AdPost Bs tp v a w e w') : e = .returned (.bool a.2) ∧ KpPost Bs tp v a.1 w w' := by
  obtain ⟨v', h0, h1, h2, h3⟩ := h
  exact ⟨h0, v', h1, h2, h3⟩
/-! ### same -/
set_option maxHeartbeats 4000000 in
theorem same_any {w : World} {A A2 : Option Addr} {c c2 : Nat} {L : Tb} (h : Rd wcell 3 w A L.length L) (h2 : Rd wcell 3 w A2 L.length L) (hn : L.length ≤ 100000) :
    Calls Tryd.prog 13 #[.slice A L.length c, .slice A2 L.length c2] w fun e w' => e = .returned (.bool true) ∧ Below w.heap.size w w' := by
  have HR := Lib.hid h
  have HR2 := Lib.hid h2
  clear h h2
  have hgu := guard_neqN
  obtain ⟨n, hnn⟩ : ∃ n, L.length = n := ⟨_, rfl⟩
  rw [hnn] at HR HR2 hn ⊢
  have HN := Lib.hid hnn
  clear hnn
  go_enter Tryd.func13, Tryd.ntmps13
  go_wp2_with fail
  go_loopw [13] (fun i wr => ∃ k : Nat, k ≤ n ∧ i = .int .i64 k ∧ Hid (Below w.heap.size w wr)) (fun i _ => n - (intOf i).toNat)
  case atStart => exact ⟨0, Nat.zero_le _, rfl, Lib.hid (Below.refl _ _)⟩
  case round =>
    obtain ⟨k, hk, rfl, HX⟩ := hrel
    by_cases hlt : k < n
    · obtain ⟨b, off, x, rfl, hx, hcc⟩ := (HR.out.below HX.out).at hlt
      obtain ⟨b2, off2, z, rfl, hz, hdd⟩ := (HR2.out.below HX.out).at hlt
      obtain rfl : x = z := Option.some.inj (hx.symm.trans hz)
      have c0 : wr.cell? ⟨b, off + k * 3, none⟩ = some (.int .i64 x.s) := hcc 0 _ rfl
      have c1 : wr.cell? ⟨b, off + k * 3 + 1, none⟩ = some (.string (B x.p)) := hcc 1 _ rfl
      have c2 : wr.cell? ⟨b, off + k * 3 + 2, none⟩ = some (.bool x.k) := hcc 2 _ rfl
      have d0 : wr.cell? ⟨b2, off2 + k * 3, none⟩ = some (.int .i64 x.s) := hdd 0 _ rfl
      have d1 : wr.cell? ⟨b2, off2 + k * 3 + 1, none⟩ = some (.string (B x.p)) := hdd 1 _ rfl
      have d2 : wr.cell? ⟨b2, off2 + k * 3 + 2, none⟩ = some (.bool x.k) := hdd 2 _ rfl
      have hqe := neqN x x
      rw [show (!decide (x = x)) = false by simp] at hqe
      have hk0 : (0 : Int) ≤ (k : Int) := by omega
      have hki : (k : Int) < (n : Int) := by omega
      clear hx hz hcc hdd
      go_upto_region 6 with fail
      go_quiet (fail)
      have HX2 := Lib.hid (below_drewN HX.out nq)
      clear c0 c1 c2 d0 d1 d2 hqe
      go_wp2_with fail
      go_roundw
      case rel => exact ⟨k + 1, by omega, by go_num, HX2⟩
      case measure => simp [intOf]; omega
    · obtain rfl : k = n := by omega
      have hki : ¬ (k : Int) < (k : Int) := by omega
      go_wp2_with fail
      go_ret
      exact ⟨rfl, HX.out⟩
/-! ### alive -/
def xa : Wt := ⟨2, [47, 97], false⟩
def ea : Ev := ⟨0, 2, [47, 97]⟩
theorem xa_add : add [] xa = ([xa], true) := by decide
theorem xa_fire : comp (toldA [xa] ea) = [⟨2, 2, [47, 97]⟩] ∧ fireT [xa] ea = [] := by decide
set_option maxHeartbeats 4000000 in
theorem alive_any (w : World) : Calls Tryd.prog 10 #[] w fun e w' => e = .returned (.bool true) ∧ Below w.heap.size w w' := by
  have HN := Lib.hid (new_any w)
  have H1 := Lib.hid xa_add
  have H2 := Lib.hid xa_fire
  go_enter Tryd.func10, Tryd.ntmps10
  go_wp2_with fail
  refine HN.out.mono ?_
  rintro e w1 ⟨tp, v, rfl, ht1, hb1, -, -⟩
  have HT1 := Lib.hid ht1
  have HB1 := Lib.hid hb1
  have HA := Lib.hid (add_any ht1 hb1.size good_nil xa (by decide))
  rw [H1.out] at HA
  clear ht1 hb1
  go_wp2_with fail
  refine HA.out.mono ?_
  intro e w2 h2'
  obtain ⟨rfl, h2⟩ := kp_of_ad h2'
  clear h2'
  have HB2 := Lib.hid (HB1.out.trans (kp_below h2 HT1.out HB1.out.size))
  obtain ⟨v2, ht2, -, -⟩ := h2
  have HT2 := Lib.hid ht2
  have HF := Lib.hid (fire_any ht2 (by decide) ea)
  clear ht2
  go_wp2_with fail
  refine HF.out.mono ?_
  rintro e w3 ⟨A, c, rfl, ho, h3⟩
  rw [H2.out.2] at h3
  rw [H2.out.1] at ho
  obtain ⟨_, _, he, -, -, hA⟩ := own_form ho
  injection he with he1 _ he3
  subst he1; subst he3
  obtain ⟨g, rfl⟩ := hA (by decide)
  have HB3 := Lib.hid (HB2.out.trans (kp_below h3 HT2.out HB2.out.size))
  obtain ⟨v3, ht3, -, -⟩ := h3
  have HT3 := Lib.hid ht3
  rw [H2.out.1]
  have c0 : w3.cell? ⟨g, 0, none⟩ = some (.int .i64 2) := own_cell ho 0 _ rfl
  have c1 : w3.cell? ⟨g, 1, none⟩ = some (.int .i64 2) := own_cell ho 1 _ rfl
  have c2 : w3.cell? ⟨g, 2, none⟩ = some (.string ⟨#[47, 97]⟩) := own_cell ho 2 _ rfl
  have HLE := Lib.hid (len_any ht3)
  have hqe : ∀ W, (binOp .eql 30 (.agg #[.int .i64 2, .int .i64 2, .string ⟨#[47, 97]⟩]) (.agg #[.int .i64 2, .int .i64 2, .string ⟨#[47, 97]⟩])).run Tryd.prog W = .ok (.bool true) W := fun W => by
    have := eqlE ⟨2, 2, [47, 97]⟩ ⟨2, 2, [47, 97]⟩ W
    simpa using this
  have hgu := guard_eqlE
  have HS : Hid (([⟨2, 2, [47, 97]⟩] : List Ev).length = 1) := Lib.hid rfl
  rw [HS.out]
  clear ho hA ht3
  go_wp2_with fail
  refine HLE.out.mono ?_
  rintro e w4 ⟨rfl, rfl⟩
  go_wp2_with fail
  go_ret
  exact ⟨rfl, HB3.out⟩
/-! ### does -/
def DsPost (Bs tp : Nat) (v : Value) (L M : Tb) (o : Cal) (w : World) (e : Ending) (w' : World) : Prop :=
  ∃ u b, e = .returned (.tuple #[u, .bool b]) ∧ (L = M → b = true) ∧ NR w' u (Wa.stepT M o) ∧ KpPost Bs tp v (Wa.stepT L o) w w'
theorem step_0 {T : Tb} {o : Cal} (h : o.k = 0) : Wa.stepT T o = (add T o.w).1 := by unfold Wa.stepT; rw [if_pos h]
theorem step_1 {T : Tb} {o : Cal} (h : o.k = 1) : Wa.stepT T o = fireT T o.e := by unfold Wa.stepT; rw [if_neg (by omega), if_pos h]
theorem step_2 {T : Tb} {o : Cal} (h : o.k = 2) : Wa.stepT T o = drop T o.n := by unfold Wa.stepT; rw [if_neg (by omega), if_neg (by omega), if_pos h]
theorem step_3 {T : Tb} {o : Cal} (h0 : o.k ≠ 0) (h1 : o.k ≠ 1) (h2 : o.k ≠ 2) : Wa.stepT T o = T := by unfold Wa.stepT; rw [if_neg h0, if_neg h1, if_neg h2]
set_option maxHeartbeats 16000000 in
theorem does_any {w : World} {Bs tp : Nat} {v u : Value} {L M : Tb} (ht : TabW w Bs tp v L) (hB : Bs ≤ w.heap.size) (hg : Wa.Good L) (hm : NR w u M) (hgm : Wa.Good M) (o : Cal) (hp : o.w.p.length ≤ 2097152) :
    Calls Tryd.prog 11 #[.pointer (some ⟨tp, 0, none⟩), u, .agg #[.int .i64 o.k, .int .i64 o.n, .int .i64 o.w.s, .string (B o.w.p), .bool o.w.k, .int .i64 o.e.s, .int .i64 o.e.k, .string (B o.e.p)]] w (DsPost Bs tp v L M o w) := by
  obtain ⟨A, c, rfl, -, -, -⟩ := own_form hm
  obtain ⟨w1, hw1⟩ : ∃ w1, w1 = w.alloc (.cells #[.int .i64 o.k, .int .i64 o.n, .int .i64 o.w.s, .string (B o.w.p), .bool o.w.k, .int .i64 o.e.s, .int .i64 o.e.k, .string (B o.e.p)] 32) := ⟨_, rfl⟩
  obtain ⟨q, eq⟩ : ∃ q, q = w.heap.size := ⟨_, rfl⟩
  have hb1 : Below w.heap.size w w1 := by rw [hw1]; exact box_below w _
  have hq : w1.heap[q]? = some (.cells #[.int .i64 o.k, .int .i64 o.n, .int .i64 o.w.s, .string (B o.w.p), .bool o.w.k, .int .i64 o.e.s, .int .i64 o.e.k, .string (B o.e.p)] 32 (0, 0)) := by rw [hw1, eq]; exact new_block w _
  have HT1 := Lib.hid (ht.below hb1)
  have HM1 : Hid (NR w1 (.slice A M.length c) M) := Lib.hid (own_below hm hb1)
  have HG := Lib.hid hg
  have HGM := Lib.hid hgm
  have HB1 := Lib.hid hb1
  have HQ1 := Lib.hid hq
  have HW1 := Lib.hid hw1
  have EQ := Lib.hid eq
  have HP := Lib.hid hp
  have HBS : Hid (Bs ≤ w1.heap.size) := Lib.hid (Nat.le_trans hB hb1.size)
  have hq1 := hq
  clear ht hm hg hgm hw1 eq hb1 hq hp hB
  by_cases h0 : o.k = 0
  · have HK := Lib.hid h0
    have HRA := Lib.hid (radd_any HM1.out HGM.out o.w HP.out)
    have q0 := cell_of hq1 (j := 0) rfl
    have q2 := cell_of hq1 (j := 2) rfl
    have q3 := cell_of hq1 (j := 3) rfl
    have q4 := cell_of hq1 (j := 4) rfl
    rw [h0] at q0
    clear h0 hq1
    go_enter Tryd.func11, Tryd.ntmps11
    go_upto_region 1 with fail
    rw [← HW1.out, ← EQ.out]
    go_wp2_with fail
    refine HRA.out.mono ?_
    rintro e w2 ⟨u2, rfl, hn2, hb2⟩
    obtain ⟨R, hR⟩ : ∃ R, add M o.w = R := ⟨_, rfl⟩
    rw [hR] at hn2 ⊢
    obtain ⟨R1, R2⟩ := R
    have HR := Lib.hid hR
    have HN2 := Lib.hid hn2
    have HB2 := Lib.hid hb2
    have HT2 := Lib.hid (HT1.out.below hb2)
    have HA := Lib.hid (add_any HT2.out (Nat.le_trans HBS.out hb2.size) HG.out o.w (by have := HP.out; omega))
    have hq2 := blk_below HQ1.out hb2
    clear q0 q2 q3 q4 hR hn2 hb2
    have q2 := cell_of hq2 (j := 2) rfl
    have q3 := cell_of hq2 (j := 3) rfl
    have q4 := cell_of hq2 (j := 4) rfl
    clear hq2
    go_wp2_with fail
    refine HA.out.mono ?_
    intro e w3 h3'
    obtain ⟨rfl, h3⟩ := kp_of_ad h3'
    clear h3'
    obtain ⟨b2, hb2⟩ : ∃ b, (add L o.w).2 = b := ⟨_, rfl⟩
    have HE : Hid (DsPost Bs tp v L M o w (.returned (.tuple #[u2, .bool (b2 == R2)])) w3) := Lib.hid (by
      refine ⟨u2, _, rfl, ?_, ?_, kp_pre HB1.out (kp_pre HB2.out ?_)⟩
      · rintro rfl
        rw [← hb2, HR.out]; simp
      · rw [step_0 HK.out, HR.out]; exact kp_own h3 HT2.out HN2.out (by decide) (by decide)
      · rw [step_0 HK.out]; exact h3)
    rw [hb2]
    clear q2 q3 q4 h3 hb2
    go_wp2_with fail
    exact bodyPost_ret (v := .tuple #[u2, .bool (b2 == R2)]) (by simp [results, Tryd.results11, go_sem]) rfl HE.out
  by_cases h1 : o.k = 1
  · have HK := Lib.hid h1
    have HRF := Lib.hid (rfire_any HM1.out (by have := HGM.out.len; omega) o.e)
    have q0 := cell_of hq1 (j := 0) rfl
    have q5 := cell_of hq1 (j := 5) rfl
    have q6 := cell_of hq1 (j := 6) rfl
    have q7 := cell_of hq1 (j := 7) rfl
    rw [h1] at q0
    clear h0 h1 hq1
    go_enter Tryd.func11, Tryd.ntmps11
    go_upto_region 1 with fail
    rw [← HW1.out, ← EQ.out]
    go_wp2_with fail
    refine HRF.out.mono ?_
    rintro e w2 ⟨u2, A2, c2, rfl, hn2, hv2, hb2⟩
    have HN2 := Lib.hid hn2
    have HV2 := Lib.hid hv2
    have HB2 := Lib.hid hb2
    have HT2 := Lib.hid (HT1.out.below hb2)
    have HA := Lib.hid (fire_any HT2.out (by have := HG.out.len; omega) o.e)
    have hq2 := blk_below HQ1.out hb2
    clear q0 q5 q6 q7 hn2 hv2 hb2
    have q5 := cell_of hq2 (j := 5) rfl
    have q6 := cell_of hq2 (j := 6) rfl
    have q7 := cell_of hq2 (j := 7) rfl
    clear hq2
    go_wp2_with fail
    refine HA.out.mono ?_
    rintro e w3 ⟨A3, c3, rfl, ho3, h3⟩
    have HV3 := Lib.hid (kp_own h3 HT2.out HV2.out (by decide) (by decide))
    have HN3 := Lib.hid (kp_own h3 HT2.out HN2.out (by decide) (by decide))
    have HSE := Lib.hid (sameev_any (c := c3) (c2 := c2) (Rd.of_own (cell := ecell) (l := comp (toldA L o.e)) ho3 (fun _ _ => rfl) (by omega)) (Rd.of_own (cell := ecell) (l := fireE M o.e) HV3.out (fun _ _ => rfl) (by omega)) (by rw [(fire_comp HG.out.srt o.e).1]; have h1 := fireE_len L o.e; have h2 := HG.out.len; omega) (by have h1 := fireE_len M o.e; have h2 := HGM.out.len; omega))
    have HK3 := Lib.hid h3
    clear q5 q6 q7 ho3 h3
    go_wp2_with fail
    refine HSE.out.mono ?_
    rintro e w4 ⟨rfl, hb4⟩
    obtain ⟨b, hb⟩ : ∃ b, decide (comp (toldA L o.e) = fireE M o.e) = b := ⟨_, rfl⟩
    have HE : Hid (DsPost Bs tp v L M o w (.returned (.tuple #[u2, .bool b])) w4) := Lib.hid (by
      refine ⟨u2, b, rfl, ?_, ?_, kp_pre HB1.out (kp_pre HB2.out (kp_post ?_ hb4))⟩
      · rintro rfl
        rw [← hb, (fire_comp HG.out.srt o.e).1]; simp
      · rw [step_1 HK.out]; exact own_below HN3.out hb4
      · rw [step_1 HK.out]; exact HK3.out)
    rw [hb]
    clear hb4 hb
    go_wp2_with fail
    exact bodyPost_ret (v := .tuple #[u2, .bool b]) (by simp [results, Tryd.results11, go_sem]) rfl HE.out
  by_cases h2 : o.k = 2
  · have HK := Lib.hid h2
    have HDR := Lib.hid (drop_any HT1.out (by have := HG.out.len; omega) o.n)
    have q0 := cell_of hq1 (j := 0) rfl
    have q1 := cell_of hq1 (j := 1) rfl
    rw [h2] at q0
    clear h0 h1 h2 hq1
    go_enter Tryd.func11, Tryd.ntmps11
    go_upto_region 1 with fail
    rw [← HW1.out, ← EQ.out]
    go_wp2_with fail
    refine HDR.out.mono ?_
    rintro e w2 ⟨rfl, h2⟩
    have hq2 : w2.heap[q]? = some (.cells #[.int .i64 o.k, .int .i64 o.n, .int .i64 o.w.s, .string (B o.w.p), .bool o.w.k, .int .i64 o.e.s, .int .i64 o.e.k, .string (B o.e.p)] 32 (0, 0)) := by
      obtain ⟨v', -, k, -⟩ := h2
      exact k.blk HT1.out HQ1.out (by decide) (by decide)
    have HN2 := Lib.hid (kp_own h2 HT1.out HM1.out (by decide) (by decide))
    have HK2 := Lib.hid h2
    have HRD := Lib.hid (rdrop_any HN2.out (by have := HGM.out.len; omega) o.n)
    clear q0 q1 h2
    have q1 := cell_of hq2 (j := 1) rfl
    clear hq2
    go_wp2_with fail
    refine HRD.out.mono ?_
    rintro e w3 ⟨u3, rfl, hn3, hb3⟩
    have HE : Hid (DsPost Bs tp v L M o w (.returned (.tuple #[u3, .bool true])) w3) := Lib.hid (by
      refine ⟨u3, true, rfl, fun _ => rfl, ?_, kp_pre HB1.out (kp_post ?_ hb3)⟩
      · rw [step_2 HK.out]; exact hn3
      · rw [step_2 HK.out]; exact HK2.out)
    clear hn3 hb3 q1
    go_wp2_with fail
    exact bodyPost_ret (v := .tuple #[u3, .bool true]) (by simp [results, Tryd.results11, go_sem]) rfl HE.out
  · have HE : Hid (DsPost Bs tp v L M o w (.returned (.tuple #[.slice A M.length c, .bool true])) w1) := Lib.hid (by
      refine ⟨_, true, rfl, fun _ => rfl, ?_, kp_pre HB1.out ?_⟩
      · rw [step_3 h0 h1 h2]; exact HM1.out
      · rw [step_3 h0 h1 h2]; exact kp_refl HT1.out (Below.refl _ _))
    have q0 := cell_of hq1 (j := 0) rfl
    have e0 : (o.k == 0) = false := by simpa using h0
    have e1 : (o.k == 1) = false := by simpa using h1
    have e2 : (o.k == 2) = false := by simpa using h2
    clear h0 h1 h2 hq1
    go_enter Tryd.func11, Tryd.ntmps11
    go_upto_region 1 with fail
    rw [← HW1.out, ← EQ.out]
    go_wp2_with fail
    exact bodyPost_ret (v := .tuple #[.slice A M.length c, .bool true]) (by simp [results, Tryd.results11, go_sem]) rfl HE.out
end Go.Proofs.YtfejapaoflikhaaDoor
