/-
  What isMember, New and View return, and the document's New. No condition.
-/
import Derived.Test.YtbgobchmkohhnaaETim
namespace Go.Proofs.Ytbgobchmkohhnaa
set_option maxRecDepth 100000
open Go.ChangeShapes Go.WideShapes Go.ChangeAt Go.RowKit Go.Proofs.Rk Go.Proofs.El

theorem mem_parts (s m : Int) : mem s m = (isG m && !decide (s < 0) && decide (s < m)) := by unfold mem; rw [dec_le 0 s]
theorem okN_parts (s m p : Int) : okN s m p = (mem s m && !decide (p < 1) && !decide (1000 < p)) := by unfold okN; rw [dec_le 1 p, dec_le p 1000]
theorem quo_zero {m : Int} (h : isG m = false) : quo m = 0 := by unfold quo; rw [if_neg (by rw [h]; simp)]
theorem ismember_any (s m : Int) (w : World) : Calls Try.prog 19 #[.int .i64 s, .int .i64 m] w fun e w' => e = .returned (.bool (mem s m)) ∧ w = w' := by
  have HQ := Lib.hid (fun W => quorum_any m W)
  obtain ⟨g, hg⟩ : ∃ g, isG m = g := ⟨_, rfl⟩
  obtain ⟨t1, h1⟩ : ∃ t, decide (0 ≤ s) = t := ⟨_, rfl⟩
  obtain ⟨t2, h2⟩ : ∃ t, decide (s < m) = t := ⟨_, rfl⟩
  have HM : Hid (mem s m = (g && t1 && t2)) := Lib.hid (by unfold mem; rw [hg, h1, h2])
  cases g with
  | false =>
    have HQ0 : Hid (∀ W : World, Calls Try.prog 24 #[.int .i64 m] W fun e w' => e = .returned (.int .i64 0) ∧ W = w') := Lib.hid (fun W => by rw [← quo_zero hg]; exact HQ.out W)
    clear HQ hg
    go_enter Try.func19, Try.ntmps19
    go_wp2_with fail
    refine (HQ0.out _).mono ?_
    rintro e w2 ⟨rfl, rfl⟩
    go_wp2_with fail
    go_ret
    exact ⟨ret_b (by rw [HM.out]; rfl), rfl⟩
  | true =>
    have hq2 := quo_two hg
    obtain ⟨q, hq⟩ : ∃ q, quo m = q := ⟨_, rfl⟩
    rw [hq] at hq2 HQ
    have hq0 : 0 < q := by omega
    clear hg hq hq2
    cases t1 with
    | false =>
      go_enter Try.func19, Try.ntmps19
      go_wp2_with fail
      refine (HQ.out _).mono ?_
      rintro e w2 ⟨rfl, rfl⟩
      go_wp2_with fail
      go_ret
      exact ⟨ret_b (by rw [HM.out]; rfl), rfl⟩
    | true =>
      go_enter Try.func19, Try.ntmps19
      go_wp2_with fail
      refine (HQ.out _).mono ?_
      rintro e w2 ⟨rfl, rfl⟩
      go_wp2_with fail
      go_ret
      exact ⟨ret_b (by rw [HM.out]; simp), rfl⟩
/-- What New returns. -/
def NewPost (w : World) (s m p : Int) (e : Ending) (w' : World) : Prop :=
  if okN s m p then ∃ tp, e = .returned (.tuple #[.pointer (some ⟨tp, 0, none⟩), .int .i64 0]) ∧ TimW w' tp (newT s m p) ∧ w.heap.size ≤ tp ∧ Below w.heap.size w w'
  else e = .returned (.tuple #[.pointer none, .int .i64 1]) ∧ w = w'
theorem np_no {w : World} {s m p : Int} (h : okN s m p = false) : NewPost w s m p (.returned (.tuple #[.pointer none, .int .i64 1])) w := by
  unfold NewPost; rw [h, if_neg (by simp)]; exact ⟨rfl, rfl⟩
theorem np_yes {w : World} {s m p : Int} (h : okN s m p = true) : NewPost w s m p (.returned (.tuple #[.pointer (some ⟨w.heap.size, 0, none⟩), .int .i64 0])) (w.alloc (.cells (tcells (newT s m p)) 46)) := by
  unfold NewPost; rw [h, if_pos rfl]; exact ⟨_, rfl, new_block w _, Nat.le_refl _, box_below w _⟩
set_option maxHeartbeats 4000000 in
theorem new_any (s m p : Int) (w : World) : Calls Try.prog 9 #[.int .i64 s, .int .i64 m, .int .i64 p] w (NewPost w s m p) := by
  have HI := Lib.hid (fun W => ismember_any s m W)
  obtain ⟨g, hg⟩ : ∃ g, mem s m = g := ⟨_, rfl⟩
  obtain ⟨t1, h1⟩ : ∃ t, decide (p < 1) = t := ⟨_, rfl⟩
  obtain ⟨t2, h2⟩ : ∃ t, decide (1000 < p) = t := ⟨_, rfl⟩
  have HM : Hid (okN s m p = (g && !t1 && !t2)) := Lib.hid (by rw [okN_parts, hg, h1, h2])
  rw [hg] at HI
  cases g with
  | false =>
    have HN : Hid (okN s m p = false) := Lib.hid (by rw [HM.out]; simp)
    clear hg
    go_enter Try.func9, Try.ntmps9
    go_wp2_with fail
    refine (HI.out _).mono ?_
    rintro e w2 ⟨rfl, rfl⟩
    go_wp2_with fail
    exact bodyPost_ret (v := .tuple #[.pointer none, .int .i64 1]) (by simp [results, Try.results9, go_sem]) rfl (np_no HN.out)
  | true =>
    cases t1 with
    | true =>
      have HN : Hid (okN s m p = false) := Lib.hid (by rw [HM.out]; simp)
      clear hg
      go_enter Try.func9, Try.ntmps9
      go_wp2_with fail
      refine (HI.out _).mono ?_
      rintro e w2 ⟨rfl, rfl⟩
      go_wp2_with fail
      exact bodyPost_ret (v := .tuple #[.pointer none, .int .i64 1]) (by simp [results, Try.results9, go_sem]) rfl (np_no HN.out)
    | false =>
      cases t2 with
      | true =>
        have HN : Hid (okN s m p = false) := Lib.hid (by rw [HM.out]; simp)
        clear hg
        go_enter Try.func9, Try.ntmps9
        go_wp2_with fail
        refine (HI.out _).mono ?_
        rintro e w2 ⟨rfl, rfl⟩
        go_wp2_with fail
        exact bodyPost_ret (v := .tuple #[.pointer none, .int .i64 1]) (by simp [results, Try.results9, go_sem]) rfl (np_no HN.out)
      | false =>
        have hok : okN s m p = true := by rw [HM.out]; rfl
        obtain ⟨a1, a2, a3, a4, -⟩ := mem_cases hg
        have hp1 : 1 ≤ p := by simpa using h1
        have hp2 : p ≤ 1000 := by simpa using h2
        have b1 := mul_bounds (k := s + 2) (n := 8) hp1 hp2 (by omega) (by omega)
        have b2 := mul_bounds (k := m + 2) (n := 9) hp1 hp2 (by omega) (by omega)
        have hw1 : IntKind.i64.wrap (s + 2) = s + 2 := by rw [IntKind.wrap_i64]; omega
        have hw2 : IntKind.i64.wrap (m + 2) = m + 2 := by rw [IntKind.wrap_i64]; omega
        have hw3 : IntKind.i64.wrap (p * (s + 2)) = p * (s + 2) := by rw [IntKind.wrap_i64]; omega
        have hw4 : IntKind.i64.wrap (p * (m + 2)) = p * (m + 2) := by rw [IntKind.wrap_i64]; omega
        have HY := Lib.hid (np_yes (w := w) hok)
        clear hg a1 a2 a3 a4 hp1 hp2 b1 b2 hok
        go_enter Try.func9, Try.ntmps9
        go_wp2_with fail
        refine (HI.out _).mono ?_
        rintro e w2 ⟨rfl, rfl⟩
        go_wp2_with fail
        exact bodyPost_ret (v := .tuple #[.pointer (some ⟨w.heap.size, 0, none⟩), .int .i64 0]) (by simp [results, Try.results9, go_sem]) rfl HY.out
theorem view_any (v s m : Int) (w : World) : Calls Try.prog 17 #[.int .i64 v, .int .i64 s, .int .i64 m] w fun e w' => e = ret2 (nxt v s m) (has v s m) ∧ w = w' := by
  have HN := Lib.hid (fun W => next_any v s m W)
  unfold ret2 at HN ⊢
  obtain ⟨x, hx⟩ : ∃ x, nxt v s m = x := ⟨_, rfl⟩
  obtain ⟨y, hy⟩ : ∃ y, has v s m = y := ⟨_, rfl⟩
  rw [hx, hy] at HN ⊢
  clear hx hy
  go_enter Try.func17, Try.ntmps17
  go_wp2_with fail
  refine (HN.out _).mono ?_
  rintro e w2 ⟨rfl, rfl⟩
  go_wp2_with fail
  exact bodyPost_ret (v := .tuple #[.int .i64 x, .bool y]) (by simp [results, Try.results17, go_sem]) rfl ⟨rfl, rfl⟩
/-- The document's timer. -/
def rtv (m : Int) (t : Tm) : Value := .agg #[.int .i64 m, .int .i64 t.sp, .int .i64 t.wt, .int .i64 t.lm]
def rtz : Value := .agg #[.int .i64 0, .int .i64 0, .int .i64 0, .int .i64 0]
def RnPost (w : World) (s m p : Int) (e : Ending) (w' : World) : Prop :=
  e = .returned (.tuple #[if okN s m p then rtv m (newT s m p) else rtz, .int .i64 (if okN s m p then 0 else 1)]) ∧ Below w.heap.size w w'
theorem rn_no {w : World} {s m p : Int} (h : okN s m p = false) {w' : World} (hb : Below w.heap.size w w') : RnPost w s m p (.returned (.tuple #[rtz, .int .i64 1])) w' := by
  unfold RnPost; rw [h, if_neg (by simp), if_neg (by simp)]; exact ⟨rfl, hb⟩
theorem rn_yes {w : World} {s m p : Int} (h : okN s m p = true) {w' : World} (hb : Below w.heap.size w w') : RnPost w s m p (.returned (.tuple #[rtv m (newT s m p), .int .i64 0])) w' := by
  unfold RnPost; rw [h, if_pos rfl, if_pos rfl]; exact ⟨rfl, hb⟩
theorem setl4 {w : World} {r : Nat} {t : TypeId} {a0 a1 a2 a3 : Value} (hb : w.heap[r]? = some (.cells #[a0, a1, a2, a3] t (0, 0))) (v0 v1 v2 v3 : Value) : Wr r w ((((w.setCell ⟨r, 0, none⟩ (v0)).setCell ⟨r, 1, none⟩ (v1)).setCell ⟨r, 2, none⟩ (v2)).setCell ⟨r, 3, none⟩ (v3)) ∧ (((((w.setCell ⟨r, 0, none⟩ (v0)).setCell ⟨r, 1, none⟩ (v1)).setCell ⟨r, 2, none⟩ (v2)).setCell ⟨r, 3, none⟩ (v3))).heap[r]? = some (.cells #[v0, v1, v2, v3] t (0, 0)) :=
  setRow_any [v0, v1, v2, v3] 0 [] [a0, a1, a2, a3] (Wr.refl r w) rfl rfl hb
end Go.Proofs.Ytbgobchmkohhnaa

