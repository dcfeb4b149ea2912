/-
  What All, and Ended of any time, return. Condition: the table is good.
-/
import Derived.Test.YtflgemlhocjipaaGreatDoorLFind
namespace Go.Proofs.YtflgemlhocjipaaGreatDoor.Lq
set_option maxRecDepth 100000
open Go.ChangeShapes Go.WideShapes Go.ChangeAt Go.RowKit Go.Shelf Go.Proofs.Le

attribute [local go_sem] Oper.semAt_some

theorem own_kept {w w' : World} {base size n : Nat} {e : TypeId} {v : Value} {xs : List Value} {row : Option Nat} (h : w.ownsRow base e size v n xs) (hg : w.grownBy w' row) (hr : ∀ r, row = some r → ∃ o : Obj, w.heap[r]? = some o ∧ ∀ cur, o ≠ .cells cur e (0, 0)) : w'.ownsRow base e size v n xs := by
  refine h.kept hg ?_
  rcases h.2 with ⟨rfl, _⟩ | ⟨g, cap, cur, rfl, _, hgb, _⟩
  · exact .inl rfl
  · refine .inr fun e' => ?_
    obtain ⟨o, ho, hne⟩ := hr g (by rw [← e']; rfl)
    rw [hgb] at ho
    cases ho
    exact hne _ rfl
/-- A box, and the row that its slice owns. -/
structure BR (W : World) (n0 b : Nat) (tt e sz : Nat) (n : Nat) (xs : List Value) : Prop where
  ex : ∃ v, Boxed W b tt v ∧ W.ownsRow n0 e sz v n xs
theorem BR.grown {W W' : World} {n0 b tt e sz n B : Nat} {xs : List Value} {row : Option Nat} (h : BR W n0 b tt e sz n xs) (hg : W.grownBy W' row) (hr : ∀ r, row = some r → B ≤ r ∧ ∃ o : Obj, W.heap[r]? = some o ∧ o.isCells = false) (hb : b < B) : BR W' n0 b tt e sz n xs := by
  obtain ⟨v, h1, h2⟩ := h.ex
  exact ⟨v, h1.kept hg (fun e => by have := (hr b e.symm).1; omega), own_kept h2 hg fun r e => by
    obtain ⟨_, o, ho, hc⟩ := hr r e
    exact ⟨o, ho, fun cur e => by subst e; cases hc⟩⟩
theorem br_put {W : World} {D n0 e sz n : Nat} {xs : List Value} {v : Value} (h2 : W.ownsRow n0 e sz v n xs) (hK : W.heap[D]? = some (.deferred (some []))) : (W.putObj D (.deferred none)).ownsRow n0 e sz v n xs :=
  own_kept h2 (grownBy_putObj' W D _) (fun r e => by cases e; exact ⟨_, hK, fun cur e => by cases e⟩)
theorem map_snoc {L : Tb} {pre : List El} {k : Nat} {y : Ls} (hk : pre.length = k) (hy : L[k]? = some y) : L.take (pre ++ [(k, y)]).length = L.take k ++ [y] := by
  rw [List.length_append, List.length_singleton, hk]; exact take_some hy

def AlPost (w : World) (L : Tb) (e : Ending) (w' : World) : Prop := ∃ A c, e = .returned (.slice A L.length c) ∧ w'.ownsRow w.heap.size 100 3 (.slice A L.length c) L.length (lcells L) ∧ Below w.heap.size w w'
def AI (w : World) (b3 : Nat) (L : Tb) (pre : List El) (W : World) : Prop := Below w.heap.size w W ∧ BR W w.heap.size b3 98 100 3 pre.length (lcells (L.take pre.length))
set_option maxHeartbeats 4000000 in
theorem all_any {w : World} {Bs tp : Nat} {v : Value} {L : Tb} (ht : TabW w Bs tp v L) (hl : L.length ≤ 100000) : Calls Tryz.prog 46 #[.pointer (some ⟨tp, 0, none⟩)] w (AlPost w L) := by
  obtain ⟨W0, hW0⟩ : ∃ W0, W0 = w.alloc (.cells #[.slice none 0 0] 98) := ⟨_, rfl⟩
  obtain ⟨b3, e3⟩ : ∃ b, b = w.heap.size := ⟨_, rfl⟩
  have hb0 : Below w.heap.size w W0 := by rw [hW0]; exact box_below w _
  have hx3 : Boxed W0 b3 98 (.slice none 0 0) := by rw [hW0, e3]; exact Boxed.new w _ _
  have HSZ : Hid (w.heap.size ≤ W0.heap.size ∧ b3 < W0.heap.size ∧ w.heap.size ≤ b3) := Lib.hid ⟨hb0.size, hx3.lt, by omega⟩
  have HI0 : Hid (AI w b3 L [] W0) := Lib.hid ⟨hb0, ⟨_, hx3, by simpa [lcells] using World.ownsRow_nil W0 w.heap.size 100 3⟩⟩
  have HW0 := Lib.hid hW0
  have E3 := Lib.hid e3
  obtain ⟨A, c, rfl, -, -, -⟩ := ht.rd
  have HT := Lib.hid ht
  have HLL := Lib.hid hl
  obtain ⟨i0, hi, hz0, hz1, hz2⟩ := info_parts infoL
  clear hW0 e3 ht hb0 hx3 hl
  refine (callsIn_wide (n := 3)).1 ?_
  refine callsIn_of_wp_marks Tryz.func46 rfl trivial ?_ rfl
  simp only [Tryz.ntmps46, List.size_toArray, List.length_cons, List.length_nil, Nat.reduceAdd, Nat.reduceSub, Array.replicate_succ, Array.replicate_zero, List.push_toArray, List.append_toArray, List.nil_append, List.cons_append]
  gi_wp2
  rw [← HW0.out, ← E3.out]
  refine range_ret (n := 3) (gf := 90) (bd := #[.pointer (some ⟨tp, 0, none⟩)]) (encs := encE) rfl (enters_of Tryz.func90 (by kernel_rfl) rfl) (fun _ => rfl) obE (R := RE L) (S := SE L) (I := AI w b3 L) (X := fun _ _ => False) ?ownI ?ownX HI0.out ?seq
    (fun x b => { tmps := #[.pointer (some ⟨tp, 0, none⟩), undef, .slice none 0 0, .pointer (some ⟨b3, 0, none⟩), undef, .pointer (some ⟨b, 0, none⟩), .pointer (some ⟨tp, 0, none⟩), .func (.func 90) #[.pointer (some ⟨tp, 0, none⟩)] #[], .int .i64 (x.1 : Nat), .agg #[.int .i64 x.2.i, .int .i64 x.2.s, .int .i64 x.2.l], undef, undef, undef, undef, undef], defers := [] }) ?assign ?body ?done ?stop
  case ownI => exact fun pre W W' row h hg hr => ⟨h.1.grown hg h.1.size (fun r e => by have := (hr r e).1; have := HSZ.out; omega), h.2.grown hg hr HSZ.out.2.1⟩
  case ownX => exact fun pre W W' row h hg hr => h
  case seq =>
    intro l J JX hJ hJI hY W hb h0
    exact rise_any 2 l tp (by omega) A c L (by have := HLL.out; omega) J JX hJ (fun pre X h => by
      have ht := HT.out.below (hJI pre X h).1
      obtain ⟨A2, c2, e, -, -, hr⟩ := ht.rd
      injection e with e1 _ e2
      subst e1; subst e2
      exact ⟨cell_of ht.here rfl, hr⟩) hY W h0
  case assign =>
    intro l x W K hK
    unfold encE
    unfold obE at hK
    gi_wp2
    exact hK
  case body =>
    rintro l pre ⟨k, y⟩ W b ⟨hbw, ⟨v, hbx, hown⟩⟩ ⟨hk, hy⟩ hb hx
    replace hk : k = pre.length := hk
    replace hy : L[pre.length]? = some y := hy
    replace hx : W.heap[b]? = some (.cells #[.int .i64 y.i, .int .i64 y.s, .int .i64 y.l] 100 (0, 0)) := hx
    subst hk
    obtain ⟨k, hk⟩ : ∃ k, pre.length = k := ⟨_, rfl⟩
    rw [hk] at hy hown
    have HK := Lib.hid hk
    have hkl := (List.getElem?_eq_some_iff.1 hy).1
    have q0 := cell_of hx (j := 0) rfl
    have q1 := cell_of hx (j := 1) rfl
    have q2 := cell_of hx (j := 2) rfl
    have d3 := hbx.cell
    have HB := Lib.hid hbw
    have HBX := Lib.hid hbx
    have HO := Lib.hid hown
    have HY := Lib.hid hy
    have hsz : w.heap.size ≤ W.heap.size := hbw.size
    have h63 : k + 1 ≤ maxLen := by have := HLL.out; unfold maxLen; omega
    have h47 : (k + 1) * 24 ≤ 140737488355328 := by have := HLL.out; omega
    have hszt : w.heap.size ≤ (W.alloc (.cells #[.int .i64 y.i, .int .i64 y.s, .int .i64 y.l] 100)).heap.size := by simp; omega
    clear hk hbw hbx hown hy hx hkl
    rw [HK.out]
    gi_wp2_with (gi_at_builtin; refine wpListIn_append_own _ rfl _ _ 98 rfl w.heap.size 100 i0 _ 3 24 Tryz.underlying98 hi hz0 hz1 hz2 rfl (by decide) v k (lcells (L.take k)) rfl (HO.out.alloc _) ⟨W.heap.size, 0, none⟩ 1 1 (lcell y) rfl rfl (World.news_of_block (new_block W _)) (lcell_one _) h63 h47 hszt ?_; intro v' w1 hown' hgrow _; obtain ⟨g', cap', rfl⟩ := ownsRow_succ hown'; have hmid := HBX.out.appended (by decide) HO.out hsz HSZ.out.2.2 hown' hgrow; have f1 := hmid.1.cell; have f2 := hmid.1.frozen; have HX := Lib.hid hmid; clear hmid hown' hgrow)
    refine ⟨HX.out.2.2.2.1.from _, HB.out.trans HX.out.2.2.2.2, ⟨_, HX.out.2.1, ?_⟩⟩
    have h := HX.out.2.2.1
    rw [map_snoc HK.out HY.out, lcells_append, List.length_append, HK.out]
    simpa [lcells] using h
  case done =>
    rintro D xs W hD hS ⟨hbw, ⟨v, hbx, hown⟩⟩ hK
    have hS' : xs.length = L.length := hS
    rw [hS', List.take_length] at hown
    obtain ⟨A2, c2, rfl, -, -, -⟩ := own_form hown
    have d3 := hbx.cell
    have HE : Hid (AlPost w L (.returned (.slice A2 L.length c2)) (W.putObj D (.deferred none))) := Lib.hid ⟨A2, c2, rfl, br_put hown hK, hbw.grown (grownBy_putObj' W D _) hbw.size (fun k e => by cases e; have := HSZ.out; omega)⟩
    have HK := Lib.hid hK
    clear hbw hbx hown hK hS
    gi_wp2
    refine ⟨by simp, .inl ⟨_, _, rfl, run_takeDeferred (w := W) HK.out, ?_⟩⟩
    exact ⟨_, results_tmp (t := 2) rfl _ _ _, HE.out⟩
  case stop => exact fun D xs W _ h _ => h.elim
end Go.Proofs.YtflgemlhocjipaaGreatDoor.Lq
