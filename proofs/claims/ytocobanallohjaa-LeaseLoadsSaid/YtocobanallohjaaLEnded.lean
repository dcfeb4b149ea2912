/-
  What Ended of any time returns. Condition: the table is good.
-/
import Derived.Test.YtocobanallohjaaLAll
namespace Go.Proofs.Ytocobanallohjaa
set_option maxRecDepth 100000
open Go.ChangeShapes Go.WideShapes Go.ChangeAt Go.RowKit Go.Shelf Go.Proofs.Le

attribute [local go_sem] Oper.semAt_some


def EnPost (w : World) (l : List Int) (e : Ending) (w' : World) : Prop := ∃ A c, e = .returned (.slice A l.length c) ∧ w'.ownsRow w.heap.size 3 1 (.slice A l.length c) l.length (icells l) ∧ Below w.heap.size w w'
theorem wrap_sub {n l : Int} (h1 : okT n = true) (h2 : okT l = true) : IntKind.i64.wrap (n - l) = n - l := by
  rw [okT_iff] at h1 h2
  rw [IntKind.wrap_i64]; omega
def EI (w : World) (b2 b3 : Nat) (L : Tb) (now : Int) (pre : List El) (W : World) : Prop := Below w.heap.size w W ∧ W.heap[b2]? = some (.cells #[.int .i64 now] 3 (0, 0)) ∧ BR W (w.heap.size + 1) b3 41 3 1 (overs (L.take pre.length) now).length (icells (overs (L.take pre.length) now))
set_option maxHeartbeats 4000000 in
theorem ended_any {w : World} {Bs tp : Nat} {v : Value} {L : Tb} (ht : TabW w Bs tp v L) (hg : Le.Good L) (now : Int) : Calls Try.prog 18 #[.pointer (some ⟨tp, 0, none⟩), .int .i64 now] w (EnPost w (endd L now)) := by
  obtain ⟨Wa, hWa⟩ : ∃ Wa, Wa = w.alloc (.cells #[.int .i64 now] 3) := ⟨_, rfl⟩
  obtain ⟨b2, e2⟩ : ∃ b, b = w.heap.size := ⟨_, rfl⟩
  have hba : Below w.heap.size w Wa := by rw [hWa]; exact box_below w _
  have hxa : Wa.heap[b2]? = some (.cells #[.int .i64 now] 3 (0, 0)) := by rw [hWa, e2]; exact new_block w _
  obtain ⟨W0, hW0⟩ : ∃ W0, W0 = Wa.alloc (.cells #[.slice none 0 0] 41) := ⟨_, rfl⟩
  obtain ⟨b3, e3⟩ : ∃ b, b = w.heap.size + 1 := ⟨_, rfl⟩
  have hsa : Wa.heap.size = w.heap.size + 1 := by rw [hWa]; simp
  have hb0 : Below w.heap.size w W0 := by rw [hW0]; exact hba.alloc hba.size _
  have hx2 : W0.heap[b2]? = some (.cells #[.int .i64 now] 3 (0, 0)) := by rw [hW0]; exact blk_alloc hxa _
  have hx3 : Boxed W0 b3 41 (.slice none 0 0) := by rw [hW0, e3, ← hsa]; exact Boxed.new Wa _ _
  have HSZ : Hid (w.heap.size + 1 ≤ W0.heap.size ∧ b3 < W0.heap.size ∧ w.heap.size + 1 ≤ b3 ∧ b2 < w.heap.size + 1 ∧ b2 < W0.heap.size) := Lib.hid (by have := hx3.lt; omega)
  have HI0 : Hid (EI w b2 b3 L now [] W0) := Lib.hid ⟨hb0, hx2, ⟨_, hx3, by simpa [icells, overs] using World.ownsRow_nil W0 (w.heap.size + 1) 3 1⟩⟩
  have HWA := Lib.hid hWa
  have HW0 := Lib.hid hW0
  have E2 := Lib.hid e2
  have E3 := Lib.hid e3
  have HBA := Lib.hid hba
  have HSA := Lib.hid hsa
  have a0 := cell_of hxa (j := 0) rfl
  have HTM := Lib.hid (istime_any now Wa)
  obtain ⟨r, hr⟩ : ∃ r, okT now = r := ⟨_, rfl⟩
  rw [hr] at HTM
  have HR := Lib.hid hr
  obtain ⟨A, c, rfl, -, -, -⟩ := ht.rd
  have HT := Lib.hid ht
  have HG := Lib.hid hg
  have HLL : Hid (L.length ≤ 100) := Lib.hid hg.len
  obtain ⟨i0, hi, hz0, hz1, hz2⟩ := info_parts infoI
  clear hWa hW0 e2 e3 ht hba hxa hb0 hx2 hx3 hg hr hsa
  refine (callsIn_wide (n := 3)).1 ?_
  refine callsIn_of_wp_marks Try.func18 rfl trivial ?_ rfl
  simp only [Try.ntmps18, List.size_toArray, List.length_cons, List.length_nil, Nat.reduceAdd, Nat.reduceSub, Array.replicate_succ, Array.replicate_zero, List.push_toArray, List.append_toArray, List.nil_append, List.cons_append]
  gi_upto_region 1 with fail
  rw [← HWA.out, ← E2.out]
  gi_wp2
  refine ⟨trivial, ?_⟩
  refine (callsIn_wide.2 HTM.out).mono ?_
  rintro e w' ⟨rfl, rfl⟩
  cases r with
  | false =>
    have HE : Hid (EnPost w (endd L now) (.returned (.slice none 0 0)) Wa) := Lib.hid (by
      have : endd L now = [] := by unfold endd; rw [if_neg (by rw [HR.out]; simp)]
      rw [this]
      exact ⟨none, 0, rfl, by simpa [icells] using World.ownsRow_nil Wa w.heap.size 3 1, HBA.out⟩)
    gi_wp2
    refine ⟨_, results_tmp (t := 4) rfl _ _ _, HE.out⟩
  | true =>
    have HEN : Hid (endd L now = overs L now) := Lib.hid (by unfold endd; rw [if_pos HR.out])
    gi_wp2
    rw [← HW0.out, HSA.out, ← E3.out]
    refine range_ret (n := 3) (gf := 29) (bd := #[.pointer (some ⟨tp, 0, none⟩)]) (encs := encE) rfl (enters_of Try.func29 (by kernel_rfl) rfl) (fun _ => rfl) obE (R := RE L) (S := SE L) (I := EI w b2 b3 L now) (X := fun _ _ => False) ?ownI ?ownX HI0.out ?seq
      (fun x b => { tmps := #[.pointer (some ⟨tp, 0, none⟩), .int .i64 now, undef, .pointer (some ⟨b2, 0, none⟩), .slice none 0 0, .pointer (some ⟨b3, 0, none⟩), undef, .pointer (some ⟨b, 0, none⟩), .int .i64 now, .bool true, .bool false, .pointer (some ⟨tp, 0, none⟩), .func (.func 29) #[.pointer (some ⟨tp, 0, none⟩)] #[], .int .i64 (x.1 : Nat), .agg #[.int .i64 x.2.i, .int .i64 x.2.s, .int .i64 x.2.l], undef, undef, undef, undef, undef, undef, undef, undef, undef, undef, undef, undef, undef], defers := [] }) ?assign ?body ?done ?stop
    case ownI => exact fun pre W W' row h hg hr => ⟨h.1.grown hg h.1.size (fun r e => by have := (hr r e).1; have := HSZ.out; omega), grown_blk hg (fun r e => (hr r e).1) HSZ.out.2.2.2.2 h.2.1, h.2.2.grown hg hr HSZ.out.2.1⟩
    case ownX => exact fun pre W W' row h hg hr => h
    case seq =>
      intro l J JX hJ hJI hY W hb h0
      exact rise_any 2 l tp (by omega) A c L (by have := HLL.out; omega) J JX hJ (fun pre X h => by
        have ht := HT.out.below (hJI pre X h).1
        obtain ⟨A2, c2, e, -, -, hr⟩ := ht.rd
        injection e with e1 _ e2
        subst e1; subst e2
        exact ⟨cell_of ht.here rfl, hr⟩) hY W h0
    case assign =>
      intro l x W K hK
      unfold encE
      unfold obE at hK
      gi_wp2
      exact hK
    case body =>
      rintro l pre ⟨k, y⟩ W b ⟨hbw, hx2, ⟨v, hbx, hown⟩⟩ ⟨hk, hy⟩ hb hx
      replace hk : k = pre.length := hk
      replace hy : L[pre.length]? = some y := hy
      replace hx : W.heap[b]? = some (.cells #[.int .i64 y.i, .int .i64 y.s, .int .i64 y.l] 30 (0, 0)) := hx
      subst hk
      obtain ⟨k, hk⟩ : ∃ k, pre.length = k := ⟨_, rfl⟩
      rw [hk] at hy hown
      have HK := Lib.hid hk
      have hkl := (List.getElem?_eq_some_iff.1 hy).1
      have q0 := cell_of hx (j := 0) rfl
      have q1 := cell_of hx (j := 1) rfl
      have q2 := cell_of hx (j := 2) rfl
      have d2 := cell_of hx2 (j := 0) rfl
      have d3 := hbx.cell
      have HB := Lib.hid hbw
      have HX2 := Lib.hid hx2
      have HBX := Lib.hid hbx
      have HO := Lib.hid hown
      have HY := Lib.hid hy
      obtain ⟨m, hm⟩ : ∃ m, (overs (L.take k) now).length = m := ⟨_, rfl⟩
      have HM := Lib.hid hm
      have hml : m ≤ 100 := by have := overs_len (L.take k) now; rw [List.length_take] at this; have := HLL.out; omega
      rw [hm] at HO
      have hwsub := wrap_sub HR.out (show okT y.l = true by
        have h := HG.out.each y (List.mem_of_getElem? hy)
        unfold okL at h
        simp only [Bool.and_eq_true] at h
        exact h.2)
      obtain ⟨t, hov⟩ : ∃ t, decide (y.s < now - y.l) = t := ⟨_, rfl⟩
      have HTS : Hid (overs (L.take (pre ++ [(k, y)]).length) now = overs (L.take k) now ++ (if t = true then [y.i] else [])) := Lib.hid (by
        rw [map_snoc hk hy, overs_snoc, show overB now y = t from hov])
      have hsz : w.heap.size + 1 ≤ W.heap.size := by have := hbx.lt; have := HSZ.out; omega
      have h63 : m + 1 ≤ maxLen := by unfold maxLen; omega
      have h47 : (m + 1) * 8 ≤ 140737488355328 := by omega
      have hszt : w.heap.size + 1 ≤ (W.alloc (.cells #[.int .i64 y.i] 3)).heap.size := by simp; omega
      clear hk hbw hbx hown hy hx hkl hx2 hm hml
      rw [HK.out]
      cases t with
      | false =>
        gi_wp2
        refine ⟨KeepsFrom.refl _ _, HB.out, HX2.out, ⟨_, HBX.out, ?_⟩⟩
        have h := HO.out
        rw [HTS.out, ← HM.out] at *
        simpa using h
      | true =>
        gi_wp2_with (gi_at_builtin; refine wpListIn_append_own _ rfl _ _ 41 rfl (w.heap.size + 1) 3 i0 _ 1 8 Try.underlying41 hi hz0 hz1 hz2 rfl (by decide) v m (icells (overs (L.take k) now)) rfl (HO.out.alloc _) ⟨W.heap.size, 0, none⟩ 1 1 (icell y.i) rfl rfl (World.news_of_block (new_block W _)) (icell_one _) h63 h47 hszt ?_; intro v' w1 hown' hgrow _; obtain ⟨g', cap', rfl⟩ := ownsRow_succ hown'; have hmid := HBX.out.appended (by decide) HO.out hsz HSZ.out.2.2.1 hown' hgrow; have f1 := hmid.1.cell; have f2 := hmid.1.frozen; have HX := Lib.hid hmid; clear hmid hown' hgrow)
        refine ⟨HX.out.2.2.2.1.from _, HB.out.trans (HX.out.2.2.2.2.mono (by omega)), (HX.out.2.2.2.2.block b2 HSZ.out.2.2.2.1).trans HX2.out, ⟨_, HX.out.2.1, ?_⟩⟩
        have h := HX.out.2.2.1
        rw [HTS.out]
        simp only [if_true]
        rw [icells_append, List.length_append, HM.out]
        simpa [icells] using h
    case done =>
      rintro D xs W hD hS ⟨hbw, hx2, ⟨v, hbx, hown⟩⟩ hK
      have hS' : xs.length = L.length := hS
      rw [hS', List.take_length] at hown
      obtain ⟨A2, c2, rfl, -, -, -⟩ := own_form hown
      have d3 := hbx.cell
      have HE : Hid (EnPost w (endd L now) (.returned (.slice A2 (overs L now).length c2)) (W.putObj D (.deferred none))) := Lib.hid (by
        rw [HEN.out]
        exact ⟨A2, c2, rfl, own_base (br_put hown hK) (by omega), hbw.grown (grownBy_putObj' W D _) hbw.size (fun k e => by cases e; have := HSZ.out; omega)⟩)
      have HK := Lib.hid hK
      clear hbw hbx hown hK hS hx2
      gi_wp2
      refine ⟨by simp, .inl ⟨_, _, rfl, run_takeDeferred (w := W) HK.out, ?_⟩⟩
      exact ⟨_, results_tmp (t := 4) rfl _ _ _, HE.out⟩
    case stop => exact fun D xs W _ h _ => h.elim
end Go.Proofs.Ytocobanallohjaa
