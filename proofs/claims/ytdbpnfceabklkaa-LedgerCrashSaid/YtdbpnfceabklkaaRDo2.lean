/-
  What the document's Do returns of an Append; and all its cases; what Next returns. Condition: not too many records.
-/
import Derived.Test.YtdbpnfceabklkaaRDo
namespace Go.Proofs.Ytdbpnfceabklkaa
set_option maxRecDepth 100000
open Go.ChangeShapes Go.WideShapes Go.ChangeAt Go.RowKit

/-- All cells but rows of texts are as they were. -/
def Lk9 (w w' : World) : Prop := ∀ (k : Nat) (cs : Array Value) (t : TypeId) (fr : Nat × Nat), w.heap[k]? = some (Obj.cells cs t fr) → t ≠ 9 → w'.heap[k]? = some (Obj.cells cs t fr)
theorem lk9_grown {a b : World} {base size n : Nat} {v : Value} {xs : List Value} (hg : a.grownBy b v.ownBlock) (h : a.ownsRow base 9 size v n xs) : Lk9 a b := fun k _ _ _ hk ht =>
  (hg.block k (Array.getElem?_eq_some_iff.1 hk).1 (fun e => own_ne h hk ht e.symm)).trans hk
theorem lk9_alloc (w : World) (o : Obj) : Lk9 w (w.alloc o) := fun k _ _ _ hk _ => ((box_below w o).block k (Array.getElem?_eq_some_iff.1 hk).1).trans hk
theorem Lk9.trans {a b c : World} (h : Lk9 a b) (k : Lk9 b c) : Lk9 a c := fun i cs t fr hi ht => k i cs t fr (h i cs t fr hi ht) ht
theorem DBox.lk9 {w wc w' : World} {v1 v2 k S v3 : Value} (h : DBox w v1 v2 k S v3 wc) (hk : Lk9 wc w') (hb : Below w.heap.size w w') : DBox w v1 v2 k S v3 w' :=
  ⟨hk _ _ _ _ h.b0 (by decide), hk _ _ _ _ h.b1 (by decide), hk _ _ _ _ h.b2 (by decide), hb⟩
theorem own_none9 (w : World) (base : Nat) (h : base ≤ w.heap.size) : (w.alloc (.cells #[] 9)).ownsRow base 9 1 (.slice (some ⟨w.heap.size, 0, none⟩) 0 0) 0 [] :=
  ⟨rfl, .inr ⟨w.heap.size, 0, #[], rfl, h, new_block w _, Nat.le_refl _, Nat.zero_le _, rfl, rfl⟩⟩
theorem sreads_one (w : World) (S : ByteArray) : SReads (w.alloc (.cells #[.string S] 9)) (some ⟨w.heap.size, 0, none⟩) 1 [sb S] :=
  ⟨rfl, fun _ => ⟨_, _, rfl, fun i hi => by
    obtain rfl : i = 0 := by omega
    show (w.alloc (.cells #[.string S] 9)).cell? ⟨w.heap.size, 0 + 0, none⟩ = some (.string (strOfNums (sb S)))
    rw [str_sb]
    exact cell_of_row _ _ 0 _ 9 _ (new_block w _)⟩, fun s hs => by rcases List.mem_singleton.1 hs with rfl; exact sb_bys S⟩
set_option maxHeartbeats 1000000 in
theorem rdo_append (B : Nat) (A1 A2 A3 : Option Addr) (n1 c1 n2 c2 n3 c3 : Nat) (k e : Int) (S : ByteArray) (now firm all : List (List Int)) (w : World) (hB : B ≤ w.heap.size) (h1 : STr B w A1 n1 now) (h2 : STr B w A2 n2 firm) (he : e = 0) (hk : k = 0) (hn : n1 ≤ 1000000) :
    Calls Try.prog 15 #[.agg #[.slice A1 n1 c1, .slice A2 n2 c2], .agg #[.int .i64 k, .string S, .slice A3 n3 c3], .int .i64 e] w (DoPost B w (doNow k e (sb S) all now) (doFirm k e all now firm)) := by
  subst he; subst hk
  have H1 := Lib.hid h1
  have H2 := Lib.hid h2
  clear h1 h2
  go_enter Try.func15, Try.ntmps15
  go_upto_region 0 with fail
  go_cut [3, 4, 6] (fun s3 s4 s6 wx => s3 = .pointer (some ⟨w.heap.size, 0, none⟩) ∧ s4 = .pointer (some ⟨w.heap.size + 1, 0, none⟩) ∧ s6 = .pointer (some ⟨w.heap.size + 1 + 1, 0, none⟩) ∧ DBox w (.slice A1 n1 c1) (.slice A2 n2 c2) (.int .i64 0) (.string S) (.slice A3 n3 c3) wx)
  case first =>
    go_wp2_with fail
    go_meet
    exact ⟨rfl, rfl, rfl, dbox_mk _ _ _ _ _ _⟩
  case rest =>
    obtain ⟨rfl, rfl, rfl, hbx⟩ := hcut
    have HX := Lib.hid hbx
    have d0 := cell_of hbx.b0 (j := 0) rfl
    have d1 := cell_of hbx.b0 (j := 1) rfl
    have df0 := frozen_of_row _ w.heap.size 0 _ _ hbx.b0
    have df1 := frozen_of_row _ w.heap.size 1 _ _ hbx.b0
    have o0 := cell_of hbx.b1 (j := 0) rfl
    have o1 := cell_of hbx.b1 (j := 1) rfl
    have o2 := cell_of hbx.b1 (j := 2) rfl
    have r0 := cell_of hbx.b2 (j := 0) rfl
    have r1 := cell_of hbx.b2 (j := 1) rfl
    have rf0 := frozen_of_row _ (w.heap.size + 1 + 1) 0 _ _ hbx.b2
    have rf1 := frozen_of_row _ (w.heap.size + 1 + 1) 1 _ _ hbx.b2
    have HK1 := Lib.hid (H1.out.kept hbx.below hB)
    have HK2 := Lib.hid (H2.out.kept hbx.below hB)
    clear hbx
    have HO : Hid ((wc.alloc (.cells #[] 9)).ownsRow w.heap.size 9 1 (.slice (some ⟨wc.heap.size, 0, none⟩) 0 0) 0 []) := Lib.hid (own_none9 wc _ HX.out.below.size)
    have HR : Hid (SReads (wc.alloc (.cells #[] 9)) A1 n1 now) := Lib.hid (HK1.out.1.kept (box_below wc _))
    have HZ : Hid (w.heap.size ≤ (wc.alloc (.cells #[] 9)).heap.size) := Lib.hid (Nat.le_trans HX.out.below.size (box_below wc _).size)
    have e0 := cell_of ((lk9_alloc wc (.cells #[] 9)) _ _ _ _ HX.out.b0 (by decide)) (j := 0) rfl
    have hn0 : 0 + n1 ≤ 100000000 := by omega
    have hn2 : 0 + n1 + 1 ≤ 100000000 := by omega
    go_wp2_with (first
      | (at_builtin; refine wpList_append_st rfl (.tmp 14) (.tmp 16) rfl w.heap.size (.slice (some ⟨wc.heap.size, 0, none⟩) 0 0) 0 [] rfl HO.out A1 n1 c1 now rfl HR.out hn0 HZ.out ?_; intro v1 w2 h2 h3; have HY : Hid (DBox w (.slice A1 n1 c1) (.slice A2 n2 c2) (.int .i64 0) (.string S) (.slice A3 n3 c3) w2) := Lib.hid (HX.out.lk9 ((lk9_alloc wc _).trans (lk9_grown h3 HO.out)) ((HX.out.below.trans ((box_below wc _).mono HX.out.below.size)).grown h3 HZ.out (own_ge HO.out))); have HO2 := Lib.hid (h2.alloc (.cells #[.string S] 9)); have HZ2 : Hid (w.heap.size ≤ (w2.alloc (.cells #[.string S] 9)).heap.size) := Lib.hid (Nat.le_trans HY.out.below.size (box_below w2 _).size); have HR2 := Lib.hid (sreads_one w2 S); have p1 := cell_of HY.out.b1 (j := 1) rfl; clear h2 h3 e0 o0 o1 o2 d0 d1 df0 df1 r0 r1 rf0 rf1)
      | (at_builtin; refine wpList_append_st rfl (.tmp 18) (.tmp 21) rfl w.heap.size v1 (0 + n1) ([] ++ strs now) rfl HO2.out (some ⟨w2.heap.size, 0, none⟩) 1 1 [sb S] rfl HR2.out hn2 HZ2.out ?_; intro v2 w4 h2 h3; have HU : Hid (DBox w (.slice A1 n1 c1) (.slice A2 n2 c2) (.int .i64 0) (.string S) (.slice A3 n3 c3) w4) := Lib.hid (HY.out.lk9 ((lk9_alloc w2 _).trans (lk9_grown h3 HO2.out)) ((HY.out.below.trans ((box_below w2 _).mono HY.out.below.size)).grown h3 HZ2.out (own_ge HO2.out))); obtain ⟨A4, c4, rfl, -, -, -⟩ := own_form h2; have HV := Lib.hid h2; clear h2 h3 p1; have y0 := cell_of HU.out.b0 (j := 0) rfl; have y1 := cell_of HU.out.b0 (j := 1) rfl; have yf0 := frozen_of_row _ w.heap.size 0 _ _ HU.out.b0; have z0 := cell_of HU.out.b1 (j := 0) rfl; have r0 := cell_of HU.out.b2 (j := 0) rfl; have r1 := cell_of HU.out.b2 (j := 1) rfl; have rf0 := frozen_of_row _ (w.heap.size + 1 + 1) 0 _ _ HU.out.b2; have rf1 := frozen_of_row _ (w.heap.size + 1 + 1) 1 _ _ HU.out.b2)
      | fail)
    have hown := HV.out
    have hl : now.length = n1 := H1.out.1.1
    have e : ([] ++ strs now) ++ strs [sb S] = strs (now ++ [sb S]) := by simp [strs]
    rw [e] at hown
    have hst : STr B w4 A4 (0 + n1 + 1) (now ++ [sb S]) := by
      obtain ⟨A5, c5, e5, h5, -, -⟩ := own_str (B := B) hown (fun s hs => by
        rcases List.mem_append.1 hs with hs | hs
        · exact H1.out.1.2.2 s hs
        · rcases List.mem_singleton.1 hs with rfl; exact sb_bys S)
      injection e5 with e5 _ _
      rw [e5]; exact h5
    rw [Nat.zero_add] at hst
    have hk2 : STr B w4 A2 n2 firm := H2.out.kept HU.out.below hB
    exact rdo_end rfl hB (hst.other (r := w.heap.size) (fun k hk => heap_setCell_other _ _ _ _ hk) HU.out.b0 (by decide) hB) (hk2.other (r := w.heap.size) (fun k hk => heap_setCell_other _ _ _ _ hk) HU.out.b0 (by decide) hB) ((heap_setCell_other _ _ _ _ (by show w.heap.size + 1 + 1 ≠ w.heap.size; omega)).trans HU.out.b2) (HU.out.below.setCell (Nat.le_refl _) _) (by simp [doNow]) (by simp [doFirm])
theorem rdo_any (B : Nat) (A1 A2 A3 : Option Addr) (n1 c1 n2 c2 n3 c3 : Nat) (k e : Int) (S : ByteArray) (now firm all : List (List Int)) (w : World) (hB : B ≤ w.heap.size) (h1 : STr B w A1 n1 now) (h2 : STr B w A2 n2 firm) (h3 : STr B w A3 n3 all) (hn : n1 ≤ 1000000) :
    Calls Try.prog 15 #[.agg #[.slice A1 n1 c1, .slice A2 n2 c2], .agg #[.int .i64 k, .string S, .slice A3 n3 c3], .int .i64 e] w (DoPost B w (doNow k e (sb S) all now) (doFirm k e all now firm)) := by
  by_cases he : e = 0
  · by_cases k0 : k = 0
    · exact rdo_append B A1 A2 A3 n1 c1 n2 c2 n3 c3 k e S now firm all w hB h1 h2 he k0 hn
    · by_cases k1 : k = 1
      · exact rdo_sync B A1 A2 A3 n1 c1 n2 c2 n3 c3 k e S now firm all w hB h1 h2 he k1
      · by_cases k2 : k = 2
        · exact rdo_replace B A1 A2 A3 n1 c1 n2 c2 n3 c3 k e S now firm all w hB h1 h2 h3 he k2
        · exact rdo_rest B A1 A2 A3 n1 c1 n2 c2 n3 c3 k e S now firm all w hB h1 h2 he ⟨k0, k1, k2⟩
  · exact rdo_bad B A1 A2 A3 n1 c1 n2 c2 n3 c3 k e S now firm all w hB h1 h2 he
end Go.Proofs.Ytdbpnfceabklkaa
