/-
  WatcherAll returns true. Condition: memory holds the script; a path that is added has at most 2^21 bytes.
-/
import Derived.Test.YtfejapaoflikhaaDoorWDoes
namespace Go.Proofs.YtfejapaoflikhaaDoor
set_option maxRecDepth 100000
open Go.ChangeShapes Go.WideShapes Go.ChangeAt Go.RowKit Go.Proofs.Zn Go.Proofs.Wa

set_option maxHeartbeats 16000000 in
theorem all_law {w : World} {A : Option Addr} {n c : Nat} {l : List Cal} (h : Rd ocell 8 w A n l) (hp : ∀ o ∈ l, o.w.p.length ≤ 2097152) :
    Calls Tryd.prog 3 #[.slice A n c] w fun e w' => e = .returned (.bool true) ∧ Below w.heap.size w w' := by
  have HN := Lib.hid (new_any w)
  have HR := Lib.hid h
  have HL := Lib.hid h.len
  have HPS := Lib.hid hp
  clear h hp
  go_enter Tryd.func3, Tryd.ntmps3
  go_wp2_with fail
  refine HN.out.mono ?_
  rintro e w1 ⟨tp, v, rfl, ht1, hb1, -, -⟩
  have HT1 := Lib.hid ht1
  have HB1 := Lib.hid hb1
  clear ht1 hb1
  by_cases hn : 400 < n
  · have hn' : (400 : Int) < (n : Int) := by omega
    have HAL := Lib.hid (alive_any w1)
    clear hn
    go_wp2_with fail
    refine HAL.out.mono ?_
    rintro e w2 ⟨rfl, hb2⟩
    have HB2 := Lib.hid (HB1.out.trans (hb2.mono HB1.out.size))
    clear hb2
    go_wp2_with fail
    go_ret
    exact ⟨rfl, HB2.out⟩
  have hn' : ¬ (400 : Int) < (n : Int) := by omega
  go_wp2_with fail
  go_loopw [4, 24] (fun u i wr => ∃ (k : Nat) (v : Value), k ≤ n ∧ i = .int .i64 k ∧ Hid (NR wr u (Wa.runT [] (l.take k))) ∧ Hid (TabW wr w.heap.size tp v (Wa.runT [] (l.take k))) ∧ Hid (Below w.heap.size w wr)) (fun _ i _ => n - (intOf i).toNat)
  case atStart => exact ⟨0, v, Nat.zero_le _, rfl, Lib.hid (World.ownsRow_nil _ _ _ _), HT1, HB1⟩
  case round =>
    obtain ⟨k, v, hk, rfl, HU, HT, HX⟩ := hrel
    by_cases hlt : k < n
    · have HGT : Hid (Wa.Good (Wa.runT [] (l.take k))) := Lib.hid (run_good good_nil _)
      obtain ⟨b, off, o, rfl, ho, hcc⟩ := (HR.out.below HX.out).at hlt
      have c0 : wr.cell? ⟨b, off + k * 8, none⟩ = some (.int .i64 o.k) := hcc 0 _ rfl
      have c1 : wr.cell? ⟨b, off + k * 8 + 1, none⟩ = some (.int .i64 o.n) := hcc 1 _ rfl
      have c2 : wr.cell? ⟨b, off + k * 8 + 2, none⟩ = some (.int .i64 o.w.s) := hcc 2 _ rfl
      have c3 : wr.cell? ⟨b, off + k * 8 + 3, none⟩ = some (.string (B o.w.p)) := hcc 3 _ rfl
      have c4 : wr.cell? ⟨b, off + k * 8 + 4, none⟩ = some (.bool o.w.k) := hcc 4 _ rfl
      have c5 : wr.cell? ⟨b, off + k * 8 + 5, none⟩ = some (.int .i64 o.e.s) := hcc 5 _ rfl
      have c6 : wr.cell? ⟨b, off + k * 8 + 6, none⟩ = some (.int .i64 o.e.k) := hcc 6 _ rfl
      have c7 : wr.cell? ⟨b, off + k * 8 + 7, none⟩ = some (.string (B o.e.p)) := hcc 7 _ rfl
      obtain ⟨bo, hbe⟩ : ∃ b, b = wr.heap.size := ⟨_, rfl⟩
      obtain ⟨wo, hwo⟩ : ∃ wo, wo = wr.alloc (.cells #[.int .i64 o.k, .int .i64 o.n, .int .i64 o.w.s, .string (B o.w.p), .bool o.w.k, .int .i64 o.e.s, .int .i64 o.e.k, .string (B o.e.p)] 32) := ⟨_, rfl⟩
      have hbo : Below wr.heap.size wr wo := by rw [hwo]; exact box_below wr _
      have hxo : wo.heap[bo]? = some (.cells #[.int .i64 o.k, .int .i64 o.n, .int .i64 o.w.s, .string (B o.w.p), .bool o.w.k, .int .i64 o.e.s, .int .i64 o.e.k, .string (B o.e.p)] 32 (0, 0)) := by rw [hwo, hbe]; exact new_block wr _
      have HXO := Lib.hid hxo
      have HWO := Lib.hid hwo
      have HBE := Lib.hid hbe
      have HOM : Hid (o.w.p.length ≤ 2097152) := Lib.hid (HPS.out o (List.mem_of_getElem? ho))
      have hk0 : (0 : Int) ≤ (k : Int) := by omega
      have hki : (k : Int) < (n : Int) := by omega
      have HTK : Hid (Wa.runT [] (l.take (k + 1)) = Wa.stepT (Wa.runT [] (l.take k)) o) := Lib.hid (run_step ho)
      have HT2 := Lib.hid (HT.out.below hbo)
      have HX2 := Lib.hid (HX.out.trans (hbo.mono HX.out.size))
      have HD := Lib.hid (does_any HT2.out HX2.out.size HGT.out (own_below HU.out hbo) HGT.out o HOM.out)
      clear ho hcc hbe hwo hbo hxo
      go_upto_region 8 with fail
      rw [← HWO.out, ← HBE.out]
      clear c0 c1 c2 c3 c4 c5 c6 c7
      have o0 := cell_of HXO.out (j := 0) rfl
      have o1 := cell_of HXO.out (j := 1) rfl
      have o2 := cell_of HXO.out (j := 2) rfl
      have o3 := cell_of HXO.out (j := 3) rfl
      have o4 := cell_of HXO.out (j := 4) rfl
      have o5 := cell_of HXO.out (j := 5) rfl
      have o6 := cell_of HXO.out (j := 6) rfl
      have o7 := cell_of HXO.out (j := 7) rfl
      go_wp2_with fail
      refine HD.out.mono ?_
      rintro e w5 ⟨u5, b5, rfl, hbb, hn5, hk5⟩
      obtain rfl : b5 = true := hbb rfl
      have HX5 := Lib.hid (HX2.out.trans ((kp_below hk5 HT2.out HX2.out.size)))
      obtain ⟨v5, ht5, -, -⟩ := hk5
      rw [← HTK.out] at hn5 ht5
      obtain ⟨A5, c5, rfl, -, -, -⟩ := own_form hn5
      have HU5 := Lib.hid hn5
      have HT5 := Lib.hid ht5
      have HLE := Lib.hid (len_any ht5)
      clear hbb hn5 ht5
      clear o0 o1 o2 o3 o4 o5 o6 o7
      go_wp2_with fail
      refine HLE.out.mono ?_
      rintro e w6 ⟨rfl, rfl⟩
      go_wp2_with fail
      go_roundw
      case rel => exact ⟨k + 1, v5, by omega, by go_num, HU5, HT5, HX5⟩
      case measure => simp [intOf]; omega
    · obtain rfl : k = n := by omega
      have hki : ¬ (k : Int) < (k : Int) := by omega
      obtain ⟨T, hT⟩ : ∃ T, Wa.runT [] (l.take k) = T := ⟨_, rfl⟩
      have HG : Hid (Wa.Good T) := Lib.hid (by rw [← hT]; exact run_good good_nil _)
      rw [hT] at HU HT
      clear hT
      have HAL := Lib.hid (alive_any wr)
      go_wp2_with fail
      refine HAL.out.mono ?_
      rintro e w2 ⟨rfl, hb2⟩
      have HX2 := Lib.hid (HX.out.trans (hb2.mono HX.out.size))
      have HU2 := Lib.hid (own_below HU.out hb2)
      have HAA := Lib.hid (all_any (HT.out.below hb2) (by have := HG.out.len; omega))
      clear hb2
      go_wp2_with fail
      refine HAA.out.mono ?_
      rintro e w3 ⟨A3, c3, rfl, ho3, hb3⟩
      have HX3 := Lib.hid (HX2.out.trans (hb3.mono HX2.out.size))
      obtain ⟨A4, c4, rfl, -, -, -⟩ := own_form HU2.out
      have HSA := Lib.hid (same_any (c := c3) (c2 := c4) (Rd.of_own (cell := wcell) (l := T) ho3 (fun _ _ => rfl) (by omega)) (Rd.of_own (cell := wcell) (l := T) (own_below HU2.out hb3) (fun _ _ => rfl) (by omega)) (by have := HG.out.len; omega))
      clear ho3 hb3
      go_wp2_with fail
      refine HSA.out.mono ?_
      rintro e w4 ⟨rfl, hb4⟩
      have HX4 := Lib.hid (HX3.out.trans (hb4.mono HX3.out.size))
      clear hb4
      go_wp2_with fail
      go_ret
      exact ⟨rfl, HX4.out⟩
end Go.Proofs.YtfejapaoflikhaaDoor
