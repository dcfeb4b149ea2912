/-
  What the law's does returns: the disk behind a call, and what is told, as the document says. Condition: not too many sectors and writes.
-/
import Derived.Test.YtogofgfdkkjnlaaCrash
import Derived.Test.YtogofgfdkkjnlaaRead
import Derived.Test.YtogofgfdkkjnlaaSync
import Derived.Test.YtogofgfdkkjnlaaRDoBox
namespace Go.Proofs.Ytogofgfdkkjnlaa
open Go.ChangeShapes Go.WideShapes Go.ChangeAt Go.RowKit

theorem results_tc {fn : Func} {p q : Tmp} (h : fn.results = #[.tmp p, .cell q 48]) (tmps : Array Value) (w : World) (g2 : Nat) (v : Value) (c2 : Array Value)
    (hp : tmps.getD p undef = v) (hq : tmps.getD q undef = .pointer (some ⟨g2, 0, none⟩)) (h2 : w.heap[g2]? = some (.cells c2 48 (0, 0))) (hc2 : c2.size = 2) :
    (results fn tmps).run Try.prog w = .ok (.tuple #[v, .agg c2]) w := by
  have hp' : tmps[p]?.getD undef = v := by simpa using hp
  have hq' : tmps[q]?.getD undef = .pointer (some ⟨g2, 0, none⟩) := by simpa using hq
  have r2 := run_loadVar_row (P := Try.prog) w g2 48 48 c2 (0, 0) _ h2 Try.underlying48 rfl (by rw [hc2]; kernel_rfl)
  simp [results, h, hp', hq', asAddr, r2]
/-- What does leaves. -/
def DsPost (w : World) (B : Nat) (D : Dk) (k n t : Int) (zs : List Int) (e : Ending) (w' : World) : Prop :=
  ∃ p2, e = .returned (.tuple #[.pointer (some ⟨p2, 0, none⟩), .agg #[.string (strOfNums (doD D k n t zs).2.1), .int .i64 (doD D k n t zs).2.2]]) ∧ PDisk w' B p2 (doD D k n t zs).1 ∧ Kp B w w'
theorem ds_end {w w2 w9 : World} {B p2 : Nat} {D D' : Dk} {k n t : Int} {zs a : List Int} {er : Int} {y0 y1 : Value} (hdo : doD D k n t zs = (D', a, er)) (h2 : w2.heap[w.heap.size + 1]? = some (.cells #[y0, y1] 48 (0, 0))) (hp : PDisk w2 B p2 D') (hk : Kp B w w2) (hB : B ≤ w.heap.size)
    (h9 : ∀ k, k ≠ w.heap.size + 1 → w9.heap[k]? = w2.heap[k]?) (hb9 : ∀ B, B ≤ w.heap.size + 1 → Below B w2 w9) (S : ByteArray) (hS : S = strOfNums a) :
    DsPost w B D k n t zs (.returned (.tuple #[.pointer (some ⟨p2, 0, none⟩), .agg #[.string S, .int .i64 er]])) w9 := by
  unfold DsPost
  rw [hdo, hS]
  refine ⟨p2, rfl, hp.tags fun j cs t fr hj ht => ?_, ⟨hk.below.trans (hb9 _ (by omega)), fun j cs t fr hj h1 h2' h3 => ?_⟩⟩
  · rw [h9 j (fun e => ?_)]
    · exact hj
    · subst e; rw [h2] at hj; injection hj with hj; injection hj with _ e _; subst e; rcases ht with ht | ht | ht <;> cases ht
  · have hl := lt_of_block hj
    rw [h9 j (by omega)]
    exact hk.tag j cs t fr hj h1 h2' h3
theorem do_t (D : Dk) (k n t t' : Int) (zs : List Int) (hk : k ≠ 4) : doD D k n t zs = doD D k n t' zs := by
  unfold doD; rw [if_neg hk, if_neg hk]
theorem do_txt (D : Dk) (k n t : Int) (zs : List Int) (hk : k ≠ 1) : (doD D k n t zs).2.1 = [] := by
  unfold doD
  rw [if_neg hk]
  repeat' split
  all_goals rfl
theorem do_one (D : Dk) (n t : Int) (zs : List Int) : doD D 1 n t zs = doD D 1 n 0 [] := by
  simp [doD]
theorem do_two (D : Dk) (n t : Int) (zs : List Int) : doD D 2 n t zs = doD D 2 0 0 [] := by
  simp [doD]
/-- The boxes of does. -/
def ECut (w : World) (k n t : Int) (A : Option Addr) (len cap : Nat) (s3 s4 s5 : Value) (wc : World) : Prop :=
  s3 = .pointer (some ⟨w.heap.size, 0, none⟩) ∧ s4 = .pointer none ∧ s5 = .pointer (some ⟨w.heap.size + 1, 0, none⟩) ∧ wc.heap[w.heap.size]? = some (.cells #[.int .i64 k, .int .i64 n, .int .i64 t, .slice A len cap] 46 (0, 0)) ∧ wc.heap[w.heap.size + 1]? = some (.cells #[.string ⟨#[]⟩, .int .i64 0] 48 (0, 0)) ∧ Below w.heap.size w wc
theorem ecut_mk (w : World) (k n t : Int) (A : Option Addr) (len cap : Nat) : ECut w k n t A len cap (.pointer (some ⟨w.heap.size, 0, none⟩)) (.pointer none) (.pointer (some ⟨w.heap.size + 1, 0, none⟩)) ((w.alloc (.cells #[.int .i64 k, .int .i64 n, .int .i64 t, .slice A len cap] 46)).alloc (.cells #[.string ⟨#[]⟩, .int .i64 0] 48)) :=
  ⟨rfl, rfl, rfl, (two_boxes' w _ _ 46 48).1, (two_boxes' w _ _ 46 48).2, (box_below w _).alloc (by simp) _⟩
set_option maxHeartbeats 1000000 in
theorem does_write (B p : Nat) (D : Dk) (n t : Int) (A : Option Addr) (len cap : Nat) (zs : List Int) (w : World) (h : PDisk w B p D) (hB : B ≤ w.heap.size) (hm : D.wait.length ≤ 100000) (hR : ∀ w', Kp B w w' → Reads w' A len zs) :
    Calls Try.prog 18 #[.pointer (some ⟨p, 0, none⟩), .agg #[.int .i64 0, .int .i64 n, .int .i64 t, .slice A len cap]] w (DsPost w B D 0 n t zs) := by
  obtain ⟨er, her⟩ : ∃ er, er = (doD D 0 n 0 zs).2.2 := ⟨_, rfl⟩
  have HD : Hid (doD D 0 n t zs = ((doD D 0 n 0 zs).1, [], er)) := Lib.hid (by rw [do_t D 0 n t 0 zs (by decide), her, ← do_txt D 0 n 0 zs (by decide)])
  have HE := Lib.hid her
  clear her
  have H := Lib.hid h
  clear h
  go_enter Try.func18, Try.ntmps18
  go_upto_region 0 with fail
  go_cut [3, 4, 5] (fun s3 s4 s5 wx => ECut w 0 n t A len cap s3 s4 s5 wx)
  case first =>
    go_wp2_with fail
    go_meet
    exact ecut_mk _ _ _ _ _ _ _
  case rest =>
    obtain ⟨rfl, rfl, rfl, hb0, hb1, hbe⟩ := hcut
    have HB1 := Lib.hid hb1
    have HP := Lib.hid (H.out.kept hbe)
    have HK := Lib.hid (Kp.of_below hbe hB)
    have o0 := cell_of hb0 (j := 0) rfl
    have o1 := cell_of hb0 (j := 1) rfl
    have o2 := cell_of hb0 (j := 2) rfl
    have o3 := cell_of hb0 (j := 3) rfl
    clear hb0 hb1
    have HC := Lib.hid (write_any B p D n A len cap zs wc HP.out (fun w' hk => hR w' (HK.out.trans hk)) hm)
    clear hR
    go_wp2_with fail
    refine HC.out.mono ?_
    rintro e w2 ⟨rfl, hp2, hk2⟩
    rw [← HE.out]
    have HP2 := Lib.hid hp2
    have HK2 := Lib.hid (HK.out.trans hk2)
    have HB2 := Lib.hid (hk2.tag _ _ _ _ HB1.out (by decide) (by decide) (by decide))
    clear hp2 hk2 o0 o1 o2 o3
    have a0 := cell_of HB2.out (j := 0) rfl
    have a1 := cell_of HB2.out (j := 1) rfl
    have af0 := frozen_of_row _ (w.heap.size + 1) 0 _ _ HB2.out
    have af1 := frozen_of_row _ (w.heap.size + 1) 1 _ _ HB2.out
    go_wp2
    (try simp only [Exit.inBlock, Exit.then])
    obtain ⟨s1, s2, s3⟩ := set2 HB2.out (.string ⟨#[]⟩) (.int .i64 er)
    refine bodyPost_ret (v := .tuple #[.pointer (some ⟨p, 0, none⟩), .agg #[.string ⟨#[]⟩, .int .i64 er]]) (results_tc rfl _ _ (w.heap.size + 1) (.pointer (some ⟨p, 0, none⟩)) _ rfl rfl s1 rfl) rfl ?_
    exact ds_end HD.out HB2.out HP2.out HK2.out hB s2 s3 ⟨#[]⟩ rfl
set_option maxHeartbeats 1000000 in
theorem does_sync (B p : Nat) (D : Dk) (n t : Int) (A : Option Addr) (len cap : Nat) (zs : List Int) (w : World) (h : PDisk w B p D) (hB : B ≤ w.heap.size) :
    Calls Try.prog 18 #[.pointer (some ⟨p, 0, none⟩), .agg #[.int .i64 2, .int .i64 n, .int .i64 t, .slice A len cap]] w (DsPost w B D 2 n t zs) := by
  obtain ⟨er, her⟩ : ∃ er, er = (doD D 2 0 0 []).2.2 := ⟨_, rfl⟩
  have HD : Hid (doD D 2 n t zs = ((doD D 2 0 0 []).1, [], er)) := Lib.hid (by rw [do_two, her]; exact Prod.ext rfl (Prod.ext (do_txt D 2 0 0 [] (by decide)) rfl))
  have HE := Lib.hid her
  clear her
  have H := Lib.hid h
  clear h
  go_enter Try.func18, Try.ntmps18
  go_upto_region 0 with fail
  go_cut [3, 4, 5] (fun s3 s4 s5 wx => ECut w 2 n t A len cap s3 s4 s5 wx)
  case first =>
    go_wp2_with fail
    go_meet
    exact ecut_mk _ _ _ _ _ _ _
  case rest =>
    obtain ⟨rfl, rfl, rfl, hb0, hb1, hbe⟩ := hcut
    have HB1 := Lib.hid hb1
    have HP := Lib.hid (H.out.kept hbe)
    have HK := Lib.hid (Kp.of_below hbe hB)
    have o0 := cell_of hb0 (j := 0) rfl
    have o1 := cell_of hb0 (j := 1) rfl
    have o2 := cell_of hb0 (j := 2) rfl
    have o3 := cell_of hb0 (j := 3) rfl
    clear hb0 hb1
    have HC := Lib.hid (sync_any B p D wc HP.out)
    go_wp2_with fail
    refine HC.out.mono ?_
    rintro e w2 ⟨rfl, hp2, hk2⟩
    rw [← HE.out]
    have HP2 := Lib.hid hp2
    have HK2 := Lib.hid (HK.out.trans hk2)
    have HB2 := Lib.hid (hk2.tag _ _ _ _ HB1.out (by decide) (by decide) (by decide))
    clear hp2 hk2 o0 o1 o2 o3
    have a0 := cell_of HB2.out (j := 0) rfl
    have a1 := cell_of HB2.out (j := 1) rfl
    have af0 := frozen_of_row _ (w.heap.size + 1) 0 _ _ HB2.out
    have af1 := frozen_of_row _ (w.heap.size + 1) 1 _ _ HB2.out
    go_wp2
    (try simp only [Exit.inBlock, Exit.then])
    obtain ⟨s1, s2, s3⟩ := set2 HB2.out (.string ⟨#[]⟩) (.int .i64 er)
    refine bodyPost_ret (v := .tuple #[.pointer (some ⟨p, 0, none⟩), .agg #[.string ⟨#[]⟩, .int .i64 er]]) (results_tc rfl _ _ (w.heap.size + 1) (.pointer (some ⟨p, 0, none⟩)) _ rfl rfl s1 rfl) rfl ?_
    exact ds_end HD.out HB2.out HP2.out HK2.out hB s2 s3 ⟨#[]⟩ rfl
set_option maxHeartbeats 1000000 in
theorem does_arm (B p : Nat) (D : Dk) (n t : Int) (A : Option Addr) (len cap : Nat) (zs : List Int) (w : World) (h : PDisk w B p D) (hB : B ≤ w.heap.size) (hn : n ≤ 9223372036854775807) :
    Calls Try.prog 18 #[.pointer (some ⟨p, 0, none⟩), .agg #[.int .i64 3, .int .i64 n, .int .i64 t, .slice A len cap]] w (DsPost w B D 3 n t zs) := by
  have HD : Hid (doD D 3 n t zs = ({ D with armed := max n 0 }, [], 0)) := Lib.hid (by unfold doD; rw [if_pos rfl])
  have H := Lib.hid h
  clear h
  go_enter Try.func18, Try.ntmps18
  go_upto_region 0 with fail
  go_cut [3, 4, 5] (fun s3 s4 s5 wx => ECut w 3 n t A len cap s3 s4 s5 wx)
  case first =>
    go_wp2_with fail
    go_meet
    exact ecut_mk _ _ _ _ _ _ _
  case rest =>
    obtain ⟨rfl, rfl, rfl, hb0, hb1, hbe⟩ := hcut
    have HB1 := Lib.hid hb1
    have HP := Lib.hid (H.out.kept hbe)
    have HK := Lib.hid (Kp.of_below hbe hB)
    have o0 := cell_of hb0 (j := 0) rfl
    have o1 := cell_of hb0 (j := 1) rfl
    have o2 := cell_of hb0 (j := 2) rfl
    have o3 := cell_of hb0 (j := 3) rfl
    clear hb0 hb1
    have HC := Lib.hid (arm_any B p D n wc HP.out hn)
    go_wp2_with fail
    refine HC.out.mono ?_
    rintro e w2 ⟨rfl, hp2, hk2⟩
    have HP2 := Lib.hid hp2
    have HK2 := Lib.hid (HK.out.trans hk2)
    have HB2 := Lib.hid (hk2.tag _ _ _ _ HB1.out (by decide) (by decide) (by decide))
    clear hp2 hk2 o0 o1 o2 o3
    have a0 := cell_of HB2.out (j := 0) rfl
    have a1 := cell_of HB2.out (j := 1) rfl
    have af0 := frozen_of_row _ (w.heap.size + 1) 0 _ _ HB2.out
    have af1 := frozen_of_row _ (w.heap.size + 1) 1 _ _ HB2.out
    go_wp2
    (try simp only [Exit.inBlock, Exit.then])
    obtain ⟨s1, s2, s3⟩ := set2 HB2.out (.string ⟨#[]⟩) (.int .i64 0)
    refine bodyPost_ret (v := .tuple #[.pointer (some ⟨p, 0, none⟩), .agg #[.string ⟨#[]⟩, .int .i64 0]]) (results_tc rfl _ _ (w.heap.size + 1) (.pointer (some ⟨p, 0, none⟩)) _ rfl rfl s1 rfl) rfl ?_
    exact ds_end HD.out HB2.out HP2.out HK2.out hB s2 s3 ⟨#[]⟩ rfl
set_option maxHeartbeats 1000000 in
theorem does_crash (B p : Nat) (D : Dk) (n t : Int) (A : Option Addr) (len cap : Nat) (zs : List Int) (w : World) (h : PDisk w B p D) (hB : B ≤ w.heap.size) (hf : D.firm.length ≤ 65536) (hm : D.wait.length ≤ 100000) :
    Calls Try.prog 18 #[.pointer (some ⟨p, 0, none⟩), .agg #[.int .i64 4, .int .i64 n, .int .i64 t, .slice A len cap]] w (DsPost w B D 4 n t zs) := by
  have HD : Hid (doD D 4 n t zs = (crash D n t, [], 0)) := Lib.hid (by unfold doD; rw [if_neg (by decide), if_pos rfl])
  have H := Lib.hid h
  clear h
  go_enter Try.func18, Try.ntmps18
  go_upto_region 0 with fail
  go_cut [3, 4, 5] (fun s3 s4 s5 wx => ECut w 4 n t A len cap s3 s4 s5 wx)
  case first =>
    go_wp2_with fail
    go_meet
    exact ecut_mk _ _ _ _ _ _ _
  case rest =>
    obtain ⟨rfl, rfl, rfl, hb0, hb1, hbe⟩ := hcut
    have HB1 := Lib.hid hb1
    have HP := Lib.hid (H.out.kept hbe)
    have HK := Lib.hid (Kp.of_below hbe hB)
    have o0 := cell_of hb0 (j := 0) rfl
    have o1 := cell_of hb0 (j := 1) rfl
    have o2 := cell_of hb0 (j := 2) rfl
    have o3 := cell_of hb0 (j := 3) rfl
    clear hb0 hb1
    have HC := Lib.hid (crash_any B p D n t wc HP.out hf hm)
    have HBE := Lib.hid hbe
    clear hbe
    go_wp2_with fail
    refine HC.out.mono ?_
    rintro e w2 ⟨q, rfl, hp2, hb2⟩
    have hBc : B ≤ wc.heap.size := Nat.le_trans hB HBE.out.size
    have HP2 := Lib.hid (hp2.mono hBc)
    have hk2 := Kp.of_below hb2 hBc
    have HK2 := Lib.hid (HK.out.trans hk2)
    have HB2 := Lib.hid (hk2.tag _ _ _ _ HB1.out (by decide) (by decide) (by decide))
    clear hp2 hk2 hb2 hBc o0 o1 o2 o3
    have a0 := cell_of HB2.out (j := 0) rfl
    have a1 := cell_of HB2.out (j := 1) rfl
    have af0 := frozen_of_row _ (w.heap.size + 1) 0 _ _ HB2.out
    have af1 := frozen_of_row _ (w.heap.size + 1) 1 _ _ HB2.out
    go_wp2
    (try simp only [Exit.inBlock, Exit.then])
    obtain ⟨s1, s2, s3⟩ := set2 HB2.out (.string ⟨#[]⟩) (.int .i64 0)
    refine bodyPost_ret (v := .tuple #[.pointer (some ⟨q, 0, none⟩), .agg #[.string ⟨#[]⟩, .int .i64 0]]) (results_tc rfl _ _ (w.heap.size + 1) (.pointer (some ⟨q, 0, none⟩)) _ rfl rfl s1 rfl) rfl ?_
    exact ds_end HD.out HB2.out HP2.out HK2.out hB s2 s3 ⟨#[]⟩ rfl
set_option maxHeartbeats 1000000 in
theorem does_neg (B p : Nat) (D : Dk) (k : Int) (n t : Int) (A : Option Addr) (len cap : Nat) (zs : List Int) (w : World) (h : PDisk w B p D) (hB : B ≤ w.heap.size) (hk : k < 0) :
    Calls Try.prog 18 #[.pointer (some ⟨p, 0, none⟩), .agg #[.int .i64 k, .int .i64 n, .int .i64 t, .slice A len cap]] w (DsPost w B D k n t zs) := by
  have HD : Hid (doD D k n t zs = (D, [], 0)) := Lib.hid (by unfold doD; rw [if_neg (by omega), if_neg (by omega), if_pos (by omega)])
  have t0 : (k == 0) = false := by simp; omega
  have t1 : (k == 1) = false := by simp; omega
  have t2 : (k == 2) = false := by simp; omega
  have t3 : (k == 3) = false := by simp; omega
  have t4 : (k == 4) = false := by simp; omega
  have H := Lib.hid h
  clear h
  go_enter Try.func18, Try.ntmps18
  go_upto_region 0 with fail
  go_cut [3, 4, 5] (fun s3 s4 s5 wx => ECut w k n t A len cap s3 s4 s5 wx)
  case first =>
    go_wp2_with fail
    go_meet
    exact ecut_mk _ _ _ _ _ _ _
  case rest =>
    obtain ⟨rfl, rfl, rfl, hb0, hb1, hbe⟩ := hcut
    have HB1 := Lib.hid hb1
    have HP := Lib.hid (H.out.kept hbe)
    have HK := Lib.hid (Kp.of_below hbe hB)
    have o0 := cell_of hb0 (j := 0) rfl
    have o1 := cell_of hb0 (j := 1) rfl
    have o2 := cell_of hb0 (j := 2) rfl
    have o3 := cell_of hb0 (j := 3) rfl
    clear hb0 hb1
    have a0 := cell_of HB1.out (j := 0) rfl
    have a1 := cell_of HB1.out (j := 1) rfl
    have af0 := frozen_of_row _ (w.heap.size + 1) 0 _ _ HB1.out
    have af1 := frozen_of_row _ (w.heap.size + 1) 1 _ _ HB1.out
    go_wp2
    (try simp only [Exit.inBlock, Exit.then])
    obtain ⟨s1, s2, s3⟩ := set2 HB1.out (.string ⟨#[]⟩) (.int .i64 0)
    refine bodyPost_ret (v := .tuple #[.pointer (some ⟨p, 0, none⟩), .agg #[.string ⟨#[]⟩, .int .i64 0]]) (results_tc rfl _ _ (w.heap.size + 1) (.pointer (some ⟨p, 0, none⟩)) _ rfl rfl s1 rfl) rfl ?_
    exact ds_end HD.out HB1.out HP.out HK.out hB s2 s3 ⟨#[]⟩ rfl
set_option maxHeartbeats 1000000 in
theorem does_big (B p : Nat) (D : Dk) (k : Int) (n t : Int) (A : Option Addr) (len cap : Nat) (zs : List Int) (w : World) (h : PDisk w B p D) (hB : B ≤ w.heap.size) (hk : 4 < k) :
    Calls Try.prog 18 #[.pointer (some ⟨p, 0, none⟩), .agg #[.int .i64 k, .int .i64 n, .int .i64 t, .slice A len cap]] w (DsPost w B D k n t zs) := by
  have HD : Hid (doD D k n t zs = (D, [], 0)) := Lib.hid (by unfold doD; rw [if_neg (by omega), if_neg (by omega), if_pos (by omega)])
  have t0 : (k == 0) = false := by simp; omega
  have t1 : (k == 1) = false := by simp; omega
  have t2 : (k == 2) = false := by simp; omega
  have t3 : (k == 3) = false := by simp; omega
  have t4 : (k == 4) = false := by simp; omega
  have H := Lib.hid h
  clear h
  go_enter Try.func18, Try.ntmps18
  go_upto_region 0 with fail
  go_cut [3, 4, 5] (fun s3 s4 s5 wx => ECut w k n t A len cap s3 s4 s5 wx)
  case first =>
    go_wp2_with fail
    go_meet
    exact ecut_mk _ _ _ _ _ _ _
  case rest =>
    obtain ⟨rfl, rfl, rfl, hb0, hb1, hbe⟩ := hcut
    have HB1 := Lib.hid hb1
    have HP := Lib.hid (H.out.kept hbe)
    have HK := Lib.hid (Kp.of_below hbe hB)
    have o0 := cell_of hb0 (j := 0) rfl
    have o1 := cell_of hb0 (j := 1) rfl
    have o2 := cell_of hb0 (j := 2) rfl
    have o3 := cell_of hb0 (j := 3) rfl
    clear hb0 hb1
    have a0 := cell_of HB1.out (j := 0) rfl
    have a1 := cell_of HB1.out (j := 1) rfl
    have af0 := frozen_of_row _ (w.heap.size + 1) 0 _ _ HB1.out
    have af1 := frozen_of_row _ (w.heap.size + 1) 1 _ _ HB1.out
    go_wp2
    (try simp only [Exit.inBlock, Exit.then])
    obtain ⟨s1, s2, s3⟩ := set2 HB1.out (.string ⟨#[]⟩) (.int .i64 0)
    refine bodyPost_ret (v := .tuple #[.pointer (some ⟨p, 0, none⟩), .agg #[.string ⟨#[]⟩, .int .i64 0]]) (results_tc rfl _ _ (w.heap.size + 1) (.pointer (some ⟨p, 0, none⟩)) _ rfl rfl s1 rfl) rfl ?_
    exact ds_end HD.out HB1.out HP.out HK.out hB s2 s3 ⟨#[]⟩ rfl
set_option maxHeartbeats 1000000 in
theorem does_read (B p : Nat) (D : Dk) (n t : Int) (A : Option Addr) (len cap : Nat) (zs : List Int) (w : World) (h : PDisk w B p D) (hB : B ≤ w.heap.size) :
    Calls Try.prog 18 #[.pointer (some ⟨p, 0, none⟩), .agg #[.int .i64 1, .int .i64 n, .int .i64 t, .slice A len cap]] w (DsPost w B D 1 n t zs) := by
  obtain ⟨er, her⟩ : ∃ er, er = (doD D 1 n 0 []).2.2 := ⟨_, rfl⟩
  obtain ⟨bs, hbs⟩ : ∃ bs, bs = (doD D 1 n 0 []).2.1 := ⟨_, rfl⟩
  obtain ⟨S, hS⟩ : ∃ S, S = strOfNums bs := ⟨_, rfl⟩
  have HD : Hid (doD D 1 n t zs = ((doD D 1 n 0 []).1, bs, er)) := Lib.hid (by rw [do_one, her, hbs])
  have HD1 : Hid ((doD D 1 n 0 []).1 = D) := Lib.hid (by
    unfold doD
    rw [if_neg (by decide), if_neg (by decide), if_neg (by decide)]
    split
    · rfl
    · rw [if_neg (by decide)]
      split
      · rfl
      · rw [if_pos rfl])
  have HE := Lib.hid her
  have HBS := Lib.hid hbs
  have HS := Lib.hid hS
  clear her hbs hS
  have H := Lib.hid h
  clear h
  go_enter Try.func18, Try.ntmps18
  go_upto_region 0 with fail
  go_cut [3, 4, 5] (fun s3 s4 s5 wx => ECut w 1 n t A len cap s3 s4 s5 wx)
  case first =>
    go_wp2_with fail
    go_meet
    exact ecut_mk _ _ _ _ _ _ _
  case rest =>
    obtain ⟨rfl, rfl, rfl, hb0, hb1, hbe⟩ := hcut
    have HB1 := Lib.hid hb1
    have HP := Lib.hid (H.out.kept hbe)
    have HK := Lib.hid (Kp.of_below hbe hB)
    have o0 := cell_of hb0 (j := 0) rfl
    have o1 := cell_of hb0 (j := 1) rfl
    have o2 := cell_of hb0 (j := 2) rfl
    have o3 := cell_of hb0 (j := 3) rfl
    clear hb0 hb1
    have HC := Lib.hid (read_any B p D n wc HP.out)
    have HBE := Lib.hid hbe
    clear hbe
    go_wp2_with fail
    refine HC.out.mono ?_
    rintro e w2 ⟨A2, l2, c2, rfl, hr2, -, -, hb2, -⟩
    rw [← HE.out]
    rw [← HBS.out] at hr2
    have HR2 := Lib.hid hr2
    have hBc : B ≤ wc.heap.size := Nat.le_trans hB HBE.out.size
    have hk2 := Kp.of_below hb2 hBc
    have HP2 : Hid (PDisk w2 B p (doD D 1 n 0 []).1) := Lib.hid (by rw [HD1.out]; exact HP.out.kept hb2)
    have HK2 := Lib.hid (HK.out.trans hk2)
    have HB2 := Lib.hid (hk2.tag _ _ _ _ HB1.out (by decide) (by decide) (by decide))
    have hcv : (convert 36 9 (.slice A2 l2 c2)).run Try.prog w2.drew = .ok (.string S) w2.drew := by rw [HS.out]; exact conv_reads (hr2.kept (Below.refl _ _).drew)
    have hcv' : (convert 36 9 (.slice A2 l2 c2)).run Try.prog w2 = .ok (.string S) w2 := by rw [HS.out]; exact conv_reads hr2
    clear hr2 hb2 hk2 hBc o0 o1 o2 o3
    have a0 := cell_of HB2.out (j := 0) rfl
    have a1 := cell_of HB2.out (j := 1) rfl
    have af0 := frozen_of_row _ (w.heap.size + 1) 0 _ _ HB2.out
    have af1 := frozen_of_row _ (w.heap.size + 1) 1 _ _ HB2.out
    go_wp2
    go_region
    go_wp2
    (try simp only [Exit.inBlock, Exit.then])
    obtain ⟨s1, s2, s3⟩ := set2 HB2.out (.string S) (.int .i64 er)
    refine bodyPost_ret (v := .tuple #[.pointer (some ⟨p, 0, none⟩), .agg #[.string S, .int .i64 er]]) (results_tc rfl _ _ (w.heap.size + 1) (.pointer (some ⟨p, 0, none⟩)) _ rfl rfl s1 rfl) rfl ?_
    exact ds_end (w9 := ((w2.setCell ⟨w.heap.size + 1, 0, none⟩ (.string S)).setCell ⟨w.heap.size + 1, 1, none⟩ (.int .i64 er)).drew) HD.out HB2.out HP2.out HK2.out hB s2 (fun B hB => (s3 B hB).drew) S HS.out
theorem does_any (B p : Nat) (D : Dk) (k n t : Int) (A : Option Addr) (len cap : Nat) (zs : List Int) (w : World) (h : PDisk w B p D) (hB : B ≤ w.heap.size) (hf : D.firm.length ≤ 65536) (hm : D.wait.length ≤ 100000) (hn : n ≤ 9223372036854775807) (hR : ∀ w', Kp B w w' → Reads w' A len zs) :
    Calls Try.prog 18 #[.pointer (some ⟨p, 0, none⟩), .agg #[.int .i64 k, .int .i64 n, .int .i64 t, .slice A len cap]] w (DsPost w B D k n t zs) := by
  by_cases h0 : k = 0
  · subst h0; exact does_write B p D n t A len cap zs w h hB hm hR
  by_cases h1 : k = 1
  · subst h1; exact does_read B p D n t A len cap zs w h hB
  by_cases h2 : k = 2
  · subst h2; exact does_sync B p D n t A len cap zs w h hB
  by_cases h3 : k = 3
  · subst h3; exact does_arm B p D n t A len cap zs w h hB hn
  by_cases h4 : k = 4
  · subst h4; exact does_crash B p D n t A len cap zs w h hB hf hm
  by_cases hk : k < 0
  · exact does_neg B p D k n t A len cap zs w h hB hk
  · exact does_big B p D k n t A len cap zs w h hB (by omega)
end Go.Proofs.Ytogofgfdkkjnlaa
