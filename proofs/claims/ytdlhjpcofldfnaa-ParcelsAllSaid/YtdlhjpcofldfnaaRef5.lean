/-
  What the laws' own Do returns and leaves. Conditions: not too many messages and pairs.
-/
import Derived.Test.YtdlhjpcofldfnaaRef4
namespace Go.Proofs.Ytdlhjpcofldfnaa
set_option maxRecDepth 100000
open Go.ChangeShapes Go.WideShapes Go.ChangeAt Go.RowKit

/-- What a call of the laws' own makes. -/
structure Rs where
  L : List Pk
  qs : List (Int × Int)
  x : Pk
  is : Bool
def rdo (L : List Pk) (qs : List (Int × Int)) (o : Po) : Rs :=
  if o.k = 0 then ⟨if rsend L qs o.p = true then L ++ [o.p] else L, qs, pk0, rsend L qs o.p⟩
  else if o.k = 1 then ⟨tkL L o.K, qs, (atL L o.K).1, (atL L o.K).2⟩
  else if o.k = 2 then ⟨if rdbl L o.K = true then L ++ [(atL L o.K).1] else L, qs, pk0, rdbl L o.K⟩
  else if o.k = 3 then ⟨keepF (min o.K o.J) (max o.K o.J) L, qs ++ [(o.K, o.J)], pk0, false⟩
  else if o.k = 4 then ⟨L, [], pk0, false⟩
  else ⟨L, qs, pk0, false⟩
def RDPost (w : World) (A1 A2 : Option Addr) (D : Rs) (e : Ending) (w' : World) : Prop :=
  ∃ A1' m c1' A2' n2' c2', e = .returned (.tuple #[.agg #[.slice A1' m c1', .slice A2' n2' c2'], .agg #[.int .i64 D.x.f, .int .i64 D.x.t, .string D.x.b], .bool D.is]) ∧ RNet w A1 A2 w' A1' A2' m n2' D.L D.qs
theorem PReads.stay {w w' : World} {A : Option Addr} {n : Nat} {l : List Pk} (h : PReads w A n l) (hk : ∀ a, A = some a → w'.heap[a.block]? = w.heap[a.block]?) : PReads w' A n l := by
  refine ⟨h.len, fun hn => ?_, h.ok⟩
  obtain ⟨b, off, e, hc⟩ := h.cells hn
  have hb : w'.heap[b]? = w.heap[b]? := hk _ e
  exact ⟨b, off, e, fun i hi => ⟨(World.cell?_of_block (a := ⟨b, _, none⟩) hb).trans (hc i hi).1, (World.cell?_of_block (a := ⟨b, _, none⟩) hb).trans (hc i hi).2.1, (World.cell?_of_block (a := ⟨b, _, none⟩) hb).trans (hc i hi).2.2⟩⟩
theorem QReads.stay {w w' : World} {A : Option Addr} {n : Nat} {l : List (Int × Int)} (h : QReads w A n l) (hk : ∀ a, A = some a → w'.heap[a.block]? = w.heap[a.block]?) : QReads w' A n l := by
  refine ⟨h.len, fun hn => ?_⟩
  obtain ⟨b, off, e, hc⟩ := h.cells hn
  have hb : w'.heap[b]? = w.heap[b]? := hk _ e
  exact ⟨b, off, e, fun i hi => ⟨(World.cell?_of_block (a := ⟨b, _, none⟩) hb).trans (hc i hi).1, (World.cell?_of_block (a := ⟨b, _, none⟩) hb).trans (hc i hi).2⟩⟩
/-- A call within a call; two boxes are written into behind it. -/
theorem RNet.out {w wb w5 w6 w9 : World} {A1 A2 A1' A2' : Option Addr} {m n2 br bq : Nat} {L : List Pk} {qs : List (Int × Int)} {u v : Value} {x : Pk} (h : RNet wb A1 A2 w5 A1' A2' m n2 L qs) (hb : Below w.heap.size w wb) (h56 : Below w5.heap.size w5 w6) (ht : Two br bq u v x w6 w9)
    (h1 : ∀ a, A1 = some a → a.block < w.heap.size) (h2 : ∀ a, A2 = some a → a.block < w.heap.size) (r1 : w.heap.size ≤ br) (r2 : br < wb.heap.size) (q1 : w.heap.size ≤ bq) (q2 : bq < wb.heap.size) : RNet w A1 A2 w9 A1' A2' m n2 L qs := by
  have b6 : Below w.heap.size w w6 := (hb.trans (h.below.mono hb.size)).trans (h56.mono (Nat.le_trans hb.size h.below.size))
  have hsz : w5.heap.size ≤ w9.heap.size := Nat.le_trans h56.size (ht.below 0 _ (Below.refl _ _) (Nat.zero_le _) (Nat.zero_le _)).size
  have s5 := h.below.size
  have sb := hb.size
  have keep : ∀ a : Addr, (a.block < w.heap.size ∨ (wb.heap.size ≤ a.block ∧ a.block < w5.heap.size)) → w9.heap[a.block]? = w5.heap[a.block]? := fun a ha => (ht.rest a.block (by omega) (by omega)).trans (h56.block a.block (by omega))
  refine ⟨h.pk.stay (fun a e => keep a ?_), h.qk.stay (fun a e => keep a ?_), fun a e => ?_, fun a e => ?_, ht.below _ _ b6 r1 q1⟩
  · exact (h.at1 a e).imp (fun e2 => h1 a e2) id
  · exact (h.at2 a e).imp (fun e2 => h2 a e2) id
  · exact (h.at1 a e).imp id (fun e2 => ⟨by omega, by omega⟩)
  · exact (h.at2 a e).imp id (fun e2 => ⟨by omega, by omega⟩)
set_option maxHeartbeats 8000000 in
theorem rdo_any {w : World} {A1 A2 : Option Addr} {n1 c1 n2 c2 : Nat} {L : List Pk} {qs : List (Int × Int)} (hp : PReads w A1 n1 L) (hq : QReads w A2 n2 qs) (hn1 : n1 ≤ 2000) (hn2 : n2 ≤ 1000) (h1 : ∀ a, A1 = some a → a.block < w.heap.size) (h2 : ∀ a, A2 = some a → a.block < w.heap.size) (o : Po) (ho : PoOk o) :
    Calls Try.prog 10 #[.agg #[.slice A1 n1 c1, .slice A2 n2 c2], .agg #[.int .i64 o.k, .int .i64 o.K, .int .i64 o.J, .int .i64 o.p.f, .int .i64 o.p.t, .string o.p.b]] w (RDPost w A1 A2 (rdo L qs o)) := by
  obtain ⟨bz, hbz⟩ : ∃ b, b = w.heap.size := ⟨_, rfl⟩
  obtain ⟨wbz, hwbz⟩ : ∃ q, q = w.alloc (.cells #[.slice A1 n1 c1, .slice A2 n2 c2] 29) := ⟨_, rfl⟩
  have ebz : bz = w.heap.size := by rw [hbz]
  have hbwbz : Below w.heap.size w wbz := by rw [hwbz]; exact (Below.refl _ _).alloc (by omega) _
  obtain ⟨bo, hbo⟩ : ∃ b, b = w.heap.size + 1 := ⟨_, rfl⟩
  obtain ⟨wbo, hwbo⟩ : ∃ q, q = wbz.alloc (.cells #[.int .i64 o.k, .int .i64 o.K, .int .i64 o.J, .int .i64 o.p.f, .int .i64 o.p.t, .string o.p.b] 33) := ⟨_, rfl⟩
  have ebo : bo = wbz.heap.size := by rw [hbo, hwbz]; simp
  have hbwbo : Below w.heap.size w wbo := by rw [hwbo]; exact (hbwbz).alloc (by omega) _
  obtain ⟨br, hbr⟩ : ∃ b, b = w.heap.size + 2 := ⟨_, rfl⟩
  obtain ⟨wbr, hwbr⟩ : ∃ q, q = wbo.alloc (.cells #[.slice none 0 0, .slice none 0 0] 29) := ⟨_, rfl⟩
  have ebr : br = wbo.heap.size := by rw [hbr, hwbo, hwbz]; simp
  have hbwbr : Below w.heap.size w wbr := by rw [hwbr]; exact (hbwbo).alloc (by omega) _
  obtain ⟨bq, hbq⟩ : ∃ b, b = w.heap.size + 3 := ⟨_, rfl⟩
  obtain ⟨wbq, hwbq⟩ : ∃ q, q = wbr.alloc (.cells #[.int .i64 0, .int .i64 0, .string ⟨#[]⟩] 31) := ⟨_, rfl⟩
  have ebq : bq = wbr.heap.size := by rw [hbq, hwbr, hwbo, hwbz]; simp
  have hbwbq : Below w.heap.size w wbq := by rw [hwbq]; exact (hbwbr).alloc (by omega) _
  have xbz : wbz.heap[bz]? = some (.cells #[.slice A1 n1 c1, .slice A2 n2 c2] 29 (0, 0)) := by rw [hwbz, ebz]; exact new_block _ _
  replace xbz : wbo.heap[bz]? = some (.cells #[.slice A1 n1 c1, .slice A2 n2 c2] 29 (0, 0)) := by rw [hwbo]; exact ((box_below _ _).block _ (Array.getElem?_eq_some_iff.1 xbz).1).trans xbz
  replace xbz : wbr.heap[bz]? = some (.cells #[.slice A1 n1 c1, .slice A2 n2 c2] 29 (0, 0)) := by rw [hwbr]; exact ((box_below _ _).block _ (Array.getElem?_eq_some_iff.1 xbz).1).trans xbz
  replace xbz : wbq.heap[bz]? = some (.cells #[.slice A1 n1 c1, .slice A2 n2 c2] 29 (0, 0)) := by rw [hwbq]; exact ((box_below _ _).block _ (Array.getElem?_eq_some_iff.1 xbz).1).trans xbz
  have xbo : wbo.heap[bo]? = some (.cells #[.int .i64 o.k, .int .i64 o.K, .int .i64 o.J, .int .i64 o.p.f, .int .i64 o.p.t, .string o.p.b] 33 (0, 0)) := by rw [hwbo, ebo]; exact new_block _ _
  replace xbo : wbr.heap[bo]? = some (.cells #[.int .i64 o.k, .int .i64 o.K, .int .i64 o.J, .int .i64 o.p.f, .int .i64 o.p.t, .string o.p.b] 33 (0, 0)) := by rw [hwbr]; exact ((box_below _ _).block _ (Array.getElem?_eq_some_iff.1 xbo).1).trans xbo
  replace xbo : wbq.heap[bo]? = some (.cells #[.int .i64 o.k, .int .i64 o.K, .int .i64 o.J, .int .i64 o.p.f, .int .i64 o.p.t, .string o.p.b] 33 (0, 0)) := by rw [hwbq]; exact ((box_below _ _).block _ (Array.getElem?_eq_some_iff.1 xbo).1).trans xbo
  have xbr : wbr.heap[br]? = some (.cells #[.slice none 0 0, .slice none 0 0] 29 (0, 0)) := by rw [hwbr, ebr]; exact new_block _ _
  replace xbr : wbq.heap[br]? = some (.cells #[.slice none 0 0, .slice none 0 0] 29 (0, 0)) := by rw [hwbq]; exact ((box_below _ _).block _ (Array.getElem?_eq_some_iff.1 xbr).1).trans xbr
  have xbq : wbq.heap[bq]? = some (.cells #[.int .i64 0, .int .i64 0, .string ⟨#[]⟩] 31 (0, 0)) := by rw [hwbq, ebq]; exact new_block _ _
  have Xbz := Lib.hid xbz
  have Ebz := Lib.hid hbz
  have Wbz := Lib.hid hwbz
  have Sbz : Hid (w.heap.size ≤ bz) := Lib.hid (by rw [hbz]; omega)
  have Xbo := Lib.hid xbo
  have Ebo := Lib.hid hbo
  have Wbo := Lib.hid hwbo
  have Sbo : Hid (w.heap.size ≤ bo) := Lib.hid (by rw [hbo]; omega)
  have Xbr := Lib.hid xbr
  have Ebr := Lib.hid hbr
  have Wbr := Lib.hid hwbr
  have Sbr : Hid (w.heap.size ≤ br) := Lib.hid (by rw [hbr]; omega)
  have Xbq := Lib.hid xbq
  have Ebq := Lib.hid hbq
  have Wbq := Lib.hid hwbq
  have Sbq : Hid (w.heap.size ≤ bq) := Lib.hid (by rw [hbq]; omega)
  have HB := Lib.hid hbwbq
  clear hbwbz hwbz hbwbo hwbo hbwbr hwbr hbwbq hwbq hbz ebz xbz hbo ebo xbo hbr ebr xbr hbq ebq xbq
  have HP := Lib.hid hp
  have HQ := Lib.hid hq
  have HO := Lib.hid ho
  have HA1 := Lib.hid h1
  have HA2 := Lib.hid h2
  have HNQ : Hid (br ≠ bq) := Lib.hid (by have := Ebq.out; have := Ebr.out; omega)
  have HP1 := Lib.hid (hp.kept HB.out)
  have HQ1 := Lib.hid (hq.kept HB.out)
  have XZ1 := Xbz
  have XO1 := Xbo
  have XR1 := Xbr
  have XQ1 := Xbq
  have HRL : Hid (br < wbq.heap.size) := Lib.hid (Array.getElem?_eq_some_iff.1 XR1.out).1
  have HQL : Hid (bq < wbq.heap.size) := Lib.hid (Array.getElem?_eq_some_iff.1 XQ1.out).1
  obtain ⟨D, hd⟩ : ∃ D, D = rdo L qs o := ⟨_, rfl⟩
  rw [← hd]
  have HD0 := Lib.hid hd
  clear hp hq ho h1 h2 hd Xbz Xbo Xbr Xbq
  by_cases k0 : o.k = 0
  · have HC := Lib.hid (rsend_any (c1 := c1) (c2 := c2) HP1.out HQ1.out hn1 (by omega) o.p HO.out.2.2)
    obtain ⟨is, his⟩ : ∃ q, q = rsend L qs o.p := ⟨_, rfl⟩
    obtain ⟨L2, hl2⟩ : ∃ q, q = if rsend L qs o.p = true then L ++ [o.p] else L := ⟨_, rfl⟩
    rw [← hl2, ← his] at HC
    have HD : Hid (D = ⟨L2, qs, pk0, is⟩) := Lib.hid (by rw [HD0.out]; unfold rdo; rw [if_pos k0, hl2, his])
    have HK := Lib.hid k0
    clear his hl2 k0
    go_enter Try.func10, Try.ntmps10
    go_upto_region 1 with fail
    rw [← Wbz.out, ← Wbo.out, ← Wbr.out, ← Wbq.out, ← Ebq.out, ← Ebr.out, ← Ebo.out, ← Ebz.out]
    have z0 := cell_of XZ1.out (j := 0) rfl
    have z1 := cell_of XZ1.out (j := 1) rfl
    have o0 := cell_of XO1.out (j := 0) rfl
    have o3 := cell_of XO1.out (j := 3) rfl
    have o4 := cell_of XO1.out (j := 4) rfl
    have o5 := cell_of XO1.out (j := 5) rfl
    rw [HK.out] at o0
    go_wp2_with fail
    refine HC.out.mono ?_
    rintro e w5 ⟨A1', m', c1', rfl, hr5⟩
    have HR5 := Lib.hid hr5
    clear hr5
    obtain ⟨bm, hbm⟩ : ∃ b, b = w5.heap.size := ⟨_, rfl⟩
    obtain ⟨w6, hw6⟩ : ∃ q, q = w5.alloc (.cells #[.slice A1' m' c1', .slice A2 n2 c2] 29) := ⟨_, rfl⟩
    have h56 : Below w5.heap.size w5 w6 := by rw [hw6]; exact box_below w5 _
    have XM6 : Hid (w6.heap[bm]? = some (.cells #[.slice A1' m' c1', .slice A2 n2 c2] 29 (0, 0))) := Lib.hid (by rw [hw6, hbm]; exact new_block w5 _)
    have hb6 := HR5.out.below.trans (h56.mono HR5.out.below.size)
    have XR6 := Lib.hid ((hb6.block _ (Array.getElem?_eq_some_iff.1 XR1.out).1).trans XR1.out)
    have XQ6 := Lib.hid ((hb6.block _ (Array.getElem?_eq_some_iff.1 XQ1.out).1).trans XQ1.out)
    have H56 := Lib.hid h56
    have HW6 := Lib.hid hw6
    have HBM := Lib.hid hbm
    clear h56 hw6 hbm hb6
    go_upto_region 4 with fail
    rw [← HW6.out, ← HBM.out]
    clear z0 z1 o0 o3 o4 o5
    have m0 := cell_of XM6.out (j := 0) rfl
    have m1 := cell_of XM6.out (j := 1) rfl
    have hne3 : bm ≠ br := by have h1 := HBM.out; have h2 := HRL.out; have h3 := HR5.out.below.size; omega
    have hne4 := Ne.symm hne3
    have hne5 : bm ≠ bq := by have h1 := HBM.out; have h2 := HQL.out; have h3 := HR5.out.below.size; omega
    have hne6 := Ne.symm hne5
    have TA := two_a XR6.out XQ6.out HNQ.out (.slice A1' m' c1') (.slice A2 n2 c2) pk0
    obtain ⟨w9, hw9⟩ : ∃ q, q = ((((w6.setCell ⟨br, 0, none⟩ (.slice A1' m' c1')).setCell ⟨br, 1, none⟩ (.slice A2 n2 c2)).setCell ⟨bq, 0, none⟩ (.int .i64 0)).setCell ⟨bq, 1, none⟩ (.int .i64 0)).setCell ⟨bq, 2, none⟩ (.string ⟨#[]⟩) := ⟨_, rfl⟩
    replace TA : Two br bq (.slice A1' m' c1') (.slice A2 n2 c2) pk0 w6 w9 := by rw [hw9]; exact TA
    have t0 := cell_of TA.r (j := 0) rfl
    have t1 := cell_of TA.r (j := 1) rfl
    have t2 : w9.cell? ⟨bq, 0, none⟩ = some (.int .i64 0) := cell_of TA.q (j := 0) rfl
    have t3 : w9.cell? ⟨bq, 1, none⟩ = some (.int .i64 0) := cell_of TA.q (j := 1) rfl
    have t4 : w9.cell? ⟨bq, 2, none⟩ = some (.string ⟨#[]⟩) := cell_of TA.q (j := 2) rfl
    have HE : Hid (RDPost w A1 A2 D (.returned (.tuple #[.agg #[.slice A1' m' c1', .slice A2 n2 c2], .agg #[.int .i64 0, .int .i64 0, .string ⟨#[]⟩], .bool is])) w9) := Lib.hid (by rw [HD.out]; exact ⟨_, _, _, _, _, _, rfl, RNet.out HR5.out HB.out H56.out TA HA1.out HA2.out Sbr.out HRL.out Sbq.out HQL.out⟩)
    have HW9 := Lib.hid hw9
    clear TA hw9
    have r0 := cell_of XR6.out (j := 0) rfl
    have r1 := cell_of XR6.out (j := 1) rfl
    have q0 := cell_of XQ6.out (j := 0) rfl
    have q1 := cell_of XQ6.out (j := 1) rfl
    have q2 := cell_of XQ6.out (j := 2) rfl
    have f0 := frozen_of_row w6 br 0 _ _ XR6.out
    have f1 := frozen_of_row w6 br 1 _ _ XR6.out
    have g0 := frozen_of_row w6 bq 0 _ _ XQ6.out
    have g1 := frozen_of_row w6 bq 1 _ _ XQ6.out
    have g2 := frozen_of_row w6 bq 2 _ _ XQ6.out
    have hne1 := HNQ.out
    have hne2 := Ne.symm HNQ.out
    go_wp2_with fail
    rw [← HW9.out]
    exact bodyPost_ret (v := .tuple #[.agg #[.slice A1' m' c1', .slice A2 n2 c2], .agg #[.int .i64 0, .int .i64 0, .string ⟨#[]⟩], .bool is]) (by simp [results, Try.results10, go_sem, t0, t1, t2, t3, t4]) rfl HE.out
  by_cases k1 : o.k = 1
  · have HC := Lib.hid (rtake_any (c1 := c1) (c2 := c2) HP1.out HQ1.out hn1 o.K)
    obtain ⟨is, his⟩ : ∃ q, q = (atL L o.K).2 := ⟨_, rfl⟩
    obtain ⟨x, hx⟩ : ∃ q, q = (atL L o.K).1 := ⟨_, rfl⟩
    obtain ⟨L2, hl2⟩ : ∃ q, q = tkL L o.K := ⟨_, rfl⟩
    rw [← his, ← hl2, ← hx] at HC
    have HD : Hid (D = ⟨L2, qs, x, is⟩) := Lib.hid (by rw [HD0.out]; unfold rdo; rw [if_neg k0, if_pos k1, hl2, his, hx])
    have HK := Lib.hid k1
    clear his hl2 hx k0 k1
    go_enter Try.func10, Try.ntmps10
    go_upto_region 1 with fail
    rw [← Wbz.out, ← Wbo.out, ← Wbr.out, ← Wbq.out, ← Ebq.out, ← Ebr.out, ← Ebo.out, ← Ebz.out]
    have z0 := cell_of XZ1.out (j := 0) rfl
    have z1 := cell_of XZ1.out (j := 1) rfl
    have o0 := cell_of XO1.out (j := 0) rfl
    have o1 := cell_of XO1.out (j := 1) rfl
    rw [HK.out] at o0
    go_wp2_with fail
    refine HC.out.mono ?_
    rintro e w6 ⟨A1', m', c1', rfl, hr5⟩
    have HR5 := Lib.hid hr5
    have hb6 := hr5.below
    have H56 := Lib.hid (Below.refl w6.heap.size w6)
    have XR6 := Lib.hid ((hb6.block _ (Array.getElem?_eq_some_iff.1 XR1.out).1).trans XR1.out)
    have XQ6 := Lib.hid ((hb6.block _ (Array.getElem?_eq_some_iff.1 XQ1.out).1).trans XQ1.out)
    clear hr5 hb6 z0 z1 o0 o1
    have TA := two_a XR6.out XQ6.out HNQ.out (.slice A1' m' c1') (.slice A2 n2 c2) x
    obtain ⟨w9, hw9⟩ : ∃ q, q = ((((w6.setCell ⟨br, 0, none⟩ (.slice A1' m' c1')).setCell ⟨br, 1, none⟩ (.slice A2 n2 c2)).setCell ⟨bq, 0, none⟩ (.int .i64 x.f)).setCell ⟨bq, 1, none⟩ (.int .i64 x.t)).setCell ⟨bq, 2, none⟩ (.string x.b) := ⟨_, rfl⟩
    replace TA : Two br bq (.slice A1' m' c1') (.slice A2 n2 c2) x w6 w9 := by rw [hw9]; exact TA
    have t0 := cell_of TA.r (j := 0) rfl
    have t1 := cell_of TA.r (j := 1) rfl
    have t2 : w9.cell? ⟨bq, 0, none⟩ = some (.int .i64 x.f) := cell_of TA.q (j := 0) rfl
    have t3 : w9.cell? ⟨bq, 1, none⟩ = some (.int .i64 x.t) := cell_of TA.q (j := 1) rfl
    have t4 : w9.cell? ⟨bq, 2, none⟩ = some (.string x.b) := cell_of TA.q (j := 2) rfl
    have HE : Hid (RDPost w A1 A2 D (.returned (.tuple #[.agg #[.slice A1' m' c1', .slice A2 n2 c2], .agg #[.int .i64 x.f, .int .i64 x.t, .string x.b], .bool is])) w9) := Lib.hid (by rw [HD.out]; exact ⟨_, _, _, _, _, _, rfl, RNet.out HR5.out HB.out H56.out TA HA1.out HA2.out Sbr.out HRL.out Sbq.out HQL.out⟩)
    have HW9 := Lib.hid hw9
    clear TA hw9
    have r0 := cell_of XR6.out (j := 0) rfl
    have r1 := cell_of XR6.out (j := 1) rfl
    have q0 := cell_of XQ6.out (j := 0) rfl
    have q1 := cell_of XQ6.out (j := 1) rfl
    have q2 := cell_of XQ6.out (j := 2) rfl
    have f0 := frozen_of_row w6 br 0 _ _ XR6.out
    have f1 := frozen_of_row w6 br 1 _ _ XR6.out
    have g0 := frozen_of_row w6 bq 0 _ _ XQ6.out
    have g1 := frozen_of_row w6 bq 1 _ _ XQ6.out
    have g2 := frozen_of_row w6 bq 2 _ _ XQ6.out
    have hne1 := HNQ.out
    have hne2 := Ne.symm HNQ.out
    go_wp2_with fail
    rw [← HW9.out]
    exact bodyPost_ret (v := .tuple #[.agg #[.slice A1' m' c1', .slice A2 n2 c2], .agg #[.int .i64 x.f, .int .i64 x.t, .string x.b], .bool is]) (by simp [results, Try.results10, go_sem, t0, t1, t2, t3, t4]) rfl HE.out
  by_cases k2 : o.k = 2
  · have HC := Lib.hid (rdouble_any (c1 := c1) (c2 := c2) HP1.out HQ1.out hn1 o.K)
    obtain ⟨is, his⟩ : ∃ q, q = rdbl L o.K := ⟨_, rfl⟩
    obtain ⟨L2, hl2⟩ : ∃ q, q = if rdbl L o.K = true then L ++ [(atL L o.K).1] else L := ⟨_, rfl⟩
    rw [← hl2, ← his] at HC
    have HD : Hid (D = ⟨L2, qs, pk0, is⟩) := Lib.hid (by rw [HD0.out]; unfold rdo; rw [if_neg k0, if_neg k1, if_pos k2, hl2, his])
    have HK := Lib.hid k2
    clear his hl2 k0 k1 k2
    go_enter Try.func10, Try.ntmps10
    go_upto_region 1 with fail
    rw [← Wbz.out, ← Wbo.out, ← Wbr.out, ← Wbq.out, ← Ebq.out, ← Ebr.out, ← Ebo.out, ← Ebz.out]
    have z0 := cell_of XZ1.out (j := 0) rfl
    have z1 := cell_of XZ1.out (j := 1) rfl
    have o0 := cell_of XO1.out (j := 0) rfl
    have o1 := cell_of XO1.out (j := 1) rfl
    rw [HK.out] at o0
    go_wp2_with fail
    refine HC.out.mono ?_
    rintro e w5 ⟨A1', m', c1', rfl, hr5⟩
    have HR5 := Lib.hid hr5
    clear hr5
    obtain ⟨bm, hbm⟩ : ∃ b, b = w5.heap.size := ⟨_, rfl⟩
    obtain ⟨w6, hw6⟩ : ∃ q, q = w5.alloc (.cells #[.slice A1' m' c1', .slice A2 n2 c2] 29) := ⟨_, rfl⟩
    have h56 : Below w5.heap.size w5 w6 := by rw [hw6]; exact box_below w5 _
    have XM6 : Hid (w6.heap[bm]? = some (.cells #[.slice A1' m' c1', .slice A2 n2 c2] 29 (0, 0))) := Lib.hid (by rw [hw6, hbm]; exact new_block w5 _)
    have hb6 := HR5.out.below.trans (h56.mono HR5.out.below.size)
    have XR6 := Lib.hid ((hb6.block _ (Array.getElem?_eq_some_iff.1 XR1.out).1).trans XR1.out)
    have XQ6 := Lib.hid ((hb6.block _ (Array.getElem?_eq_some_iff.1 XQ1.out).1).trans XQ1.out)
    have H56 := Lib.hid h56
    have HW6 := Lib.hid hw6
    have HBM := Lib.hid hbm
    clear h56 hw6 hbm hb6
    go_upto_region 9 with fail
    rw [← HW6.out, ← HBM.out]
    clear z0 z1 o0 o1
    have m0 := cell_of XM6.out (j := 0) rfl
    have m1 := cell_of XM6.out (j := 1) rfl
    have hne3 : bm ≠ br := by have h1 := HBM.out; have h2 := HRL.out; have h3 := HR5.out.below.size; omega
    have hne4 := Ne.symm hne3
    have hne5 : bm ≠ bq := by have h1 := HBM.out; have h2 := HQL.out; have h3 := HR5.out.below.size; omega
    have hne6 := Ne.symm hne5
    have TA := two_a XR6.out XQ6.out HNQ.out (.slice A1' m' c1') (.slice A2 n2 c2) pk0
    obtain ⟨w9, hw9⟩ : ∃ q, q = ((((w6.setCell ⟨br, 0, none⟩ (.slice A1' m' c1')).setCell ⟨br, 1, none⟩ (.slice A2 n2 c2)).setCell ⟨bq, 0, none⟩ (.int .i64 0)).setCell ⟨bq, 1, none⟩ (.int .i64 0)).setCell ⟨bq, 2, none⟩ (.string ⟨#[]⟩) := ⟨_, rfl⟩
    replace TA : Two br bq (.slice A1' m' c1') (.slice A2 n2 c2) pk0 w6 w9 := by rw [hw9]; exact TA
    have t0 := cell_of TA.r (j := 0) rfl
    have t1 := cell_of TA.r (j := 1) rfl
    have t2 : w9.cell? ⟨bq, 0, none⟩ = some (.int .i64 0) := cell_of TA.q (j := 0) rfl
    have t3 : w9.cell? ⟨bq, 1, none⟩ = some (.int .i64 0) := cell_of TA.q (j := 1) rfl
    have t4 : w9.cell? ⟨bq, 2, none⟩ = some (.string ⟨#[]⟩) := cell_of TA.q (j := 2) rfl
    have HE : Hid (RDPost w A1 A2 D (.returned (.tuple #[.agg #[.slice A1' m' c1', .slice A2 n2 c2], .agg #[.int .i64 0, .int .i64 0, .string ⟨#[]⟩], .bool is])) w9) := Lib.hid (by rw [HD.out]; exact ⟨_, _, _, _, _, _, rfl, RNet.out HR5.out HB.out H56.out TA HA1.out HA2.out Sbr.out HRL.out Sbq.out HQL.out⟩)
    have HW9 := Lib.hid hw9
    clear TA hw9
    have r0 := cell_of XR6.out (j := 0) rfl
    have r1 := cell_of XR6.out (j := 1) rfl
    have q0 := cell_of XQ6.out (j := 0) rfl
    have q1 := cell_of XQ6.out (j := 1) rfl
    have q2 := cell_of XQ6.out (j := 2) rfl
    have f0 := frozen_of_row w6 br 0 _ _ XR6.out
    have f1 := frozen_of_row w6 br 1 _ _ XR6.out
    have g0 := frozen_of_row w6 bq 0 _ _ XQ6.out
    have g1 := frozen_of_row w6 bq 1 _ _ XQ6.out
    have g2 := frozen_of_row w6 bq 2 _ _ XQ6.out
    have hne1 := HNQ.out
    have hne2 := Ne.symm HNQ.out
    go_wp2_with fail
    rw [← HW9.out]
    exact bodyPost_ret (v := .tuple #[.agg #[.slice A1' m' c1', .slice A2 n2 c2], .agg #[.int .i64 0, .int .i64 0, .string ⟨#[]⟩], .bool is]) (by simp [results, Try.results10, go_sem, t0, t1, t2, t3, t4]) rfl HE.out
  by_cases k3 : o.k = 3
  · have HC := Lib.hid (rpart_any (c1 := c1) (c2 := c2) HP1.out HQ1.out hn1 hn2 o.K o.J)
    obtain ⟨L2, hl2⟩ : ∃ q, q = keepF (min o.K o.J) (max o.K o.J) L := ⟨_, rfl⟩
    rw [← hl2] at HC
    have HD : Hid (D = ⟨L2, qs ++ [(o.K, o.J)], pk0, false⟩) := Lib.hid (by rw [HD0.out]; unfold rdo; rw [if_neg k0, if_neg k1, if_neg k2, if_pos k3, hl2])
    have HK := Lib.hid k3
    clear hl2 k0 k1 k2 k3
    go_enter Try.func10, Try.ntmps10
    go_upto_region 1 with fail
    rw [← Wbz.out, ← Wbo.out, ← Wbr.out, ← Wbq.out, ← Ebq.out, ← Ebr.out, ← Ebo.out, ← Ebz.out]
    have z0 := cell_of XZ1.out (j := 0) rfl
    have z1 := cell_of XZ1.out (j := 1) rfl
    have o0 := cell_of XO1.out (j := 0) rfl
    have o1 := cell_of XO1.out (j := 1) rfl
    have o2 := cell_of XO1.out (j := 2) rfl
    rw [HK.out] at o0
    go_wp2_with fail
    refine HC.out.mono ?_
    rintro e w6 ⟨A1', m', c1', A2', c2', rfl, hr5⟩
    have HR5 := Lib.hid hr5
    have hb6 := hr5.below
    have H56 := Lib.hid (Below.refl w6.heap.size w6)
    have XR6 := Lib.hid ((hb6.block _ (Array.getElem?_eq_some_iff.1 XR1.out).1).trans XR1.out)
    have XQ6 := Lib.hid ((hb6.block _ (Array.getElem?_eq_some_iff.1 XQ1.out).1).trans XQ1.out)
    clear hr5 hb6 z0 z1 o0 o1 o2
    have TA := two_a XR6.out XQ6.out HNQ.out (.slice A1' m' c1') ((.slice A2' (n2 + 1) c2')) pk0
    obtain ⟨w9, hw9⟩ : ∃ q, q = ((((w6.setCell ⟨br, 0, none⟩ (.slice A1' m' c1')).setCell ⟨br, 1, none⟩ ((.slice A2' (n2 + 1) c2'))).setCell ⟨bq, 0, none⟩ (.int .i64 0)).setCell ⟨bq, 1, none⟩ (.int .i64 0)).setCell ⟨bq, 2, none⟩ (.string ⟨#[]⟩) := ⟨_, rfl⟩
    replace TA : Two br bq (.slice A1' m' c1') ((.slice A2' (n2 + 1) c2')) pk0 w6 w9 := by rw [hw9]; exact TA
    have t0 := cell_of TA.r (j := 0) rfl
    have t1 := cell_of TA.r (j := 1) rfl
    have t2 : w9.cell? ⟨bq, 0, none⟩ = some (.int .i64 0) := cell_of TA.q (j := 0) rfl
    have t3 : w9.cell? ⟨bq, 1, none⟩ = some (.int .i64 0) := cell_of TA.q (j := 1) rfl
    have t4 : w9.cell? ⟨bq, 2, none⟩ = some (.string ⟨#[]⟩) := cell_of TA.q (j := 2) rfl
    have HE : Hid (RDPost w A1 A2 D (.returned (.tuple #[.agg #[.slice A1' m' c1', (.slice A2' (n2 + 1) c2')], .agg #[.int .i64 0, .int .i64 0, .string ⟨#[]⟩], .bool false])) w9) := Lib.hid (by rw [HD.out]; exact ⟨_, _, _, _, _, _, rfl, RNet.out HR5.out HB.out H56.out TA HA1.out HA2.out Sbr.out HRL.out Sbq.out HQL.out⟩)
    have HW9 := Lib.hid hw9
    clear TA hw9
    have r0 := cell_of XR6.out (j := 0) rfl
    have r1 := cell_of XR6.out (j := 1) rfl
    have q0 := cell_of XQ6.out (j := 0) rfl
    have q1 := cell_of XQ6.out (j := 1) rfl
    have q2 := cell_of XQ6.out (j := 2) rfl
    have f0 := frozen_of_row w6 br 0 _ _ XR6.out
    have f1 := frozen_of_row w6 br 1 _ _ XR6.out
    have g0 := frozen_of_row w6 bq 0 _ _ XQ6.out
    have g1 := frozen_of_row w6 bq 1 _ _ XQ6.out
    have g2 := frozen_of_row w6 bq 2 _ _ XQ6.out
    have hne1 := HNQ.out
    have hne2 := Ne.symm HNQ.out
    go_wp2_with fail
    rw [← HW9.out]
    exact bodyPost_ret (v := .tuple #[.agg #[.slice A1' m' c1', (.slice A2' (n2 + 1) c2')], .agg #[.int .i64 0, .int .i64 0, .string ⟨#[]⟩], .bool false]) (by simp [results, Try.results10, go_sem, t0, t1, t2, t3, t4]) rfl HE.out
  by_cases k4 : o.k = 4
  · have HD : Hid (D = ⟨L, [], pk0, false⟩) := Lib.hid (by rw [HD0.out]; unfold rdo; rw [if_neg k0, if_neg k1, if_neg k2, if_neg k3, if_pos k4])
    have HK := Lib.hid k4
    clear k0 k1 k2 k3 k4
    obtain ⟨w6, hw6⟩ : ∃ q, q = wbq.setCell ⟨bz, 1, none⟩ (.slice none 0 0) := ⟨_, rfl⟩
    have hoth : ∀ k, k ≠ bz → w6.heap[k]? = wbq.heap[k]? := fun k hk => by rw [hw6]; exact Go.Deep.blk_setCell_other wbq ⟨bz, 1, none⟩ _ k hk
    have XZ6 : Hid (w6.heap[bz]? = some (.cells #[.slice A1 n1 c1, .slice none 0 0] 29 (0, 0))) := Lib.hid (by rw [hw6]; exact heap_setCell_same wbq bz 1 _ 29 _ XZ1.out)
    have XR6 := Lib.hid ((hoth br (by have := Ebz.out; have := Ebr.out; omega)).trans XR1.out)
    have XQ6 := Lib.hid ((hoth bq (by have := Ebz.out; have := Ebq.out; omega)).trans XQ1.out)
    have HB6 : Hid (Below w.heap.size w w6) := Lib.hid (by rw [hw6]; exact HB.out.setCell Sbz.out _)
    have HW6 := Lib.hid hw6
    clear hw6 hoth
    go_enter Try.func10, Try.ntmps10
    go_upto_region 1 with fail
    rw [← Wbz.out, ← Wbo.out, ← Wbr.out, ← Wbq.out, ← Ebq.out, ← Ebr.out, ← Ebo.out, ← Ebz.out]
    have z0 := cell_of XZ1.out (j := 0) rfl
    have z1 := cell_of XZ1.out (j := 1) rfl
    have o0 := cell_of XO1.out (j := 0) rfl
    rw [HK.out] at o0
    have fz := frozen_of_row wbq bz 1 _ _ XZ1.out
    go_upto_region 14 with fail
    rw [← HW6.out]
    clear z0 z1 o0 fz
    have m0 := cell_of XZ6.out (j := 0) rfl
    have m1 := cell_of XZ6.out (j := 1) rfl
    have hne3 : bz ≠ br := by have := Ebz.out; have := Ebr.out; omega
    have hne4 := Ne.symm hne3
    have hne5 : bz ≠ bq := by have := Ebz.out; have := Ebq.out; omega
    have hne6 := Ne.symm hne5
    have TA := two_a XR6.out XQ6.out HNQ.out (.slice A1 n1 c1) ((.slice none 0 0)) pk0
    obtain ⟨w9, hw9⟩ : ∃ q, q = ((((w6.setCell ⟨br, 0, none⟩ (.slice A1 n1 c1)).setCell ⟨br, 1, none⟩ ((.slice none 0 0))).setCell ⟨bq, 0, none⟩ (.int .i64 0)).setCell ⟨bq, 1, none⟩ (.int .i64 0)).setCell ⟨bq, 2, none⟩ (.string ⟨#[]⟩) := ⟨_, rfl⟩
    replace TA : Two br bq (.slice A1 n1 c1) ((.slice none 0 0)) pk0 w6 w9 := by rw [hw9]; exact TA
    have t0 := cell_of TA.r (j := 0) rfl
    have t1 := cell_of TA.r (j := 1) rfl
    have t2 : w9.cell? ⟨bq, 0, none⟩ = some (.int .i64 0) := cell_of TA.q (j := 0) rfl
    have t3 : w9.cell? ⟨bq, 1, none⟩ = some (.int .i64 0) := cell_of TA.q (j := 1) rfl
    have t4 : w9.cell? ⟨bq, 2, none⟩ = some (.string ⟨#[]⟩) := cell_of TA.q (j := 2) rfl
    have HE : Hid (RDPost w A1 A2 D (.returned (.tuple #[.agg #[.slice A1 n1 c1, (.slice none 0 0)], .agg #[.int .i64 0, .int .i64 0, .string ⟨#[]⟩], .bool false])) w9) := Lib.hid (by rw [HD.out]; exact ⟨_, _, _, _, _, _, rfl, ⟨HP.out.kept (TA.below _ _ HB6.out Sbr.out Sbq.out), ⟨rfl, fun h => absurd h (by omega)⟩, fun _ e => .inl e, (fun a e => by cases e), TA.below _ _ HB6.out Sbr.out Sbq.out⟩⟩)
    have HW9 := Lib.hid hw9
    clear TA hw9
    have r0 := cell_of XR6.out (j := 0) rfl
    have r1 := cell_of XR6.out (j := 1) rfl
    have q0 := cell_of XQ6.out (j := 0) rfl
    have q1 := cell_of XQ6.out (j := 1) rfl
    have q2 := cell_of XQ6.out (j := 2) rfl
    have f0 := frozen_of_row w6 br 0 _ _ XR6.out
    have f1 := frozen_of_row w6 br 1 _ _ XR6.out
    have g0 := frozen_of_row w6 bq 0 _ _ XQ6.out
    have g1 := frozen_of_row w6 bq 1 _ _ XQ6.out
    have g2 := frozen_of_row w6 bq 2 _ _ XQ6.out
    have hne1 := HNQ.out
    have hne2 := Ne.symm HNQ.out
    go_wp2_with fail
    rw [← HW9.out]
    exact bodyPost_ret (v := .tuple #[.agg #[.slice A1 n1 c1, (.slice none 0 0)], .agg #[.int .i64 0, .int .i64 0, .string ⟨#[]⟩], .bool false]) (by simp [results, Try.results10, go_sem, t0, t1, t2, t3, t4]) rfl HE.out
  · have HD : Hid (D = ⟨L, qs, pk0, false⟩) := Lib.hid (by rw [HD0.out]; unfold rdo; rw [if_neg k0, if_neg k1, if_neg k2, if_neg k3, if_neg k4])
    have b0 : (o.k == 0) = false := by simpa using k0
    have b1 : (o.k == 1) = false := by simpa using k1
    have b2 : (o.k == 2) = false := by simpa using k2
    have b3 : (o.k == 3) = false := by simpa using k3
    have b4 : (o.k == 4) = false := by simpa using k4
    clear k0 k1 k2 k3 k4
    have XR6 := XR1
    have XQ6 := XQ1
    go_enter Try.func10, Try.ntmps10
    go_upto_region 1 with fail
    rw [← Wbz.out, ← Wbo.out, ← Wbr.out, ← Wbq.out, ← Ebq.out, ← Ebr.out, ← Ebo.out, ← Ebz.out]
    have z0 := cell_of XZ1.out (j := 0) rfl
    have z1 := cell_of XZ1.out (j := 1) rfl
    have o0 := cell_of XO1.out (j := 0) rfl
    have hne3 : bz ≠ br := by have := Ebz.out; have := Ebr.out; omega
    have hne4 := Ne.symm hne3
    have hne5 : bz ≠ bq := by have := Ebz.out; have := Ebq.out; omega
    have hne6 := Ne.symm hne5
    have TA := two_a XR6.out XQ6.out HNQ.out (.slice A1 n1 c1) (.slice A2 n2 c2) pk0
    obtain ⟨w9, hw9⟩ : ∃ q, q = ((((wbq.setCell ⟨br, 0, none⟩ (.slice A1 n1 c1)).setCell ⟨br, 1, none⟩ (.slice A2 n2 c2)).setCell ⟨bq, 0, none⟩ (.int .i64 0)).setCell ⟨bq, 1, none⟩ (.int .i64 0)).setCell ⟨bq, 2, none⟩ (.string ⟨#[]⟩) := ⟨_, rfl⟩
    replace TA : Two br bq (.slice A1 n1 c1) (.slice A2 n2 c2) pk0 wbq w9 := by rw [hw9]; exact TA
    have t0 := cell_of TA.r (j := 0) rfl
    have t1 := cell_of TA.r (j := 1) rfl
    have t2 : w9.cell? ⟨bq, 0, none⟩ = some (.int .i64 0) := cell_of TA.q (j := 0) rfl
    have t3 : w9.cell? ⟨bq, 1, none⟩ = some (.int .i64 0) := cell_of TA.q (j := 1) rfl
    have t4 : w9.cell? ⟨bq, 2, none⟩ = some (.string ⟨#[]⟩) := cell_of TA.q (j := 2) rfl
    have HE : Hid (RDPost w A1 A2 D (.returned (.tuple #[.agg #[.slice A1 n1 c1, .slice A2 n2 c2], .agg #[.int .i64 0, .int .i64 0, .string ⟨#[]⟩], .bool false])) w9) := Lib.hid (by rw [HD.out]; exact ⟨_, _, _, _, _, _, rfl, ⟨HP.out.kept (TA.below _ _ HB.out Sbr.out Sbq.out), HQ.out.kept (TA.below _ _ HB.out Sbr.out Sbq.out), fun _ e => .inl e, fun _ e => .inl e, TA.below _ _ HB.out Sbr.out Sbq.out⟩⟩)
    have HW9 := Lib.hid hw9
    clear TA hw9
    have r0 := cell_of XR6.out (j := 0) rfl
    have r1 := cell_of XR6.out (j := 1) rfl
    have q0 := cell_of XQ6.out (j := 0) rfl
    have q1 := cell_of XQ6.out (j := 1) rfl
    have q2 := cell_of XQ6.out (j := 2) rfl
    have f0 := frozen_of_row wbq br 0 _ _ XR6.out
    have f1 := frozen_of_row wbq br 1 _ _ XR6.out
    have g0 := frozen_of_row wbq bq 0 _ _ XQ6.out
    have g1 := frozen_of_row wbq bq 1 _ _ XQ6.out
    have g2 := frozen_of_row wbq bq 2 _ _ XQ6.out
    have hne1 := HNQ.out
    have hne2 := Ne.symm HNQ.out
    go_wp2_with fail
    rw [← HW9.out]
    exact bodyPost_ret (v := .tuple #[.agg #[.slice A1 n1 c1, .slice A2 n2 c2], .agg #[.int .i64 0, .int .i64 0, .string ⟨#[]⟩], .bool false]) (by simp [results, Try.results10, go_sem, t0, t1, t2, t3, t4]) rfl HE.out
end Go.Proofs.Ytdlhjpcofldfnaa
