/-
  What the laws' own Take returns and leaves. No condition.
-/
import Derived.Test.YtdlhjpcofldfnaaRef3
namespace Go.Proofs.Ytdlhjpcofldfnaa
set_option maxRecDepth 100000
open Go.ChangeShapes Go.WideShapes Go.ChangeAt Go.RowKit

def RTPost (w : World) (A1 A2 : Option Addr) (n2 c2 : Nat) (L' : List Pk) (qs : List (Int × Int)) (x : Pk) (is : Bool) (e : Ending) (w' : World) : Prop :=
  ∃ A1' m c1', e = .returned (.tuple #[.agg #[.slice A1' m c1', .slice A2 n2 c2], .agg #[.int .i64 x.f, .int .i64 x.t, .string x.b], .bool is]) ∧ RNet w A1 A2 w' A1' A2 m n2 L' qs
/-- Two boxes are written into, in whatever order. -/
structure Two (br bq : Nat) (u v : Value) (x : Pk) (W W' : World) : Prop where
  r : W'.heap[br]? = some (.cells #[u, v] 29 (0, 0))
  q : W'.heap[bq]? = some (.cells #[.int .i64 x.f, .int .i64 x.t, .string x.b] 31 (0, 0))
  rest : ∀ k, k ≠ br → k ≠ bq → W'.heap[k]? = W.heap[k]?
  below : ∀ B a, Below B a W → B ≤ br → B ≤ bq → Below B a W'
theorem two_a {W : World} {br bq : Nat} {a0 a1 b0 b1 b2 : Value} (hr : W.heap[br]? = some (.cells #[a0, a1] 29 (0, 0))) (hq : W.heap[bq]? = some (.cells #[b0, b1, b2] 31 (0, 0))) (hne : br ≠ bq) (u v : Value) (x : Pk) :
    Two br bq u v x W (((((W.setCell ⟨br, 0, none⟩ u).setCell ⟨br, 1, none⟩ v).setCell ⟨bq, 0, none⟩ (.int .i64 x.f)).setCell ⟨bq, 1, none⟩ (.int .i64 x.t)).setCell ⟨bq, 2, none⟩ (.string x.b)) := by
  obtain ⟨h1, h2⟩ := set_two hr u v
  have hq' := (h1.rest bq (Ne.symm hne)).trans hq
  obtain ⟨h3, h4⟩ := set_pk hq' x
  exact ⟨(h3.rest br hne).trans h2, h4, fun k k1 k2 => (h3.rest k k2).trans (h1.rest k k1), fun B a hb e1 e2 => (hb.trans (h1.below.mono e1)).trans (h3.below.mono e2)⟩
theorem erase_step {L : List Pk} {i j : Nat} {x : Pk} (h : L.take (i + 1) = L.take i ++ [x]) (hi : i < L.length) : (i = j → (L.take (i + 1)).eraseIdx j = (L.take i).eraseIdx j) ∧ (i ≠ j → (L.take (i + 1)).eraseIdx j = (L.take i).eraseIdx j ++ [x]) := by
  have hl : (L.take i).length = i := by rw [List.length_take]; omega
  constructor
  · intro e
    subst e
    rw [h, List.eraseIdx_append_of_length_le (by omega), hl, Nat.sub_self, List.eraseIdx_of_length_le (l := L.take i) (by omega)]
    simp
  · intro e
    rw [h]
    by_cases hlt : j < i
    · rw [List.eraseIdx_append_of_lt_length (by omega)]
    · rw [List.eraseIdx_of_length_le (l := L.take i) (by omega), List.eraseIdx_of_length_le (by simp; omega)]
def TkRel (w : World) (bz br bq bp n1 c1 : Nat) (A1 : Option Addr) (u2 : Value) (L : List Pk) (j : Nat) (x : Pk) (v9 v10 : Value) (wr : World) : Prop :=
  ∃ (i : Nat) (A : Option Addr) (m c : Nat), i ≤ n1 ∧ v10 = .int .i64 i ∧ v9 = .slice A m c ∧ ((L.take i).eraseIdx j).length = m ∧ wr.ownsRow w.heap.size 31 3 (.slice A m c) m (pcells ((L.take i).eraseIdx j)) ∧ (∀ g, (Value.slice A m c).ownBlock = some g → g ≠ bq ∧ g ≠ bp) ∧
    wr.heap[bz]? = some (.cells #[.slice A1 n1 c1, u2] 29 (0, 0)) ∧ wr.heap[br]? = some (.cells #[.slice none 0 0, .slice none 0 0] 29 (0, 0)) ∧ wr.heap[bq]? = some (.cells #[.int .i64 0, .int .i64 0, .string ⟨#[]⟩] 31 (0, 0)) ∧
    wr.heap[bp]? = some (.cells #[.int .i64 x.f, .int .i64 x.t, .string x.b] 31 (0, 0)) ∧ Below w.heap.size w wr
theorem tk_far {w : World} {A : Option Addr} {m c g bq bp : Nat} (hat : (Value.slice A m c).ownBlock = some g ∨ w.heap.size ≤ g) (h : ∀ g, (Value.slice A m c).ownBlock = some g → g ≠ bq ∧ g ≠ bp) (hq : bq < w.heap.size) (hp : bp < w.heap.size) : g ≠ bq ∧ g ≠ bp := by
  rcases hat with e | e
  · exact h g e
  · exact ⟨by omega, by omega⟩
theorem own_end {W : World} {B g m c : Nat} {M K1 : List Pk} {x : Pk} (hk : K1 = M ++ [x]) (hl : M.length = m) (h : W.ownsRow B 31 3 (.slice (some ⟨g, 0, none⟩) (m + 1) c) (m + 1) (pcells M ++ pcell x)) : K1.length = m + 1 ∧ W.ownsRow B 31 3 (.slice (some ⟨g, 0, none⟩) (m + 1) c) (m + 1) (pcells K1) := by
  rw [hk]
  exact ⟨by simp [hl], row_more h⟩
set_option maxHeartbeats 8000000 in
theorem rtake_any {w : World} {A1 A2 : Option Addr} {n1 c1 n2 c2 : Nat} {L : List Pk} {qs : List (Int × Int)} (hp : PReads w A1 n1 L) (hq : QReads w A2 n2 qs) (hn1 : n1 ≤ 2000) (k : Int) :
    Calls Try.prog 22 #[.agg #[.slice A1 n1 c1, .slice A2 n2 c2], .int .i64 k] w (RTPost w A1 A2 n2 c2 (tkL L k) qs (atL L k).1 (atL L k).2) := by
  obtain ⟨bz, hbz⟩ : ∃ b, b = w.heap.size := ⟨_, rfl⟩
  obtain ⟨wbz, hwbz⟩ : ∃ q, q = w.alloc (.cells #[.slice A1 n1 c1, .slice A2 n2 c2] 29) := ⟨_, rfl⟩
  have ebz : bz = w.heap.size := by rw [hbz]
  have hbwbz : Below w.heap.size w wbz := by rw [hwbz]; exact (Below.refl _ _).alloc (by omega) _
  obtain ⟨br, hbr⟩ : ∃ b, b = w.heap.size + 1 := ⟨_, rfl⟩
  obtain ⟨wbr, hwbr⟩ : ∃ q, q = wbz.alloc (.cells #[.slice none 0 0, .slice none 0 0] 29) := ⟨_, rfl⟩
  have ebr : br = wbz.heap.size := by rw [hbr, hwbz]; simp
  have hbwbr : Below w.heap.size w wbr := by rw [hwbr]; exact (hbwbz).alloc (by omega) _
  obtain ⟨bq, hbq⟩ : ∃ b, b = w.heap.size + 2 := ⟨_, rfl⟩
  obtain ⟨wbq, hwbq⟩ : ∃ q, q = wbr.alloc (.cells #[.int .i64 0, .int .i64 0, .string ⟨#[]⟩] 31) := ⟨_, rfl⟩
  have ebq : bq = wbr.heap.size := by rw [hbq, hwbr, hwbz]; simp
  have hbwbq : Below w.heap.size w wbq := by rw [hwbq]; exact (hbwbr).alloc (by omega) _
  have xbz : wbz.heap[bz]? = some (.cells #[.slice A1 n1 c1, .slice A2 n2 c2] 29 (0, 0)) := by rw [hwbz, ebz]; exact new_block _ _
  replace xbz : wbr.heap[bz]? = some (.cells #[.slice A1 n1 c1, .slice A2 n2 c2] 29 (0, 0)) := by rw [hwbr]; exact ((box_below _ _).block _ (Array.getElem?_eq_some_iff.1 xbz).1).trans xbz
  replace xbz : wbq.heap[bz]? = some (.cells #[.slice A1 n1 c1, .slice A2 n2 c2] 29 (0, 0)) := by rw [hwbq]; exact ((box_below _ _).block _ (Array.getElem?_eq_some_iff.1 xbz).1).trans xbz
  have xbr : wbr.heap[br]? = some (.cells #[.slice none 0 0, .slice none 0 0] 29 (0, 0)) := by rw [hwbr, ebr]; exact new_block _ _
  replace xbr : wbq.heap[br]? = some (.cells #[.slice none 0 0, .slice none 0 0] 29 (0, 0)) := by rw [hwbq]; exact ((box_below _ _).block _ (Array.getElem?_eq_some_iff.1 xbr).1).trans xbr
  have xbq : wbq.heap[bq]? = some (.cells #[.int .i64 0, .int .i64 0, .string ⟨#[]⟩] 31 (0, 0)) := by rw [hwbq, ebq]; exact new_block _ _
  have Xbz := Lib.hid xbz
  have Ebz := Lib.hid hbz
  have Wbz := Lib.hid hwbz
  have Sbz : Hid (w.heap.size ≤ bz) := Lib.hid (by rw [hbz]; omega)
  have Xbr := Lib.hid xbr
  have Ebr := Lib.hid hbr
  have Wbr := Lib.hid hwbr
  have Sbr : Hid (w.heap.size ≤ br) := Lib.hid (by rw [hbr]; omega)
  have Xbq := Lib.hid xbq
  have Ebq := Lib.hid hbq
  have Wbq := Lib.hid hwbq
  have Sbq : Hid (w.heap.size ≤ bq) := Lib.hid (by rw [hbq]; omega)
  have HB := Lib.hid hbwbq
  clear hbwbz hwbz hbwbr hwbr hbwbq hwbq hbz ebz xbz hbr ebr xbr hbq ebq xbq
  have HP := Lib.hid hp
  have HQ := Lib.hid hq
  have HL := Lib.hid hp.len
  have HNE : Hid (bz ≠ br) := Lib.hid (by have := Ebz.out; have := Ebr.out; omega)
  have HNQ : Hid (br ≠ bq) := Lib.hid (by have := Ebq.out; have := Ebr.out; omega)
  have HNZ : Hid (bz ≠ bq) := Lib.hid (by have := Ebq.out; have := Ebz.out; omega)
  have XZ1 := Xbz
  have XR1 := Xbr
  have XQ1 := Xbq
  clear hp hq Xbz Xbr Xbq
  have HAT := Lib.hid (rat_any (A2 := A2) (n2 := n2) (c1 := c1) (c2 := c2) (HP.out.kept HB.out) k)
  obtain ⟨x, hx⟩ : ∃ x, x = (atL L k).1 := ⟨_, rfl⟩
  obtain ⟨qb, hqb⟩ : ∃ q, q = (atL L k).2 := ⟨_, rfl⟩
  obtain ⟨L2, hl2⟩ : ∃ q, q = tkL L k := ⟨_, rfl⟩
  rw [← hx, ← hqb, ← hl2]
  have HX := Lib.hid hx
  have HQB := Lib.hid hqb
  have HL2 := Lib.hid hl2
  clear hx hqb hl2
  have z0 := cell_of XZ1.out (j := 0) rfl
  have z1 := cell_of XZ1.out (j := 1) rfl
  go_enter Try.func22, Try.ntmps22
  go_upto_region 1 with fail
  rw [← Wbz.out, ← Wbr.out, ← Wbq.out, ← Ebq.out, ← Ebr.out, ← Ebz.out]
  go_wp2_with fail
  refine HAT.out.mono ?_
  rintro e w3 ⟨rfl, hb3⟩
  rw [← HX.out, ← HQB.out]
  obtain ⟨bp, hbp⟩ : ∃ b, b = w3.heap.size := ⟨_, rfl⟩
  obtain ⟨w5, hw5⟩ : ∃ q, q = w3.alloc (.cells #[.int .i64 x.f, .int .i64 x.t, .string x.b] 31) := ⟨_, rfl⟩
  have hb5 : Below w3.heap.size w3 w5 := by rw [hw5]; exact box_below w3 _
  have XP5 : Hid (w5.heap[bp]? = some (.cells #[.int .i64 x.f, .int .i64 x.t, .string x.b] 31 (0, 0))) := Lib.hid (by rw [hw5, hbp]; exact new_block w3 _)
  have hb35 := hb3.trans (hb5.mono hb3.size)
  have XZ5 := Lib.hid ((hb35.block _ (Array.getElem?_eq_some_iff.1 XZ1.out).1).trans XZ1.out)
  have XR5 := Lib.hid ((hb35.block _ (Array.getElem?_eq_some_iff.1 XR1.out).1).trans XR1.out)
  have XQ5 := Lib.hid ((hb35.block _ (Array.getElem?_eq_some_iff.1 XQ1.out).1).trans XQ1.out)
  have HNP : Hid (bp ≠ br ∧ bp ≠ bq ∧ bp ≠ bz) := Lib.hid (by have h0 := (Array.getElem?_eq_some_iff.1 XZ1.out).1; have h1 := (Array.getElem?_eq_some_iff.1 XR1.out).1; have h2 := (Array.getElem?_eq_some_iff.1 XQ1.out).1; have h3 := hb3.size; omega)
  have HB5 := Lib.hid (HB.out.trans (hb35.mono HB.out.size))
  have HW5 := Lib.hid hw5
  have HBP := Lib.hid hbp
  clear hb3 hb5 hb35 hw5 hbp z0 z1 HAT
  unfold pv
  go_upto_region 2 with fail
  rw [← HW5.out, ← HBP.out]
  cases qb with
  | false =>
    have HL3 : Hid (L2 = L) := Lib.hid (by rw [HL2.out]; unfold tkL; rw [← HQB.out]; rfl)
    have TA := two_a XR5.out XQ5.out HNQ.out (.slice A1 n1 c1) (.slice A2 n2 c2) x
    have HTA := Lib.hid TA
    clear TA
    have z0 := cell_of XZ5.out (j := 0) rfl
    have z1 := cell_of XZ5.out (j := 1) rfl
    have p0 := cell_of XP5.out (j := 0) rfl
    have p1 := cell_of XP5.out (j := 1) rfl
    have p2 := cell_of XP5.out (j := 2) rfl
    have r0 := cell_of XR5.out (j := 0) rfl
    have r1 := cell_of XR5.out (j := 1) rfl
    have q0 := cell_of XQ5.out (j := 0) rfl
    have q1 := cell_of XQ5.out (j := 1) rfl
    have q2 := cell_of XQ5.out (j := 2) rfl
    have f0 := frozen_of_row w5 br 0 _ _ XR5.out
    have f1 := frozen_of_row w5 br 1 _ _ XR5.out
    have g0 := frozen_of_row w5 bq 0 _ _ XQ5.out
    have g1 := frozen_of_row w5 bq 1 _ _ XQ5.out
    have g2 := frozen_of_row w5 bq 2 _ _ XQ5.out
    have hne1 := HNQ.out
    have hne2 := Ne.symm HNQ.out
    have hne3 := HNE.out
    have hne4 := Ne.symm HNE.out
    have hne5 := HNZ.out
    have hne6 := Ne.symm HNZ.out
    have hne7 := HNP.out.1
    have hne8 := Ne.symm HNP.out.1
    have hne9 := HNP.out.2.1
    have hne10 := Ne.symm HNP.out.2.1
    go_wp2_with fail
    go_region
    obtain ⟨w9, hw9⟩ : ∃ q, q = ((((w5.setCell ⟨br, 0, none⟩ (.slice A1 n1 c1)).setCell ⟨br, 1, none⟩ (.slice A2 n2 c2)).setCell ⟨bq, 0, none⟩ (.int .i64 x.f)).setCell ⟨bq, 1, none⟩ (.int .i64 x.t)).setCell ⟨bq, 2, none⟩ (.string x.b) := ⟨_, rfl⟩
    rw [← hw9] at HTA ⊢
    clear hw9 z0 z1 p0 p1 p2 r0 r1 q0 q1 q2 f0 f1 g0 g1 g2
    have t0 := cell_of HTA.out.r (j := 0) rfl
    have t1 := cell_of HTA.out.r (j := 1) rfl
    have t2 := cell_of HTA.out.q (j := 0) rfl
    have t3 := cell_of HTA.out.q (j := 1) rfl
    have t4 := cell_of HTA.out.q (j := 2) rfl
    have HE : Hid (RTPost w A1 A2 n2 c2 L2 qs x false (.returned (.tuple #[.agg #[.slice A1 n1 c1, .slice A2 n2 c2], .agg #[.int .i64 x.f, .int .i64 x.t, .string x.b], .bool false])) w9.drew) := Lib.hid (by rw [HL3.out]; exact ⟨_, _, _, rfl, RNet.same HP.out HQ.out (HTA.out.below _ _ HB5.out Sbr.out Sbq.out).drew⟩)
    go_wp2_with fail
    exact bodyPost_ret (v := .tuple #[.agg #[.slice A1 n1 c1, .slice A2 n2 c2], .agg #[.int .i64 x.f, .int .i64 x.t, .string x.b], .bool false]) (by simp [results, Try.results22, go_sem, t0, t1, t2, t3, t4]) rfl HE.out
  | true =>
    obtain ⟨j, rfl, hj⟩ := at_true HQB.out.symm
    have hj1 : j < n1 := by have := HL.out; omega
    have HL3 : Hid (L2 = L.eraseIdx j) := Lib.hid (by rw [HL2.out]; unfold tkL; rw [← HQB.out, if_pos rfl, Int.toNat_natCast])
    clear hj
    go_wp2_with fail
    go_loopw [9, 10] (fun v9 v10 wr => TkRel w bz br bq bp n1 c1 A1 (.slice A2 n2 c2) L j x v9 v10 wr) (fun _ v _ => n1 - (intOf v).toNat)
    case atStart => exact ⟨0, none, 0, 0, Nat.zero_le _, rfl, rfl, (by simp), ⟨(by simp [pcells]), .inl ⟨rfl, rfl⟩⟩, (fun g e => by cases e), XZ5.out, XR5.out, XQ5.out, XP5.out, HB5.out⟩
    case round =>
      obtain ⟨i, A, m, c, hi, rfl, rfl, hlw, how, hfw, hzw, hrw, hqw, hpw, hbw⟩ := hrel
      have HLW := Lib.hid hlw
      have HOW := Lib.hid how
      have HFW := Lib.hid hfw
      have HZW := Lib.hid hzw
      have HRW := Lib.hid hrw
      have HQW := Lib.hid hqw
      have HPW := Lib.hid hpw
      have HBW := Lib.hid hbw
      have hmi : m ≤ i := by rw [← hlw]; exact Nat.le_trans (List.length_eraseIdx_le _ _) (by rw [List.length_take]; exact Nat.min_le_left _ _)
      clear hlw how hfw hzw hrw hqw hpw hbw
      by_cases hlt : i < n1
      · obtain ⟨b1, off, rfl, s0, s1, s2⟩ := preads_at (HP.out.kept HBW.out) hlt
        obtain ⟨y, hy⟩ : ∃ y, y = L.getD i pk0 := ⟨_, rfl⟩
        rw [← hy] at s0 s1 s2
        have HTK : Hid (L.take (i + 1) = L.take i ++ [y]) := Lib.hid (by rw [hy]; exact take_at (by rw [HL.out]; exact hlt))
        have HES := Lib.hid (erase_step (j := j) HTK.out (by rw [HL.out]; exact hlt))
        have hi0 : (0 : Int) ≤ (i : Int) := by omega
        have hi1 : (i : Int) < (n1 : Int) := by omega
        have z0 := cell_of HZW.out (j := 0) rfl
        clear hy
        by_cases hij : i = j
        · subst hij
          go_wp2_with fail
          go_round
          case rel => exact ⟨i + 1, A, m, c, by omega, by go_num, rfl, (by rw [HES.out.1 rfl]; exact HLW.out), (by rw [HES.out.1 rfl]; exact HOW.out), HFW.out, HZW.out, HRW.out, HQW.out, HPW.out, HBW.out⟩
          case measure => simp [intOf]; omega
        · have hij2 : ((i : Int) == (j : Int)) = false := by rw [beq_eq_false_iff_ne]; omega
          have hij3 : ¬ (i : Int) = (j : Int) := by omega
          have HK := Lib.hid (HES.out.2 hij)
          have hb2 := box_below wr (.cells #[.int .i64 y.f, .int .i64 y.t, .string y.b] 31)
          have HS2 := Lib.hid (SRow.of_own HLW.out (own_below HOW.out hb2))
          have HZ2 := Lib.hid ((hb2.block _ (Array.getElem?_eq_some_iff.1 HZW.out).1).trans HZW.out)
          have HR2 := Lib.hid ((hb2.block _ (Array.getElem?_eq_some_iff.1 HRW.out).1).trans HRW.out)
          have HQ2 := Lib.hid ((hb2.block _ (Array.getElem?_eq_some_iff.1 HQW.out).1).trans HQW.out)
          have HP2 := Lib.hid ((hb2.block _ (Array.getElem?_eq_some_iff.1 HPW.out).1).trans HPW.out)
          have HB2 := Lib.hid (HBW.out.trans (hb2.mono HBW.out.size))
          clear hb2
          go_wp2_with (first
            | (at_builtin; refine wpList_append_sent rfl (.tmp 31) (.tmp 37) rfl rfl HS2.out ⟨wr.heap.size, 0, none⟩ 1 1 (pcell y) rfl rfl (World.news_of_block (new_block wr _)) (by intro u hu; simp [pcell] at hu; rcases hu with rfl | rfl | rfl <;> rfl) (by decide) (by omega) HB2.out.size ?_; intro g8 c8 w8 hown hgrow hat hlt8; have HR := Lib.hid (own_end HK.out HLW.out hown); have HZ8 := Lib.hid (grow_other hgrow HS2.out HZ2.out (by decide)); have HR8 := Lib.hid (grow_other hgrow HS2.out HR2.out (by decide)); have HQ8 := Lib.hid ((hgrow.block bq (Array.getElem?_eq_some_iff.1 HQ2.out).1 (fun e => (HFW.out bq e.symm).1 rfl)).trans HQ2.out); have HP8 := Lib.hid ((hgrow.block bp (Array.getElem?_eq_some_iff.1 HP2.out).1 (fun e => (HFW.out bp e.symm).2 rfl)).trans HP2.out); have HF8 := Lib.hid (tk_far hat HFW.out (Array.getElem?_eq_some_iff.1 HQ2.out).1 (Array.getElem?_eq_some_iff.1 HP2.out).1); have HB8 := Lib.hid (grow_below hgrow HS2.out HB2.out HB2.out.size); clear hown hgrow hat hlt8 z0 s0 s1 s2)
            | fail)
          go_round
          case rel => exact ⟨i + 1, some ⟨g8, 0, none⟩, m + 1, c8, by omega, by go_num, rfl, HR.out.1, HR.out.2, (fun g e => by injection e with e; subst e; exact HF8.out), HZ8.out, HR8.out, HQ8.out, HP8.out, HB8.out⟩
          case measure => simp [intOf]; omega
      · obtain rfl : i = n1 := by omega
        have hi1 : ¬ (i : Int) < (i : Int) := by omega
        have htk : L.take i = L := List.take_of_length_le (by rw [HL.out]; exact Nat.le_refl _)
        rw [htk, ← HL3.out] at HLW HOW
        clear htk
        have HOK : Hid (∀ x ∈ L2, POk x) := Lib.hid (fun x hx => HP.out.ok x (by rw [HL3.out] at hx; exact List.mem_of_mem_eraseIdx hx))
        have z0 := cell_of HZW.out (j := 0) rfl
        have fz := frozen_of_row wr bz 0 _ _ HZW.out
        obtain ⟨wa, hwa⟩ : ∃ q, q = wr.setCell ⟨bz, 0, none⟩ (.slice A m c) := ⟨_, rfl⟩
        have hoth : ∀ k, k ≠ bz → wa.heap[k]? = wr.heap[k]? := fun k hk => by rw [hwa]; exact Go.Deep.blk_setCell_other wr ⟨bz, 0, none⟩ _ k hk
        have XZ5 : Hid (wa.heap[bz]? = some (.cells #[.slice A m c, .slice A2 n2 c2] 29 (0, 0))) := Lib.hid (by rw [hwa]; exact heap_setCell_same wr bz 0 _ 29 _ HZW.out)
        have XR5 := Lib.hid ((hoth br (Ne.symm HNE.out)).trans HRW.out)
        have XQ5 := Lib.hid ((hoth bq (Ne.symm HNZ.out)).trans HQW.out)
        have XP5 := Lib.hid ((hoth bp (HNP.out.2.2)).trans HPW.out)
        have HOA := Lib.hid ((SRow.of_own HLW.out HOW.out).kept (w' := wa) (fun a e => hoth _ (fun e2 => own_ne HOW.out HZW.out (by decide) (by rw [e, ← e2]; rfl))))
        have HBA : Hid (Below w.heap.size w wa) := Lib.hid (by rw [hwa]; exact HBW.out.setCell Sbz.out _)
        have HWA := Lib.hid hwa
        clear hwa hoth
        go_upto_region 11 with fail
        rw [← HWA.out]
        clear z0 fz
        have TA := two_a XR5.out XQ5.out HNQ.out (.slice A m c) (.slice A2 n2 c2) x
        have HTA := Lib.hid TA
        clear TA
        have z0 := cell_of XZ5.out (j := 0) rfl
        have z1 := cell_of XZ5.out (j := 1) rfl
        have p0 := cell_of XP5.out (j := 0) rfl
        have p1 := cell_of XP5.out (j := 1) rfl
        have p2 := cell_of XP5.out (j := 2) rfl
        have r0 := cell_of XR5.out (j := 0) rfl
        have r1 := cell_of XR5.out (j := 1) rfl
        have q0 := cell_of XQ5.out (j := 0) rfl
        have q1 := cell_of XQ5.out (j := 1) rfl
        have q2 := cell_of XQ5.out (j := 2) rfl
        have f0 := frozen_of_row wa br 0 _ _ XR5.out
        have f1 := frozen_of_row wa br 1 _ _ XR5.out
        have g0 := frozen_of_row wa bq 0 _ _ XQ5.out
        have g1 := frozen_of_row wa bq 1 _ _ XQ5.out
        have g2 := frozen_of_row wa bq 2 _ _ XQ5.out
        have hne1 := HNQ.out
        have hne2 := Ne.symm HNQ.out
        have hne3 := HNE.out
        have hne4 := Ne.symm HNE.out
        have hne5 := HNZ.out
        have hne6 := Ne.symm HNZ.out
        have hne7 := HNP.out.1
        have hne8 := Ne.symm HNP.out.1
        have hne9 := HNP.out.2.1
        have hne10 := Ne.symm HNP.out.2.1
        go_wp2_with fail
        go_region
        obtain ⟨w9, hw9⟩ : ∃ q, q = ((((wa.setCell ⟨br, 0, none⟩ (.slice A m c)).setCell ⟨br, 1, none⟩ (.slice A2 n2 c2)).setCell ⟨bq, 0, none⟩ (.int .i64 x.f)).setCell ⟨bq, 1, none⟩ (.int .i64 x.t)).setCell ⟨bq, 2, none⟩ (.string x.b) := ⟨_, rfl⟩
        rw [← hw9] at HTA ⊢
        clear hw9 z0 z1 p0 p1 p2 r0 r1 q0 q1 q2 f0 f1 g0 g1 g2
        have t0 := cell_of HTA.out.r (j := 0) rfl
        have t1 := cell_of HTA.out.r (j := 1) rfl
        have t2 := cell_of HTA.out.q (j := 0) rfl
        have t3 := cell_of HTA.out.q (j := 1) rfl
        have t4 := cell_of HTA.out.q (j := 2) rfl
        have HE : Hid (RTPost w A1 A2 n2 c2 L2 qs x true (.returned (.tuple #[.agg #[.slice A m c, .slice A2 n2 c2], .agg #[.int .i64 x.f, .int .i64 x.t, .string x.b], .bool true])) w9.drew) := Lib.hid (by
          have hb9 := HTA.out.below _ _ HBA.out Sbr.out Sbq.out
          refine ⟨_, _, _, rfl, ⟨?_, HQ.out.kept hb9.drew, fun a e => .inr ⟨(HOA.out.blk a e).1, Nat.lt_of_lt_of_le (HOA.out.blk a e).2 (HTA.out.below 0 _ (Below.refl _ _) (Nat.zero_le _) (Nat.zero_le _)).size⟩, fun _ e => .inl e, hb9.drew⟩⟩
          have hk := HOA.out.kept (w' := w9.drew) (fun a e => HTA.out.rest _ (fun e2 => own_ne HOW.out HRW.out (by decide) (by rw [e, ← e2]; rfl)) (fun e2 => (HFW.out a.block (by rw [e]; rfl)).1 e2))
          obtain ⟨c0, ho2, -⟩ := hk.own
          exact row_reads ho2 HLW.out HOK.out)
        go_wp2_with fail
        exact bodyPost_ret (v := .tuple #[.agg #[.slice A m c, .slice A2 n2 c2], .agg #[.int .i64 x.f, .int .i64 x.t, .string x.b], .bool true]) (by simp [results, Try.results22, go_sem, t0, t1, t2, t3, t4]) rfl HE.out
end Go.Proofs.Ytdlhjpcofldfnaa
