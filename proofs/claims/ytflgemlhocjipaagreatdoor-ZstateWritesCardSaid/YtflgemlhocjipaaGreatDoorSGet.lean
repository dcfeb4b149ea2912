/-
  What slices.Clone of texts returns; a reply as the caller's own. Condition: there are not many texts.
  What New, Zxid, Tree, Leases, Last and Clone of a state return. Condition: the state is good.
-/
import Derived.Test.YtflgemlhocjipaaGreatDoorSMem
import Derived.Test.YtflgemlhocjipaaGreatDoorLOpen
import Derived.Test.YtflgemlhocjipaaGreatDoorDoP
import Derived.Test.YtflgemlhocjipaaGreatDoorEndP
namespace Go.Proofs.YtflgemlhocjipaaGreatDoor
set_option maxRecDepth 100000
open Go.ChangeShapes Go.WideShapes Go.ChangeAt Go.RowKit Go.Proofs.Zn Go.Proofs.Zt
open Go.Proofs.Zs (St Lst Rep)

theorem snil_yes : ∀ W, (binOp .eql 40 (.slice none 0 0) (.slice none 0 0)).run Tryz.prog W = .ok (.bool true) W := fun W => by kernel_rfl
theorem snil_no (W : World) (a : Addr) (n c : Nat) : (binOp .eql 40 (.slice (some a) n c) (.slice none 0 0)).run Tryz.prog W = .ok (.bool false) W := by kernel_rfl
def ScPost (w : World) (ps : List Txt) (e : Ending) (w' : World) : Prop := ∃ v, e = .returned v ∧ w'.ownsRow w.heap.size 9 1 v ps.length (scells ps) ∧ Below w.heap.size w w'
theorem scell_one (x : Txt) : ∀ u ∈ scell x, u.oneCell' = true := fun u hu => by
  simp only [scell, List.mem_cons, List.not_mem_nil, or_false] at hu
  rcases hu with rfl; rfl
set_option maxHeartbeats 1000000 in
theorem sclone_any {w : World} {B : Nat} {A : Option Addr} {n c : Nat} {ps : List Txt} (ho : w.ownsRow B 9 1 (.slice A n c) n (scells ps)) (hl : ps.length = n) (hn : n ≤ 100000) :
    Calls Tryz.prog 126 #[.slice A n c] w (ScPost w ps) := by
  have HL := Lib.hid hl
  rcases A with _ | ad
  · have hn0 : n = 0 ∧ c = 0 := by
      rcases ho.2 with ⟨e1, rfl⟩ | ⟨g, cap, cur, e1, _⟩
      · injection e1 with _ _ e3; exact ⟨rfl, e3⟩
      · injection e1 with e1; cases e1
    obtain ⟨rfl, rfl⟩ := hn0
    have HE : Hid (ScPost w ps (.returned (.slice none 0 0)) w) := Lib.hid (by
      have : ps = [] := List.eq_nil_of_length_eq_zero HL.out
      subst this
      exact ⟨_, rfl, World.ownsRow_nil _ _ _ _, Below.refl _ _⟩)
    have hnil := snil_yes
    clear ho hl
    go_enter Tryz.func126, Tryz.ntmps126
    go_wp2_with fail
    go_ret
    exact HE.out
  · have hr0 := Rd.of_own (cell := scell) (l := ps) ho (fun _ _ => rfl) (by omega)
    have hr : Lq.Rd scell 1 w (some ad) n ps := ⟨hr0.len, hr0.cells⟩
    have HO := Lib.hid ho
    obtain ⟨w1, hw1⟩ : ∃ w1, w1 = w.alloc (.cells #[] 9) := ⟨_, rfl⟩
    have hb1 : Below w.heap.size w w1 := by rw [hw1]; exact box_below w _
    obtain ⟨q, eq⟩ : ∃ q, q = w.heap.size := ⟨_, rfl⟩
    have hq : w1.heap[q]? = some (.cells #[] 9 (0, 0)) := by rw [hw1, eq]; exact new_block w _
    have ho1 : w1.ownsRow w.heap.size 9 1 (.slice (some ⟨q, 0, none⟩) 0 0) 0 [] := own_new hq (by omega) (by unfold maxLen; omega) rfl
    have hr1 := hr.below hb1
    obtain ⟨i0, hi, hz0, hz1, hz2⟩ := info_parts infoS
    have HW1 := Lib.hid hw1
    have EQ := Lib.hid eq
    have HB1 := Lib.hid hb1
    have hsz := hb1.size
    have hnil := fun W => snil_no W ad n c
    clear ho hw1 eq hr hr0 hb1 hq hl
    go_enter Tryz.func126, Tryz.ntmps126
    go_wp2_with (at_builtin; rw [← HW1.out, ← EQ.out]; refine Lq.wpList_append_rd rfl _ _ 40 rfl w.heap.size 9 i0 _ 1 16 Tryz.underlying40 hi hz0 hz1 hz2 rfl (by decide) _ _ _ rfl ho1 _ _ c ps rfl hr1 (fun _ _ => rfl) scell_one (fun h => by cases h) (by unfold maxLen; omega) (by omega) (by omega) ?_; intro v2 w2 hown2 hg2)
    have HE : Hid (ScPost w ps (.returned v2) w2) := Lib.hid (by
      rw [Nat.zero_add, List.nil_append] at hown2
      rw [← HL.out] at hown2
      exact ⟨v2, rfl, hown2, HB1.out.trans (Lq.gb_own ho1 hg2 (Nat.le_refl _) hsz)⟩)
    clear hown2 hg2 hr1 ho1
    go_wp2_with fail
    go_ret
    exact HE.out
/-- A reply that is told: its texts are new. -/
def ToPost (w : World) (c s : Int) (ps : List Txt) (e : Ending) (w' : World) : Prop := ∃ v, e = .returned (.agg #[.int .i64 c, .int .i64 s, v]) ∧ w'.ownsRow w.heap.size 9 1 v ps.length (scells ps) ∧ Below w.heap.size w w'
set_option maxHeartbeats 1000000 in
theorem told_any {w : World} {B : Nat} {A : Option Addr} {m k : Nat} {ps : List Txt} (ho : w.ownsRow B 9 1 (.slice A m k) m (scells ps)) (hl : ps.length = m) (hn : m ≤ 100000) (n c s : Int) :
    Calls Tryz.prog 83 #[.agg #[.int .i64 n, .int .i64 c, .int .i64 s, .slice A m k]] w (ToPost w c s ps) := by
  obtain ⟨w2, hw2, hb2, hq, hr, hs2⟩ := two_box w (.cells #[.int .i64 n, .int .i64 c, .int .i64 s, .slice A m k] 149) (.cells #[.int .i64 0, .int .i64 0, .slice none 0 0] 42)
  obtain ⟨q, eq⟩ : ∃ q, q = w.heap.size := ⟨_, rfl⟩
  obtain ⟨r, er⟩ : ∃ r, r = w.heap.size + 1 := ⟨_, rfl⟩
  rw [← eq] at hq
  rw [← er] at hr
  obtain ⟨w3, hw3⟩ : ∃ w3, w3 = w2.alloc (.cells #[.int .i64 c, .int .i64 s, .slice A m k] 42) := ⟨_, rfl⟩
  obtain ⟨t, et⟩ : ∃ t, t = w2.heap.size := ⟨_, rfl⟩
  have hb3 : Below w2.heap.size w2 w3 := by rw [hw3]; exact box_below w2 _
  have ht : w3.heap[t]? = some (.cells #[.int .i64 c, .int .i64 s, .slice A m k] 42 (0, 0)) := by rw [hw3, et]; exact new_block w2 _
  have hr3 := blk_below hr hb3
  have hb03 := hb2.trans (hb3.mono hb2.size)
  have HC := Lib.hid (sclone_any (own_below ho hb03) hl hn)
  have hne : r ≠ t ∧ w.heap.size ≤ r ∧ w.heap.size ≤ t := by omega
  have q0 := cell_of hq (j := 0) rfl
  have q1 := cell_of hq (j := 1) rfl
  have q2 := cell_of hq (j := 2) rfl
  have q3 := cell_of hq (j := 3) rfl
  have t0 := cell_of ht (j := 0) rfl
  have t1 := cell_of ht (j := 1) rfl
  have t2 := cell_of ht (j := 2) rfl
  have HW2 := Lib.hid hw2
  have HW3 := Lib.hid hw3
  have EQ := Lib.hid eq
  have ER := Lib.hid er
  have ET := Lib.hid et
  have HB := Lib.hid hb03
  have HT := Lib.hid ht
  have HR3 := Lib.hid hr3
  have HNE := Lib.hid hne
  clear hw2 hb2 hq hr hs2 eq er hw3 et hb3 ht hr3 hb03 hne ho hl hn
  go_enter Tryz.func83, Tryz.ntmps83
  go_upto_region 1 with fail
  rw [← HW2.out, ← ER.out, ← EQ.out]
  go_upto_region 2 with fail
  rw [← HW3.out, ← ET.out]
  go_wp2_with fail
  refine HC.out.mono ?_
  rintro e w4 ⟨v, rfl, hv, hb4⟩
  obtain ⟨A4, c4, rfl, -, -, -⟩ := own_form hv
  have ht4 := blk_below HT.out hb4
  have hr4 := blk_below HR3.out hb4
  have f2 := frozen_of_row w4 t 2 _ _ ht4
  obtain ⟨w5, hw5⟩ : ∃ w5, w5 = w4.setCell ⟨t, 2, none⟩ (.slice A4 ps.length c4) := ⟨_, rfl⟩
  obtain ⟨hwr5, ht5⟩ := seti ht4 2 (.slice A4 ps.length c4)
  rw [← hw5] at hwr5 ht5
  have ht5' : w5.heap[t]? = some (.cells #[.int .i64 c, .int .i64 s, .slice A4 ps.length c4] 42 (0, 0)) := ht5
  have hr5 := hwr5.blk HNE.out.1 hr4
  have hv5 := own_gb hv hwr5.gb (own_ne hv ht4 (by decide))
  obtain ⟨w6, hw6⟩ : ∃ w6, w6 = (((w5.setCell ⟨r, 0, none⟩ (.int .i64 c)).setCell ⟨r, 1, none⟩ (.int .i64 s)).setCell ⟨r, 2, none⟩ (.slice A4 ps.length c4)) := ⟨_, rfl⟩
  obtain ⟨hwr6, hr6⟩ := set3 hr5 (.int .i64 c) (.int .i64 s) (.slice A4 ps.length c4)
  rw [← hw6] at hwr6 hr6
  have hv6 := own_gb hv5 hwr6.gb (own_ne hv5 hr5 (by decide))
  have HE : Hid (ToPost w c s ps (.returned (.agg #[.int .i64 c, .int .i64 s, .slice A4 ps.length c4])) w6) := Lib.hid
    ⟨_, rfl, own_base hv6 HB.out.size, HB.out.trans ((((hb4.mono HB.out.size).trans (hwr5.below.mono HNE.out.2.2))).trans (hwr6.below.mono HNE.out.2.1))⟩
  have x0 := cell_of ht4 (j := 0) rfl
  have x1 := cell_of ht4 (j := 1) rfl
  have x2 := cell_of ht4 (j := 2) rfl
  have u0 := cell_of ht5' (j := 0) rfl
  have u1 := cell_of ht5' (j := 1) rfl
  have u2 := cell_of ht5' (j := 2) rfl
  have y0 := cell_of hr5 (j := 0) rfl
  have y1 := cell_of hr5 (j := 1) rfl
  have y2 := cell_of hr5 (j := 2) rfl
  have g0 := frozen_of_row w5 _ 0 _ _ hr5
  have g1 := frozen_of_row w5 _ 1 _ _ hr5
  have g2 := frozen_of_row w5 _ 2 _ _ hr5
  have z0 := cell_of hr6 (j := 0) rfl
  have z1 := cell_of hr6 (j := 1) rfl
  have z2 := cell_of hr6 (j := 2) rfl
  have HW5 := Lib.hid hw5
  have HW6 := Lib.hid hw6
  clear hw5 hwr5 ht5 ht5' hr5 hv5 hw6 hwr6 hr6 hv6 ht4 hr4 hb4 hv
  go_upto_region 3 with fail
  rw [← HW5.out]
  go_wp2_with fail
  rw [← HW6.out]
  exact bodyPost_ret (v := .agg #[.int .i64 c, .int .i64 s, .slice A4 ps.length c4]) (by simp [results, Tryz.results83, go_sem, z0, z1, z2]) rfl HE.out
end Go.Proofs.YtflgemlhocjipaaGreatDoor
namespace Go.Proofs.YtflgemlhocjipaaGreatDoor
set_option maxRecDepth 100000
open Go.ChangeShapes Go.WideShapes Go.ChangeAt Go.RowKit Go.Proofs.Zn Go.Proofs.Zt
open Go.Proofs.Zs (St Lst Rep Tx)

/-- An empty map. -/
theorem dw_new (w : World) : DW (w.alloc (.map #[] 0)) w.heap.size [] [] :=
  ⟨.map [], World.ownsMap_made w Tryz.prog 3 dnR, rfl, fun _ => rfl, fun _ => ⟨dn0, rfl, rfl, rfl, rfl, ⟨rfl, .inl ⟨rfl, rfl⟩⟩⟩⟩
def SnPost (w : World) (S : St) (e : Ending) (w' : World) : Prop := ∃ sp, e = .returned (.pointer (some ⟨sp, 0, none⟩)) ∧ StW w' w.heap.size sp S ∧ Below w.heap.size w w'
theorem tab_base {w : World} {B B' lp : Nat} {v : Value} {L : Le.Tb} (h : Lq.TabW w B lp v L) (hB : B' ≤ B) : Lq.TabW w B' lp v L := ⟨h.here, own_base h.row hB, Nat.le_trans hB h.ge⟩
set_option maxHeartbeats 1000000 in
theorem snew_any (w : World) : Calls Tryz.prog 10 #[] w (SnPost w Zs.new) := by
  have HT := Lib.hid (new_any w)
  have HN := Lib.hid (fun W => Lq.new_any W)
  have hmm := @run_makeMap Tryz.prog
  go_enter Tryz.func10, Tryz.ntmps10
  go_wp2_with fail
  refine HT.out.mono ?_
  rintro e w1 ⟨tp, tmb, rfl, ht, hb1, htp, htm⟩
  have HT1 := Lib.hid ht
  have HB1 := Lib.hid hb1
  have HTP := Lib.hid htp
  clear ht hb1 htp htm
  go_wp2_with fail
  refine (HN.out w1).mono ?_
  rintro e w2 ⟨lp, lv, rfl, hl, hb2, hlp, hlv⟩
  have hd := dw_new w2
  have hb3 := box_below w2 (.map #[] 0)
  obtain ⟨w3, hw3⟩ : ∃ x, x = w2.alloc (.map #[] 0) := ⟨_, rfl⟩
  obtain ⟨mb, emb⟩ : ∃ x, x = w2.heap.size := ⟨_, rfl⟩
  rw [← hw3] at hd hb3
  have hb4 := box_below w3 (.cells #[.int .i64 0, .pointer (some ⟨tp, 0, none⟩), .pointer (some ⟨lp, 0, none⟩), .map (some mb)] 92)
  obtain ⟨w4, hw4⟩ : ∃ x, x = w3.alloc (.cells #[.int .i64 0, .pointer (some ⟨tp, 0, none⟩), .pointer (some ⟨lp, 0, none⟩), .map (some mb)] 92) := ⟨_, rfl⟩
  have hk4 := new_block w3 (.cells #[.int .i64 0, .pointer (some ⟨tp, 0, none⟩), .pointer (some ⟨lp, 0, none⟩), .map (some mb)] 92)
  rw [← hw4] at hb4 hk4
  have hb24 := hb3.trans (hb4.mono hb3.size)
  have hsz : w3.heap.size = mb + 1 := by rw [hw3, emb]; simp
  rw [hsz] at hk4
  have hs1 := HB1.out.size
  have hs2 := hb2.size
  have hs3 := hb3.size
  have HE : Hid (SnPost w Zs.new (.returned (.pointer (some ⟨mb + 1, 0, none⟩))) w4) := Lib.hid
    ⟨_, rfl, ⟨tp, tmb, lp, lv, mb, hk4, (HT1.out.below hb2).below hb24, tab_base (hl.below hb24) hs1, by rw [← emb] at hd; exact hd.keep (hb4.block _ hd.lt) (fun _ _ _ hv => own_below hv hb4), by omega, HTP.out, by omega⟩, (HB1.out.trans (hb2.mono hs1)).trans (hb24.mono (by omega))⟩
  have HW3 := Lib.hid hw3
  have HW4 := Lib.hid hw4
  have EMB := Lib.hid emb
  clear hsz hl hb2 hlp hlv hd hb3 hw3 emb hb4 hw4 hk4 hb24 hs1 hs2 hs3
  go_wp2_with fail
  rw [← HW3.out, ← EMB.out, ← HW4.out]
  go_ret
  exact HE.out
theorem szxid_any {w : World} {B sp : Nat} {S : St} (h : StW w B sp S) : Calls Tryz.prog 37 #[.pointer (some ⟨sp, 0, none⟩)] w fun e w' => e = .returned (.int .i64 S.z) ∧ w = w' := by
  obtain ⟨tp, tmb, lp, lv, mb, h⟩ := h
  have c0 := cell_of h.here (j := 0) rfl
  obtain ⟨z, hz⟩ : ∃ z, S.z = z := ⟨_, rfl⟩
  rw [hz] at c0 ⊢
  clear h hz
  go_enter Tryz.func37, Tryz.ntmps37
  go_wp2_with fail
  go_ret
  exact ⟨rfl, rfl⟩
end Go.Proofs.YtflgemlhocjipaaGreatDoor
