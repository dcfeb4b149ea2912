/-
  What slices.Clone of texts returns; a reply as the caller's own. Condition: there are not many texts.
  What New, Zxid, Tree, Leases, Last and Clone of a state return. Condition: the state is good.
-/
import Derived.Test.YtflgemlhocjipaaGreatDoorSMem
import Derived.Test.YtflgemlhocjipaaGreatDoorLOpen
import Derived.Test.YtflgemlhocjipaaGreatDoorDoP
import Derived.Test.YtflgemlhocjipaaGreatDoorEndP
namespace Go.Proofs.YtflgemlhocjipaaGreatDoor
set_option maxRecDepth 100000
open Go.ChangeShapes Go.WideShapes Go.ChangeAt Go.RowKit Go.Proofs.Zn Go.Proofs.Zt
open Go.Proofs.Zs (St Lst Rep)

theorem snil_yes : ∀ W, (binOp .eql 40 (.slice none 0 0) (.slice none 0 0)).run Tryz.prog W = .ok (.bool true) W := fun W => by kernel_rfl
theorem snil_no (W : World) (a : Addr) (n c : Nat) : (binOp .eql 40 (.slice (some a) n c) (.slice none 0 0)).run Tryz.prog W = .ok (.bool false) W := by kernel_rfl
def ScPost (w : World) (ps : List Txt) (e : Ending) (w' : World) : Prop := ∃ v, e = .returned v ∧ w'.ownsRow w.heap.size 9 1 v ps.length (scells ps) ∧ Below w.heap.size w w'
theorem scell_one (x : Txt) : ∀ u ∈ scell x, u.oneCell' = true := fun u hu => by
  simp only [scell, List.mem_cons, List.not_mem_nil, or_false] at hu
  rcases hu with rfl; rfl
set_option maxHeartbeats 1000000 in
theorem sclone_any {w : World} {B : Nat} {A : Option Addr} {n c : Nat} {ps : List Txt} (ho : w.ownsRow B 9 1 (.slice A n c) n (scells ps)) (hl : ps.length = n) (hn : n ≤ 100000) :
    Calls Tryz.prog 126 #[.slice A n c] w (ScPost w ps) := by
  have HL := Lib.hid hl
  rcases A with _ | ad
  · have hn0 : n = 0 ∧ c = 0 := by
      rcases ho.2 with ⟨e1, rfl⟩ | ⟨g, cap, cur, e1, _⟩
      · injection e1 with _ _ e3; exact ⟨rfl, e3⟩
      · injection e1 with e1; cases e1
    obtain ⟨rfl, rfl⟩ := hn0
    have HE : Hid (ScPost w ps (.returned (.slice none 0 0)) w) := Lib.hid (by
      have : ps = [] := List.eq_nil_of_length_eq_zero HL.out
      subst this
      exact ⟨_, rfl, World.ownsRow_nil _ _ _ _, Below.refl _ _⟩)
    have hnil := snil_yes
    clear ho hl
    go_enter Tryz.func126, Tryz.ntmps126
    go_wp2_with fail
    go_ret
    exact HE.out
  · have hr0 := Rd.of_own (cell := scell) (l := ps) ho (fun _ _ => rfl) (by omega)
    have hr : Lq.Rd scell 1 w (some ad) n ps := ⟨hr0.len, hr0.cells⟩
    have HO := Lib.hid ho
    obtain ⟨w1, hw1⟩ : ∃ w1, w1 = w.alloc (.cells #[] 9) := ⟨_, rfl⟩
    have hb1 : Below w.heap.size w w1 := by rw [hw1]; exact box_below w _
    obtain ⟨q, eq⟩ : ∃ q, q = w.heap.size := ⟨_, rfl⟩
    have hq : w1.heap[q]? = some (.cells #[] 9 (0, 0)) := by rw [hw1, eq]; exact new_block w _
    have ho1 : w1.ownsRow w.heap.size 9 1 (.slice (some ⟨q, 0, none⟩) 0 0) 0 [] := own_new hq (by omega) (by unfold maxLen; omega) rfl
    have hr1 := hr.below hb1
    obtain ⟨i0, hi, hz0, hz1, hz2⟩ := info_parts infoS
    have HW1 := Lib.hid hw1
    have EQ := Lib.hid eq
    have HB1 := Lib.hid hb1
    have hsz := hb1.size
    have hnil := fun W => snil_no W ad n c
    clear ho hw1 eq hr hr0 hb1 hq hl
    go_enter Tryz.func126, Tryz.ntmps126
    go_wp2_with (at_builtin; rw [← HW1.out, ← EQ.out]; refine Lq.wpList_append_rd rfl _ _ 40 rfl w.heap.size 9 i0 _ 1 16 Tryz.underlying40 hi hz0 hz1 hz2 rfl (by decide) _ _ _ rfl ho1 _ _ c ps rfl hr1 (fun _ _ => rfl) scell_one (fun h => by cases h) (by unfold maxLen; omega) (by omega) (by omega) ?_; intro v2 w2 hown2 hg2)
    have HE : Hid (ScPost w ps (.returned v2) w2) := Lib.hid (by
      rw [Nat.zero_add, List.nil_append] at hown2
      rw [← HL.out] at hown2
      exact ⟨v2, rfl, hown2, HB1.out.trans (Lq.gb_own ho1 hg2 (Nat.le_refl _) hsz)⟩)
    clear hown2 hg2 hr1 ho1
    go_wp2_with fail
    go_ret
    exact HE.out
/-- A reply that is told: its texts are new. -/
def ToPost (w : World) (c s : Int) (ps : List Txt) (e : Ending) (w' : World) : Prop := ∃ v, e = .returned (.agg #[.int .i64 c, .int .i64 s, v]) ∧ w'.ownsRow w.heap.size 9 1 v ps.length (scells ps) ∧ Below w.heap.size w w'
set_option maxHeartbeats 1000000 in
theorem told_any {w : World} {B : Nat} {A : Option Addr} {m k : Nat} {ps : List Txt} (ho : w.ownsRow B 9 1 (.slice A m k) m (scells ps)) (hl : ps.length = m) (hn : m ≤ 100000) (n c s : Int) :
    Calls Tryz.prog 83 #[.agg #[.int .i64 n, .int .i64 c, .int .i64 s, .slice A m k]] w (ToPost w c s ps) := by
  obtain ⟨w2, hw2, hb2, hq, hr, hs2⟩ := two_box w (.cells #[.int .i64 n, .int .i64 c, .int .i64 s, .slice A m k] 149) (.cells #[.int .i64 0, .int .i64 0, .slice none 0 0] 42)
  obtain ⟨q, eq⟩ : ∃ q, q = w.heap.size := ⟨_, rfl⟩
  obtain ⟨r, er⟩ : ∃ r, r = w.heap.size + 1 := ⟨_, rfl⟩
  rw [← eq] at hq
  rw [← er] at hr
  obtain ⟨w3, hw3⟩ : ∃ w3, w3 = w2.alloc (.cells #[.int .i64 c, .int .i64 s, .slice A m k] 42) := ⟨_, rfl⟩
  obtain ⟨t, et⟩ : ∃ t, t = w2.heap.size := ⟨_, rfl⟩
  have hb3 : Below w2.heap.size w2 w3 := by rw [hw3]; exact box_below w2 _
  have ht : w3.heap[t]? = some (.cells #[.int .i64 c, .int .i64 s, .slice A m k] 42 (0, 0)) := by rw [hw3, et]; exact new_block w2 _
  have hr3 := blk_below hr hb3
  have hb03 := hb2.trans (hb3.mono hb2.size)
  have HC := Lib.hid (sclone_any (own_below ho hb03) hl hn)
  have hne : r ≠ t ∧ w.heap.size ≤ r ∧ w.heap.size ≤ t := by omega
  have q0 := cell_of hq (j := 0) rfl
  have q1 := cell_of hq (j := 1) rfl
  have q2 := cell_of hq (j := 2) rfl
  have q3 := cell_of hq (j := 3) rfl
  have t0 := cell_of ht (j := 0) rfl
  have t1 := cell_of ht (j := 1) rfl
  have t2 := cell_of ht (j := 2) rfl
  have HW2 := Lib.hid hw2
  have HW3 := Lib.hid hw3
  have EQ := Lib.hid eq
  have ER := Lib.hid er
  have ET := Lib.hid et
  have HB := Lib.hid hb03
  have HT := Lib.hid ht
  have HR3 := Lib.hid hr3
  have HNE := Lib.hid hne
  clear hw2 hb2 hq hr hs2 eq er hw3 et hb3 ht hr3 hb03 hne ho hl hn
  go_enter Tryz.func83, Tryz.ntmps83
  go_upto_region 1 with fail
  rw [← HW2.out, ← ER.out, ← EQ.out]
  go_upto_region 2 with fail
  rw [← HW3.out, ← ET.out]
  go_wp2_with fail
  refine HC.out.mono ?_
  rintro e w4 ⟨v, rfl, hv, hb4⟩
  obtain ⟨A4, c4, rfl, -, -, -⟩ := own_form hv
  have ht4 := blk_below HT.out hb4
  have hr4 := blk_below HR3.out hb4
  have f2 := frozen_of_row w4 t 2 _ _ ht4
  obtain ⟨w5, hw5⟩ : ∃ w5, w5 = w4.setCell ⟨t, 2, none⟩ (.slice A4 ps.length c4) := ⟨_, rfl⟩
  obtain ⟨hwr5, ht5⟩ := seti ht4 2 (.slice A4 ps.length c4)
  rw [← hw5] at hwr5 ht5
  have ht5' : w5.heap[t]? = some (.cells #[.int .i64 c, .int .i64 s, .slice A4 ps.length c4] 42 (0, 0)) := ht5
  have hr5 := hwr5.blk HNE.out.1 hr4
  have hv5 := own_gb hv hwr5.gb (own_ne hv ht4 (by decide))
  obtain ⟨w6, hw6⟩ : ∃ w6, w6 = (((w5.setCell ⟨r, 0, none⟩ (.int .i64 c)).setCell ⟨r, 1, none⟩ (.int .i64 s)).setCell ⟨r, 2, none⟩ (.slice A4 ps.length c4)) := ⟨_, rfl⟩
  obtain ⟨hwr6, hr6⟩ := set3 hr5 (.int .i64 c) (.int .i64 s) (.slice A4 ps.length c4)
  rw [← hw6] at hwr6 hr6
  have hv6 := own_gb hv5 hwr6.gb (own_ne hv5 hr5 (by decide))
  have HE : Hid (ToPost w c s ps (.returned (.agg #[.int .i64 c, .int .i64 s, .slice A4 ps.length c4])) w6) := Lib.hid
    ⟨_, rfl, own_base hv6 HB.out.size, HB.out.trans ((((hb4.mono HB.out.size).trans (hwr5.below.mono HNE.out.2.2))).trans (hwr6.below.mono HNE.out.2.1))⟩
  have x0 := cell_of ht4 (j := 0) rfl
  have x1 := cell_of ht4 (j := 1) rfl
  have x2 := cell_of ht4 (j := 2) rfl
  have u0 := cell_of ht5' (j := 0) rfl
  have u1 := cell_of ht5' (j := 1) rfl
  have u2 := cell_of ht5' (j := 2) rfl
  have y0 := cell_of hr5 (j := 0) rfl
  have y1 := cell_of hr5 (j := 1) rfl
  have y2 := cell_of hr5 (j := 2) rfl
  have g0 := frozen_of_row w5 _ 0 _ _ hr5
  have g1 := frozen_of_row w5 _ 1 _ _ hr5
  have g2 := frozen_of_row w5 _ 2 _ _ hr5
  have z0 := cell_of hr6 (j := 0) rfl
  have z1 := cell_of hr6 (j := 1) rfl
  have z2 := cell_of hr6 (j := 2) rfl
  have HW5 := Lib.hid hw5
  have HW6 := Lib.hid hw6
  clear hw5 hwr5 ht5 ht5' hr5 hv5 hw6 hwr6 hr6 hv6 ht4 hr4 hb4 hv
  go_upto_region 3 with fail
  rw [← HW5.out]
  go_wp2_with fail
  rw [← HW6.out]
  exact bodyPost_ret (v := .agg #[.int .i64 c, .int .i64 s, .slice A4 ps.length c4]) (by simp [results, Tryz.results83, go_sem, z0, z1, z2]) rfl HE.out
end Go.Proofs.YtflgemlhocjipaaGreatDoor
namespace Go.Proofs.YtflgemlhocjipaaGreatDoor
set_option maxRecDepth 100000
open Go.ChangeShapes Go.WideShapes Go.ChangeAt Go.RowKit Go.Proofs.Zn Go.Proofs.Zt
open Go.Proofs.Zs (St Lst Rep Tx)

/-- An empty map. -/
theorem dw_new (w : World) : DW (w.alloc (.map #[] 0)) w.heap.size [] [] :=
  ⟨.map [], World.ownsMap_made w Tryz.prog 3 dnR, rfl, fun _ => rfl, fun _ => ⟨dn0, rfl, rfl, rfl, rfl, ⟨rfl, .inl ⟨rfl, rfl⟩⟩⟩⟩
def SnPost (w : World) (S : St) (e : Ending) (w' : World) : Prop := ∃ sp, e = .returned (.pointer (some ⟨sp, 0, none⟩)) ∧ StW w' w.heap.size sp S ∧ Below w.heap.size w w'
theorem tab_base {w : World} {B B' lp : Nat} {v : Value} {L : Le.Tb} (h : Lq.TabW w B lp v L) (hB : B' ≤ B) : Lq.TabW w B' lp v L := ⟨h.here, own_base h.row hB, Nat.le_trans hB h.ge⟩
set_option maxHeartbeats 1000000 in
theorem snew_any (w : World) : Calls Tryz.prog 10 #[] w (SnPost w Zs.new) := by
  have HT := Lib.hid (new_any w)
  have HN := Lib.hid (fun W => Lq.new_any W)
  have hmm := @run_makeMap Tryz.prog
  go_enter Tryz.func10, Tryz.ntmps10
  go_wp2_with fail
  refine HT.out.mono ?_
  rintro e w1 ⟨tp, tmb, rfl, ht, hb1, htp, htm⟩
  have HT1 := Lib.hid ht
  have HB1 := Lib.hid hb1
  have HTP := Lib.hid htp
  clear ht hb1 htp htm
  go_wp2_with fail
  refine (HN.out w1).mono ?_
  rintro e w2 ⟨lp, lv, rfl, hl, hb2, hlp, hlv⟩
  have hd := dw_new w2
  have hb3 := box_below w2 (.map #[] 0)
  obtain ⟨w3, hw3⟩ : ∃ x, x = w2.alloc (.map #[] 0) := ⟨_, rfl⟩
  obtain ⟨mb, emb⟩ : ∃ x, x = w2.heap.size := ⟨_, rfl⟩
  rw [← hw3] at hd hb3
  have hb4 := box_below w3 (.cells #[.int .i64 0, .pointer (some ⟨tp, 0, none⟩), .pointer (some ⟨lp, 0, none⟩), .map (some mb)] 92)
  obtain ⟨w4, hw4⟩ : ∃ x, x = w3.alloc (.cells #[.int .i64 0, .pointer (some ⟨tp, 0, none⟩), .pointer (some ⟨lp, 0, none⟩), .map (some mb)] 92) := ⟨_, rfl⟩
  have hk4 := new_block w3 (.cells #[.int .i64 0, .pointer (some ⟨tp, 0, none⟩), .pointer (some ⟨lp, 0, none⟩), .map (some mb)] 92)
  rw [← hw4] at hb4 hk4
  have hb24 := hb3.trans (hb4.mono hb3.size)
  have hsz : w3.heap.size = mb + 1 := by rw [hw3, emb]; simp
  rw [hsz] at hk4
  have hs1 := HB1.out.size
  have hs2 := hb2.size
  have hs3 := hb3.size
  have HE : Hid (SnPost w Zs.new (.returned (.pointer (some ⟨mb + 1, 0, none⟩))) w4) := Lib.hid
    ⟨_, rfl, ⟨tp, tmb, lp, lv, mb, hk4, (HT1.out.below hb2).below hb24, tab_base (hl.below hb24) hs1, by rw [← emb] at hd; exact hd.keep (hb4.block _ hd.lt) (fun _ _ _ hv => own_below hv hb4), by omega, HTP.out, by omega⟩, (HB1.out.trans (hb2.mono hs1)).trans (hb24.mono (by omega))⟩
  have HW3 := Lib.hid hw3
  have HW4 := Lib.hid hw4
  have EMB := Lib.hid emb
  clear hsz hl hb2 hlp hlv hd hb3 hw3 emb hb4 hw4 hk4 hb24 hs1 hs2 hs3
  go_wp2_with fail
  rw [← HW3.out, ← EMB.out, ← HW4.out]
  go_ret
  exact HE.out
theorem szxid_any {w : World} {B sp : Nat} {S : St} (h : StW w B sp S) : Calls Tryz.prog 37 #[.pointer (some ⟨sp, 0, none⟩)] w fun e w' => e = .returned (.int .i64 S.z) ∧ w = w' := by
  obtain ⟨tp, tmb, lp, lv, mb, h⟩ := h
  have c0 := cell_of h.here (j := 0) rfl
  obtain ⟨z, hz⟩ : ∃ z, S.z = z := ⟨_, rfl⟩
  rw [hz] at c0 ⊢
  clear h hz
  go_enter Tryz.func37, Tryz.ntmps37
  go_wp2_with fail
  go_ret
  exact ⟨rfl, rfl⟩
theorem stree_any {w : World} {B sp : Nat} {S : St} (h : StW w B sp S) : Calls Tryz.prog 32 #[.pointer (some ⟨sp, 0, none⟩)] w (ClPost S.T w) := by
  obtain ⟨tp, tmb, lp, lv, mb, h⟩ := h
  have c1 := cell_of h.here (j := 1) rfl
  have HC := Lib.hid (clone_tree h.tree)
  clear h
  go_enter Tryz.func32, Tryz.ntmps32
  go_wp2_with fail
  refine HC.out.mono ?_
  rintro e w2 ⟨up, mb2, rfl, h1, h2, h3, h4⟩
  have HE : Hid (ClPost S.T w (.returned (.pointer (some ⟨up, 0, none⟩))) w2) := Lib.hid ⟨up, mb2, rfl, h1, h2, h3, h4⟩
  clear h1 h2 h3 h4
  go_wp2_with fail
  go_ret
  exact HE.out
theorem sleases_any {w : World} {B sp : Nat} {S : St} (h : StW w B sp S) (hg : Le.Good S.L) : Calls Tryz.prog 33 #[.pointer (some ⟨sp, 0, none⟩)] w (Lq.NwPost w S.L) := by
  obtain ⟨tp, tmb, lp, lv, mb, h⟩ := h
  have c1 := cell_of h.here (j := 2) rfl
  have HC := Lib.hid (Lq.clone_any h.tab (by have := hg.len; omega))
  clear h hg
  go_enter Tryz.func33, Tryz.ntmps33
  go_wp2_with fail
  refine HC.out.mono ?_
  rintro e w2 ⟨up, v2, rfl, h1, h2, h3, h4⟩
  have HE : Hid (Lq.NwPost w S.L (.returned (.pointer (some ⟨up, 0, none⟩))) w2) := Lib.hid ⟨up, v2, rfl, h1, h2, h3, h4⟩
  clear h1 h2 h3 h4
  go_wp2_with fail
  go_ret
  exact HE.out
def LaPost (S : St) (a : Int) (w : World) (e : Ending) (w' : World) : Prop := ∃ v, e = .returned (.tuple #[.int .i64 (Zs.fd S.D a).n, .agg #[.int .i64 (Zs.fd S.D a).r.c, .int .i64 (Zs.fd S.D a).r.s, v], .bool (Le.has S.L a).isSome]) ∧
  w'.ownsRow w.heap.size 9 1 v (Zs.fd S.D a).r.ps.length (scells (Zs.fd S.D a).r.ps) ∧ Below w.heap.size w w'
set_option maxHeartbeats 2000000 in
theorem slast_any {w : World} {B sp : Nat} {S : St} (h : StW w B sp S) {a : Int} (h0 : 0 ≤ a) (h1 : a ≤ 4611686018427387904) (hps : (Zs.fd S.D a).r.ps.length ≤ 1000) : Calls Tryz.prog 36 #[.pointer (some ⟨sp, 0, none⟩), .int .i64 a] w (LaPost S a w) := by
  obtain ⟨tp, tmb, lp, lv, mb, h⟩ := h
  obtain ⟨w1, hw1⟩ : ∃ xx, xx = w.alloc (.cells #[.int .i64 0, .int .i64 0, .slice none 0 0] 42) := ⟨_, rfl⟩
  obtain ⟨r, er⟩ : ∃ xx, xx = w.heap.size := ⟨_, rfl⟩
  have hbw1 : Below w.heap.size w w1 := by rw [hw1]; exact box_below w _
  have hkr : w1.heap[r]? = some (.cells #[.int .i64 0, .int .i64 0, .slice none 0 0] 42 (0, 0)) := by rw [hw1, er]; exact new_block w _
  obtain ⟨d, hd1, -, d1, d2, d3, hrow⟩ := dlook_ok (h.below hbw1).map h0 h1
  obtain ⟨b, hb⟩ : ∃ b, (Le.has S.L a).isSome = b := ⟨_, rfl⟩
  have hlook := hd1 b hb
  unfold LaPost
  rw [← d1, ← d2, ← d3, hb]
  obtain ⟨ps, hpe⟩ : ∃ ps, (Zs.fd S.D a).r.ps = ps := ⟨_, rfl⟩
  rw [hpe] at hrow hps ⊢
  obtain ⟨w2, hw2⟩ : ∃ xx, xx = w1.alloc (.cells #[.int .i64 d.n, .int .i64 d.c, .int .i64 d.s, .slice d.A d.m d.k] 149) := ⟨_, rfl⟩
  obtain ⟨q, eq⟩ : ∃ xx, xx = w1.heap.size := ⟨_, rfl⟩
  have hbw2 : Below w1.heap.size w1 w2 := by rw [hw2]; exact box_below w1 _
  have hkq : w2.heap[q]? = some (.cells #[.int .i64 d.n, .int .i64 d.c, .int .i64 d.s, .slice d.A d.m d.k] 149 (0, 0)) := by rw [hw2, eq]; exact new_block w1 _
  have hm : d.m = ps.length := by
    obtain ⟨A, c, e, -, -, -⟩ := own_form hrow
    injection e
  have hrow2 := own_below hrow hbw2
  rw [← hm] at hrow2
  have hr2 := blk_below hkr hbw2
  have hb02 := hbw1.trans (hbw2.mono hbw1.size)
  have c3 := cell_of (h.below hbw1).here (j := 3) rfl
  have q0 := cell_of hkq (j := 0) rfl
  have q1 := cell_of hkq (j := 1) rfl
  have q2 := cell_of hkq (j := 2) rfl
  have q3 := cell_of hkq (j := 3) rfl
  have HC : Hid (∀ W, Below w2.heap.size w2 W → Calls Tryz.prog 83 #[.agg #[.int .i64 d.n, .int .i64 d.c, .int .i64 d.s, .slice d.A d.m d.k]] W (ToPost W d.c d.s ps)) := Lib.hid (fun W hW => told_any (own_below hrow2 hW) hm.symm (by omega) d.n d.c d.s)
  have hne : q ≠ r ∧ w.heap.size ≤ r := by have := blk_lt hkr; omega
  have HS : Hid (∀ (W : World), Below w2.heap.size w2 W → (W.cell? ⟨q, 0, none⟩ = some (.int .i64 d.n) ∧ W.cell? ⟨q, 1, none⟩ = some (.int .i64 d.c) ∧ W.cell? ⟨q, 2, none⟩ = some (.int .i64 d.s) ∧ W.cell? ⟨q, 3, none⟩ = some (.slice d.A d.m d.k))) := Lib.hid (fun W hW => by
    have hx := blk_below hkq hW
    exact ⟨cell_of hx (j := 0) rfl, cell_of hx (j := 1) rfl, cell_of hx (j := 2) rfl, cell_of hx (j := 3) rfl⟩)
  have HSK : Hid (∀ (W : World) (j : Nat) (v : Value), (W.cell? ⟨q, 0, none⟩ = some (.int .i64 d.n) ∧ W.cell? ⟨q, 1, none⟩ = some (.int .i64 d.c) ∧ W.cell? ⟨q, 2, none⟩ = some (.int .i64 d.s) ∧ W.cell? ⟨q, 3, none⟩ = some (.slice d.A d.m d.k)) → (fun W => W.cell? ⟨q, 0, none⟩ = some (.int .i64 d.n) ∧ W.cell? ⟨q, 1, none⟩ = some (.int .i64 d.c) ∧ W.cell? ⟨q, 2, none⟩ = some (.int .i64 d.s) ∧ W.cell? ⟨q, 3, none⟩ = some (.slice d.A d.m d.k)) (W.setCell ⟨r, j, none⟩ v)) := Lib.hid (fun W j v hS => by
    have kk : ∀ o u, W.cell? ⟨q, o, none⟩ = some u → (W.setCell ⟨r, j, none⟩ v).cell? ⟨q, o, none⟩ = some u := fun o u hx => by rw [World.cell?_setCell_far _ _ _ _ (Ne.symm hne.1)]; exact hx
    obtain ⟨s0, s1, s2, s3⟩ := hS
    exact ⟨kk _ _ s0, kk _ _ s1, kk _ _ s2, kk _ _ s3⟩)
  have HR2 := Lib.hid hr2
  have HB02 := Lib.hid hb02
  have HNE := Lib.hid hne
  have HW1 := Lib.hid hw1
  have HW2 := Lib.hid hw2
  have EQ := Lib.hid eq
  have ER := Lib.hid er
  clear h hd1 d1 d2 d3 hrow hb hpe hps hm hrow2 hr2 hb02 hne hw1 hw2 eq er hbw1 hbw2 hkr hkq
  go_enter Tryz.func36, Tryz.ntmps36
  go_upto_region 1 with fail
  rw [← HW1.out, ← ER.out]
  go_upto_region 2 with fail
  rw [← HW2.out, ← EQ.out]
  go_region_held3 (fun W => W.cell? ⟨q, 0, none⟩ = some (.int .i64 d.n) ∧ W.cell? ⟨q, 1, none⟩ = some (.int .i64 d.c) ∧ W.cell? ⟨q, 2, none⟩ = some (.int .i64 d.s) ∧ W.cell? ⟨q, 3, none⟩ = some (.slice d.A d.m d.k))
    (first
      | assumption
      | (with_reducible exact HS.out _ (Below.refl _ _).drew)
      | (with_reducible exact HSK.out _ _ _ (HSK.out _ _ _ (HSK.out _ _ _ (by assumption)))))
    (first
      | (go_at_call 83; (with_reducible refine (HC.out _ (Below.refl _ _).drew).mono ?_); rintro e w4 ⟨v, rfl, hv, hb4⟩; have hB4 := ((Below.refl w2.heap.size w2).drew).trans (hb4.mono (Nat.le_refl _)); have hS4 := HS.out w4 hB4; have hr4 := blk_below HR2.out hB4; obtain ⟨A4, c4, rfl, -, -, -⟩ := own_form hv; have r0 := cell_of hr4 (j := 0) rfl; have r1 := cell_of hr4 (j := 1) rfl; have r2 := cell_of hr4 (j := 2) rfl; have f0 := frozen_of_row w4 r 0 _ _ hr4; have f1 := frozen_of_row w4 r 1 _ _ hr4; have f2 := frozen_of_row w4 r 2 _ _ hr4))
  rename_i hHeld
  obtain ⟨w6, hw6⟩ : ∃ xx, xx = (((w4.setCell ⟨r, 0, none⟩ (.int .i64 d.c)).setCell ⟨r, 1, none⟩ (.int .i64 d.s)).setCell ⟨r, 2, none⟩ (.slice A4 ps.length c4)) := ⟨_, rfl⟩
  obtain ⟨hwrw6, hkw6⟩ := set3 hr4 (.int .i64 d.c) (.int .i64 d.s) (.slice A4 ps.length c4)
  rw [← hw6] at hwrw6 hkw6
  have hv6 := own_gb hv hwrw6.gb (own_ne hv hr4 (by decide))
  have HE : Hid (∃ v, Ending.returned (.tuple #[.int .i64 d.n, .agg #[.int .i64 d.c, .int .i64 d.s, .slice A4 ps.length c4], .bool b]) = .returned (.tuple #[.int .i64 d.n, .agg #[.int .i64 d.c, .int .i64 d.s, v], .bool b]) ∧ w6.ownsRow w.heap.size 9 1 v ps.length (scells ps) ∧ Below w.heap.size w w6) := Lib.hid
    ⟨_, rfl, own_base hv6 (by simpa using HB02.out.size), (HB02.out.trans (hB4.mono HB02.out.size)).trans (hwrw6.below.mono HNE.out.2)⟩
  rw [← hw6]
  have z0 := cell_of hkw6 (j := 0) rfl
  have z1 := cell_of hkw6 (j := 1) rfl
  have z2 := cell_of hkw6 (j := 2) rfl
  clear hHeld hw6 hwrw6 hkw6 hv6 hv hB4 hb4 hS4 hr4 r0 r1 r2 f0 f1 f2
  go_wp2_with fail
  exact bodyPost_ret (v := .tuple #[.int .i64 d.n, .agg #[.int .i64 d.c, .int .i64 d.s, .slice A4 ps.length c4], .bool b]) (by simp [results, Tryz.results36, go_sem, z0, z1, z2]) rfl HE.out
end Go.Proofs.YtflgemlhocjipaaGreatDoor
