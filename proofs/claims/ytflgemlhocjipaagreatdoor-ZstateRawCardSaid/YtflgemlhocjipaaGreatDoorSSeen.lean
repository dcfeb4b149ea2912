/-
  What a state has, as the document has it. Condition: the state is good.
-/
import Derived.Test.YtflgemlhocjipaaGreatDoorSChange
import Derived.Test.YtflgemlhocjipaaGreatDoorSDoc1
namespace Go.Proofs.YtflgemlhocjipaaGreatDoor
set_option maxRecDepth 100000
open Go.ChangeShapes Go.WideShapes Go.ChangeAt Go.RowKit Go.Proofs.Zn Go.Proofs.Zt
open Go.Proofs.Zs (St Lst Rep Tx)

theorem gbo_blk {w w' : World} {base e sz n : Nat} {v : Value} {xs : List Value} (ho : w.ownsRow base e sz v n xs) (hg : w.grownBy w' v.ownBlock) {q : Nat} {cs : Array Value} {t : TypeId} {fr : Nat × Nat} (hq : w.heap[q]? = some (.cells cs t fr)) (hne : t ≠ e) : w'.heap[q]? = some (.cells cs t fr) :=
  (hg.block q (blk_lt hq) (fun e' => own_ne ho hq hne e'.symm)).trans hq
def seenD (D : List Lst) (L : Le.Tb) : List Lst := L.filterMap (fun x => if 0 < (Zs.fd D x.i).n then some ⟨x.i, (Zs.fd D x.i).n, (Zs.fd D x.i).r⟩ else none)
theorem seen_step {D : List Lst} {L : Le.Tb} {k : Nat} {x : Le.Ls} (hx : L[k]? = some x) : seenD D (L.take (k + 1)) = seenD D (L.take k) ++ (if 0 < (Zs.fd D x.i).n then [⟨x.i, (Zs.fd D x.i).n, (Zs.fd D x.i).r⟩] else []) := by
  obtain ⟨hk, rfl⟩ := List.getElem?_eq_some_iff.1 hx
  rw [List.take_succ_eq_append_getElem hk]
  unfold seenD
  rw [List.filterMap_append]
  split <;> simp_all
theorem seen_lk {D : List Lst} {L : Le.Tb} (hs : Le.Srt L) {x : Le.Ls} (hx : x ∈ L) : Zs.lk (seenD D L) x.i = if 0 < (Zs.fd D x.i).n then some ⟨x.i, (Zs.fd D x.i).n, (Zs.fd D x.i).r⟩ else none := by
  induction L with
  | nil => cases hx
  | cons y L ih =>
    obtain ⟨h1, h2⟩ := List.pairwise_cons.1 hs
    have hnone : ∀ {M : Le.Tb} {a : Int}, (∀ z ∈ M, z.i ≠ a) → Zs.lk (seenD D M) a = none := fun {M a} hM => Zs.lk_none.2 fun z hz e => by
      obtain ⟨u, hu, he⟩ := List.mem_filterMap.1 hz
      split at he
      · injection he with he
        rw [← he] at e
        exact hM u hu e
      · cases he
    unfold seenD
    rw [List.filterMap_cons]
    rcases List.mem_cons.1 hx with rfl | hx'
    · split
      · rename_i hif
        split at hif
        · cases hif
        · rename_i hn
          rw [if_neg hn]
          exact hnone (fun z hz e => by have := h1 z hz; omega)
      · rename_i z hif
        split at hif
        · rename_i hp
          injection hif with hif
          subst hif
          rw [if_pos hp]
          unfold Zs.lk
          rw [List.find?_cons_of_pos (by simp)]
        · cases hif
    · have hne : y.i ≠ x.i := by have := h1 x hx'; omega
      split
      · exact ih h2 hx'
      · rename_i z hif
        split at hif
        · injection hif with hif
          subst hif
          have := ih h2 hx'
          unfold Zs.lk at this ⊢
          rw [List.find?_cons_of_neg (by simpa using hne)]
          exact this
        · cases hif
theorem seen_fd {S : St} (hg : Zs.Gd S) {x : Le.Ls} (hx : x ∈ S.L) : Zs.fd (seenD S.D S.L) x.i = Zs.fd S.D x.i := by
  have h := seen_lk (D := S.D) hg.L.srt hx
  by_cases hp : 0 < (Zs.fd S.D x.i).n
  · rw [if_pos hp] at h
    rw [Zs.fd_some h]
    have : (Zs.fd S.D x.i).s = x.i := by
      cases hk : Zs.lk S.D x.i with
      | none => rw [Zs.fd_zero hk]
      | some y => rw [Zs.fd_some hk]; exact (Zs.lk_some hk).2
    cases hf : Zs.fd S.D x.i with
    | mk a b c => rw [hf] at this; dsimp only at this ⊢; rw [this]
  · rw [if_neg hp] at h
    rw [Zs.fd_zero h]
    cases hk : Zs.lk S.D x.i with
    | none => rw [Zs.fd_zero hk]
    | some y =>
      rw [Zs.fd_some hk] at hp
      have := (hg.ps y (Zs.lk_some hk).1).2.1
      omega
theorem fd_ps {S : St} (hg : Zs.Gd S) (a : Int) : (Zs.fd S.D a).r.ps.length ≤ 6 ∧ 0 ≤ (Zs.fd S.D a).n := by
  cases hk : Zs.lk S.D a with
  | none => rw [Zs.fd_zero hk]; exact ⟨Nat.zero_le _, Int.le_refl _⟩
  | some y => rw [Zs.fd_some hk]; have := hg.ps y (Zs.lk_some hk).1; exact ⟨this.1, by omega⟩
theorem seen_len (D : List Lst) (L : Le.Tb) : (seenD D L).length ≤ L.length := List.length_filterMap_le _ _
def SePost (B : Nat) (S : St) (w : World) (e : Ending) (w' : World) : Prop := ∃ vT vL vD, e = .returned (.tuple #[.agg #[.int .i64 S.z, vT, vL, vD], .bool true]) ∧ RW w' B vT vL vD ⟨S.z, S.T, S.L, seenD S.D S.L⟩ ∧ Below w.heap.size w w'
/-- The same, and the tree's slice fits. -/
def SePost2 (B : Nat) (S : St) (w : World) (e : Ending) (w' : World) : Prop := ∃ A c vL vD, e = .returned (.tuple #[.agg #[.int .i64 S.z, .slice A S.T.length c, vL, vD], .bool true]) ∧ RW w' B (.slice A S.T.length c) vL vD ⟨S.z, S.T, S.L, seenD S.D S.L⟩ ∧ (S.T.length ≤ c ∧ c ≤ maxLen) ∧ Below w.heap.size w w'
structure SeR (w : World) (B sp rb : Nat) (AL : Option Addr) (cl : Nat) (vT : Value) (S : St) (k : Nat) (wr : World) : Prop where
  hb : Below w.heap.size w wr
  st : StW wr B sp S
  all : wr.ownsRow w.heap.size 100 3 (.slice AL S.L.length cl) S.L.length (Lq.lcells S.L)
  tree : wr.ownsRow w.heap.size 132 9 vT S.T.length (ncells S.T)
  rest : ∃ Al cl Av cv l, wr.heap[rb]? = some (.cells #[.int .i64 S.z, vT, .slice Al k cl, .slice Av l.length cv] 31 (0, 0)) ∧ wr.ownsRow w.heap.size 82 3 (.slice Al k cl) k (Lq.lcells (S.L.take k)) ∧
    wr.ownsRow w.heap.size 102 5 (.slice Av l.length cv) l.length (lvcells l) ∧ l.map lvL = seenD S.D (S.L.take k) ∧ ∀ x ∈ l, wr.ownsRow w.heap.size 9 1 (.slice x.A x.m x.k) x.m (scells x.ps) ∧ x.ps.length = x.m
theorem SeR.below {w wr w' : World} {B sp rb cl k : Nat} {AL : Option Addr} {vT : Value} {S : St} (h : SeR w B sp rb AL cl vT S k wr) (hb : Below wr.heap.size wr w') : SeR w B sp rb AL cl vT S k w' := by
  obtain ⟨Al, cl', Av, cv, l, h1, h2, h3, h4, h5⟩ := h.rest
  exact ⟨h.hb.trans (hb.mono h.hb.size), h.st.below hb, own_below h.all hb, own_below h.tree hb, Al, cl', Av, cv, l, blk_below h1 hb, own_below h2 hb, own_below h3 hb, h4, fun x hx => ⟨own_below (h5 x hx).1 hb, (h5 x hx).2⟩⟩
set_option maxHeartbeats 8000000 in
theorem seen_any2 {w : World} {B sp : Nat} {S : St} (h : StW w B sp S) (hg : Zs.Gd S) : Calls Tryz.prog 18 #[.pointer (some ⟨sp, 0, none⟩)] w (SePost2 B S w) := by
  obtain ⟨w1, hw1⟩ : ∃ xx, xx = w.alloc (.cells #[.int .i64 0, .slice none 0 0, .slice none 0 0, .slice none 0 0] 31) := ⟨_, rfl⟩
  obtain ⟨r, er⟩ : ∃ xx, xx = w.heap.size := ⟨_, rfl⟩
  have hbw1 : Below w.heap.size w w1 := by rw [hw1]; exact box_below w _
  have hkr : w1.heap[r]? = some (.cells #[.int .i64 0, .slice none 0 0, .slice none 0 0, .slice none 0 0] 31 (0, 0)) := by rw [hw1, er]; exact new_block w _
  have h1 := h.below hbw1
  have HCT := Lib.hid (stree_any h1)
  have HCL : Hid (∀ (W : World), Below w1.heap.size w1 W → Calls Tryz.prog 33 #[.pointer (some ⟨sp, 0, none⟩)] W (Lq.NwPost W S.L)) := Lib.hid (fun W hW => sleases_any (h1.below hW) hg.L)
  have HCZ : Hid (∀ (W : World), Below w1.heap.size w1 W → Calls Tryz.prog 37 #[.pointer (some ⟨sp, 0, none⟩)] W fun e w' => e = .returned (.int .i64 S.z) ∧ W = w') := Lib.hid (fun W hW => szxid_any (h1.below hW))
  have HSR0 : Hid (∀ (W : World), Below w.heap.size w W → StW W B sp S) := Lib.hid (fun W hW => h.below hW)
  have HH1 := Lib.hid h1
  have HG := Lib.hid hg
  have HB1 := Lib.hid hbw1
  have HR1 := Lib.hid hkr
  have HW1 := Lib.hid hw1
  have ER := Lib.hid er
  have HLE : Hid (w.heap.size ≤ r) := Lib.hid (Nat.le_of_eq er.symm)
  clear h h1 hg hw1 hbw1 hkr er
  go_enter Tryz.func18, Tryz.ntmps18
  go_upto_region 1 with fail
  rw [← HW1.out, ← ER.out]
  go_wp2_with fail
  refine HCT.out.mono ?_
  rintro e w2 ⟨up, umb, rfl, ht2, hb2, -, -⟩
  have HT2 := Lib.hid ht2
  have HB2 := Lib.hid hb2
  clear ht2 hb2
  go_wp2_with fail
  refine (HCL.out w2 HB2.out).mono ?_
  rintro e w3 ⟨lp2, lv2, rfl, hl3, hb3, -, -⟩
  have HL3 := Lib.hid hl3
  have HT3 := Lib.hid (HT2.out.below hb3)
  have HB3 : Hid (Below w1.heap.size w1 w3) := Lib.hid (HB2.out.trans (hb3.mono HB2.out.size))
  clear hl3 hb3
  go_wp2_with fail
  refine (HCZ.out w3 HB3.out).mono ?_
  rintro e w3' ⟨rfl, rfl⟩
  have HAL := Lib.hid (all_any HT3.out HG.out.T)
  go_wp2_with fail
  refine HAL.out.mono ?_
  rintro e w4 ⟨vT, rfl, hv4, hb4⟩
  obtain ⟨AT, cT, rfl, -, -, -⟩ := own_form hv4
  have hB4 : Below w1.heap.size w1 w4 := HB3.out.trans (hb4.mono HB3.out.size)
  obtain ⟨w5, hw5⟩ : ∃ xx, xx = w4.alloc (.cells #[.int .i64 S.z, .slice AT S.T.length cT, .slice none 0 0, .slice none 0 0] 31) := ⟨_, rfl⟩
  obtain ⟨rb, erb⟩ : ∃ xx, xx = w4.heap.size := ⟨_, rfl⟩
  have hbw5 : Below w4.heap.size w4 w5 := by rw [hw5]; exact box_below w4 _
  have hkrb : w5.heap[rb]? = some (.cells #[.int .i64 S.z, .slice AT S.T.length cT, .slice none 0 0, .slice none 0 0] 31 (0, 0)) := by rw [hw5, erb]; exact new_block w4 _
  have hB5 : Below w.heap.size w w5 := (HB1.out.trans ((hB4.trans (hbw5.mono hB4.size)).mono HB1.out.size))
  have hl5 := (HL3.out.below hb4).below hbw5
  have HLA := Lib.hid (Lq.all_any hl5 (by have := HG.out.L.len; omega))
  have hlerb : w.heap.size ≤ rb := by
    have := HB1.out.size
    have := hB4.size
    omega
  have HSR : Hid (∀ (A : Option Addr) (c : Nat) (W : World), W.ownsRow w5.heap.size 100 3 (.slice A S.L.length c) S.L.length (Lq.lcells S.L) → Below w5.heap.size w5 W → SeR w B sp rb A c (.slice AT S.T.length cT) S 0 W) := Lib.hid (fun A c W ha hb => ⟨hB5.trans (hb.mono hB5.size), (HH1.out.below (hB4.trans (hbw5.mono hB4.size))).below hb, own_base ha hB5.size, own_base (own_below (own_below hv4 hbw5) hb) (by have := HB1.out.size; have := HB3.out.size; omega),
    none, 0, none, 0, [], blk_below hkrb hb, ⟨rfl, .inl ⟨rfl, rfl⟩⟩, ⟨rfl, .inl ⟨rfl, rfl⟩⟩, rfl, fun x hx => (by cases hx)⟩)
  have HB5 := Lib.hid hB5
  have HRL := Lib.hid hlerb
  have HW5 := Lib.hid hw5
  have ERB := Lib.hid erb
  have HR5 : Hid (w5.heap[r]? = some (.cells #[.int .i64 0, .slice none 0 0, .slice none 0 0, .slice none 0 0] 31 (0, 0)) ∧ r ≠ rb) := Lib.hid ⟨blk_below (blk_below HR1.out hB4) hbw5, by have := blk_lt (blk_below HR1.out hB4); omega⟩
  clear hv4 hb4 hB4 hw5 erb hbw5 hkrb hB5 hl5 hlerb
  go_upto_region 5 with fail
  rw [← HW5.out, ← ERB.out]
  go_wp2_with fail
  refine HLA.out.mono ?_
  rintro e w6 ⟨AL, cl, rfl, ha6, hb6⟩
  have HS6 := Lib.hid (HSR.out AL cl w6 ha6 hb6)
  have HR6 := Lib.hid (And.intro (blk_below HR5.out.1 hb6) HR5.out.2)
  have HB6 := Lib.hid hb6
  obtain ⟨n, hnn⟩ : ∃ n, S.L.length = n := ⟨_, rfl⟩
  have HNN := Lib.hid hnn
  clear ha6 hb6
  rw [hnn]
  clear hnn
  go_wp2_with fail
  go_loopw [31] (fun i wr => ∃ k : Nat, k ≤ n ∧ i = .int .i64 k ∧ Hid (SeR w B sp rb AL cl (.slice AT S.T.length cT) S k wr) ∧ Hid (wr.heap[r]? = some (.cells #[.int .i64 0, .slice none 0 0, .slice none 0 0, .slice none 0 0] 31 (0, 0)))) (fun i _ => n - (intOf i).toNat)
  case atStart => exact ⟨0, Nat.zero_le _, rfl, HS6, Lib.hid HR6.out.1⟩
  case round =>
    obtain ⟨k, hk, rfl, HSE, HRR⟩ := hrel
    by_cases hlt : k < n
    · obtain ⟨Al, cl', Av, cv, l, h1, h2, h3, h4, h5⟩ := HSE.out.rest
      have hall := HSE.out.all
      obtain ⟨b, off, x, rfl, hx, hc⟩ := (Rd.of_own (cell := Lq.lcell) hall (fun _ _ => rfl) (by omega)).at (show k < S.L.length by rw [HNN.out]; exact hlt)
      have a0 : wr.cell? ⟨b, off + k * 3, none⟩ = some (.int .i64 x.i) := hc 0 _ rfl
      have a1 : wr.cell? ⟨b, off + k * 3 + 1, none⟩ = some (.int .i64 x.s) := hc 1 _ rfl
      have a2 : wr.cell? ⟨b, off + k * 3 + 2, none⟩ = some (.int .i64 x.l) := hc 2 _ rfl
      have hxm := List.mem_of_getElem? hx
      have hhas := Le.has_of HG.out.L.srt hxm
      have hrng := okL_range HG.out.L hhas
      have HTK : Hid (S.L.take (k + 1) = S.L.take k ++ [x]) := Lib.hid (Le.take_some hx)
      have HST := Lib.hid (seen_step (D := S.D) hx)
      obtain ⟨R, hR⟩ : ∃ R, Zs.fd S.D x.i = R := ⟨_, rfl⟩
      have hps := fd_ps HG.out x.i
      rw [hR] at hps HST
      have HPS := Lib.hid hps
      obtain ⟨y1, hy1⟩ : ∃ xx, xx = wr.alloc (.cells #[.int .i64 x.i, .int .i64 x.s, .int .i64 x.l] 100) := ⟨_, rfl⟩
      obtain ⟨xb, exb⟩ : ∃ xx, xx = wr.heap.size := ⟨_, rfl⟩
      have hby1 : Below wr.heap.size wr y1 := by rw [hy1]; exact box_below wr _
      have hkxb : y1.heap[xb]? = some (.cells #[.int .i64 x.i, .int .i64 x.s, .int .i64 x.l] 100 (0, 0)) := by rw [hy1, exb]; exact new_block wr _
      have HLA := Lib.hid (slast_any (HSE.out.below hby1).st (a := x.i) (by omega) (by omega) (by rw [hR]; omega))
      unfold LaPost at HLA
      rw [hR, hhas] at HLA
      have HHB := Lib.hid (HSE.out.below hby1)
      have HXB := Lib.hid (And.intro hkxb exb)
      have HW1 := Lib.hid hy1
      have HR1 := Lib.hid (blk_below HRR.out hby1)
      have x0 := cell_of hkxb (j := 0) rfl
      have x1 := cell_of hkxb (j := 1) rfl
      have x2 := cell_of hkxb (j := 2) rfl
      clear h1 h2 h3 h4 h5 hall hx hc hxm hhas hrng hR hps hy1 hkxb hby1
      go_upto_region 8 with fail
      rw [← HW1.out, ← exb]
      clear a0 a1 a2 exb
      go_wp2_with fail
      refine HLA.out.mono ?_
      rintro e y2 ⟨vp, rfl, hvp, hb2⟩
      obtain ⟨Ap, cp, rfl, -, -, -⟩ := own_form hvp
      obtain ⟨y3, hy3⟩ : ∃ xx, xx = y2.alloc (.cells #[.int .i64 R.r.c, .int .i64 R.r.s, .slice Ap R.r.ps.length cp] 42) := ⟨_, rfl⟩
      obtain ⟨pb, epb⟩ : ∃ xx, xx = y2.heap.size := ⟨_, rfl⟩
      have hby3 : Below y2.heap.size y2 y3 := by rw [hy3]; exact box_below y2 _
      have hkpb : y3.heap[pb]? = some (.cells #[.int .i64 R.r.c, .int .i64 R.r.s, .slice Ap R.r.ps.length cp] 42 (0, 0)) := by rw [hy3, epb]; exact new_block y2 _
      have hb13 : Below y1.heap.size y1 y3 := hb2.trans (hby3.mono hb2.size)
      have hx3 := blk_below HXB.out.1 hb13
      have HH3 := Lib.hid (HHB.out.below hb13)
      have HR3 := Lib.hid (blk_below HR1.out hb13)
      have hvp3 := own_base (own_below hvp hby3) (HHB.out.hb.size)
      have hxle : w.heap.size ≤ xb := by rw [HXB.out.2]; exact HSE.out.hb.size
      have hple : w.heap.size ≤ pb := by rw [epb]; exact Nat.le_trans HHB.out.hb.size hb2.size
      obtain ⟨Al, cl', Av, cv, l, h1, h2, h3, h4, h5⟩ := HH3.out.rest
      -- the lease is laid behind
      have hd4 := box_below y3 (.cells #[.int .i64 x.i, .int .i64 x.s, .int .i64 x.l] 82)
      have hkd4 := new_block y3 (.cells #[.int .i64 x.i, .int .i64 x.s, .int .i64 x.l] 82)
      obtain ⟨y4, hy4⟩ : ∃ xx, xx = y3.alloc (.cells #[.int .i64 x.i, .int .i64 x.s, .int .i64 x.l] 82) := ⟨_, rfl⟩
      obtain ⟨db, edb⟩ : ∃ xx, xx = y3.heap.size := ⟨_, rfl⟩
      rw [← hy4] at hd4 hkd4
      rw [← edb] at hkd4
      have h14 := blk_below h1 hd4
      have h24 := own_below h2 hd4
      have s0 := cell_of h1 (j := 0) rfl
      have s1 := cell_of h1 (j := 1) rfl
      have s2 := cell_of h1 (j := 2) rfl
      have s3 := cell_of h1 (j := 3) rfl
      have ss0 := cell_of h14 (j := 0) rfl
      have ss1 := cell_of h14 (j := 1) rfl
      have ss2 := cell_of h14 (j := 2) rfl
      have ss3 := cell_of h14 (j := 3) rfl
      have u0 := cell_of hx3 (j := 0) rfl
      have u1 := cell_of hx3 (j := 1) rfl
      have u2 := cell_of hx3 (j := 2) rfl
      have hsz4 := (HH3.out.below hd4).hb.size
      have hkn : k ≤ 100 := by have := HG.out.L.len; have := HNN.out; omega
      obtain ⟨i0, hi, hz0, hz1, hz2⟩ := info_parts Lq.infoD
      have HY4 := Lib.hid hy4
      have EDB := Lib.hid edb
      have HL := Lib.hid (And.intro h1 (And.intro h2 (And.intro h3 (And.intro h4 h5))))
      have HVP := Lib.hid hvp3
      have HX3 := Lib.hid (And.intro hx3 hxle)
      have HP3 := Lib.hid (And.intro hkpb hple)
      have HW3 := Lib.hid hy3
      have EPB := Lib.hid epb
      have HD4 := Lib.hid hd4
      clear hvp hb2 hb13 hx3 hvp3 hxle hple h1 h2 h3 h4 h5 hy4 edb hy3 epb hby3 hkpb x0 x1 x2
      obtain ⟨bn, hbn⟩ : ∃ b, decide (0 < R.n) = b := ⟨_, rfl⟩
      have HBN := Lib.hid hbn
      cases bn with
      | false =>
        go_upto_region 11 with fail
        rw [← HW3.out, ← EPB.out]
        go_wp2_with (at_builtin; rw [← HY4.out, ← EDB.out]; refine wpList_append_own _ rfl _ _ 28 rfl w.heap.size 82 i0 _ 3 24 Tryz.underlying28 hi hz0 hz1 hz2 rfl (by decide) _ _ _ rfl h24 ⟨db, 0, none⟩ 1 1 (Lq.lcell x) rfl rfl (World.news_of_block hkd4) (Lq.lcell_one x) (by unfold maxLen; omega) (by omega) (by omega) ?_; intro v5 y5 hown5 hg5 hnil5; obtain ⟨A5, c5, rfl, -, -, -⟩ := own_form hown5; have h15 := gbo_blk h24 hg5 h14 (by decide); have sz2 := cell_of h15 (j := 2) rfl; have fz2 := frozen_of_row y5 rb 2 _ _ h15; skip)
        obtain ⟨y6, hy6⟩ : ∃ xx, xx = y5.setCell ⟨rb, 2, none⟩ (.slice A5 (k + 1) c5) := ⟨_, rfl⟩
        obtain ⟨hwr6, h16⟩ := seti h15 2 (.slice A5 (k + 1) c5)
        rw [← hy6] at hwr6 h16
        have h16' : y6.heap[rb]? = some (.cells #[.int .i64 S.z, .slice AT S.T.length cT, .slice A5 (k + 1) c5, .slice Av l.length cv] 31 (0, 0)) := h16
        have ks : ∀ {q : Nat} {cs : Array Value} {t : TypeId}, y3.heap[q]? = some (.cells cs t (0, 0)) → t ≠ 82 → q ≠ rb → y6.heap[q]? = some (.cells cs t (0, 0)) := fun hq ht hne => hwr6.blk hne (gbo_blk h24 hg5 (blk_below hq HD4.out) ht)
        have ko : ∀ {base e sz m : Nat} {v : Value} {xs : List Value}, y3.ownsRow base e sz v m xs → e ≠ 82 → 31 ≠ e → y6.ownsRow base e sz v m xs := fun ho he hs => own_gb (own_gb' (own_below ho HD4.out) hg5 (own_apart (own_below ho HD4.out) h24 he)) hwr6.gb (own_ne (own_gb' (own_below ho HD4.out) hg5 (own_apart (own_below ho HD4.out) h24 he)) h15 hs)
        have hb36 : Below w.heap.size y3 y6 := ((HD4.out.mono HH3.out.hb.size).grown hg5 hsz4 (fun j hj => (h24.lt j hj).1)).trans (hwr6.below.mono HRL.out)
        have hb6 : Below w.heap.size w y6 := HH3.out.hb.trans hb36
        have hst6 : StW y6 B sp S := HSR0.out y6 hb6
        have hR6 := ks HR3.out (by decide) HR5.out.2
        have hO5 := own_gb hown5 hwr6.gb (own_ne hown5 h15 (by decide))
        have HE : Hid (SeR w B sp rb (some ⟨b, off, none⟩) cl (.slice AT S.T.length cT) S (k + 1) y6) := Lib.hid
          ⟨hb6, hst6, ko HH3.out.all (by decide) (by decide), ko HH3.out.tree (by decide) (by decide), A5, c5, Av, cv, l, h16', by rw [HTK.out]; exact (by simpa [Lq.lcells] using hO5), ko HL.out.2.2.1 (by decide) (by decide), by rw [HST.out, if_neg (of_decide_eq_false HBN.out), List.append_nil]; exact HL.out.2.2.2.1, fun y hy => ⟨ko (HL.out.2.2.2.2 y hy).1 (by decide) (by decide), (HL.out.2.2.2.2 y hy).2⟩⟩
        have HR6 := Lib.hid hR6
        rw [hy6] at HE HR6
        clear hown5 hg5 hnil5 hy6 hwr6 h16 h16' ks ko hb36 hb6 hst6 hR6 hO5 h24 h14 h15
        go_wp2_with fail
        go_roundw
        case rel => exact ⟨k + 1, hlt, by go_num, HE, HR6⟩
        case measure => simp [intOf]; omega
      | true =>
        go_upto_region 11 with fail
        rw [← HW3.out, ← EPB.out]
        go_wp2_with (at_builtin; rw [← HY4.out, ← EDB.out]; refine wpList_append_own _ rfl _ _ 28 rfl w.heap.size 82 i0 _ 3 24 Tryz.underlying28 hi hz0 hz1 hz2 rfl (by decide) _ _ _ rfl h24 ⟨db, 0, none⟩ 1 1 (Lq.lcell x) rfl rfl (World.news_of_block hkd4) (Lq.lcell_one x) (by unfold maxLen; omega) (by omega) (by omega) ?_; intro v5 y5 hown5 hg5 hnil5; obtain ⟨A5, c5, rfl, -, -, -⟩ := own_form hown5; have h15 := gbo_blk h24 hg5 h14 (by decide); have sz2 := cell_of h15 (j := 2) rfl; have fz2 := frozen_of_row y5 rb 2 _ _ h15; go_upto_region 13 with fail)
        obtain ⟨y6, hy6⟩ : ∃ xx, xx = y5.setCell ⟨rb, 2, none⟩ (.slice A5 (k + 1) c5) := ⟨_, rfl⟩
        obtain ⟨hwr6, h16⟩ := seti h15 2 (.slice A5 (k + 1) c5)
        rw [← hy6] at hwr6 h16
        have h16' : y6.heap[rb]? = some (.cells #[.int .i64 S.z, .slice AT S.T.length cT, .slice A5 (k + 1) c5, .slice Av l.length cv] 31 (0, 0)) := h16
        have ks : ∀ {q : Nat} {cs : Array Value} {t : TypeId}, y3.heap[q]? = some (.cells cs t (0, 0)) → t ≠ 82 → q ≠ rb → y6.heap[q]? = some (.cells cs t (0, 0)) := fun hq ht hne => hwr6.blk hne (gbo_blk h24 hg5 (blk_below hq HD4.out) ht)
        have ko : ∀ {base e sz m : Nat} {v : Value} {xs : List Value}, y3.ownsRow base e sz v m xs → e ≠ 82 → 31 ≠ e → y6.ownsRow base e sz v m xs := fun ho he hs => own_gb (own_gb' (own_below ho HD4.out) hg5 (own_apart (own_below ho HD4.out) h24 he)) hwr6.gb (own_ne (own_gb' (own_below ho HD4.out) hg5 (own_apart (own_below ho HD4.out) h24 he)) h15 hs)
        have hb36 : Below w.heap.size y3 y6 := ((HD4.out.mono HH3.out.hb.size).grown hg5 hsz4 (fun j hj => (h24.lt j hj).1)).trans (hwr6.below.mono HRL.out)
        have hb6 : Below w.heap.size w y6 := HH3.out.hb.trans hb36
        have hst6 : StW y6 B sp S := HSR0.out y6 hb6
        have hR6 := ks HR3.out (by decide) HR5.out.2
        have hO5 := own_gb hown5 hwr6.gb (own_ne hown5 h15 (by decide))
        have hne1 : xb ≠ rb := fun e => by
          have g1 := HX3.out.1
          have g2 := HL.out.1
          rw [e, g2] at g1; injection g1 with g1; injection g1 with _ g1 _; exact absurd g1 (by decide)
        have hne2 : pb ≠ rb := fun e => by
          have g1 := HP3.out.1
          have g2 := HL.out.1
          rw [e, g2] at g1; injection g1 with g1; injection g1 with _ g1 _; exact absurd g1 (by decide)
        have hx6 := ks HX3.out.1 (by decide) hne1
        have hp6 := ks HP3.out.1 (by decide) hne2
        have hv6 := ko HL.out.2.2.1 (by decide) (by decide)
        have hvp6 := ko HVP.out (by decide) (by decide)
        have hll : l.length ≤ 200 := by
          have h9 := congrArg List.length HL.out.2.2.2.1
          rw [List.length_map] at h9
          have h10 := seen_len S.D (S.L.take k)
          have h11 := List.length_take_le k S.L
          omega
        have HE6 : Hid (SeR w B sp rb (some ⟨b, off, none⟩) cl (.slice AT S.T.length cT) S k y6 → True) := Lib.hid (fun _ => trivial)
        have HS6b : Hid (∀ (Y : World) (A9 : Option Addr) (c9 : Nat), Below w.heap.size w Y → (∀ {q : Nat} {cs : Array Value} {t : TypeId}, y6.heap[q]? = some (.cells cs t (0, 0)) → t ≠ 102 → q ≠ rb → Y.heap[q]? = some (.cells cs t (0, 0))) →
            (∀ {base e sz m : Nat} {v : Value} {xs : List Value}, y6.ownsRow base e sz v m xs → e ≠ 102 → 31 ≠ e → Y.ownsRow base e sz v m xs) → Y.heap[rb]? = some (.cells #[.int .i64 S.z, .slice AT S.T.length cT, .slice A5 (k + 1) c5, .slice A9 (l.length + 1) c9] 31 (0, 0)) →
            Y.ownsRow w.heap.size 102 5 (.slice A9 (l.length + 1) c9) (l.length + 1) (lvcells l ++ lvcell ⟨x.i, R.n, R.r.c, R.r.s, Ap, R.r.ps.length, cp, R.r.ps⟩) →
            SeR w B sp rb (some ⟨b, off, none⟩) cl (.slice AT S.T.length cT) S (k + 1) Y ∧ Y.heap[r]? = some (.cells #[.int .i64 0, .slice none 0 0, .slice none 0 0, .slice none 0 0] 31 (0, 0))) := Lib.hid (fun Y A9 c9 hY k1 k2 hrb9 ho9 => by
          refine ⟨⟨hY, HSR0.out Y hY, k2 (ko HH3.out.all (by decide) (by decide)) (by decide) (by decide), k2 (ko HH3.out.tree (by decide) (by decide)) (by decide) (by decide), A5, c5, A9, c9, l ++ [⟨x.i, R.n, R.r.c, R.r.s, Ap, R.r.ps.length, cp, R.r.ps⟩], ?_, ?_, ?_, ?_, ?_⟩, k1 hR6 (by decide) HR5.out.2⟩
          · rw [List.length_append]; exact hrb9
          · rw [HTK.out]; exact k2 (by simpa [Lq.lcells] using hO5) (by decide) (by decide)
          · rw [List.length_append, lvcells_append]; exact (by simpa [lvcells] using ho9)
          · rw [HST.out, if_pos (of_decide_eq_true HBN.out), List.map_append, HL.out.2.2.2.1]; rfl
          · intro y hy
            rcases List.mem_append.1 hy with hy | hy
            · exact ⟨k2 (ko (HL.out.2.2.2.2 y hy).1 (by decide) (by decide)) (by decide) (by decide), (HL.out.2.2.2.2 y hy).2⟩
            · rw [List.mem_singleton.1 hy]
              exact ⟨k2 hvp6 (by decide) (by decide), rfl⟩)
        have HSS : Hid (∀ (W : World), Below y6.heap.size y6 W → (W.heap[rb]? = some (.cells #[.int .i64 S.z, .slice AT S.T.length cT, .slice A5 (k + 1) c5, .slice Av l.length cv] 31 (0, 0)) ∧ W.heap[xb]? = some (.cells #[.int .i64 x.i, .int .i64 x.s, .int .i64 x.l] 100 (0, 0)) ∧ W.heap[pb]? = some (.cells #[.int .i64 R.r.c, .int .i64 R.r.s, .slice Ap R.r.ps.length cp] 42 (0, 0)) ∧ W.ownsRow w.heap.size 102 5 (.slice Av l.length cv) l.length (lvcells l))) := Lib.hid (fun W hW => ⟨blk_below h16' hW, blk_below hx6 hW, blk_below hp6 hW, own_below hv6 hW⟩)
        have HB6 := Lib.hid hb6
        have HY6 := Lib.hid hy6
        obtain ⟨j0, hj, hl0, hl1, hl2⟩ := info_parts infoLast
        have HLL := Lib.hid hll
        clear hown5 hg5 hnil5 hwr6 h16 ks ko hb36 hst6 hR6 hO5 h24 h14 h15 hne1 hne2 hvp6 hy6 hv6 hll hb6 s0 s1 s2 s3 ss0 ss1 ss2 ss3 u0 u1 u2
        rw [← HY6.out]
        have s0 := cell_of h16' (j := 0) rfl
        have s1 := cell_of h16' (j := 1) rfl
        have s2 := cell_of h16' (j := 2) rfl
        have s3 := cell_of h16' (j := 3) rfl
        have u0 := cell_of hx6 (j := 0) rfl
        have u1 := cell_of hx6 (j := 1) rfl
        have u2 := cell_of hx6 (j := 2) rfl
        have p0 := cell_of hp6 (j := 0) rfl
        have p1 := cell_of hp6 (j := 1) rfl
        have p2 := cell_of hp6 (j := 2) rfl
        clear h16' hx6 hp6
        go_region_law (first
          | (go_simp; go_at_call 20; (with_reducible refine (plain_any _ _ _ _ _ _).mono ?_); rintro e y7 ⟨rfl, hb7⟩; have hB7 : Below y6.heap.size y6 y7 := (Below.refl y6.heap.size y6).drew.trans (hb7.mono (Nat.le_refl _)); obtain ⟨h7a, h7b, h7c, h7d⟩ := HSS.out y7 hB7; have h8 := box_below y7 (.cells #[.int .i64 x.i, .int .i64 R.n, .int .i64 R.r.c, .int .i64 R.r.s, .slice Ap R.r.ps.length cp] 102); have hk8 := new_block y7 (.cells #[.int .i64 x.i, .int .i64 R.n, .int .i64 R.r.c, .int .i64 R.r.s, .slice Ap R.r.ps.length cp] 102); have hB8 := hB7.trans (h8.mono hB7.size); obtain ⟨h8a, h8b, h8c, h8d⟩ := HSS.out _ hB8; have m0 := cell_of h7a (j := 3) rfl; have m1 := cell_of h7b (j := 0) rfl; have m2 := cell_of h8a (j := 3) rfl; have m3 := cell_of h8b (j := 0) rfl; have hbs8 : w.heap.size ≤ (y7.alloc (.cells #[.int .i64 x.i, .int .i64 R.n, .int .i64 R.r.c, .int .i64 R.r.s, .slice Ap R.r.ps.length cp] 102)).heap.size := Nat.le_trans HB6.out.size hB8.size; have hH8 : (y7.alloc (.cells #[.int .i64 x.i, .int .i64 R.n, .int .i64 R.r.c, .int .i64 R.r.s, .slice Ap R.r.ps.length cp] 102)).heap.size = y7.heap.size + 1 := by simp)
          | (refine step_append_lies _ rfl (.tmp 55) (.tmp 62) 29 rfl w.heap.size 102 j0 _ 5 56 Tryz.underlying29 hj hl0 hl1 hl2 rfl (by decide) (.slice Av l.length cv) l.length (lvcells l) (by simp [Act.eval]) h8d ⟨y7.heap.size, 0, none⟩ 1 1 (lvcell ⟨x.i, R.n, R.r.c, R.r.s, Ap, R.r.ps.length, cp, R.r.ps⟩) (by simp [Act.eval]) rfl (World.news_of_block hk8) (lvcell_one _) (by decide) (by unfold maxLen; have := HLL.out; omega) (by have := HLL.out; omega) hbs8 (y7.heap.size + 1) hH8 ?_; intro g cap y9 hown9 hgrow9 hat9 hlt9; have hrb9 := gbo_blk h8d hgrow9 h8a (by decide); have n3 := cell_of hrb9 (j := 3) rfl; have fz3 := frozen_of_row y9 rb 3 _ _ hrb9)
          | fail)
        all_goals
          obtain ⟨y10, hy10⟩ : ∃ xx, xx = y9.setCell ⟨rb, 3, none⟩ (.slice (some ⟨g, 0, none⟩) (l.length + 1) cap) := ⟨_, rfl⟩
          obtain ⟨hwr10, hk10⟩ := seti hrb9 3 (.slice (some ⟨g, 0, none⟩) (l.length + 1) cap)
          rw [← hy10] at hwr10 hk10
          rw [← hy10]
          have hB9 : Below w.heap.size w y9 := ((HB6.out.trans (hB8.mono HB6.out.size))).grown hgrow9 hbs8 (fun j hj => (h8d.lt j hj).1)
          have hFIN := Lib.hid (HS6b.out y10 (some ⟨g, 0, none⟩) cap (hB9.trans (hwr10.below.mono HRL.out)) (fun hq ht hne => hwr10.blk hne (gbo_blk h8d hgrow9 (blk_below hq hB8) ht))
            (fun ho he hs => own_gb (own_gb' (own_below ho hB8) hgrow9 (own_apart (own_below ho hB8) h8d he)) hwr10.gb (own_ne (own_gb' (own_below ho hB8) hgrow9 (own_apart (own_below ho hB8) h8d he)) hrb9 hs)) hk10 (own_gb hown9 hwr10.gb (own_ne hown9 hrb9 (by decide))))
          clear hy10 hwr10 hk10 hB9 hown9 hgrow9 hat9 hlt9 hrb9 n3 fz3 h8 hk8 hB8 h8a h8b h8c h8d h7a h7b h7c h7d hb7 hB7 m0 m1 m2 m3 hbs8 hH8
          go_wp2_with fail
          go_roundw
          case rel => exact ⟨k + 1, hlt, by go_num, Lib.hid hFIN.out.1, Lib.hid hFIN.out.2⟩
          case measure => simp [intOf]; omega
    · obtain rfl : k = n := by omega
      have hki : ¬ (k : Int) < (k : Int) := by omega
      obtain ⟨Al, cl', Av, cv, l, h1, h2, h3, h4, h5⟩ := HSE.out.rest
      have hrr := HRR.out
      have hB := HSE.out.hb
      have htk : S.L.take k = S.L := List.take_of_length_le (by rw [HNN.out]; exact Nat.le_refl _)
      rw [htk] at h2 h4
      have htree := HSE.out.tree
      obtain ⟨w7, hw7⟩ : ∃ xx, xx = ((((wr.setCell ⟨r, 0, none⟩ (.int .i64 S.z)).setCell ⟨r, 1, none⟩ (.slice AT S.T.length cT)).setCell ⟨r, 2, none⟩ (.slice Al k cl')).setCell ⟨r, 3, none⟩ (.slice Av l.length cv)) := ⟨_, rfl⟩
      obtain ⟨hwrw7, hkw7⟩ := set4 hrr (.int .i64 S.z) (.slice AT S.T.length cT) (.slice Al k cl') (.slice Av l.length cv)
      rw [← hw7] at hwrw7 hkw7
      have hB7 : Below w.heap.size w w7 := hB.trans (hwrw7.below.mono HLE.out)
      have kk : ∀ {base e sz m : Nat} {v : Value} {xs : List Value}, wr.ownsRow base e sz v m xs → 31 ≠ e → w7.ownsRow base e sz v m xs := fun ho he => own_gb ho hwrw7.gb (own_ne ho hrr he)
      have hcap : S.T.length ≤ cT ∧ cT ≤ maxLen := by
        obtain ⟨A9, c9, e9, h9, h10, -⟩ := own_form htree
        injection e9 with _ _ e9
        subst e9
        exact ⟨h9, h10⟩
      have HE : Hid (SePost2 B S w (.returned (.tuple #[.agg #[.int .i64 S.z, .slice AT S.T.length cT, .slice Al k cl', .slice Av l.length cv], .bool true])) w7) := Lib.hid
        ⟨_, _, _, _, rfl, ⟨TrW.of_own (kk htree (by decide)), ⟨Al, cl', by rw [HNN.out], Lq.DR.of_own (c := cl') (by rw [HNN.out]; exact kk h2 (by decide))⟩,
          ⟨Av, cv, l, rfl, ⟨Rd.of_own (cell := lvcell) (kk h3 (by decide)) (fun _ _ => rfl) (by omega), Tg.of_own (kk h3 (by decide)) (by decide), fun x hx => by
            obtain ⟨g1, g2⟩ := h5 x hx
            exact ⟨Rd.of_own (cell := scell) (kk g1 (by decide)) (fun _ _ => rfl) (by omega), Tg.of_own (kk g1 (by decide)) (by decide)⟩⟩, h4⟩⟩, hcap, hB7⟩
      have s0 := cell_of h1 (j := 0) rfl
      have s1 := cell_of h1 (j := 1) rfl
      have s2 := cell_of h1 (j := 2) rfl
      have s3 := cell_of h1 (j := 3) rfl
      have y0 := cell_of hrr (j := 0) rfl
      have y1 := cell_of hrr (j := 1) rfl
      have y2 := cell_of hrr (j := 2) rfl
      have y3 := cell_of hrr (j := 3) rfl
      have g0 := frozen_of_row wr _ 0 _ _ hrr
      have g1 := frozen_of_row wr _ 1 _ _ hrr
      have g2 := frozen_of_row wr _ 2 _ _ hrr
      have g3 := frozen_of_row wr _ 3 _ _ hrr
      have z0 := cell_of hkw7 (j := 0) rfl
      have z1 := cell_of hkw7 (j := 1) rfl
      have z2 := cell_of hkw7 (j := 2) rfl
      have z3 := cell_of hkw7 (j := 3) rfl
      have HW7 := Lib.hid hw7
      clear h1 h2 h3 h4 h5 hrr hB htk htree hw7 hwrw7 hkw7 hB7 kk
      go_wp2_with fail
      rw [← HW7.out]
      exact bodyPost_ret (v := .tuple #[.agg #[.int .i64 S.z, .slice AT S.T.length cT, .slice Al k cl', .slice Av l.length cv], .bool true]) (by simp [results, Tryz.results18, go_sem, z0, z1, z2, z3]) rfl HE.out
theorem seen_any {w : World} {B sp : Nat} {S : St} (h : StW w B sp S) (hg : Zs.Gd S) : Calls Tryz.prog 18 #[.pointer (some ⟨sp, 0, none⟩)] w (SePost B S w) := by
  refine (seen_any2 h hg).mono ?_
  rintro e w' ⟨A, c, vL, vD, h1, h2, -, h3⟩
  exact ⟨_, _, _, h1, h2, h3⟩
end Go.Proofs.YtflgemlhocjipaaGreatDoor
