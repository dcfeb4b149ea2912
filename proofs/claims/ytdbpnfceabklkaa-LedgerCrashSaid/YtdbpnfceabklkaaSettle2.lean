/-
  What ledger.settle leaves: the bytes, and the mark that makes them count, written and synced; or what the disk's death left. Conditions: the half is 0 or 1; the bytes are not fewer than those that are there, nor more than a half has; not too many writes wait.
-/
import Derived.Test.YtdbpnfceabklkaaSettle3
namespace Go.Proofs.Ytdbpnfceabklkaa
set_option maxRecDepth 100000
open Go.ChangeShapes Go.WideShapes Go.ChangeAt Go.RowKit Go.Shelf

attribute [local go_sem] Oper.semAt_some

theorem s9_box {s : SG} {q b4 : Nat} {W : World} (hq : q = s.q) (h : S9 s b4 W) : W.cell? ⟨b4, 0, none⟩ = some (.pointer (some ⟨q, 0, none⟩)) := by subst hq; exact cell_of h.x4 rfl
theorem s9_slot {s : SG} {q b4 sl : Nat} {W : World} (hq : q = s.q) (hsl : sl = s.G.m.slot) (hN : Nok s.G.m.num) (h : S9 s b4 W) : W.cell? ⟨q, 3, none⟩ = some (.int .i64 (sl : Int)) := by subst hq hsl; exact (LCells.of h.lq hN).c3
theorem s9_num {s : SG} {q b4 : Nat} {W : World} (hq : q = s.q) (hN : Nok s.G.m.num) (h : S9 s b4 W) : W.rangeAt q 4 (ints s.G.m.num) := by subst hq; exact (LCells.of h.lq hN).num
theorem s9_disk {s : SG} {q b4 : Nat} {W : World} (hq : q = s.q) (hN : Nok s.G.m.num) (h : S9 s b4 W) : W.cell? ⟨q, 0, none⟩ = some (.pointer (some ⟨s.p, 0, none⟩)) := by subst hq; exact (LCells.of h.lq hN).c0
theorem s9_from {s : SG} {q b4 fr : Nat} {W : World} (hq : q = s.q) (hf : fr = s.G.fr) (hN : Nok s.G.m.num) (h : S9 s b4 W) : W.cell? ⟨q, 1, none⟩ = some (.int .i64 (fr : Int)) := by subst hq hf; exact (LCells.of h.lq hN).c1
theorem s10_slot {s : SG} {b4 g sl2 : Nat} {m' : Mk} {W : World} (hsl : sl2 = 1 - s.G.m.slot) (hm : m' = nextMk s.G.m s.half s.b.length) (h : S10 s b4 g m' W) : W.cell? ⟨g, 0, none⟩ = some (.int .i64 (sl2 : Int)) := by
  rw [cell_of_row W g 0 _ _ _ h.mg, List.getElem?_toArray, mcells_slot, hm, hsl]; rfl
/-- What the last region reads. -/
structure S16 (s : SG) (b4 g : Nat) (m' : Mk) (W : World) : Prop where
  x4 : W.heap[b4]? = some (.cells #[.pointer (some ⟨s.q, 0, none⟩)] 26 (0, 0))
  mg : W.heap[g]? = some (.cells (mcells m').toArray 72 (0, 0))
theorem s16_box {s : SG} {q b4 g : Nat} {m' : Mk} {W : World} (hq : q = s.q) (h : S16 s b4 g m' W) : W.cell? ⟨b4, 0, none⟩ = some (.pointer (some ⟨q, 0, none⟩)) := by subst hq; exact cell_of h.x4 rfl
theorem alloc72_l {l : List Value} {ds : List Deferred} {o : Oper} {w : World} {K : Act → World → Prop} {Q : Exit → Act → World → Prop} (d : Nat) (hd : o.dst = some d) (ho : o.op = .alloc 72)
    (h : K (Act.mk (l.set d (.pointer (some ⟨w.heap.size, 0, none⟩))).toArray ds) (w.alloc (.cells Z11 72))) : o.wp Try.prog (Act.mk l.toArray ds) w K Q := by
  unfold Oper.wp execOp
  simp only [ho]
  rw [Sem.run_bind, run_alloc72 w]
  have e := put_lit l ds o.dst d (.pointer (some ⟨w.heap.size, 0, none⟩)) hd
  show K ((Act.mk l.toArray ds).put o.dst _) _
  rw [e]; exact h
/-- How the body may be left. -/
def LvQ (s : SG) (w : World) : Exit → Act → World → Prop
  | .ret, a, w' => bodyPostM Fence.wide 3 Try.prog Try.f35 (SePost s w) .ret a w'
  | .normal, a, w' => bodyPostM Fence.wide 3 Try.prog Try.f35 (SePost s w) .normal a w'
  | _, _, _ => False
theorem lvq_mono (s : SG) (w : World) : ∀ e a w', LvQ s w e a w' → bodyPostM Fence.wide 3 Try.prog Try.f35 (SePost s w) e a w'
  | .ret, _, _, h => h
  | .normal, _, _, h => h
theorem settle_start {w : World} {s : SG} {nb n0 len cap : Nat} {A : Option Addr} {W : World} (hL : PL w s.B s.q s.p s.G s.bv s.D) (hrow : w.ownsRow s.B 5 1 s.bb s.b.length (ints s.b))
    (hW : W = (((((w.alloc (.cells #[.pointer (some ⟨s.q, 0, none⟩)] 26)).alloc (.cells #[.int .i64 0] 35)).drewN nb).alloc (.cells #[.int .i64 (n0 : Int)] 3)).alloc (.cells #[.slice A len cap] 48)).alloc (.cells #[.int .i64 64] 3)) :
    SI s w n0 A len cap [] W ∧ W.heap.size = w.heap.size + 5 := by
  obtain ⟨w1, h1⟩ : ∃ w1, w1 = w.alloc (.cells #[.pointer (some ⟨s.q, 0, none⟩)] 26) := ⟨_, rfl⟩
  rw [← h1] at hW
  have s1 : w1.heap.size = w.heap.size + 1 := by rw [h1]; simp
  have g1 : w1.heap[w.heap.size]? = some (.cells #[.pointer (some ⟨s.q, 0, none⟩)] 26 (0, 0)) := by rw [h1]; exact new_block w _
  have b1 : Below w.heap.size w w1 := by rw [h1]; exact box_below w _
  obtain ⟨w2, h2⟩ : ∃ w2, w2 = w1.alloc (.cells #[.int .i64 0] 35) := ⟨_, rfl⟩
  rw [← h2] at hW
  have s2 : w2.heap.size = w.heap.size + 2 := by rw [h2]; simp [s1]
  have g2 : w2.heap[w.heap.size + 1]? = some (.cells #[.int .i64 0] 35 (0, 0)) := by rw [h2, ← s1]; exact new_block w1 _
  have b2 : Below w1.heap.size w1 w2 := by rw [h2]; exact box_below w1 _
  obtain ⟨w3, h3⟩ : ∃ w3, w3 = (w2.drewN nb).alloc (.cells #[.int .i64 (n0 : Int)] 3) := ⟨_, rfl⟩
  rw [← h3] at hW
  have s3 : w3.heap.size = w.heap.size + 3 := by rw [h3]; simp [s2]
  have g3 : w3.heap[w.heap.size + 2]? = some (.cells #[.int .i64 (n0 : Int)] 3 (0, 0)) := by rw [h3, ← s2]; exact new_block (w2.drewN nb) _
  have b3 : Below w2.heap.size w2 w3 := by rw [h3]; exact (below_drewN (Below.refl _ _) nb).alloc (Nat.le_refl _) _
  obtain ⟨w4, h4⟩ : ∃ w4, w4 = w3.alloc (.cells #[.slice A len cap] 48) := ⟨_, rfl⟩
  rw [← h4] at hW
  have s4 : w4.heap.size = w.heap.size + 4 := by rw [h4]; simp [s3]
  have g4 : w4.heap[w.heap.size + 3]? = some (.cells #[.slice A len cap] 48 (0, 0)) := by rw [h4, ← s3]; exact new_block w3 _
  have b4 : Below w3.heap.size w3 w4 := by rw [h4]; exact box_below w3 _
  have s5 : W.heap.size = w.heap.size + 5 := by rw [hW]; simp [s4]
  have g5 : W.heap[w.heap.size + 4]? = some (.cells #[.int .i64 64] 3 (0, 0)) := by rw [hW, ← s4]; exact new_block w4 _
  have b5 : Below w4.heap.size w4 W := by rw [hW]; exact box_below w4 _
  have k1 : ∀ {o : Obj}, w1.heap[w.heap.size]? = some o → W.heap[w.heap.size]? = some o := fun {o} h => (b5.block _ (by omega)).trans ((b4.block _ (by omega)).trans ((b3.block _ (by omega)).trans ((b2.block _ (by omega)).trans h)))
  have hb : Below w.heap.size w W := b1.trans ((b2.trans ((b3.trans ((b4.trans (b5.mono (by omega))).mono (by omega))).mono (by omega))).mono (by omega))
  refine ⟨⟨s.D, ⟨k1 g1, (b5.block _ (by omega)).trans ((b4.block _ (by omega)).trans ((b3.block _ (by omega)).trans g2)), (b5.block _ (by omega)).trans ((b4.block _ (by omega)).trans g3)⟩, (b5.block _ (by omega)).trans g4, g5, hL.kept hb, own_below hrow hb, Kp.of_below hb hL.size, by rw [List.length_nil, List.drop_zero], Nat.le_add_right _ _, rfl⟩, s5⟩
set_option maxHeartbeats 4000000 in
theorem settle_any (s : SG) (Ab : Option Addr) (cb : Nat) (w : World) (hL : PL w s.B s.q s.p s.G s.bv s.D) (hbb : s.bb = .slice Ab s.b.length cb) (hcb : s.b.length ≤ cb) (hrow : w.ownsRow s.B 5 1 s.bb s.b.length (ints s.b)) (hhf : s.half ≤ 1) (hth : s.there ≤ s.b.length) (hbl : s.b.length ≤ s.G.sz * 64) (hby : Bys s.b) (hwt : s.D.wait.length ≤ 30000) :
    Calls Try.prog 35 #[.pointer (some ⟨s.q, 0, none⟩), .int .i64 (s.half : Int), .int .i64 (s.there : Int), .slice Ab s.b.length cb] w (SePost s w) := by
  have hsm := hL.gok.small
  obtain ⟨q, hq⟩ : ∃ q, q = s.q := ⟨_, rfl⟩
  obtain ⟨half, hhalf⟩ : ∃ half, half = s.half := ⟨_, rfl⟩
  obtain ⟨there, hthere⟩ : ∃ there, there = s.there := ⟨_, rfl⟩
  obtain ⟨bl, hbl'⟩ : ∃ bl, bl = s.b.length := ⟨_, rfl⟩
  obtain ⟨k0, hk0⟩ : ∃ k0, k0 = there / 64 := ⟨_, rfl⟩
  have hth' : there ≤ bl := by omega
  have hbl2 : bl ≤ 4194304 := by have := hsm.2.1; have := hL.gok.fit; have := hL.gok.n; omega
  have hd1 : (there : Int) / 64 = (k0 : Int) := by omega
  have hth0 : (0 : Int) ≤ (there : Int) := by omega
  have hth1 : (there : Int) ≤ 4194304 := by omega
  have hk1 : (k0 : Int) ≤ 65536 := by omega
  have hk64 : k0 * 64 ≤ bl := by omega
  have hc := hL.cells
  have hb4 := box_below w (.cells #[.pointer (some ⟨q, 0, none⟩)] 26)
  have hb8 := box_below (w.alloc (.cells #[.pointer (some ⟨q, 0, none⟩)] 26)) (.cells #[.int .i64 0] 35)
  rw [← hq] at hc
  have hbg := begin_any q s.p s.G s.bv half _ ((hc.kept hb4).kept hb8) hsm.1 hsm.2.1 (by omega)
  obtain ⟨b0, hb0⟩ : ∃ b0, b0 = s.G.fr + 2 + half * s.G.sz := ⟨_, rfl⟩
  rw [← hb0] at hbg
  have HBG := Lib.hid hbg
  obtain ⟨n0, hn0⟩ : ∃ n0, n0 = b0 + k0 := ⟨_, rfl⟩
  have hsum : (b0 : Int) + (k0 : Int) = (n0 : Int) := by omega
  have hb065 : (b0 : Int) ≤ 200000 := by have := half_le (h := half) (sz := s.G.sz) (by omega); omega
  obtain ⟨A', c', hsl, hc', hsub⟩ := sub_len Ab bl cb (by omega) (k0 * 64) hk64
  have hsl' : ∀ W : World, (Instr.slice 48 (.slice Ab bl cb) (some (.int .i64 ((k0 : Int) * 64))) none none).run Try.prog W = .ok (.slice A' (bl - k0 * 64) c') W := fun W => by
    have := hsl W
    rwa [show ((k0 * 64 : Nat) : Int) = (k0 : Int) * 64 by omega] at this
  obtain ⟨ln, hln⟩ : ∃ ln, ln = bl - k0 * 64 := ⟨_, rfl⟩
  rw [← hln] at hsl' hc' hsub
  have hln2 : ln ≤ 4194304 := by omega
  have HST := Lib.hid (fun nb (W : World) => settle_start (s := s) (nb := nb) (n0 := n0) (len := ln) (cap := c') (A := A') (W := W) hL hrow)
  have HN0 : Hid (n0 = s.G.fr + 2 + s.half * s.G.sz + s.there / 64) := Lib.hid (by rw [hn0, hb0, hk0, hhalf, hthere])
  have HLN : Hid (ln = s.b.length - s.there / 64 * 64) := Lib.hid (by rw [hln, hk0, hbl', hthere])
  have HSUB := Lib.hid hsub
  have HK : Hid (k0 * 64 = s.there / 64 * 64) := Lib.hid (by rw [hk0, hthere])
  have HL := Lib.hid hL
  have HROW := Lib.hid hrow
  have HBB := Lib.hid hbb
  have HQ := Lib.hid hq
  have HHF := Lib.hid hhalf
  have HBL := Lib.hid hbl'
  rw [← hq] at HST
  refine (callsIn_wide (n := 3)).1 ?_
  refine callsIn_of_wp_marks Try.func35 rfl trivial ?_ rfl
  simp only [Try.ntmps35, List.size_toArray, List.length_cons, List.length_nil, Nat.reduceAdd, Nat.reduceSub, Array.replicate_succ, Array.replicate_zero, List.push_toArray, List.append_toArray, List.nil_append, List.cons_append]
  refine wpIn_mono (Q := LvQ s w) ?_ (lvq_mono s w)
  refine wpIn_wide.2 ?_
  rw [← hq, ← hhalf, ← hthere, ← hbl']
  clear hc hb4 hb8 hk0 hL hrow hbg hb0 hn0 hsl hsub hln hq hhalf hthere hbl' hbb
  go_wp2_with fail
  refine HBG.out.mono ?_
  rintro e w' ⟨rfl, nb, rfl⟩
  go_wp2_with fail
  refine (chunk_any A' ln c' _).mono ?_
  rintro e w' ⟨rfl, hw'⟩
  have HS0 := Lib.hid (HST.out nb w' hw')
  clear hw'
  go_wp2_with fail
  obtain ⟨b8, hb8⟩ : ∃ b8, b8 = w.heap.size + 1 := ⟨_, rfl⟩
  obtain ⟨b10, hb10⟩ : ∃ b10, b10 = w.heap.size + 1 + 1 := ⟨_, rfl⟩
  obtain ⟨bs, hbs⟩ : ∃ bs, bs = w.heap.size + 1 + 1 + 1 := ⟨_, rfl⟩
  obtain ⟨bn, hbn⟩ : ∃ bn, bn = w.heap.size + 1 + 1 + 1 + 1 := ⟨_, rfl⟩
  try rw [← hbn]
  try rw [← hbs]
  rw [← hb10, ← hb8]
  have HB8 := Lib.hid hb8
  have HB10 := Lib.hid hb10
  have HBS := Lib.hid hbs
  have HBN := Lib.hid hbn
  have hBw : s.B ≤ w.heap.size := HL.out.size
  clear hb8 hb10 hbs hbn
  refine wpIn_wide.1 (range_two (n := 3) (gf := 54) (lb := #[.pointer (some ⟨bs, 0, none⟩), .pointer (some ⟨bn, 0, none⟩)]) (encs := encC) rfl (enters_of Try.func54 (by kernel_rfl) rfl) (fun _ => rfl) (R := RC A' ln) (S := SC ln) (I := SI s w n0 A' ln c') (X := fun _ W => SX s w W) (si_own s w n0 A' ln c' _ (by rw [HS0.out.2]; omega) hBw) (sx_own s w _ (by rw [HS0.out.2]; omega) hBw) HS0.out.1 ?seq
    (fun x => { tmps := #[.pointer (some ⟨q, 0, none⟩), .int .i64 (half : Int), .int .i64 (there : Int), .slice Ab bl cb, .pointer (some ⟨w.heap.size, 0, none⟩), undef, undef, undef, .pointer (some ⟨b8, 0, none⟩), .int .i64 (k0 : Int), .pointer (some ⟨b10, 0, none⟩), .slice x.1 x.2 x.2, undef, undef, undef, undef, .int .i64 (there : Int), .int .i64 (k0 : Int), .pointer (some ⟨q, 0, none⟩), .int .i64 (half : Int), .int .i64 (b0 : Int), .int .i64 (k0 : Int), .int .i64 (n0 : Int), .slice Ab bl cb, .int .i64 (k0 : Int), .int .i64 ((k0 : Int) * 64), Value.slice A' ln c', .func (.func 54) #[] #[.pointer (some ⟨bs, 0, none⟩), .pointer (some ⟨bn, 0, none⟩)], .slice x.1 x.2 x.2, undef, undef, undef, undef, undef, undef, undef, undef, undef, undef, undef, undef, undef, undef, undef, undef, undef, undef, undef, undef, undef, undef, undef, undef, undef, undef, undef, undef, undef, undef, undef, undef, undef, undef, undef, undef, undef, undef, undef, undef, undef, undef, undef, undef, undef, undef, undef, undef, undef, undef, undef, undef, undef, undef, undef, undef, undef, undef, undef, undef, undef], defers := [] }) ?assign ?body ?done ?stop)
  case seq =>
    intro l J JX hJ hJI hY W hb h0
    exact iter54 2 l bs bn (by omega) A' ln c' hc' hln2 J JX hJ (fun pre X h => by
      obtain ⟨Dk, -, h1, h2, -⟩ := hJI pre X h
      rw [HBS.out, HBN.out]
      exact ⟨cell_of h1 rfl, cell_of h2 rfl⟩) hY W h0
  case assign =>
    intro l x W K hK
    unfold encC
    gi_wp2
    exact hK
  case body =>
    rintro l pre ⟨xA, xn⟩ W ⟨Dk, hbx, hs, hn, hpl, hrow, hkp, hrun, hwt', hfl⟩ hrc
    obtain ⟨t, ht⟩ : ∃ t, t = n0 + pre.length := ⟨_, rfl⟩
    obtain ⟨zs, hzs⟩ : ∃ zs, zs = ((s.b.drop (s.there / 64 * 64)).drop (64 * pre.length)).take 64 := ⟨_, rfl⟩
    obtain ⟨er, her⟩ : ∃ er, er = (doD Dk 0 (t : Int) 0 zs).2.2 := ⟨_, rfl⟩
    have hpre : pre.length ≤ 65536 := by have := hrc.1; omega
    have hR : ∀ W', Kp s.B W W' → Reads W' xA xn zs := fun W' hk => by
      have h1 := own_tag hrow (fun k cs hx => hk.tag k cs 5 (0, 0) hx (by decide) (by decide) (by decide))
      obtain ⟨A1, c1, e1, h2, -, -⟩ := own_reads h1 hby
      rw [HBB.out] at e1
      injection e1 with e1 _ _
      subst e1
      rw [hzs]
      have h3 := HSUB.out W' s.b (by rw [HBL.out]; exact h2)
      have e3 : k0 * 64 = s.there / 64 * 64 := HK.out
      rw [e3] at h3
      exact hrc.2.2 W' _ h3
    have HWR : Hid (Calls Try.prog 28 #[.pointer (some ⟨s.p, 0, none⟩), .int .i64 (t : Int), .slice xA xn xn] W.drew (fun e W' => e = .returned (.int .i64 er) ∧ WrPost W s.B s.p Dk (t : Int) zs e W')) := Lib.hid (by
      have hd : Kp s.B W W.drew := Kp.of_below (Below.refl _ _).drew hpl.size
      refine (write_any s.B s.p Dk (t : Int) xA xn xn zs W.drew (hpl.disk.kept (Below.refl _ _).drew) (fun W' hk => hR W' (hd.trans hk)) (by omega)).mono fun e W' ⟨h1, h2, h3⟩ => ⟨by rw [h1, her], h1, h2, hd.trans h3⟩)
    have HNX := Lib.hid (fun e W' => si_next (x := (xA, xn)) (e := e) (W' := W') hBw HN0.out HLN.out hrc.1 hbx hs hn hpl hrow hkp hrun hwt' hfl)
    rw [← hzs, ← ht, ← her] at HNX
    have HHB := Lib.hid hbx
    rw [← ht] at HHB
    have d4 := cell_of HHB.out.x4 (j := 0) rfl
    have d10 := cell_of HHB.out.x10 (j := 0) rfl
    have d0 := hpl.cells.c0
    rw [← HQ.out] at d4 d0
    rw [show w.heap.size + 2 = b10 by rw [HB10.out]] at d10
    have ht0 : (0 : Int) ≤ (t : Int) := by omega
    have ht1 : (t : Int) ≤ 1000000 := by omega
    have HMID := Lib.hid (fun W' (hk : Kp s.B W W') => (HHB.out).kp hk)
    clear hbx hs hn hpl hrow hkp hrun hwt' hfl hrc hR hzs her ht
    gi_wp2
    gi_region_with (first
      | (refine ⟨trivial, ?_⟩; refine (CallsIn.inRound l (callsIn_wide.2 HWR.out)).mono ?_; rintro e W5 ⟨rfl, h5⟩; have HW5 := Lib.hid h5; clear h5)
      | fail)
    all_goals
      have h5 := HMID.out W5 HW5.out.2.2
      have c8 := cell_of h5.x8 (j := 0) rfl
      have c10 := cell_of h5.x10 (j := 0) rfl
      have f8 := frozen_of_row _ _ 0 _ _ h5.x8
      have f10 := frozen_of_row _ _ 0 _ _ h5.x10
      rw [← HB8.out] at c8 f8
      rw [show w.heap.size + 2 = b10 by rw [HB10.out]] at c10 f10
      have HX := Lib.hid (HNX.out _ W5 HW5.out)
      have HKP := Lib.hid HW5.out.2.2
      clear h5 d4 d10 d0
      by_cases hz : er = 0
      · subst hz
        gi_wp2
        refine ⟨(kp_keeps HKP.out).trans ((KeepsOthers.setCell _ _ _).from _), ?_⟩
        have h := HX.out.1 (by trivial)
        rw [show w.heap.size + 2 = b10 by rw [HB10.out]] at h
        exact h
      · have hne : (er != 0) = true := by simpa using hz
        have HZ := Lib.hid hz
        clear hz
        gi_wp2
        refine ⟨(kp_keeps HKP.out).trans ((KeepsOthers.setCell _ _ _).from _), ?_⟩
        have h := HX.out.2 er rfl HZ.out
        rw [← HB8.out] at h
        exact h
  case done =>
    rintro Dd xs W hD hS ⟨Dk, hbx, hs, hn, hpl, hrow, hkp, hrun, hwt', hfl⟩ hK
    have hxs : xs.length = (s.b.length - s.there / 64 * 64 + 63) / 64 := by have h1 := hS.1; have h2 := hS.2; have h3 := HLN.out; omega
    rw [ws_last s xs.length hxs, runW_cons] at hrun
    have hDw : w.heap.size ≤ Dd := by have := HS0.out.2; omega
    have HSL := Lib.hid (show SL s w Dk (n0 + xs.length) 0 W from ⟨hbx, hpl, hrow, hkp⟩)
    have HK0 := Lib.hid hK
    have hgk := hpl.gok
    have hNG := hgk.num
    obtain ⟨sl, hsl1⟩ : ∃ sl, sl = s.G.m.slot := ⟨_, rfl⟩
    obtain ⟨sl2, hsl2⟩ : ∃ sl2, sl2 = 1 - s.G.m.slot := ⟨_, rfl⟩
    have hsl3 := hgk.slot
    obtain ⟨m', hm'⟩ : ∃ m', m' = nextMk s.G.m s.half s.b.length := ⟨_, rfl⟩
    have HM := Lib.hid hm'
    have HNG := Lib.hid hNG
    have HNM : Hid (Nok m'.num) := Lib.hid (by rw [hm']; exact nok_nxt hNG)
    have e46 : IntKind.i64.wrap ((1 : Int) - (sl : Int)) = (sl2 : Int) := by rw [IntKind.wrap_i64]; omega
    have HSLT := Lib.hid hsl1
    have HSL2 := Lib.hid hsl2
    obtain ⟨nn, hnn⟩ : ∃ nn, nn = s.G.fr + (1 - s.G.m.slot) := ⟨_, rfl⟩
    obtain ⟨fr, hfr⟩ : ∃ fr, fr = s.G.fr := ⟨_, rfl⟩
    have e67 : IntKind.i64.wrap ((fr : Int) + (sl2 : Int)) = (nn : Int) := by have := hgk.small.1; rw [IntKind.wrap_i64]; omega
    have HFR := Lib.hid hfr
    rw [← hm', ← hnn] at hrun
    obtain ⟨e1, he1⟩ : ∃ e1, e1 = (doD Dk 0 (nn : Int) 0 (secOf m')).2.2 := ⟨_, rfl⟩
    obtain ⟨D1, hD1⟩ : ∃ D1, D1 = (doD Dk 0 (nn : Int) 0 (secOf m')).1 := ⟨_, rfl⟩
    rw [← he1, ← hD1] at hrun
    have HRUN := Lib.hid hrun
    have HE1 := Lib.hid he1
    have HD1 := Lib.hid hD1
    have HLEN1 : Hid (D1.firm.length = Dk.firm.length) := Lib.hid (by rw [hD1]; exact do_len _ _ _ _ _)
    have hS9 : ∀ W', Below W.heap.size W W' → S9 s w.heap.size W' := fun W' hb => (S9.kept ⟨hbx.x4, hpl.here⟩ hb)
    have HS9 := Lib.hid hS9
    have HU : Hid (m'.used ≤ 2147483647 ∧ m'.half ≤ 1) := Lib.hid (by rw [hm']; exact ⟨by show s.b.length ≤ _; omega, hhf⟩)
    have HFL : Hid ((Try.prog.info? 70).map (·.size) = some (ints s.G.m.num).length) := Lib.hid (by rw [ints_length, hNG.1]; exact size70)
    have HNX := Lib.hid (fun W0 => next_any (ints s.G.m.num).toArray s.G.m.num W0 hNG rfl)
    have HN8 : Hid ((ints (nxt s.G.m.num)).toArray.size = 8) := Lib.hid (by rw [List.size_toArray, ints_length, nxt_len, hNG.1])
    have HMC : Hid (#[Value.int .i64 (sl2 : Int)] ++ (ints (nxt s.G.m.num)).toArray ++ #[.int .i64 (half : Int), .int .i64 (bl : Int)] = (mcells m').toArray) := Lib.hid (by
      rw [hm', HHF.out, HBL.out, hsl2]
      simp [mcells, nextMk])
    have HSA : Hid ((Try.prog.info? 72).map (·.size) = some (mcells m').toArray.size) := Lib.hid (by rw [List.size_toArray, mcells_len HNM.out]; exact size72)
    have HSI : Hid ((Try.prog.info? 72).map (·.size) = some (mcells m').length) := Lib.hid (by rw [mcells_len HNM.out]; exact size72)
    have HSO : Hid ((mcells m').toArray.all (·.oneCell') = true) := Lib.hid (all_oneCell_toArray (mcells_one _))
    have HZ11 : Hid ((mcells m').toArray.size ≤ Z11.size) := Lib.hid (by rw [List.size_toArray, mcells_len HNM.out, z11_size]; exact Nat.le_refl _)
    have HWT : Hid (Dk.wait.length ≤ 100000) := Lib.hid (by have := hS.2; omega)
    have hn3 : n0 + xs.length ≤ 10000000 := by have := hS.2; omega
    obtain ⟨nx, hnx⟩ : ∃ nx, nx = n0 + xs.length := ⟨_, rfl⟩
    rw [← hnx] at HSL
    clear hbx hs hn hpl hrow hkp hrun hwt' hfl hxs hgk hNG hsl1 hsl2 hsl3 hm' hnn he1 hD1 hS9 hfr hS hnx hn3 hK
    go_wp2_with fail
    go_cut [13] from 41 to 56 (fun v13 wx => M9 W m' v13 wx)
    case first =>
      refine wp_region_held_drew (S := S9 s w.heap.size) (by kernel_rfl) (HS9.out _ (Below.refl _ _).drew) (fun hHeld => ?_)
      refine take_op 0 41 (.pointer (some ⟨q, 0, none⟩)) rfl rfl (by kernel_rfl) (by kernel_rfl) (by kernel_rfl) (fun _ _ _ h => h) (.inl ⟨by rfl, fun w' hw' => by have hf := s9_box HQ.out hw'; go_simp⟩) hHeld ?_
      simp only [List.set_cons_zero, List.set_cons_succ]
      refine take_op 1 42 (.pointer (some ⟨q, 0, none⟩)) rfl rfl (by kernel_rfl) (by kernel_rfl) (by kernel_rfl) (fun _ _ _ h => h) (.inl ⟨by rfl, fun w' hw' => by go_simp⟩) hHeld ?_
      simp only [List.set_cons_zero, List.set_cons_succ]
      refine take_op 2 43 (.pointer (some ⟨q, 3, none⟩)) rfl rfl (by kernel_rfl) (by kernel_rfl) (by kernel_rfl) (fun _ _ _ h => h) (.inl ⟨by rfl, fun w' hw' => by go_simp⟩) hHeld ?_
      simp only [List.set_cons_zero, List.set_cons_succ]
      refine take_op 3 44 (.pointer (some ⟨q, 3, none⟩)) rfl rfl (by kernel_rfl) (by kernel_rfl) (by kernel_rfl) (fun _ _ _ h => h) (.inl ⟨by rfl, fun w' hw' => by go_simp⟩) hHeld ?_
      simp only [List.set_cons_zero, List.set_cons_succ]
      refine take_op 4 45 (.int .i64 (sl : Int)) rfl rfl (by kernel_rfl) (by kernel_rfl) (by kernel_rfl) (fun _ _ _ h => h) (.inl ⟨by rfl, fun w' hw' => by have hf := s9_slot HQ.out HSLT.out HNG.out hw'; go_simp⟩) hHeld ?_
      simp only [List.set_cons_zero, List.set_cons_succ]
      refine take_op 5 46 (.int .i64 (sl2 : Int)) rfl rfl (by kernel_rfl) (by kernel_rfl) (by kernel_rfl) (fun _ _ _ h => h) (.inl ⟨by rfl, fun w' hw' => by go_simp⟩) hHeld ?_
      simp only [List.set_cons_zero, List.set_cons_succ]
      refine take_op 6 47 (.pointer (some ⟨q, 0, none⟩)) rfl rfl (by kernel_rfl) (by kernel_rfl) (by kernel_rfl) (fun _ _ _ h => h) (.inl ⟨by rfl, fun w' hw' => by have hf := s9_box HQ.out hw'; go_simp⟩) hHeld ?_
      simp only [List.set_cons_zero, List.set_cons_succ]
      refine take_op 7 48 (.pointer (some ⟨q, 0, none⟩)) rfl rfl (by kernel_rfl) (by kernel_rfl) (by kernel_rfl) (fun _ _ _ h => h) (.inl ⟨by rfl, fun w' hw' => by go_simp⟩) hHeld ?_
      simp only [List.set_cons_zero, List.set_cons_succ]
      refine take_op 8 49 (.pointer (some ⟨q, 3, none⟩)) rfl rfl (by kernel_rfl) (by kernel_rfl) (by kernel_rfl) (fun _ _ _ h => h) (.inl ⟨by rfl, fun w' hw' => by go_simp⟩) hHeld ?_
      simp only [List.set_cons_zero, List.set_cons_succ]
      refine take_op 9 50 (.pointer (some ⟨q, 4, none⟩)) rfl rfl (by kernel_rfl) (by kernel_rfl) (by kernel_rfl) (fun _ _ _ h => h) (.inl ⟨by rfl, fun w' hw' => by go_simp⟩) hHeld ?_
      simp only [List.set_cons_zero, List.set_cons_succ]
      refine take_op 10 51 (.agg (ints s.G.m.num).toArray) rfl rfl (by kernel_rfl) (by kernel_rfl) (by kernel_rfl) (fun _ _ _ h => h) (yieldsIf_load_mid (by rfl) 70 (.tmp 50) rfl q 4 rfl (ints s.G.m.num) (.array 8 5) (fun w h => s9_num HQ.out HNG.out h) Try.underlying70 rfl HFL.out) hHeld ?_
      simp only [List.set_cons_zero, List.set_cons_succ]
      refine take_op 12 53 (.int .i64 (half : Int)) rfl rfl (by kernel_rfl) (by kernel_rfl) (by kernel_rfl) (fun _ _ _ h => h) (.inl ⟨by rfl, fun w' hw' => by go_simp⟩) hHeld ?_
      simp only [List.set_cons_zero, List.set_cons_succ]
      refine take_op 13 54 (.slice Ab bl cb) rfl rfl (by kernel_rfl) (by kernel_rfl) (by kernel_rfl) (fun _ _ _ h => h) (.inl ⟨by rfl, fun w' hw' => by go_simp⟩) hHeld ?_
      simp only [List.set_cons_zero, List.set_cons_succ]
      refine take_op 14 55 (.int .i64 (bl : Int)) rfl rfl (by kernel_rfl) (by kernel_rfl) (by kernel_rfl) (fun _ _ _ h => h) (.inl ⟨by rfl, fun w' hw' => by go_simp⟩) hHeld ?_
      simp only [List.set_cons_zero, List.set_cons_succ]
      refine wpAnyH_ready (rs := [11, 16]) (by kernel_rfl) (by simp) (AllReadyH.cons rfl (fun K hK => ?_) (AllReadyH.cons rfl (fun K hK => ?_) AllReadyH.nil))
      · go_simp
        refine (HNX.out _).mono ?_
        rintro e w5 ⟨rfl, hb5⟩
        have HB5 : Hid (Below W.heap.size W w5) := Lib.hid ((Below.refl _ _).drew.trans hb5)
        clear hb5
        go_wp2_with fail
        refine hK.out _ _ (HS9.out _ HB5.out) (fun hH2 => ?_)
        refine take_op 15 56 (.agg (#[.int .i64 (sl2 : Int)] ++ (ints (nxt s.G.m.num)).toArray ++ #[.int .i64 (half : Int), .int .i64 (bl : Int)])) rfl rfl (by kernel_rfl) (by kernel_rfl) (by kernel_rfl) (fun _ _ _ h => h) (yields_build72 (by rfl) (.tmp 46) (.tmp 52) (.tmp 53) (.tmp 55) rfl (sl2 : Int) (half : Int) (bl : Int) (ints (nxt s.G.m.num)).toArray rfl rfl rfl rfl HN8.out) hH2 ?_
        simp only [List.set_cons_zero, List.set_cons_succ]
        rw [HMC.out]
        refine wpAnyH_ready (rs := [16]) (by kernel_rfl) (by simp) (AllReadyH.cons rfl (fun K2 hK2 => ?_) AllReadyH.nil)
        rw [if_pos (by rfl)]
        refine alloc72_l 13 rfl rfl ?_
        simp only [List.set_cons_zero, List.set_cons_succ]
        have HB6 := Lib.hid (HB5.out.trans ((box_below w5 (.cells Z11 72)).mono HB5.out.size))
        refine hK2.out _ _ (HS9.out _ HB6.out) (fun _ => ?_)
        refine wpAnyH_ready (rs := [17]) (by kernel_rfl) (by simp) (AllReadyH.cons rfl (fun K3 hK3 => ?_) AllReadyH.nil)
        rw [if_pos (by rfl)]
        have HM9 := Lib.hid (m9_of HNM.out (new_block w5 (.cells Z11 72)) HB5.out.size HB6.out)
        refine store_l rfl 72 (.tmp 13) (.tmp 56) rfl w5.heap.size 0 (mcells m').toArray rfl rfl (there_whole (new_block w5 (.cells Z11 72)) HZ11.out) HSA.out HSO.out ?_
        refine hK3.out _ _ (HS9.out _ HM9.out.below) (fun _ => ?_)
        refine wpAnyH_done (by kernel_rfl) ?_ _
        go_wp2_with fail
        go_meet
        exact HM9.out
      · rw [if_pos (by rfl)]
        refine alloc72_l 13 rfl rfl ?_
        simp only [List.set_cons_zero, List.set_cons_succ]
        have HB6 : Hid (Below W.heap.size W (W.drew.alloc (.cells Z11 72))) := Lib.hid ((Below.refl _ _).drew.alloc (Nat.le_refl _) _)
        refine hK.out _ _ (HS9.out _ HB6.out) (fun _ => ?_)
        refine wpAnyH_ready (rs := [11]) (by kernel_rfl) (by simp) (AllReadyH.cons rfl (fun K2 hK2 => ?_) AllReadyH.nil)
        go_simp
        refine (HNX.out _).mono ?_
        rintro e w5 ⟨rfl, hb5⟩
        have HG5 : Hid (w5.heap[W.heap.size]? = some (.cells Z11 72 (0, 0))) := Lib.hid ((hb5.block _ (by simp)).trans (new_block W.drew (.cells Z11 72)))
        have HB5 : Hid (Below W.heap.size W w5) := Lib.hid (HB6.out.trans (hb5.mono HB6.out.size))
        clear hb5
        go_wp2_with fail
        refine hK2.out _ _ (HS9.out _ HB5.out) (fun hH2 => ?_)
        refine take_op 15 56 (.agg (#[.int .i64 (sl2 : Int)] ++ (ints (nxt s.G.m.num)).toArray ++ #[.int .i64 (half : Int), .int .i64 (bl : Int)])) rfl rfl (by kernel_rfl) (by kernel_rfl) (by kernel_rfl) (fun _ _ _ h => h) (yields_build72 (by rfl) (.tmp 46) (.tmp 52) (.tmp 53) (.tmp 55) rfl (sl2 : Int) (half : Int) (bl : Int) (ints (nxt s.G.m.num)).toArray rfl rfl rfl rfl HN8.out) hH2 ?_
        simp only [List.set_cons_zero, List.set_cons_succ]
        rw [HMC.out]
        refine wpAnyH_ready (rs := [17]) (by kernel_rfl) (by simp) (AllReadyH.cons rfl (fun K3 hK3 => ?_) AllReadyH.nil)
        rw [if_pos (by rfl)]
        have HM9 := Lib.hid (m9_of HNM.out HG5.out (Nat.le_refl _) HB5.out)
        refine store_l rfl 72 (.tmp 13) (.tmp 56) rfl W.heap.size 0 (mcells m').toArray rfl rfl (there_whole HG5.out HZ11.out) HSA.out HSO.out ?_
        refine hK3.out _ _ (HS9.out _ HM9.out.below) (fun _ => ?_)
        refine wpAnyH_done (by kernel_rfl) ?_ _
        go_wp2_with fail
        go_meet
        exact HM9.out
    case rest =>
      obtain ⟨⟨g, rfl, hg⟩, hb⟩ := hcut
      have HSC := Lib.hid (HSL.out.below hb)
      have HKC : Hid (wc.heap[Dd]? = some (.deferred (some []))) := Lib.hid ((hb.block _ (Array.getElem?_eq_some_iff.1 HK0.out).1).trans HK0.out)
      have HSX : Hid (S10 s w.heap.size g m' wc) := Lib.hid ⟨HS9.out _ hb, hg⟩
      have HSE := Lib.hid (sector_any (mcells m').toArray m' wc.drew HNM.out HU.out.2 HU.out.1 rfl)
      have hfr0 : (0 : Int) ≤ (fr : Int) := by omega
      clear hg hb
      go_wp2_with fail
      refine wp_region_held_drew (S := S10 s w.heap.size g m') (by kernel_rfl) (HSX.out.kept (Below.refl _ _).drew) (fun hHeld => ?_)
      refine take_op 0 57 (.pointer (some ⟨q, 0, none⟩)) rfl rfl (by kernel_rfl) (by kernel_rfl) (by kernel_rfl) (fun _ _ _ h => h) (.inl ⟨by rfl, fun w' hw' => by have hf := s9_box HQ.out hw'.s9; go_simp⟩) hHeld ?_
      simp only [List.set_cons_zero, List.set_cons_succ]
      refine take_op 1 58 (.pointer (some ⟨q, 0, none⟩)) rfl rfl (by kernel_rfl) (by kernel_rfl) (by kernel_rfl) (fun _ _ _ h => h) (.inl ⟨by rfl, fun w' hw' => by go_simp⟩) hHeld ?_
      simp only [List.set_cons_zero, List.set_cons_succ]
      refine take_op 2 59 (.pointer (some ⟨q, 0, none⟩)) rfl rfl (by kernel_rfl) (by kernel_rfl) (by kernel_rfl) (fun _ _ _ h => h) (.inl ⟨by rfl, fun w' hw' => by go_simp⟩) hHeld ?_
      simp only [List.set_cons_zero, List.set_cons_succ]
      refine take_op 3 60 (.pointer (some ⟨s.p, 0, none⟩)) rfl rfl (by kernel_rfl) (by kernel_rfl) (by kernel_rfl) (fun _ _ _ h => h) (.inl ⟨by rfl, fun w' hw' => by have hf := s9_disk HQ.out HNG.out hw'.s9; go_simp⟩) hHeld ?_
      simp only [List.set_cons_zero, List.set_cons_succ]
      refine take_op 4 61 (.pointer (some ⟨q, 0, none⟩)) rfl rfl (by kernel_rfl) (by kernel_rfl) (by kernel_rfl) (fun _ _ _ h => h) (.inl ⟨by rfl, fun w' hw' => by have hf := s9_box HQ.out hw'.s9; go_simp⟩) hHeld ?_
      simp only [List.set_cons_zero, List.set_cons_succ]
      refine take_op 5 62 (.pointer (some ⟨q, 0, none⟩)) rfl rfl (by kernel_rfl) (by kernel_rfl) (by kernel_rfl) (fun _ _ _ h => h) (.inl ⟨by rfl, fun w' hw' => by go_simp⟩) hHeld ?_
      simp only [List.set_cons_zero, List.set_cons_succ]
      refine take_op 6 63 (.pointer (some ⟨q, 1, none⟩)) rfl rfl (by kernel_rfl) (by kernel_rfl) (by kernel_rfl) (fun _ _ _ h => h) (.inl ⟨by rfl, fun w' hw' => by go_simp⟩) hHeld ?_
      simp only [List.set_cons_zero, List.set_cons_succ]
      refine take_op 7 64 (.int .i64 (fr : Int)) rfl rfl (by kernel_rfl) (by kernel_rfl) (by kernel_rfl) (fun _ _ _ h => h) (.inl ⟨by rfl, fun w' hw' => by have hf := s9_from HQ.out HFR.out HNG.out hw'.s9; go_simp⟩) hHeld ?_
      simp only [List.set_cons_zero, List.set_cons_succ]
      refine take_op 8 65 (.pointer (some ⟨g, 0, none⟩)) rfl rfl (by kernel_rfl) (by kernel_rfl) (by kernel_rfl) (fun _ _ _ h => h) (.inl ⟨by rfl, fun w' hw' => by go_simp⟩) hHeld ?_
      simp only [List.set_cons_zero, List.set_cons_succ]
      refine take_op 9 66 (.int .i64 (sl2 : Int)) rfl rfl (by kernel_rfl) (by kernel_rfl) (by kernel_rfl) (fun _ _ _ h => h) (.inl ⟨by rfl, fun w' hw' => by have hf := s10_slot HSL2.out HM.out hw'; go_simp⟩) hHeld ?_
      simp only [List.set_cons_zero, List.set_cons_succ]
      refine take_op 10 67 (.int .i64 (nn : Int)) rfl rfl (by kernel_rfl) (by kernel_rfl) (by kernel_rfl) (fun _ _ _ h => h) (.inl ⟨by rfl, fun w' hw' => by go_simp⟩) hHeld ?_
      simp only [List.set_cons_zero, List.set_cons_succ]
      refine take_op 11 68 (.agg (mcells m').toArray) rfl rfl (by kernel_rfl) (by kernel_rfl) (by kernel_rfl) (fun _ _ _ h => h) (yieldsIf_load_mid (by rfl) 72 (.tmp 13) rfl g 0 rfl (mcells m') _ (fun w h => range_whole h.mg) Try.underlying72 rfl HSI.out) hHeld ?_
      simp only [List.set_cons_zero, List.set_cons_succ]
      refine wpAnyH_ready (rs := [12]) (by kernel_rfl) (by simp) (AllReadyH.cons rfl (fun K hK => ?_) AllReadyH.nil)
      go_simp
      refine HSE.out.mono ?_
      rintro e w6 ⟨g2, rfl, -, hg2, hb6⟩
      have HB6 := Lib.hid hb6
      have HS6 := Lib.hid ((HSC.out.below (Below.refl _ _).drew).below hb6)
      have hsok : Sok (secOf m') := ⟨sec_len' HNM.out, sec_bys HNM.out HU.out.2⟩
      have HWR := Lib.hid (write_any s.B s.p Dk (nn : Int) (some ⟨g2, 0, none⟩) 64 64 (secOf m') w6 HS6.out.pl.disk (fun w' hk => ints_read hsok (hk.tag _ _ _ _ hg2 (by decide) (by decide) (by decide))) HWT.out)
      have HKC6 : Hid (w6.heap[Dd]? = some (.deferred (some []))) := Lib.hid ((hb6.block _ (Array.getElem?_eq_some_iff.1 HKC.out).1).trans HKC.out)
      have HX6 := Lib.hid ((HSX.out.kept (Below.refl _ _).drew).kept hb6)
      clear hb6 hg2 hsok
      go_wp2_with fail
      refine hK.out _ _ HX6.out (fun _ => ?_)
      refine wpAnyH_ready (rs := [13]) (by kernel_rfl) (by simp) (AllReadyH.cons rfl (fun K2 hK2 => ?_) AllReadyH.nil)
      go_simp
      refine HWR.out.mono ?_
      rintro e w8 ⟨rfl, hpd8, hkp8⟩
      rw [← HE1.out]
      rw [← HD1.out] at hpd8
      have HS8 := Lib.hid (HS6.out.disk hkp8 hpd8 HLEN1.out)
      have HX8 := Lib.hid (HX6.out.kp hkp8)
      have HKC8 : Hid (w8.heap[Dd]? = some (.deferred (some []))) := Lib.hid (hkp8.kept _ _ HKC6.out (fun _ _ _ e => by cases e))
      clear hpd8 hkp8
      go_wp2_with fail
      refine hK2.out _ _ HX8.out (fun hHeld2 => ?_)
      refine take_op 14 14 (.int .i64 e1) rfl rfl (by kernel_rfl) (by kernel_rfl) (by kernel_rfl) (fun _ _ _ h => h) (.inl ⟨by rfl, fun w' hw' => by go_simp⟩) hHeld2 ?_
      simp only [List.set_cons_zero, List.set_cons_succ]
      refine wpAnyH_done (by kernel_rfl) ?_ _
      have y4 := cell_of HS8.out.bx.x4 (j := 0) rfl
      have y8 := cell_of HS8.out.bx.x8 (j := 0) rfl
      have yf8 := frozen_of_row _ _ 0 _ _ HS8.out.bx.x8
      have y0 := HS8.out.pl.cells.c0
      rw [← HB8.out] at y8 yf8
      rw [← HQ.out] at y4 y0
      by_cases h1 : e1 = 0
      · subst h1
        have hru := HRUN.out
        rw [if_pos rfl] at hru
        obtain ⟨e2, he2⟩ : ∃ e2, e2 = (doD D1 2 0 0 []).2.2 := ⟨_, rfl⟩
        obtain ⟨D2, hD2⟩ : ∃ D2, D2 = (doD D1 2 0 0 []).1 := ⟨_, rfl⟩
        have HRU2 : Hid (runW s.D s.ws = (D2, e2)) := Lib.hid (by rw [hru, hD2, he2]; rfl)
        have HSY := Lib.hid (sync_any s.B s.p D1 w8 HS8.out.pl.disk)
        have HE2 := Lib.hid he2
        have HD2 := Lib.hid hD2
        have HLEN2 : Hid (D2.firm.length = D1.firm.length) := Lib.hid (by rw [hD2]; exact do_len _ _ _ _ _)
        clear hru he2 hD2
        go_wp2_with fail
        refine HSY.out.mono ?_
        rintro e w9 ⟨rfl, hpd9, hkp9⟩
        rw [← HE2.out]
        rw [← HD2.out] at hpd9
        have HS9' := Lib.hid (HS8.out.disk hkp9 hpd9 HLEN2.out)
        have HX9 := Lib.hid (HX8.out.kp hkp9)
        have HKC9 : Hid (w9.heap[Dd]? = some (.deferred (some []))) := Lib.hid (hkp9.kept _ _ HKC8.out (fun _ _ _ e => by cases e))
        have z8 := cell_of HS9'.out.bx.x8 (j := 0) rfl
        have zf8 := frozen_of_row _ _ 0 _ _ HS9'.out.bx.x8
        rw [← HB8.out] at z8 zf8
        clear hpd9 hkp9 y4 y8 yf8 y0
        by_cases h2 : e2 = 0
        · subst h2
          have HST16 : Hid (S16 s w.heap.size g m' w9.drew) := Lib.hid ⟨HX9.out.s9.x4, HX9.out.mg⟩
          have HSD := Lib.hid (HS9'.out.below (Below.refl _ _).drew)
          have HTH : Hid (w9.drew.there q 3 (mcells m').toArray.size) := Lib.hid (by
            have h := HX9.out.s9.lq
            rw [← HQ.out] at h
            exact there_part (w := w9.drew) h (by rw [List.size_toArray, List.size_toArray, mcells_len HNM.out, lcells_len HNG.out]; decide))
          obtain ⟨wz, hwz⟩ : ∃ wz, wz = w9.drew.setCells q 3 (mcells m') := ⟨_, rfl⟩
          have hlz : wz.heap[q]? = some (.cells (lcells s.p { s.G with m := m' } s.bv).toArray 74 (0, 0)) := by
            have h := HX9.out.s9.lq
            rw [← HQ.out] at h
            rw [hwz]; exact set_mark (w := w9.drew) HNG.out HNM.out h
          have HSZ16 : Hid (S16 s w.heap.size g m' wz) := Lib.hid (by
            have h := HX9.out.s9.lq
            rw [hwz, HQ.out]
            exact ⟨(setCells_other (w := w9.drew) _ _ _ (fun e => by have h4 := HX9.out.s9.x4; rw [e, h] at h4; injection h4 with h4; injection h4 with _ h4 _; cases h4)).trans HX9.out.s9.x4,
              (setCells_other (w := w9.drew) _ _ _ (fun e => by have h4 := HX9.out.mg; rw [e, h] at h4; injection h4 with h4; injection h4 with _ h4 _; cases h4)).trans HX9.out.mg⟩)
          have HSY16 : Hid (S16 s w.heap.size g m' (wz.setCell ⟨q, 14, none⟩ (.slice Ab bl cb))) := Lib.hid ⟨by
              rw [heap_setCell_other wz _ _ _ (fun e => by have h4 := HSZ16.out.x4; simp only at e; rw [e, hlz] at h4; injection h4 with h4; injection h4 with _ h4 _; cases h4)]; exact HSZ16.out.x4, by
              rw [heap_setCell_other wz _ _ _ (fun e => by have h4 := HSZ16.out.mg; simp only at e; rw [e, hlz] at h4; injection h4 with h4; injection h4 with _ h4 _; cases h4)]; exact HSZ16.out.mg⟩
          have q14 : wz.cell? ⟨q, 14, none⟩ = some s.bv := (LCells.of (G := { s.G with m := m' }) hlz HNM.out).c14
          have qf14 := frozen_of_row wz q 14 _ _ hlz
          have hGD := se_good (W' := ((wz.setCell ⟨q, 14, none⟩ (.slice Ab bl cb)).setCell ⟨b8, 0, none⟩ (.int .i64 0))) hBw hDw HSD.out hhf hbl hby HKC9.out HRU2.out (by rw [hwz, ← HM.out, HQ.out, HB8.out, HBB.out, HBL.out])
          rw [← HB8.out] at hGD
          have HGD := Lib.hid hGD
          have r8 : (wz.setCell ⟨q, 14, none⟩ (.slice Ab bl cb)).heap[b8]? = some (.cells #[.int .i64 0] 35 (0, 0)) := by
            have hb8' := HS9'.out.bx.x8
            rw [← HB8.out] at hb8'
            have hne : b8 ≠ q := fun e => by
              have h := HX9.out.s9.lq
              rw [← HQ.out, ← e, hb8'] at h
              injection h with h; injection h with _ h _; cases h
            rw [heap_setCell_other wz _ _ _ hne, hwz, setCells_other _ _ _ _ hne]; exact hb8'
          have r8c := cell_of r8 (j := 0) rfl
          have r8f := frozen_of_row _ b8 0 _ _ r8
          have HWZ := Lib.hid hwz
          clear hwz hlz hGD r8 z8 zf8
          go_wp2_with fail
          refine wp_region_held_drew (S := S16 s w.heap.size g m') (by kernel_rfl) HST16.out (fun hHeld => ?_)
          refine take_op 0 82 (.pointer (some ⟨q, 0, none⟩)) rfl rfl (by kernel_rfl) (by kernel_rfl) (by kernel_rfl) (fun _ _ _ h => h) (.inl ⟨by rfl, fun w' hw' => by have hf := s16_box HQ.out hw'; go_simp⟩) hHeld ?_
          simp only [List.set_cons_zero, List.set_cons_succ]
          refine take_op 1 83 (.pointer (some ⟨q, 0, none⟩)) rfl rfl (by kernel_rfl) (by kernel_rfl) (by kernel_rfl) (fun _ _ _ h => h) (.inl ⟨by rfl, fun w' hw' => by have hf := s16_box HQ.out hw'; go_simp⟩) hHeld ?_
          simp only [List.set_cons_zero, List.set_cons_succ]
          refine take_op 2 84 (.agg (mcells m').toArray) rfl rfl (by kernel_rfl) (by kernel_rfl) (by kernel_rfl) (fun _ _ _ h => h) (yieldsIf_load_mid (by rfl) 72 (.tmp 13) rfl g 0 rfl (mcells m') _ (fun w h => range_whole h.mg) Try.underlying72 rfl HSI.out) hHeld ?_
          simp only [List.set_cons_zero, List.set_cons_succ]
          refine take_op 3 85 (.slice Ab bl cb) rfl rfl (by kernel_rfl) (by kernel_rfl) (by kernel_rfl) (fun _ _ _ h => h) (.inl ⟨by rfl, fun w' hw' => by go_simp⟩) hHeld ?_
          simp only [List.set_cons_zero, List.set_cons_succ]
          refine take_op 4 86 (.pointer (some ⟨q, 0, none⟩)) rfl rfl (by kernel_rfl) (by kernel_rfl) (by kernel_rfl) (fun _ _ _ h => h) (.inl ⟨by rfl, fun w' hw' => by go_simp⟩) hHeld ?_
          simp only [List.set_cons_zero, List.set_cons_succ]
          refine take_op 5 87 (.pointer (some ⟨q, 3, none⟩)) rfl rfl (by kernel_rfl) (by kernel_rfl) (by kernel_rfl) (fun _ _ _ h => h) (.inl ⟨by rfl, fun w' hw' => by go_simp⟩) hHeld ?_
          simp only [List.set_cons_zero, List.set_cons_succ]
          refine wpAnyH_ready (rs := [6]) (by kernel_rfl) (by simp) (AllReadyH.cons rfl (fun K3 hK3 => ?_) AllReadyH.nil)
          rw [if_pos (by rfl)]
          refine store_l rfl 72 (.tmp 87) (.tmp 84) rfl q 3 (mcells m').toArray rfl rfl HTH.out HSA.out HSO.out ?_
          rw [show w9.drew.setCells q 3 (mcells m').toArray.toList = wz from HWZ.out.symm]
          refine hK3.out _ _ HSZ16.out (fun hHeld3 => ?_)
          refine take_op 7 88 (.pointer (some ⟨q, 0, none⟩)) rfl rfl (by kernel_rfl) (by kernel_rfl) (by kernel_rfl) (fun _ _ _ h => h) (.inl ⟨by rfl, fun w' hw' => by go_simp⟩) hHeld3 ?_
          simp only [List.set_cons_zero, List.set_cons_succ]
          refine take_op 8 89 (.pointer (some ⟨q, 14, none⟩)) rfl rfl (by kernel_rfl) (by kernel_rfl) (by kernel_rfl) (fun _ _ _ h => h) (.inl ⟨by rfl, fun w' hw' => by go_simp⟩) hHeld3 ?_
          simp only [List.set_cons_zero, List.set_cons_succ]
          refine wpAnyH_ready (rs := [9]) (by kernel_rfl) (by simp) (AllReadyH.cons rfl (fun K4 hK4 => ?_) AllReadyH.nil)
          go_simp
          refine hK4.out _ _ HSY16.out (fun _ => ?_)
          refine wpAnyH_done (by kernel_rfl) ?_ _
          go_wp2_with fail
          show bodyPostM Fence.wide 3 Try.prog Try.f35 (SePost s w) .ret _ _
          refine ⟨by simp, .inl ⟨_, _, rfl, run_takeDeferred HGD.out.2.2, ?_⟩⟩
          exact ⟨_, results_i rfl _ _ b8 _ rfl HGD.out.1, HGD.out.2.1⟩
        · have hne : (e2 != 0) = true := by simpa using h2
          have hBD := se_bad hBw hDw (HS9'.out.ret hBw e2) (by
            rw [heap_setCell_other _ _ _ _ (fun e => by have h := HKC9.out; simp only at e; rw [e, HS9'.out.bx.x8] at h; cases h)]; exact HKC9.out) HRU2.out h2
          have hKB : (w9.setCell ⟨b8, 0, none⟩ (.int .i64 e2)).heap[Dd]? = some (.deferred (some [])) := by
            rw [HB8.out, heap_setCell_other _ _ _ _ (fun e => by have h := HKC9.out; simp only at e; rw [e, HS9'.out.bx.x8] at h; cases h)]; exact HKC9.out
          rw [← HB8.out] at hBD
          have HBD := Lib.hid hBD
          have HKB := Lib.hid hKB
          clear h2 hBD hKB
          go_wp2_with fail
          show bodyPostM Fence.wide 3 Try.prog Try.f35 (SePost s w) .ret _ _
          refine ⟨by simp, .inl ⟨_, _, rfl, run_takeDeferred HKB.out, ?_⟩⟩
          exact ⟨_, results_i rfl _ _ b8 _ rfl HBD.out.1, HBD.out.2⟩
      · have hne : (e1 != 0) = true := by simpa using h1
        have hru := HRUN.out
        rw [if_neg h1] at hru
        have hBD := se_bad hBw hDw (HS8.out.ret hBw e1) (by
          rw [heap_setCell_other _ _ _ _ (fun e => by have h := HKC8.out; simp only at e; rw [e, HS8.out.bx.x8] at h; cases h)]; exact HKC8.out) hru h1
        have hKB : (w8.setCell ⟨b8, 0, none⟩ (.int .i64 e1)).heap[Dd]? = some (.deferred (some [])) := by
          rw [HB8.out, heap_setCell_other _ _ _ _ (fun e => by have h := HKC8.out; simp only at e; rw [e, HS8.out.bx.x8] at h; cases h)]; exact HKC8.out
        rw [← HB8.out] at hBD
        have HBD := Lib.hid hBD
        have HKB := Lib.hid hKB
        clear h1 hBD hKB hru
        go_wp2_with fail
        show bodyPostM Fence.wide 3 Try.prog Try.f35 (SePost s w) .ret _ _
        refine ⟨by simp, .inl ⟨_, _, rfl, run_takeDeferred HKB.out, ?_⟩⟩
        exact ⟨_, results_i rfl _ _ b8 _ rfl HBD.out.1, HBD.out.2⟩
  case stop =>
    rintro Dd xs W hD hX hK
    have hDw : w.heap.size ≤ Dd := by have := HS0.out.2; omega
    obtain ⟨er, hc, hp⟩ := se_stop hBw hDw hX hK
    rw [← HB8.out] at hc
    have HC := Lib.hid hc
    have HP := Lib.hid hp
    have HK1 := Lib.hid hK
    clear hX hK hc hp
    refine wpIn_wide.2 ?_
    go_wp2_with fail
    show bodyPostM Fence.wide 3 Try.prog Try.f35 (SePost s w) .ret _ _
    refine ⟨by simp, .inl ⟨_, _, rfl, run_takeDeferred (w := W) HK1.out, ?_⟩⟩
    exact ⟨_, results_i rfl _ _ b8 _ rfl HC.out, HP.out⟩
end Go.Proofs.Ytdbpnfceabklkaa
