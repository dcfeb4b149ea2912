/-
  What the document's own Do, Ended, Check, Same and SameIds return. Condition: the lists are tables; the list that is checked is not long.
  The document's own Same, at states of which all that is asked is the same. Condition: memory holds the states.
-/
import Derived.Test.YtflgemlhocjipaaGreatDoorLDoc2
import Derived.Test.YtflgemlhocjipaaGreatDoorSDoc1
namespace Go.Proofs.YtflgemlhocjipaaGreatDoor.Lq
set_option maxRecDepth 100000
open Go.ChangeShapes Go.WideShapes Go.ChangeAt Go.RowKit Go.Proofs.Le

set_option maxHeartbeats 4000000 in
theorem same_any {w : World} {A A2 : Option Addr} {c c2 : Nat} {L : Tb} (h : Rd lcell 3 w A L.length L) (h2 : Rd lcell 3 w A2 L.length L) (hn : L.length ≤ 100000) :
    Calls Tryz.prog 49 #[.slice A L.length c, .slice A2 L.length c2] w fun e w' => e = .returned (.bool true) ∧ Below w.heap.size w w' := by
  have HR := Lib.hid h
  have HR2 := Lib.hid h2
  clear h h2
  have hgu := guard_neqD
  obtain ⟨n, hnn⟩ : ∃ n, L.length = n := ⟨_, rfl⟩
  rw [hnn] at HR HR2 hn ⊢
  have HN := Lib.hid hnn
  clear hnn
  go_enter Tryz.func49, Tryz.ntmps49
  go_wp2_with fail
  go_loopw [5] (fun i wr => ∃ k : Nat, k ≤ n ∧ i = .int .i64 k ∧ Hid (Below w.heap.size w wr)) (fun i _ => n - (intOf i).toNat)
  case atStart => exact ⟨0, Nat.zero_le _, rfl, Lib.hid (Below.refl _ _)⟩
  case round =>
    obtain ⟨k, hk, rfl, HX⟩ := hrel
    by_cases hlt : k < n
    · obtain ⟨b, off, x, rfl, hx, hcc⟩ := (HR.out.below HX.out).at hlt
      obtain ⟨b2, off2, z, rfl, hz, hdd⟩ := (HR2.out.below HX.out).at hlt
      obtain rfl : x = z := Option.some.inj (hx.symm.trans hz)
      have c0 : wr.cell? ⟨b, off + k * 3, none⟩ = some (.int .i64 x.i) := hcc 0 _ rfl
      have c1 : wr.cell? ⟨b, off + k * 3 + 1, none⟩ = some (.int .i64 x.s) := hcc 1 _ rfl
      have c2 : wr.cell? ⟨b, off + k * 3 + 2, none⟩ = some (.int .i64 x.l) := hcc 2 _ rfl
      have d0 : wr.cell? ⟨b2, off2 + k * 3, none⟩ = some (.int .i64 x.i) := hdd 0 _ rfl
      have d1 : wr.cell? ⟨b2, off2 + k * 3 + 1, none⟩ = some (.int .i64 x.s) := hdd 1 _ rfl
      have d2 : wr.cell? ⟨b2, off2 + k * 3 + 2, none⟩ = some (.int .i64 x.l) := hdd 2 _ rfl
      have hqe := neqD x x
      rw [show (!decide (x = x)) = false by simp] at hqe
      have hk0 : (0 : Int) ≤ (k : Int) := by omega
      have hki : (k : Int) < (n : Int) := by omega
      have hwk : IntKind.i64.wrap ((k : Int) + 1) = (k : Int) + 1 := by rw [IntKind.wrap_i64]; omega
      clear hx hz hcc hdd
      go_upto_region 6 with fail
      go_quiet (fail)
      have HX2 := Lib.hid (below_drewN HX.out nq)
      clear c0 c1 c2 d0 d1 d2 hqe
      go_wp2_with fail
      go_roundw
      case rel => exact ⟨k + 1, by omega, by go_num, HX2⟩
      case measure => simp [intOf]; omega
    · obtain rfl : k = n := by omega
      have hki : ¬ (k : Int) < (k : Int) := by omega
      go_wp2_with fail
      go_ret
      exact ⟨rfl, HX.out⟩
end Go.Proofs.YtflgemlhocjipaaGreatDoor.Lq
namespace Go.Proofs.YtflgemlhocjipaaGreatDoor
set_option maxRecDepth 100000
open Go.ChangeShapes Go.WideShapes Go.ChangeAt Go.RowKit Go.Proofs.Zn Go.Proofs.Zt
open Go.Proofs.Zs (St Lst Rep Tx)

/-- Two states of which all that is asked is the same. -/
structure Alk (S S2 : St) : Prop where
  z : S.z = S2.z
  T : S.T = S2.T
  L : S.L = S2.L
  fd : ∀ x ∈ S.L, (Zs.fd S.D x.i).n = (Zs.fd S2.D x.i).n ∧ (Zs.fd S.D x.i).r = (Zs.fd S2.D x.i).r
theorem Alk.refl (S : St) : Alk S S := ⟨rfl, rfl, rfl, fun _ _ => ⟨rfl, rfl⟩⟩
theorem Alk.symm {S S2 : St} (h : Alk S S2) : Alk S2 S := ⟨h.z.symm, h.T.symm, h.L.symm, fun x hx => ⟨(h.fd x (by rw [h.L]; exact hx)).1.symm, (h.fd x (by rw [h.L]; exact hx)).2.symm⟩⟩
theorem lvok_wr {w w' : World} {B : Nat} {x : Lv} {r : Nat} (h : LvOk w B x) (hw : Wr r w w') (hr : w.heap[r]? = some (.cells #[.int .i64 0, .int .i64 0, .int .i64 0, .int .i64 0, .slice none 0 0] 102 (0, 0))) : LvOk w' B x := by
  have key : ∀ a, 0 < x.m → x.A = some a → a.block ≠ r := fun a hm ha e => by
    obtain ⟨b, off, e2, hc⟩ := h.rd.cells hm
    rw [ha] at e2
    injection e2 with e2
    subst e2
    have hl : 0 < x.ps.length := by rw [h.rd.len]; exact hm
    have h1 := hc 0 hl 0 _ (show (scell x.ps[0])[0]? = some (.string ⟨(x.ps[0]).toArray⟩) from rfl)
    dsimp only at e
    rw [e, cell_of_row w r _ _ _ _ hr] at h1
    generalize off + 0 * 1 + 0 = jj at h1
    match jj, h1 with
    | 0, h1 => simp at h1
    | 1, h1 => simp at h1
    | 2, h1 => simp at h1
    | 3, h1 => simp at h1
    | 4, h1 => simp at h1
    | (m + 5), h1 => simp at h1
  refine ⟨⟨h.rd.len, fun hn => ?_⟩, fun h0 a e => ?_⟩
  · obtain ⟨b, off, e, hc⟩ := h.rd.cells hn
    refine ⟨b, off, e, fun i hi j v hv => ?_⟩
    have h1 := hc i hi j v hv
    simp only [World.cell?] at h1 ⊢
    rw [hw.rest b (key _ hn e)]; exact h1
  · rcases h.tg h0 a e with h1 | ⟨cs, t, fr, h1, h2⟩
    · exact .inl h1
    · exact .inr ⟨cs, t, fr, hw.blk (key a h0 e) h1, h2⟩
theorem lv_of {x : Lv} {y : Lst} (h : lvL x = y) : x.n = y.n ∧ x.c = y.r.c ∧ x.rs = y.r.s ∧ x.ps = y.r.ps := by subst h; exact ⟨rfl, rfl, rfl, rfl⟩
set_option maxHeartbeats 8000000 in
theorem vsame_any {w : World} {B B2 : Nat} {S S2 : St} {vT vL vD vT2 vL2 vD2 : Value} (h : RW w B vT vL vD S) (h2 : RW w B2 vT2 vL2 vD2 S2) (ha : Alk S S2) (hT : S.T.length ≤ 100000) (hL : S.L.length ≤ 100000) (hD : S.D.length ≤ 100000) (hD2 : S2.D.length ≤ 100000) (hps : ∀ x ∈ S.L, (Zs.fd S.D x.i).r.ps.length ≤ 1000) :
    Calls Tryz.prog 21 #[.agg #[.int .i64 S.z, vT, vL, vD], .agg #[.int .i64 S2.z, vT2, vL2, vD2]] w fun e w' => e = .returned (.bool true) ∧ Below w.heap.size w w' := by
  obtain ⟨z, T, L, D⟩ := S
  obtain ⟨z2, T2, L2, D2⟩ := S2
  obtain ⟨hz, hTT, hLL, hfd⟩ := ha
  dsimp only at hz hTT hLL hfd hT hL hD hD2 hps
  subst hz hTT hLL
  obtain ⟨⟨AT, cT, rfl, hrT, -⟩, ⟨AL, cL, rfl, hrL⟩, ⟨AD, cD, l, rfl, hrD, hlD⟩⟩ := h
  obtain ⟨⟨AT2, cT2, rfl, hrT2, -⟩, ⟨AL2, cL2, rfl, hrL2⟩, ⟨AD2, cD2, l2, rfl, hrD2, hlD2⟩⟩ := h2
  dsimp only at *
  subst hlD hlD2
  rw [List.length_map] at hD hD2
  have V1 : Unit := ()
  obtain ⟨w1, hw1, hbw1, hkq, hkr, hsw1⟩ := two_box w (.cells #[.int .i64 z, .slice AT T.length cT, .slice AL L.length cL, .slice AD l.length cD] 31) (.cells #[.int .i64 z, .slice AT2 T.length cT2, .slice AL2 L.length cL2, .slice AD2 l2.length cD2] 31)
  obtain ⟨q, eq⟩ : ∃ xx, xx = w.heap.size := ⟨_, rfl⟩
  obtain ⟨r, er⟩ : ∃ xx, xx = w.heap.size + 1 := ⟨_, rfl⟩
  rw [← eq] at hkq
  rw [← er] at hkr
  have HST := Lib.hid (rsame_any (c := cT) (c2 := cT2) (hrT.below hbw1) (hrT2.below hbw1) (by omega))
  have HSL : Hid (∀ (W : World), Below w1.heap.size w1 W → Calls Tryz.prog 49 #[.slice AL L.length cL, .slice AL2 L.length cL2] W fun e w' => e = .returned (.bool true) ∧ Below W.heap.size W w') := Lib.hid (fun W hW => Lq.same_any ((hrL.below hbw1).below hW).rd ((hrL2.below hbw1).below hW).rd (by omega))
  have HF1 : Hid (∀ (W : World) (s : Int), Below w1.heap.size w1 W → Calls Tryz.prog 50 #[.agg #[.int .i64 z, .slice AT T.length cT, .slice AL L.length cL, .slice AD l.length cD], .int .i64 s] W (FdPost B (l.map lvL) s W)) := Lib.hid (fun W s hW => vfind_any (hrD.sk (.of_below (hbw1.trans (hW.mono hbw1.size)))) (by omega) z _ _ rfl rfl s)
  have HF2 : Hid (∀ (W : World) (s : Int), Below w1.heap.size w1 W → Calls Tryz.prog 50 #[.agg #[.int .i64 z, .slice AT2 T.length cT2, .slice AL2 L.length cL2, .slice AD2 l2.length cD2], .int .i64 s] W (FdPost B2 (l2.map lvL) s W)) := Lib.hid (fun W s hW => vfind_any (hrD2.sk (.of_below (hbw1.trans (hW.mono hbw1.size)))) (by omega) z _ _ rfl rfl s)
  have HRL := Lib.hid ((hrL.below hbw1).rd)
  have HFD := Lib.hid hfd
  have HPS := Lib.hid hps
  have HB1 := Lib.hid hbw1
  have HQ1 := Lib.hid hkq
  have HR1 := Lib.hid hkr
  have HQR : Hid (q < w1.heap.size ∧ r < w1.heap.size) := Lib.hid ⟨blk_lt hkq, blk_lt hkr⟩
  have HW1 := Lib.hid hw1
  have ER := Lib.hid er
  have EQ := Lib.hid eq
  obtain ⟨n, hnn⟩ : ∃ n, L.length = n := ⟨_, rfl⟩
  obtain ⟨nt, hnt⟩ : ∃ n, T.length = n := ⟨_, rfl⟩
  obtain ⟨n1, hn1⟩ : ∃ n, l.length = n := ⟨_, rfl⟩
  obtain ⟨n2, hn2⟩ : ∃ n, l2.length = n := ⟨_, rfl⟩
  rw [hnn, hnt, hn1] at hkq HF1 HQ1
  rw [hnn, hnt, hn2] at hkr HF2 HR1
  rw [hnt] at HST
  rw [hnn] at HSL HRL
  rw [hnn, hnt, hn1, hn2] at HW1 ⊢
  have HNN := Lib.hid hnn
  have q0 := cell_of hkq (j := 0) rfl
  have q1 := cell_of hkq (j := 1) rfl
  have q2 := cell_of hkq (j := 2) rfl
  have q3 := cell_of hkq (j := 3) rfl
  have r0 := cell_of hkr (j := 0) rfl
  have r1 := cell_of hkr (j := 1) rfl
  have r2 := cell_of hkr (j := 2) rfl
  have r3 := cell_of hkr (j := 3) rfl
  clear hrT hrL hrD hrT2 hrL2 hrD2 hfd hps hw1 er eq hbw1 hkr hkq hsw1 hnt hn1 hn2 hT hD hD2 V1
  rw [hnn] at hL
  clear hnn
  go_enter Tryz.func21, Tryz.ntmps21
  go_upto_region 1 with fail
  rw [← HW1.out, ← ER.out, ← EQ.out]
  go_wp2_with fail
  refine HST.out.mono ?_
  rintro e w2 ⟨rfl, hb2⟩
  have HB2 := Lib.hid hb2
  have hq2 := blk_below HQ1.out hb2
  have hr2 := blk_below HR1.out hb2
  have s0 := cell_of hq2 (j := 0) rfl
  have s1 := cell_of hq2 (j := 1) rfl
  have s2 := cell_of hq2 (j := 2) rfl
  have s3 := cell_of hq2 (j := 3) rfl
  have t0 := cell_of hr2 (j := 0) rfl
  have t1 := cell_of hr2 (j := 1) rfl
  have t2 := cell_of hr2 (j := 2) rfl
  have t3 := cell_of hr2 (j := 3) rfl
  clear hq2 hr2
  go_wp2_with fail
  refine (HSL.out w2 HB2.out).mono ?_
  rintro e w3 ⟨rfl, hb3⟩
  have HB3 : Hid (Below w1.heap.size w1 w3) := Lib.hid (HB2.out.trans (hb3.mono HB2.out.size))
  clear hb3 hb2 s0 s1 s2 s3 t0 t1 t2 t3 q0 q1 q2 q3 r0 r1 r2 r3
  go_wp2_with fail
  go_loopw [5] (fun i wr => ∃ k : Nat, k ≤ n ∧ i = .int .i64 k ∧ Hid (Below w1.heap.size w1 wr)) (fun i _ => n - (intOf i).toNat)
  case atStart => exact ⟨0, Nat.zero_le _, rfl, HB3⟩
  case round =>
    obtain ⟨k, hk, rfl, HX⟩ := hrel
    have hqb := blk_below HQ1.out HX.out
    have hrb := blk_below HR1.out HX.out
    have q0 := cell_of hqb (j := 0) rfl
    have q1 := cell_of hqb (j := 1) rfl
    have q2 := cell_of hqb (j := 2) rfl
    have q3 := cell_of hqb (j := 3) rfl
    have r0 := cell_of hrb (j := 0) rfl
    have r1 := cell_of hrb (j := 1) rfl
    have r2 := cell_of hrb (j := 2) rfl
    have r3 := cell_of hrb (j := 3) rfl
    by_cases hlt : k < n
    · obtain ⟨b, off, x, rfl, hx, hc⟩ := (HRL.out.below HX.out).at hlt
      have a0 : wr.cell? ⟨b, off + k * 3, none⟩ = some (.int .i64 x.i) := hc 0 _ rfl
      have hxm := List.mem_of_getElem? hx
      have HFX := Lib.hid (HFD.out x hxm)
      have HPX := Lib.hid (HPS.out x hxm)
      have hki0 : (0 : Int) ≤ (k : Int) := by omega
      have hki1 : (k : Int) < (n : Int) := by omega
      have HSS : Hid (∀ (W : World), Below wr.heap.size wr W → (W.cell? ⟨q, 0, none⟩ = some (.int .i64 z) ∧ W.cell? ⟨q, 1, none⟩ = some (.slice AT nt cT) ∧ W.cell? ⟨q, 2, none⟩ = some (.slice (some ⟨b, off, none⟩) n cL) ∧ W.cell? ⟨q, 3, none⟩ = some (.slice AD n1 cD) ∧ W.cell? ⟨r, 0, none⟩ = some (.int .i64 z) ∧ W.cell? ⟨r, 1, none⟩ = some (.slice AT2 nt cT2) ∧ W.cell? ⟨r, 2, none⟩ = some (.slice AL2 n cL2) ∧ W.cell? ⟨r, 3, none⟩ = some (.slice AD2 n2 cD2) ∧ W.cell? ⟨b, off + k * 3, none⟩ = some (.int .i64 x.i))) := Lib.hid (fun W hW => by
        have h1 := blk_below hqb hW
        have h2 := blk_below hrb hW
        exact ⟨cell_of h1 (j := 0) rfl, cell_of h1 (j := 1) rfl, cell_of h1 (j := 2) rfl, cell_of h1 (j := 3) rfl, cell_of h2 (j := 0) rfl, cell_of h2 (j := 1) rfl, cell_of h2 (j := 2) rfl, cell_of h2 (j := 3) rfl, (hW.cell (p := ⟨b, off + k * 3, none⟩) (cell_lt a0)).trans a0⟩)
      have HSW6 : Hid (∀ (W : World), Below wr.heap.size wr W → (W.cell? ⟨q, 0, none⟩ = some (.int .i64 z) ∧ W.cell? ⟨q, 1, none⟩ = some (.slice AT nt cT) ∧ W.cell? ⟨q, 2, none⟩ = some (.slice (some ⟨b, off, none⟩) n cL) ∧ W.cell? ⟨q, 3, none⟩ = some (.slice AD n1 cD) ∧ W.cell? ⟨b, off + k * 3, none⟩ = some (.int .i64 x.i))) := Lib.hid (fun W hW => by have h9 := HSS.out W (hW); exact ⟨h9.1, h9.2.1, h9.2.2.1, h9.2.2.2.1, h9.2.2.2.2.2.2.2.2⟩)
      have HSK6 : Hid (∀ (W : World) (j : Nat) (v : Value), (W.cell? ⟨q, 0, none⟩ = some (.int .i64 z) ∧ W.cell? ⟨q, 1, none⟩ = some (.slice AT nt cT) ∧ W.cell? ⟨q, 2, none⟩ = some (.slice (some ⟨b, off, none⟩) n cL) ∧ W.cell? ⟨q, 3, none⟩ = some (.slice AD n1 cD) ∧ W.cell? ⟨b, off + k * 3, none⟩ = some (.int .i64 x.i)) → (fun W => W.cell? ⟨q, 0, none⟩ = some (.int .i64 z) ∧ W.cell? ⟨q, 1, none⟩ = some (.slice AT nt cT) ∧ W.cell? ⟨q, 2, none⟩ = some (.slice (some ⟨b, off, none⟩) n cL) ∧ W.cell? ⟨q, 3, none⟩ = some (.slice AD n1 cD) ∧ W.cell? ⟨b, off + k * 3, none⟩ = some (.int .i64 x.i)) (W.setCell ⟨wr.heap.size, j, none⟩ v)) := Lib.hid (fun W j v hS => by
        have n1 : q < wr.heap.size := blk_lt hqb
        have n2 : r < wr.heap.size := blk_lt hrb
        have n3 : b < wr.heap.size := cell_lt a0
        have kk : ∀ b' o u, b' < wr.heap.size → W.cell? ⟨b', o, none⟩ = some u → (W.setCell ⟨wr.heap.size, j, none⟩ v).cell? ⟨b', o, none⟩ = some u := fun b' o u hb hx => by rw [World.cell?_setCell_far _ _ _ _ (Nat.ne_of_gt hb)]; exact hx
        obtain ⟨s0, s1, s2, s3, s8⟩ := hS
        exact ⟨kk _ _ _ n1 s0, kk _ _ _ n1 s1, kk _ _ _ n1 s2, kk _ _ _ n1 s3, kk _ _ _ n3 s8⟩)
      have HFL6 := Lib.hid (fun (W : World) (hW : Below wr.heap.size wr W) => HF1.out W x.i (HX.out.trans (hW.mono HX.out.size)))
      go_upto_region 6 with fail
      go_cut [6] from 29 to 64 (fun p wx => ∃ u1 w6 y1, p = .pointer (some ⟨u1, 0, none⟩) ∧ wx = w6 ∧ Hid (Below wr.heap.size wr w6) ∧ Hid (w6.heap[u1]? = some (.cells #[.int .i64 y1.s, .int .i64 y1.n, .int .i64 y1.c, .int .i64 y1.rs, .slice y1.A y1.m y1.k] 102 (0, 0)) ∧ wr.heap.size ≤ u1) ∧ Hid (lvL y1 = Zs.fd (l.map lvL) x.i ∧ LvOk w6 B y1))
      case first =>
        go_region_held3 (fun W => W.cell? ⟨q, 0, none⟩ = some (.int .i64 z) ∧ W.cell? ⟨q, 1, none⟩ = some (.slice AT nt cT) ∧ W.cell? ⟨q, 2, none⟩ = some (.slice (some ⟨b, off, none⟩) n cL) ∧ W.cell? ⟨q, 3, none⟩ = some (.slice AD n1 cD) ∧ W.cell? ⟨b, off + k * 3, none⟩ = some (.int .i64 x.i))
          (first
            | (with_reducible assumption)
            | (with_reducible exact HSW6.out _ (Below.refl _ _).drew)
            | (with_reducible exact HSW6.out _ (box_below _ _).drew))
          (first
            | (go_at_call 50; (with_reducible refine (HFL6.out _ (by first | exact (Below.refl _ _).drew | exact (box_below _ _).drew)).mono ?_); rintro e w9 ⟨y1, rfl, hy1, hy2, hb9⟩; have hB3 : Below wr.heap.size wr w9 := Below.trans (by first | exact (Below.refl _ _).drew | exact (box_below _ _).drew) (hb9.mono (by first | exact Nat.le_refl _ | exact (box_below wr (.cells #[.int .i64 0, .int .i64 0, .int .i64 0, .int .i64 0, .slice none 0 0] 102)).drew.size)); have hS3 := HSW6.out w9 hB3; have hS4 := HSW6.out _ (hB3.trans ((box_below w9 (.cells #[.int .i64 0, .int .i64 0, .int .i64 0, .int .i64 0, .slice none 0 0] 102)).mono hB3.size)); have hS5 := HSW6.out _ (hB3.trans ((box_below w9 (.cells #[.int .i64 y1.s, .int .i64 y1.n, .int .i64 y1.c, .int .i64 y1.rs, .slice y1.A y1.m y1.k] 102)).mono hB3.size)); have hS6 := HSK6.out _ 4 (.slice y1.A y1.m y1.k) (HSK6.out _ 3 (.int .i64 y1.rs) (HSK6.out _ 2 (.int .i64 y1.c) (HSK6.out _ 1 (.int .i64 y1.n) (HSK6.out w9 0 (.int .i64 y1.s) hS3)))); try have hbx : w9.heap[wr.heap.size]? = some (.cells #[.int .i64 0, .int .i64 0, .int .i64 0, .int .i64 0, .slice none 0 0] 102 (0, 0)) := blk_below (w := (wr.alloc (.cells #[.int .i64 0, .int .i64 0, .int .i64 0, .int .i64 0, .slice none 0 0] 102)).drew) (new_block wr _) hb9; try (have b0 := cell_of hbx (j := 0) rfl; have b1 := cell_of hbx (j := 1) rfl; have b2 := cell_of hbx (j := 2) rfl; have b3 := cell_of hbx (j := 3) rfl; have b4 := cell_of hbx (j := 4) rfl; have f0 := frozen_of_row w9 _ 0 _ _ hbx; have f1 := frozen_of_row w9 _ 1 _ _ hbx; have f2 := frozen_of_row w9 _ 2 _ _ hbx; have f3 := frozen_of_row w9 _ 3 _ _ hbx; have f4 := frozen_of_row w9 _ 4 _ _ hbx)))
        all_goals
          first
            | (obtain ⟨w4, hw4⟩ : ∃ xx, xx = w9.alloc (.cells #[.int .i64 y1.s, .int .i64 y1.n, .int .i64 y1.c, .int .i64 y1.rs, .slice y1.A y1.m y1.k] 102) := ⟨_, rfl⟩
               obtain ⟨u, eu⟩ : ∃ xx, xx = w9.heap.size := ⟨_, rfl⟩
               have hb4 : Below w9.heap.size w9 w4 := by rw [hw4]; exact box_below _ _
               have hk4 : w4.heap[u]? = some (.cells #[.int .i64 y1.s, .int .i64 y1.n, .int .i64 y1.c, .int .i64 y1.rs, .slice y1.A y1.m y1.k] 102 (0, 0)) := by rw [hw4, eu]; exact new_block _ _
               have hB4 := hB3.trans (hb4.mono hB3.size)
               have hok := hy2.sk (.of_below hb4)
               have hu : wr.heap.size ≤ u := by rw [eu]; exact hB3.size
               rw [← hw4, ← eu]
               clear hb9 hS3 hS4 hS5 hS6)
            | (obtain ⟨w4, hw4⟩ : ∃ xx, xx = ((((w9.setCell ⟨wr.heap.size, 0, none⟩ (.int .i64 y1.s)).setCell ⟨wr.heap.size, 1, none⟩ (.int .i64 y1.n)).setCell ⟨wr.heap.size, 2, none⟩ (.int .i64 y1.c)).setCell ⟨wr.heap.size, 3, none⟩ (.int .i64 y1.rs)).setCell ⟨wr.heap.size, 4, none⟩ (.slice y1.A y1.m y1.k) := ⟨_, rfl⟩
               obtain ⟨hwr, hk4⟩ := set5 hbx (.int .i64 y1.s) (.int .i64 y1.n) (.int .i64 y1.c) (.int .i64 y1.rs) (.slice y1.A y1.m y1.k)
               rw [← hw4] at hwr hk4
               have hB4 := hB3.trans hwr.below
               have hok : LvOk w4 B y1 := lvok_wr hy2 hwr hbx
               rw [← hw4]
               obtain ⟨u, eu⟩ : ∃ xx, xx = wr.heap.size := ⟨_, rfl⟩
               have hu : wr.heap.size ≤ u := Nat.le_of_eq eu.symm
               rw [← eu] at hk4 ⊢
               clear hb9 hS3 hS4 hS5 hS6 hbx b0 b1 b2 b3 b4 f0 f1 f2 f3 f4 hwr)
        all_goals
          have HB4 := Lib.hid hB4
          have HK4 := Lib.hid (And.intro hk4 hu)
          have HY4 := Lib.hid (And.intro hy1 hok)
          clear hB4 hk4 hu hw4 hy1 hy2 hok
          go_wp2_with fail
          go_meet
          exact ⟨u, w4, y1, rfl, rfl, HB4, HK4, HY4⟩
      case rest =>
        obtain ⟨u1, w6, y1, rfl, hwc, HB6, HK6, HY6⟩ := hcut
        obtain rfl : w6 = wc := hwc.symm
        clear hwc
        have HX6 : Hid (Below w1.heap.size w1 w6) := Lib.hid (HX.out.trans (HB6.out.mono HX.out.size))
        have HSW7 : Hid (∀ (W : World), Below w6.heap.size w6 W → (W.cell? ⟨q, 2, none⟩ = some (.slice (some ⟨b, off, none⟩) n cL) ∧ W.cell? ⟨r, 0, none⟩ = some (.int .i64 z) ∧ W.cell? ⟨r, 1, none⟩ = some (.slice AT2 nt cT2) ∧ W.cell? ⟨r, 2, none⟩ = some (.slice AL2 n cL2) ∧ W.cell? ⟨r, 3, none⟩ = some (.slice AD2 n2 cD2) ∧ W.cell? ⟨b, off + k * 3, none⟩ = some (.int .i64 x.i))) := Lib.hid (fun W hW => by have h9 := HSS.out W (HB6.out.trans (hW.mono HB6.out.size)); exact ⟨h9.2.2.1, h9.2.2.2.2.1, h9.2.2.2.2.2.1, h9.2.2.2.2.2.2.1, h9.2.2.2.2.2.2.2.1, h9.2.2.2.2.2.2.2.2⟩)
        have HSK7 : Hid (∀ (W : World) (j : Nat) (v : Value), (W.cell? ⟨q, 2, none⟩ = some (.slice (some ⟨b, off, none⟩) n cL) ∧ W.cell? ⟨r, 0, none⟩ = some (.int .i64 z) ∧ W.cell? ⟨r, 1, none⟩ = some (.slice AT2 nt cT2) ∧ W.cell? ⟨r, 2, none⟩ = some (.slice AL2 n cL2) ∧ W.cell? ⟨r, 3, none⟩ = some (.slice AD2 n2 cD2) ∧ W.cell? ⟨b, off + k * 3, none⟩ = some (.int .i64 x.i)) → (fun W => W.cell? ⟨q, 2, none⟩ = some (.slice (some ⟨b, off, none⟩) n cL) ∧ W.cell? ⟨r, 0, none⟩ = some (.int .i64 z) ∧ W.cell? ⟨r, 1, none⟩ = some (.slice AT2 nt cT2) ∧ W.cell? ⟨r, 2, none⟩ = some (.slice AL2 n cL2) ∧ W.cell? ⟨r, 3, none⟩ = some (.slice AD2 n2 cD2) ∧ W.cell? ⟨b, off + k * 3, none⟩ = some (.int .i64 x.i)) (W.setCell ⟨w6.heap.size, j, none⟩ v)) := Lib.hid (fun W j v hS => by
          have n1 : q < w6.heap.size := Nat.lt_of_lt_of_le (blk_lt hqb) HB6.out.size
          have n2 : r < w6.heap.size := Nat.lt_of_lt_of_le (blk_lt hrb) HB6.out.size
          have n3 : b < w6.heap.size := Nat.lt_of_lt_of_le (cell_lt a0) HB6.out.size
          have kk : ∀ b' o u, b' < w6.heap.size → W.cell? ⟨b', o, none⟩ = some u → (W.setCell ⟨w6.heap.size, j, none⟩ v).cell? ⟨b', o, none⟩ = some u := fun b' o u hb hx => by rw [World.cell?_setCell_far _ _ _ _ (Nat.ne_of_gt hb)]; exact hx
          obtain ⟨s2, s4, s5, s6, s7, s8⟩ := hS
          exact ⟨kk _ _ _ n1 s2, kk _ _ _ n2 s4, kk _ _ _ n2 s5, kk _ _ _ n2 s6, kk _ _ _ n2 s7, kk _ _ _ n3 s8⟩)
        have HFL7 := Lib.hid (fun (W : World) (hW : Below w6.heap.size w6 W) => HF2.out W x.i (HX6.out.trans (hW.mono HX6.out.size)))
        go_upto_region 7 with fail
        go_cut [7] from 29 to 64 (fun p wx => ∃ u2 w7 y2, p = .pointer (some ⟨u2, 0, none⟩) ∧ wx = w7 ∧ Hid (Below w6.heap.size w6 w7) ∧ Hid (w7.heap[u2]? = some (.cells #[.int .i64 y2.s, .int .i64 y2.n, .int .i64 y2.c, .int .i64 y2.rs, .slice y2.A y2.m y2.k] 102 (0, 0)) ∧ w6.heap.size ≤ u2) ∧ Hid (lvL y2 = Zs.fd (l2.map lvL) x.i ∧ LvOk w7 B2 y2))
        case first =>
          go_region_held3 (fun W => W.cell? ⟨q, 2, none⟩ = some (.slice (some ⟨b, off, none⟩) n cL) ∧ W.cell? ⟨r, 0, none⟩ = some (.int .i64 z) ∧ W.cell? ⟨r, 1, none⟩ = some (.slice AT2 nt cT2) ∧ W.cell? ⟨r, 2, none⟩ = some (.slice AL2 n cL2) ∧ W.cell? ⟨r, 3, none⟩ = some (.slice AD2 n2 cD2) ∧ W.cell? ⟨b, off + k * 3, none⟩ = some (.int .i64 x.i))
            (first
              | (with_reducible assumption)
              | (with_reducible exact HSW7.out _ (Below.refl _ _).drew)
              | (with_reducible exact HSW7.out _ (box_below _ _).drew))
            (first
              | (go_at_call 50; (with_reducible refine (HFL7.out _ (by first | exact (Below.refl _ _).drew | exact (box_below _ _).drew)).mono ?_); rintro e w9 ⟨y2, rfl, hy1, hy2, hb9⟩; have hB3 : Below w6.heap.size w6 w9 := Below.trans (by first | exact (Below.refl _ _).drew | exact (box_below _ _).drew) (hb9.mono (by first | exact Nat.le_refl _ | exact (box_below w6 (.cells #[.int .i64 0, .int .i64 0, .int .i64 0, .int .i64 0, .slice none 0 0] 102)).drew.size)); have hS3 := HSW7.out w9 hB3; have hS4 := HSW7.out _ (hB3.trans ((box_below w9 (.cells #[.int .i64 0, .int .i64 0, .int .i64 0, .int .i64 0, .slice none 0 0] 102)).mono hB3.size)); have hS5 := HSW7.out _ (hB3.trans ((box_below w9 (.cells #[.int .i64 y2.s, .int .i64 y2.n, .int .i64 y2.c, .int .i64 y2.rs, .slice y2.A y2.m y2.k] 102)).mono hB3.size)); have hS6 := HSK7.out _ 4 (.slice y2.A y2.m y2.k) (HSK7.out _ 3 (.int .i64 y2.rs) (HSK7.out _ 2 (.int .i64 y2.c) (HSK7.out _ 1 (.int .i64 y2.n) (HSK7.out w9 0 (.int .i64 y2.s) hS3)))); try have hbx : w9.heap[w6.heap.size]? = some (.cells #[.int .i64 0, .int .i64 0, .int .i64 0, .int .i64 0, .slice none 0 0] 102 (0, 0)) := blk_below (w := (w6.alloc (.cells #[.int .i64 0, .int .i64 0, .int .i64 0, .int .i64 0, .slice none 0 0] 102)).drew) (new_block w6 _) hb9; try (have b0 := cell_of hbx (j := 0) rfl; have b1 := cell_of hbx (j := 1) rfl; have b2 := cell_of hbx (j := 2) rfl; have b3 := cell_of hbx (j := 3) rfl; have b4 := cell_of hbx (j := 4) rfl; have f0 := frozen_of_row w9 _ 0 _ _ hbx; have f1 := frozen_of_row w9 _ 1 _ _ hbx; have f2 := frozen_of_row w9 _ 2 _ _ hbx; have f3 := frozen_of_row w9 _ 3 _ _ hbx; have f4 := frozen_of_row w9 _ 4 _ _ hbx)))
          all_goals
            first
              | (obtain ⟨w4, hw4⟩ : ∃ xx, xx = w9.alloc (.cells #[.int .i64 y2.s, .int .i64 y2.n, .int .i64 y2.c, .int .i64 y2.rs, .slice y2.A y2.m y2.k] 102) := ⟨_, rfl⟩
                 obtain ⟨u, eu⟩ : ∃ xx, xx = w9.heap.size := ⟨_, rfl⟩
                 have hb4 : Below w9.heap.size w9 w4 := by rw [hw4]; exact box_below _ _
                 have hk4 : w4.heap[u]? = some (.cells #[.int .i64 y2.s, .int .i64 y2.n, .int .i64 y2.c, .int .i64 y2.rs, .slice y2.A y2.m y2.k] 102 (0, 0)) := by rw [hw4, eu]; exact new_block _ _
                 have hB4 := hB3.trans (hb4.mono hB3.size)
                 have hok := hy2.sk (.of_below hb4)
                 have hu : w6.heap.size ≤ u := by rw [eu]; exact hB3.size
                 rw [← hw4, ← eu]
                 clear hb9 hS3 hS4 hS5 hS6)
              | (obtain ⟨w4, hw4⟩ : ∃ xx, xx = ((((w9.setCell ⟨w6.heap.size, 0, none⟩ (.int .i64 y2.s)).setCell ⟨w6.heap.size, 1, none⟩ (.int .i64 y2.n)).setCell ⟨w6.heap.size, 2, none⟩ (.int .i64 y2.c)).setCell ⟨w6.heap.size, 3, none⟩ (.int .i64 y2.rs)).setCell ⟨w6.heap.size, 4, none⟩ (.slice y2.A y2.m y2.k) := ⟨_, rfl⟩
                 obtain ⟨hwr, hk4⟩ := set5 hbx (.int .i64 y2.s) (.int .i64 y2.n) (.int .i64 y2.c) (.int .i64 y2.rs) (.slice y2.A y2.m y2.k)
                 rw [← hw4] at hwr hk4
                 have hB4 := hB3.trans hwr.below
                 have hok : LvOk w4 B2 y2 := lvok_wr hy2 hwr hbx
                 rw [← hw4]
                 obtain ⟨u, eu⟩ : ∃ xx, xx = w6.heap.size := ⟨_, rfl⟩
                 have hu : w6.heap.size ≤ u := Nat.le_of_eq eu.symm
                 rw [← eu] at hk4 ⊢
                 clear hb9 hS3 hS4 hS5 hS6 hbx b0 b1 b2 b3 b4 f0 f1 f2 f3 f4 hwr)
          all_goals
            have HB4 := Lib.hid hB4
            have HK4 := Lib.hid (And.intro hk4 hu)
            have HY4 := Lib.hid (And.intro hy1 hok)
            clear hB4 hk4 hu hw4 hy1 hy2 hok
            go_wp2_with fail
            go_meet
            exact ⟨u, w4, y2, rfl, rfl, HB4, HK4, HY4⟩
        case rest =>
          obtain ⟨u2, w7, y2, rfl, hwc, HB7, HK7, HY7⟩ := hcut
          obtain rfl : w7 = wc := hwc.symm
          clear hwc
          have HX7 : Hid (Below w1.heap.size w1 w7) := Lib.hid (HX6.out.trans (HB7.out.mono HX6.out.size))
          have hk1 := blk_below HK6.out.1 HB7.out
          have hk2 := HK7.out.1
          have hok1 := HY6.out.2.sk (B := B) (.of_below HB7.out)
          have hok2 := HY7.out.2
          obtain ⟨g1, g2, g3, g4⟩ := lv_of HY6.out.1
          obtain ⟨g5, g6, g7, g8⟩ := lv_of HY7.out.1
          obtain ⟨e1, e2⟩ := HFX.out
          have i1 : y2.n = y1.n := by rw [g1, g5, e1]
          have i2 : y2.c = y1.c := by rw [g2, g6, e2]
          have i3 : y2.rs = y1.rs := by rw [g3, g7, e2]
          have i4 : y2.ps = y1.ps := by rw [g4, g8, e2]
          have hpl : y1.ps.length ≤ 1000 := by rw [g4]; exact HPX.out
          clear HY6 HY7 HK7 g1 g2 g3 g4 g5 g6 g7 g8
          obtain ⟨s1, n1', c1, rs1, A1, m1, k1, ps1⟩ := y1
          obtain ⟨s2, n2', c2, rs2, A2, m2, k2, ps2⟩ := y2
          dsimp only at i1 i2 i3 i4 hpl hk1 hk2
          subst i1 i2 i3 i4
          obtain ⟨hr1, -⟩ := hok1
          obtain ⟨hr2, -⟩ := hok2
          dsimp only at hr1 hr2
          obtain rfl : m1 = ps2.length := hr1.len.symm
          obtain rfl : m2 = ps2.length := hr2.len.symm
          have u0 := cell_of hk1 (j := 0) rfl
          have u1 := cell_of hk1 (j := 1) rfl
          have u2 := cell_of hk1 (j := 2) rfl
          have u3 := cell_of hk1 (j := 3) rfl
          have u4 := cell_of hk1 (j := 4) rfl
          have v0 := cell_of hk2 (j := 0) rfl
          have v1 := cell_of hk2 (j := 1) rfl
          have v2 := cell_of hk2 (j := 2) rfl
          have v3 := cell_of hk2 (j := 3) rfl
          have v4 := cell_of hk2 (j := 4) rfl
          have HSR := Lib.hid (samereply_any (c1 := k1) (c2 := k2) hr1 hr2 (by omega) c2 rs2)
          have tnn : (n2' != n2') = false := by simp
          clear hk1 hk2 hr1 hr2 hpl e1 e2 HFX hqb hrb a0 r0 r1 r2 r3
          go_upto_region 8 with fail
          go_wp2_with fail
          refine HSR.out.mono ?_
          rintro e w8 ⟨rfl, hb8⟩
          have HX8 : Hid (Below w1.heap.size w1 w8) := Lib.hid (HX7.out.trans (hb8.mono HX7.out.size))
          clear hb8
          go_wp2_with fail
          go_roundw
          case rel => exact ⟨k + 1, hlt, by go_num, HX8⟩
          case measure => simp [intOf]; omega
    · obtain rfl : k = n := by omega
      have hki : ¬ (k : Int) < (k : Int) := by omega
      clear hqb hrb
      go_wp2_with fail
      go_ret
      exact ⟨rfl, HB1.out.trans (HX.out.mono HB1.out.size)⟩
end Go.Proofs.YtflgemlhocjipaaGreatDoor
