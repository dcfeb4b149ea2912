/-
  What the law's walk returns: all names below a folder, counted. Condition: how much was done.
-/
import Derived.Test.YtoaahhgngelnaaaFList
import Derived.Test.YtoaahhgngelnaaaFSt
namespace Go.Proofs.Ytoaahhgngelnaaa
set_option maxRecDepth 100000
open Go.ChangeShapes Go.WideShapes Go.ChangeAt Go.RowKit Go.Proofs.Sg Go.Proofs.Fz

theorem st_list {w W : World} {fp R : Nat} {K : List (Nat × Obj)} {f : Fst} {T : Nat} (h : St w fp R K W f T) (hT : T ≤ 1000000) (d : Hd) (hd : HdOk d) : Calls Try.prog 25 #[pA fp, hV d] W (LsPost W (lsF f d).1 (lsF f d).2) := by
  obtain ⟨Z, h1, h2, h3, h4, h5⟩ := h
  have h9 := flist_any h1 h4.gd (by have := h4.bd.nms; omega) d hd
  rw [h2] at h9
  exact h9
theorem fnd_of {f : Fst} (hg : Gd f) {x : Nod} (hx : x ∈ f.I) : fnd f.I ⟨x.id, x.gen⟩ = some x := by
  unfold fnd
  dsimp only
  rw [nget_of hg.ids hx]
  dsimp only
  rw [if_pos rfl]
theorem folI {f : Fst} (hg : Gd f) {x : Nod} (hx : x ∈ f.I) (hk : x.kind = 2) : fol f.I ⟨x.id, x.gen⟩ = .inr x := by
  unfold fol
  rw [fnd_of hg hx]
  dsimp only
  rw [if_pos hk]
theorem stF_of {f : Fst} (hg : Gd f) {x : Nod} (hx : x ∈ f.I) : stF f ⟨x.id, x.gen⟩ = (infN f x, 0) := by
  unfold stF
  rw [fnd_of hg hx]
theorem valid_no {s : Txt} (h : validN s = true) : s ≠ [46] ∧ s ≠ [46, 46] := by
  unfold validN at h
  simp only [Bool.and_eq_true, Bool.not_eq_true', decide_eq_false_iff_not] at h
  exact ⟨h.1.2, h.2⟩
theorem loF_name {f : Fst} (hg : Gd f) {x : Nod} (hx : x ∈ f.I) (hk : x.kind = 2) {m : Nm} (hm : m ∈ f.N) (hd : m.dir = x.id) {y : Nod} (hy : y ∈ f.I) (he : y.id = m.id) : loF f ⟨x.id, x.gen⟩ m.nm = (⟨y.id, y.gen⟩, 0) := by
  obtain ⟨v1, v2⟩ := valid_no (hg.nmv m hm)
  have e := entry_of hg.nmu hm
  rw [hd] at e
  unfold loF
  rw [folI hg hx hk]
  dsimp only
  rw [if_neg v1, if_neg v2, if_neg (by rw [hg.nmv m hm]; decide), e, if_neg (hg.nz m hm)]
  unfold hdO genO
  rw [if_neg (hg.nz m hm), ← he, nget_of hg.ids hy]
theorem loF_up {f : Fst} (hg : Gd f) {x y : Nod} (hy : y ∈ f.I) (hk : y.kind = 2) (hx : x ∈ f.I) (he : y.par = x.id) : loF f ⟨y.id, y.gen⟩ [46, 46] = (⟨x.id, x.gen⟩, 0) := by
  unfold loF
  rw [folI hg hy hk]
  dsimp only
  rw [if_neg (by decide), if_pos rfl, he]
  unfold hdO genO
  have := (hg.rng x hx).1
  rw [if_neg (by omega), nget_of hg.ids hx]
theorem hd_of {f : Fst} {T R : Nat} (hw : Wl f T R) (hT : T ≤ 1000000) {x : Nod} (hx : x ∈ f.I) : HdOk ⟨x.id, x.gen⟩ := by
  have h1 := hw.gd.rng x hx
  have h2 := (hw.gd.gen x hx).2
  have h3 := hw.bd.gns x.id
  exact ⟨by dsimp only; omega, by dsimp only; omega, by dsimp only; omega, by dsimp only; omega⟩
theorem links_pos {f : Fst} {m : Nm} (hm : m ∈ f.N) {y : Nod} (he : y.id = m.id) : 1 ≤ links f.I f.N y := by
  unfold links
  by_cases hk : y.kind = 2
  · rw [if_pos hk]; omega
  · rw [if_neg hk]
    exact List.countP_pos_iff.2 ⟨m, hm, by simp [he]⟩
def WkPost (W : World) (m : Nat) (e : Ending) (W' : World) : Prop := e = .returned (.tuple #[.int .i64 (m : Int), .bool true]) ∧ Below W.heap.size W W'
theorem take_snoc {l : List Txt} {j : Nat} (h : j < l.length) : l.take (j + 1) = l.take j ++ [l[j]] := List.take_succ_eq_append_getElem h
theorem not_in_take {l : List Txt} (hs : l.Pairwise (· < ·)) {j : Nat} (h : j < l.length) : l[j] ∉ l.take j := fun hm => by
  obtain ⟨i, hi, e⟩ := List.mem_take_iff_getElem.1 hm
  have := List.pairwise_iff_getElem.1 hs i j (by omega) h (by omega)
  rw [e] at this
  exact List.lt_irrefl _ this
set_option maxHeartbeats 16000000 in
theorem walk_any {w : World} {fp R : Nat} {K : List (Nat × Obj)} {f : Fst} {T : Nat} (hT : T ≤ 1000000) : ∀ (n : Nat) (W : World) (x : Nod) (deep : Nat), St w fp R K W f T → x ∈ f.I → x.kind = 2 → deep + n = 200 → Chn f x.id deep →
    Calls Try.prog 11 #[pA fp, .agg #[.int .i64 (x.id : Int), .int .i64 (x.gen : Int)], .int .i64 (deep : Int)] W (WkPost W (cntB f x.id)) := by
  intro n
  induction n with
  | zero =>
    intro W x deep hS hx hk hdn hC
    have hD : isD f.I x.id = true := by rw [isD_of hS.wl.gd.ids hx]; simpa using hk
    have := hC.le hS.wl.gd hD
    omega
  | succ n ih =>
    intro W x deep hS hx hk hdn hC
    have hgd := hS.wl.gd
    have hD : isD f.I x.id = true := by rw [isD_of hgd.ids hx]; simpa using hk
    have hle := hC.le hgd hD
    obtain ⟨w1, hw1⟩ : ∃ V, V = W.alloc (.cells #[.int .i64 (x.id : Int), .int .i64 (x.gen : Int)] 40) := ⟨_, rfl⟩
    obtain ⟨k1, hk1⟩ : ∃ k, k = W.heap.size := ⟨_, rfl⟩
    have hb1 : Below W.heap.size W w1 := by rw [hw1]; exact box_below W _
    have hx1 : w1.heap[k1]? = some (.cells #[.int .i64 (x.id : Int), .int .i64 (x.gen : Int)] 40 (0, 0)) := by rw [hw1, hk1]; exact new_block W _
    have HS1 := Lib.hid (hS.below hb1)
    have hli := st_list HS1.out hT ⟨x.id, x.gen⟩ (hd_of hS.wl hT hx)
    have e9 : lsF f ⟨x.id, x.gen⟩ = (lsN f.N x.id, 0) := by unfold lsF; rw [folI hgd hx hk]
    rw [e9] at hli
    obtain ⟨l, hl⟩ : ∃ l, lsN f.N x.id = l := ⟨_, rfl⟩
    rw [hl] at hli
    have HLI : Hid (Calls Try.prog 25 #[pA fp, .agg #[.int .i64 (x.id : Int), .int .i64 (x.gen : Int)]] w1 (LsPost w1 l 0)) := Lib.hid hli
    have HL := Lib.hid hl
    have HLS : Hid (l.Pairwise (· < ·) ∧ l.length ≤ 1000000 ∧ f.N.length ≤ 1000000) := Lib.hid ⟨by rw [← hl]; exact srt_lsN hgd.nmu _, by rw [← hl, len_lsN]; have := many_le f.N x.id; have := hS.wl.bd.nms; omega, by have := hS.wl.bd.nms; omega⟩
    have HGD := Lib.hid hgd
    have HXD : Hid (x ∈ f.I ∧ x.kind = 2 ∧ deep ≤ 199 ∧ deep + (n + 1) = 200 ∧ Chn f x.id deep) := Lib.hid ⟨hx, hk, hle, hdn, hC⟩
    have HIH := Lib.hid ih
    have HB1 := Lib.hid hb1
    have HX1 := Lib.hid hx1
    have HW1 := Lib.hid hw1
    have EK1 := Lib.hid hk1
    have q0 := cell_of hx1 (j := 0) rfl
    have q1 := cell_of hx1 (j := 1) rfl
    have dd : ¬ (200 : Int) < (deep : Int) := by omega
    have dd' : decide ((200 : Int) < (deep : Int)) = false := by simp only [decide_eq_false_iff_not]; exact dd
    clear hS hx hk hdn hC hgd hD hle hw1 hk1 hb1 hx1 hli e9 hl ih
    go_enter Try.func11, Try.ntmps11
    go_upto_region 1 with fail
    rw [← HW1.out, ← EK1.out]
    go_wp2_with fail
    refine HLI.out.mono ?_
    rintro e w2 ⟨v, rfl, hrow, hb2⟩
    obtain ⟨A, c, rfl, -, -, hA⟩ := own_form hrow
    have HROW := Lib.hid hrow
    have HA := Lib.hid hA
    have HB2 : Hid (Below W.heap.size W w2) := Lib.hid (HB1.out.trans (hb2.mono HB1.out.size))
    have HS2 := Lib.hid (HS1.out.below hb2)
    have HX2 := Lib.hid (blk_below HX1.out hb2)
    have HN1 : Hid (l.length = 0 → A = none ∨ True) := Lib.hid (fun _ => .inr trivial)
    have hll : (l.length : Int) ≤ 1000000 := by have := HLS.out; omega
    have HLL := Lib.hid hll
    clear hrow hA hb2 q0 q1 hll
    go_wp2_with fail
    go_loopw [10, 34] (fun m i wr => ∃ j : Nat, j ≤ l.length ∧ i = .int .i64 (j : Int) ∧ m = .int .i64 (cntP f x.id (l.take j) : Int) ∧ Hid (Below w2.heap.size w2 wr)) (fun _ i _ => l.length - (intOf i).toNat)
    case atStart => exact ⟨0, Nat.zero_le _, rfl, by rw [List.take_zero, cntP_nil]; rfl, Lib.hid (Below.refl _ _)⟩
    case round =>
      obtain ⟨j, hj, rfl, rfl, HP⟩ := hrel
      by_cases hlt : j < l.length
      · as_aux_lemma =>
          obtain ⟨m, hm, hmd, hmn⟩ := mem_lsN.1 (by rw [HL.out]; exact List.getElem_mem hlt : l[j] ∈ lsN f.N x.id)
          obtain ⟨s, hs⟩ : ∃ s, l[j] = s := ⟨_, rfl⟩
          rw [hs] at hmn
          obtain ⟨y, hyq⟩ := Option.isSome_iff_exists.1 (HGD.out.nmi m hm).1
          obtain ⟨hy, hyi⟩ := nget_mem hyq
          have hym : y.id = m.id := by omega
          have HLK1 : Hid (∀ V, St w fp R K V f T → Calls Try.prog 15 #[pA fp, .agg #[.int .i64 (x.id : Int), .int .i64 (x.gen : Int)], .string (B s)] V fun e W' => e = .returned (.tuple #[.agg #[.int .i64 (y.id : Int), .int .i64 (y.gen : Int)], .int .i64 0]) ∧ Below V.heap.size V W') := Lib.hid (fun V hV => by
            have h9 := st_look hV ⟨x.id, x.gen⟩ (hd_of hV.wl hT HXD.out.1) s (by rw [← hmn]; have := valid_len (HGD.out.nmv m hm); unfold maxLen; omega)
            rw [← hmn, loF_name HGD.out HXD.out.1 HXD.out.2.1 hm hmd hy hym, hmn] at h9
            exact h9)
          obtain ⟨lk, hlk⟩ : ∃ k : Int, (links f.I f.N y : Int) = k := ⟨_, rfl⟩
          obtain ⟨sz, hsz⟩ : ∃ k : Int, sizN f.N y = k := ⟨_, rfl⟩
          obtain ⟨bk, hbk⟩ : ∃ k : Int, blkN y = k := ⟨_, rfl⟩
          have HST : Hid (∀ V, St w fp R K V f T → Calls Try.prog 13 #[pA fp, .agg #[.int .i64 (y.id : Int), .int .i64 (y.gen : Int)]] V fun e W' => e = .returned (.tuple #[.agg #[.int .i64 (y.id : Int), .int .i64 (y.gen : Int), .int .i64 (y.kind : Int), .int .i64 y.mode, .int .i64 lk, .int .i64 sz, .int .i64 bk, .int .i64 y.time], .int .i64 0]) ∧ Below V.heap.size V W') := Lib.hid (fun V hV => by
            have h9 := st_stat hV ⟨y.id, y.gen⟩ (hd_of hV.wl hT hy)
            rw [stF_of HGD.out hy] at h9
            unfold infN at h9
            rw [hlk, hsz, hbk] at h9
            exact h9)
          have lk1 : ¬ lk < 1 := by have := links_pos hm hym; omega
          have lk1' : decide (lk < 1) = false := by simp only [decide_eq_false_iff_not]; exact lk1
          have HM : Hid (m ∈ f.N ∧ m.dir = x.id ∧ m.nm = s ∧ y ∈ f.I ∧ y.id = m.id) := Lib.hid ⟨hm, hmd, hmn, hy, hym⟩
          have HNX : Hid (cntP f x.id (l.take (j + 1)) = cntP f x.id (l.take j) + 1 + (if isD f.I m.id = true then cntB f m.id else 0)) := Lib.hid (by
            rw [take_snoc hlt, hs, ← hmn, ← hmd]
            exact cntP_step HGD.out hm (by rw [hmn, ← hs]; exact not_in_take HLS.out.1 hlt))
          obtain ⟨ct, hct⟩ : ∃ c, cntP f x.id (l.take j) = c := ⟨_, rfl⟩
          rw [hct] at HNX
          have hctl : ct ≤ 1000000 := by rw [← hct]; have := cntP_le f x.id (l.take j); have := HLS.out; omega
          have hctn : cntP f x.id (l.take (j + 1)) ≤ 1000000 := by have := cntP_le f x.id (l.take (j + 1)); have := HLS.out; omega
          obtain ⟨g, rfl⟩ := HA.out (by omega)
          have hrw := own_below HROW.out HP.out
          have r0 : wr.cell? ⟨g, j, none⟩ = some (.string (B s)) := own_cell hrw j _ (by unfold nmcells; rw [List.getElem?_map, List.getElem?_eq_getElem hlt, hs]; rfl)
          have HSR := Lib.hid (HS2.out.below HP.out)
          have hxr := blk_below HX2.out HP.out
          have HXR := Lib.hid hxr
          have q0 := cell_of hxr (j := 0) rfl
          have q1 := cell_of hxr (j := 1) rfl
          have hj0 : (0 : Int) ≤ (j : Int) := by omega
          have hji : (j : Int) < (l.length : Int) := by omega
          obtain ⟨j1, hj1⟩ : ∃ j1, j + 1 = j1 := ⟨_, rfl⟩
          have hwj : IntKind.i64.wrap ((j : Int) + 1) = (j1 : Int) := by rw [IntKind.wrap_i64]; have := HLS.out; omega
          obtain ⟨c1, hc1⟩ : ∃ c, ct + 1 = c := ⟨_, rfl⟩
          have hwc : IntKind.i64.wrap ((ct : Int) + 1) = (c1 : Int) := by rw [IntKind.wrap_i64]; omega
          rw [hj1] at HNX hctn
          have HJ1 : Hid (j < l.length ∧ j + 1 = j1 ∧ ct + 1 = c1 ∧ ct ≤ 1000000 ∧ cntP f x.id (l.take j1) ≤ 1000000) := Lib.hid ⟨hlt, hj1, hc1, hctl, hctn⟩
          have HDP : Hid (deep ≤ 199) := Lib.hid HXD.out.2.2.1
          rw [hct]
          clear hlt hj hj1 hc1 hct hctl hctn hm hmd hmn hs hyq hy hyi hym hrw hxr hlk hsz hbk
          go_wp2_with fail
          refine (HLK1.out wr HSR.out).mono ?_
          rintro e w3 ⟨rfl, hb3⟩
          obtain ⟨w4, hw4⟩ : ∃ V, V = w3.alloc (.cells #[.int .i64 (y.id : Int), .int .i64 (y.gen : Int)] 40) := ⟨_, rfl⟩
          obtain ⟨k4, hk4⟩ : ∃ k, k = w3.heap.size := ⟨_, rfl⟩
          have hbw4 : Below w3.heap.size w3 w4 := by rw [hw4]; exact box_below w3 _
          have hxw4 : w4.heap[k4]? = some (.cells #[.int .i64 (y.id : Int), .int .i64 (y.gen : Int)] 40 (0, 0)) := by rw [hw4, hk4]; exact new_block w3 _
          have HWw4 := Lib.hid hw4
          have EKw4 := Lib.hid hk4
          have HP4 : Hid (Below w2.heap.size w2 w4) := Lib.hid ((HP.out.trans (hb3.mono HP.out.size)).trans (hbw4.mono (HP.out.trans (hb3.mono HP.out.size)).size))
          have HS4 := Lib.hid (HS2.out.below HP4.out)
          have HX4 := Lib.hid hxw4
          have q4 := cell_of hxw4 (j := 0) rfl
          have q5 := cell_of hxw4 (j := 1) rfl
          clear hb3 hbw4 hxw4 hw4 hk4 q0 q1 r0
          go_upto_region 9 with fail
          rw [← HWw4.out, ← EKw4.out]
          go_wp2_with fail
          refine (HST.out w4 HS4.out).mono ?_
          rintro e w5 ⟨rfl, hb5⟩
          obtain ⟨w6, hw6⟩ : ∃ V, V = w5.alloc (.cells #[.int .i64 (y.id : Int), .int .i64 (y.gen : Int), .int .i64 (y.kind : Int), .int .i64 y.mode, .int .i64 lk, .int .i64 sz, .int .i64 bk, .int .i64 y.time] 43) := ⟨_, rfl⟩
          obtain ⟨k6, hk6⟩ : ∃ k, k = w5.heap.size := ⟨_, rfl⟩
          have hbw6 : Below w5.heap.size w5 w6 := by rw [hw6]; exact box_below w5 _
          have hxw6 : w6.heap[k6]? = some (.cells #[.int .i64 (y.id : Int), .int .i64 (y.gen : Int), .int .i64 (y.kind : Int), .int .i64 y.mode, .int .i64 lk, .int .i64 sz, .int .i64 bk, .int .i64 y.time] 43 (0, 0)) := by rw [hw6, hk6]; exact new_block w5 _
          have HWw6 := Lib.hid hw6
          have EKw6 := Lib.hid hk6
          have HP6 : Hid (Below w2.heap.size w2 w6) := Lib.hid ((HP4.out.trans (hb5.mono HP4.out.size)).trans (hbw6.mono (HP4.out.trans (hb5.mono HP4.out.size)).size))
          have HX46 := Lib.hid (blk_below (blk_below HX4.out hb5) hbw6)
          have HS6 := Lib.hid (HS2.out.below HP6.out)
          have u1 := cell_of hxw6 (j := 2) rfl
          have u3 := cell_of hxw6 (j := 4) rfl
          clear hb5 hbw6 hxw6 hw6 hk6 q4 q5
          go_upto_region 10 with fail
          rw [← HWw6.out, ← EKw6.out]
          by_cases hk2 : y.kind = 2
          · have hk2' : ((y.kind : Int) != 2) = false := by simp [hk2]
            have hk2'' : (y.kind : Int) = 2 := by omega
            have hyD : isD f.I y.id = true := by rw [isD_of HGD.out.ids HM.out.2.2.2.1]; simpa using hk2
            obtain ⟨cm, hcm⟩ : ∃ c, cntB f m.id = c := ⟨_, rfl⟩
            have HCM : Hid (cntP f x.id (l.take j1) = ct + 1 + cm) := Lib.hid (by rw [HNX.out, if_pos (by rw [← HM.out.2.2.2.2]; exact hyD), hcm])
            have hmd : isD f.I m.id = true := by rw [← HM.out.2.2.2.2]; exact hyD
            have hcn : Chn f y.id (deep + 1) := by
              rw [HM.out.2.2.2.2]
              exact Chn.kid HGD.out HM.out.1 hmd (by rw [HM.out.2.1]; exact HXD.out.2.2.2.2)
            obtain ⟨d1, hd1⟩ : ∃ d, deep + 1 = d := ⟨_, rfl⟩
            rw [hd1] at hcn
            have hwd : IntKind.i64.wrap ((deep : Int) + 1) = (d1 : Int) := by rw [IntKind.wrap_i64]; have := HDP.out; omega
            have HWK : Hid (∀ V, St w fp R K V f T → Calls Try.prog 11 #[pA fp, .agg #[.int .i64 (y.id : Int), .int .i64 (y.gen : Int)], .int .i64 (d1 : Int)] V (WkPost V cm)) := Lib.hid (fun V hV => by
              have h9 := HIH.out V y d1 hV HM.out.2.2.2.1 hk2 (by have := HXD.out.2.2.2.1; omega) hcn
              rw [HM.out.2.2.2.2, hcm] at h9
              rw [HM.out.2.2.2.2]
              exact h9)
            have HUP : Hid (∀ V, St w fp R K V f T → Calls Try.prog 15 #[pA fp, .agg #[.int .i64 (y.id : Int), .int .i64 (y.gen : Int)], .string ⟨#[46, 46]⟩] V fun e W' => e = .returned (.tuple #[.agg #[.int .i64 (x.id : Int), .int .i64 (x.gen : Int)], .int .i64 0]) ∧ Below V.heap.size V W') := Lib.hid (fun V hV => by
              have hp : y.par = x.id := by
                have := HGD.out.one m HM.out.1 y HM.out.2.2.2.1 HM.out.2.2.2.2 hk2
                rw [this]; exact HM.out.2.1
              have h9 := st_look hV ⟨y.id, y.gen⟩ (hd_of hV.wl hT HM.out.2.2.2.1) [46, 46] (by decide)
              rw [loF_up HGD.out HM.out.2.2.2.1 hk2 HXD.out.1 hp] at h9
              exact h9)
            have hwm : IntKind.i64.wrap ((c1 : Int) + (cm : Int)) = (cntP f x.id (l.take j1) : Int) := by rw [IntKind.wrap_i64]; have := HCM.out; have := HJ1.out; omega
            have hnq : ∀ V, (binOp .neq 40 (.agg #[.int .i64 (x.id : Int), .int .i64 (x.gen : Int)]) (.agg #[.int .i64 (x.id : Int), .int .i64 (x.gen : Int)])).run Try.prog V = .ok (.bool false) V := fun V => by have h9 := neqH ⟨x.id, x.gen⟩ ⟨x.id, x.gen⟩ V; simpa using h9
            have q4 := cell_of HX46.out (j := 0) rfl
            have q5 := cell_of HX46.out (j := 1) rfl
            clear hk2 hyD hmd hcn hd1 hcm
            go_wp2_with fail
            refine (HUP.out w6 HS6.out).mono ?_
            rintro e w7 ⟨rfl, hb7⟩
            obtain ⟨w8, hw8⟩ : ∃ V, V = w7.alloc (.cells #[.int .i64 (x.id : Int), .int .i64 (x.gen : Int)] 40) := ⟨_, rfl⟩
            obtain ⟨k8, hk8⟩ : ∃ k, k = w7.heap.size := ⟨_, rfl⟩
            have hbw8 : Below w7.heap.size w7 w8 := by rw [hw8]; exact box_below w7 _
            have hxw8 : w8.heap[k8]? = some (.cells #[.int .i64 (x.id : Int), .int .i64 (x.gen : Int)] 40 (0, 0)) := by rw [hw8, hk8]; exact new_block w7 _
            have HWw8 := Lib.hid hw8
            have EKw8 := Lib.hid hk8
            have HP8 : Hid (Below w2.heap.size w2 w8) := Lib.hid ((HP6.out.trans (hb7.mono HP6.out.size)).trans (hbw8.mono (HP6.out.trans (hb7.mono HP6.out.size)).size))
            have HX48 := Lib.hid (blk_below (blk_below HX46.out hb7) hbw8)
            have HS8 := Lib.hid (HS2.out.below HP8.out)
            have HX8 := Lib.hid hxw8
            clear hb7 hbw8 hxw8 hw8 hk8 q4 q5 u1 u3
            have q4 := cell_of HX48.out (j := 0) rfl
            have q5 := cell_of HX48.out (j := 1) rfl
            go_upto_region 15 with fail
            rw [← HWw8.out, ← EKw8.out]
            go_wp2_with fail
            refine (HWK.out w8 HS8.out).mono ?_
            rintro e w9 ⟨rfl, hb9⟩
            have HP9 : Hid (Below w2.heap.size w2 w9) := Lib.hid (HP8.out.trans (hb9.mono HP8.out.size))
            have hx89 := blk_below HX8.out hb9
            have hx19 := blk_below HX2.out HP9.out
            have v0 := cell_of hx89 (j := 0) rfl
            have v1 := cell_of hx89 (j := 1) rfl
            have z0 := cell_of hx19 (j := 0) rfl
            have z1 := cell_of hx19 (j := 1) rfl
            clear hb9 hx89 hx19 q4 q5
            go_wp2_with fail
            go_roundw
            case rel => exact ⟨j1, by have := HJ1.out; omega, rfl, rfl, HP9⟩
            case measure => simp [intOf]; have := HJ1.out; omega
          · have hk2' : ((y.kind : Int) != 2) = true := by simp; omega
            have hk2'' : ¬ (y.kind : Int) = 2 := by omega
            have HCM : Hid (cntP f x.id (l.take j1) = c1) := Lib.hid (by
              rw [HNX.out, if_neg (by rw [← HM.out.2.2.2.2, isD_of HGD.out.ids HM.out.2.2.2.1]; simpa using hk2)]
              have := HJ1.out; omega)
            clear hk2
            go_wp2_with fail
            go_roundw
            case rel => exact ⟨j1, by have := HJ1.out; omega, rfl, by rw [HCM.out], HP6⟩
            case measure => simp [intOf]; have := HJ1.out; omega
      · obtain rfl : j = l.length := by omega
        have hji : ¬ ((l.length : Nat) : Int) < ((l.length : Nat) : Int) := by omega
        have HE : Hid (WkPost W (cntB f x.id) (.returned (.tuple #[.int .i64 (cntP f x.id l : Int), .bool true])) wr) := Lib.hid ⟨by rw [← HL.out, cntP_full HGD.out], HB2.out.trans (HP.out.mono HB2.out.size)⟩
        clear hlt hj
        go_wp2_with fail
        exact bodyPost_ret (results_tmp2 (t := 6) (u := 7) rfl _ _ _) rfl HE.out
end Go.Proofs.Ytoaahhgngelnaaa
