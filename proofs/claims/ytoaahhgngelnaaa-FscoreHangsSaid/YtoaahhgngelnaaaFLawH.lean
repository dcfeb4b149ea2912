/-
  Behind any calls all folders hang on the root, and links are as many as are counted: the law FscoreHangs returns true. No condition.
-/
import Derived.Test.YtoaahhgngelnaaaFWalk
import Derived.Test.YtoaahhgngelnaaaFSr
namespace Go.Proofs.Ytoaahhgngelnaaa
set_option maxRecDepth 100000
open Go.ChangeShapes Go.WideShapes Go.ChangeAt Go.RowKit Go.Proofs.Sg Go.Proofs.Fz

def parL (f : Fst) (k g : Nat) : Nat := match nget f.I ((k + 1 : Nat) : Int) with
  | some x => if x.gen ≤ g then lkv f (some x) else 0
  | none => 0
def parF (f : Fst) (k g : Nat) : Nat := match nget f.I ((k + 1 : Nat) : Int) with
  | some x => if x.gen ≤ g then fov (some x) else 0
  | none => 0
theorem par_zero {f : Fst} (hg : Gd f) (k : Nat) : parL f k 0 = 0 ∧ parF f k 0 = 0 := by
  unfold parL parF
  rcases hq : nget f.I ((k + 1 : Nat) : Int) with _ | x
  · exact ⟨rfl, rfl⟩
  · have := (hg.gen x (nget_mem hq).1).1
    dsimp only
    rw [if_neg (by omega), if_neg (by omega)]
    exact ⟨rfl, rfl⟩
theorem par_all {f : Fst} {T R : Nat} (hw : Wl f T R) (k : Nat) : parL f k (T + 1) = lkv f (nget f.I ((k + 1 : Nat) : Int)) ∧ parF f k (T + 1) = fov (nget f.I ((k + 1 : Nat) : Int)) := by
  unfold parL parF
  rcases hq : nget f.I ((k + 1 : Nat) : Int) with _ | x
  · exact ⟨rfl, rfl⟩
  · have h1 := (hw.gd.gen x (nget_mem hq).1).2
    have h2 := hw.bd.gns x.id
    dsimp only
    rw [if_pos (by omega), if_pos (by omega)]
    exact ⟨rfl, rfl⟩
theorem par_hit {f : Fst} {k g : Nat} {x : Nod} (h : fnd f.I ⟨((k + 1 : Nat) : Int), ((g + 1 : Nat) : Int)⟩ = some x) : x ∈ f.I ∧ parL f k g = 0 ∧ parF f k g = 0 ∧ parL f k (g + 1) = lkv f (some x) ∧ parF f k (g + 1) = fov (some x) := by
  unfold fnd at h
  dsimp only at h
  unfold parL parF
  rcases hq : nget f.I ((k + 1 : Nat) : Int) with _ | y
  · rw [hq] at h; cases h
  · rw [hq] at h
    dsimp only at h ⊢
    split at h
    · rename_i e
      obtain rfl := Option.some.inj h
      refine ⟨(nget_mem hq).1, if_neg (by omega), if_neg (by omega), if_pos (by omega), if_pos (by omega)⟩
    · cases h
theorem par_miss {f : Fst} {k g : Nat} (h : fnd f.I ⟨((k + 1 : Nat) : Int), ((g + 1 : Nat) : Int)⟩ = none) : parL f k (g + 1) = parL f k g ∧ parF f k (g + 1) = parF f k g := by
  unfold fnd at h
  dsimp only at h
  unfold parL parF
  rcases hq : nget f.I ((k + 1 : Nat) : Int) with _ | y
  · exact ⟨rfl, rfl⟩
  · rw [hq] at h
    dsimp only at h ⊢
    split at h
    · cases h
    · rename_i e
      by_cases hy : y.gen ≤ g
      · rw [if_pos hy, if_pos hy, if_pos (by omega), if_pos (by omega)]; exact ⟨rfl, rfl⟩
      · rw [if_neg hy, if_neg hy, if_neg (by omega), if_neg (by omega)]; exact ⟨rfl, rfl⟩
theorem par_le {f : Fst} {T R : Nat} (hw : Wl f T R) (k g : Nat) : lkT f k + parL f k g ≤ T + 1 ∧ foT f k + parF f k g ≤ T + 1 := by
  have h1 := tot_le hw.gd (k + 1)
  have h2 := hw.bd.nms
  have e1 : lkT f (k + 1) = lkT f k + lkv f (nget f.I ((k + 1 : Nat) : Int)) := rfl
  have e2 : foT f (k + 1) = foT f k + fov (nget f.I ((k + 1 : Nat) : Int)) := rfl
  have h3 : parL f k g ≤ lkv f (nget f.I ((k + 1 : Nat) : Int)) := by
    unfold parL
    rcases nget f.I ((k + 1 : Nat) : Int) with _ | x
    · exact Nat.zero_le _
    · dsimp only
      split
      · exact Nat.le_refl _
      · exact Nat.zero_le _
  have h4 : parF f k g ≤ fov (nget f.I ((k + 1 : Nat) : Int)) := by
    unfold parF
    rcases nget f.I ((k + 1 : Nat) : Int) with _ | x
    · exact Nat.zero_le _
    · dsimp only
      split
      · exact Nat.le_refl _
      · exact Nat.zero_le _
  omega
set_option maxHeartbeats 16000000 in
theorem hangs_law {w : World} {ad1 : Option Addr} {len1 cap1 : Nat} {os1 : List Opf} (hR1 : OReads w w.heap.size ad1 len1 os1) :
    Calls Try.prog 3 #[.slice ad1 len1 cap1] w fun e w' => e = .returned (.bool true) ∧ Below w.heap.size w w' := by
  have HO1 : Hid (∀ W, Below w.heap.size w W → OReads W w.heap.size ad1 len1 os1) := Lib.hid (fun W hW => hR1.kept hW)
  have HL1 := Lib.hid hR1.1
  have HN := Lib.hid (fnew_any 50 w)
  have HAL := Lib.hid alive_any
  clear hR1
  go_enter Try.func3, Try.ntmps3
  go_wp2_with fail
  refine HN.out.mono ?_
  rintro e w2 ⟨Y, rfl, hm, hb⟩
  obtain ⟨fp, hfp⟩ : ∃ k, Y.fp = k := ⟨_, rfl⟩
  rw [hfp]
  have HS2 : Hid (SR w fp 50 [] [] w2 (newF 50) 0) := Lib.hid ⟨Y, hm, hfp, hb, Wl.new 50, fun k hk => (by cases hk), fun r hr => (by cases hr)⟩
  have HFW := Lib.hid (few_any (cap := cap1) (HO1.out w2 hb) hb.size)
  clear hm hb hfp
  go_wp2_with fail
  refine HFW.out.mono ?_
  rintro e w3 ⟨r, rfl, hr, hb3⟩
  have HS3 := Lib.hid (HS2.out.below hb3)
  have HR1 := Lib.hid hr
  clear hr hb3
  cases r with
  | false =>
    go_wp2_with fail
    refine (HAL.out w3).mono ?_
    rintro e w9 ⟨rfl, hb9⟩
    have HB9 : Hid (Below w.heap.size w w9) := Lib.hid (HS3.out.st.bl.trans (hb9.mono HS3.out.st.bl.size))
    clear hb9
    go_wp2_with fail
    go_ret
    exact ⟨rfl, HB9.out⟩
  | true =>
    have HRA := Lib.hid (HR1.out rfl)
    have HLE : Hid (len1 ≤ 250) := Lib.hid (by rw [← HL1.out]; exact HRA.out.2)
    clear HR1
    go_wp2_with fail
    go_loopw [29] (fun i wr => ∃ j : Nat, j ≤ len1 ∧ i = .int .i64 (j : Int) ∧ Hid (SR w fp 50 [] [] wr (runF (newF 50) (os1.take j)) j)) (fun i _ => len1 - (intOf i).toNat)
    case atStart => exact ⟨0, Nat.zero_le _, rfl, HS3⟩
    case round =>
      obtain ⟨j, hj, rfl, HP⟩ := hrel
      by_cases hlt : j < len1
      · as_aux_lemma =>
          obtain ⟨b, off, rfl, -, hc⟩ := (HO1.out wr HP.out.st.bl).2 (by omega)
          obtain ⟨e0, e1, e2, e3, e4, e5, e6, e7, e8, e9, e10, e11, e12, e13, e14, ⟨A, ln, c, e15, hr, -, hlc⟩, hok⟩ := hc j hlt
          obtain ⟨o, ho⟩ : ∃ o, os1.getD j of0 = o := ⟨_, rfl⟩
          have hj2 : j < os1.length := by rw [HL1.out]; exact hlt
          have hob : o.b.length ≤ 2000 := by rw [← ho, getD_at hj2]; exact HRA.out.1 _ (List.getElem_mem hj2)
          rw [ho] at e0 e1 e2 e3 e4 e5 e6 e7 e8 e9 e10 e11 e12 e13 e14 hr hok
          have hnx := run_next (f := newF 50) hj2
          rw [ho] at hnx
          obtain ⟨f, hf⟩ : ∃ f, runF (newF 50) (os1.take j) = f := ⟨_, rfl⟩
          rw [hf] at HP hnx
          have hbx := box_below wr (.cells #[.int .i64 o.kind, .int .i64 o.h.id, .int .i64 o.h.gen, .int .i64 o.g.id, .int .i64 o.g.gen, .string (B o.nm), .string (B o.ot), .int .i64 o.m.kind, .int .i64 o.m.mode, .int .i64 o.m.time, .string (B o.m.tg), .bool o.fd, .int .i64 o.p, .int .i64 o.n, .int .i64 o.t, .slice A ln c] 33)
          have hd := sr_does (HP.out.below hbx) (by have := HLE.out; omega) (by decide) o (hok.ok hob) (hr.below hbx) hlc
          obtain ⟨av, hav⟩ : ∃ a, anW (stepF f o).2 = a := ⟨_, rfl⟩
          rw [hav, ← hnx] at hd
          have HD : Hid (Calls Try.prog 10 #[pA fp, .agg #[.int .i64 o.kind, .int .i64 o.h.id, .int .i64 o.h.gen, .int .i64 o.g.id, .int .i64 o.g.gen, .string (B o.nm), .string (B o.ot), .int .i64 o.m.kind, .int .i64 o.m.mode, .int .i64 o.m.time, .string (B o.m.tg), .bool o.fd, .int .i64 o.p, .int .i64 o.n, .int .i64 o.t, .slice A ln c]] (wr.alloc (.cells #[.int .i64 o.kind, .int .i64 o.h.id, .int .i64 o.h.gen, .int .i64 o.g.id, .int .i64 o.g.gen, .string (B o.nm), .string (B o.ot), .int .i64 o.m.kind, .int .i64 o.m.mode, .int .i64 o.m.time, .string (B o.m.tg), .bool o.fd, .int .i64 o.p, .int .i64 o.n, .int .i64 o.t, .slice A ln c] 33)) fun e W' => e = .returned av ∧ SR w fp 50 [] [] W' (runF (newF 50) (os1.take (j + 1))) (j + 1)) := Lib.hid hd
          have hj0 : (0 : Int) ≤ (j : Int) := by omega
          have hji : (j : Int) < (len1 : Int) := by omega
          obtain ⟨j1, hj1⟩ : ∃ j1, j + 1 = j1 := ⟨_, rfl⟩
          rw [hj1] at HD
          have hwj : IntKind.i64.wrap ((j : Int) + 1) = (j1 : Int) := by rw [IntKind.wrap_i64]; have := HLE.out; omega
          have HJ1 : Hid (j < len1 ∧ j + 1 = j1) := Lib.hid ⟨hlt, hj1⟩
          clear hlt hj hj1 hr hlc hok hc ho hj2 hob hnx hf hbx HP hd hav
          go_wp2_with fail
          refine HD.out.mono ?_
          rintro e w5 ⟨rfl, hs5⟩
          have HS5 := Lib.hid hs5
          clear hs5
          go_wp2_with fail
          go_roundw
          case rel => exact ⟨j1, by have := HJ1.out; omega, rfl, HS5⟩
          case measure => simp [intOf]; have := HJ1.out; omega
      · as_aux_lemma =>
          obtain rfl : j = len1 := by omega
          have hji : ¬ (j : Int) < (j : Int) := by omega
          obtain ⟨f, hf⟩ : ∃ f, runF (newF 50) (os1.take j) = f := ⟨_, rfl⟩
          rw [hf] at HP
          have HT : Hid (St w fp 50 [] wr f j) := Lib.hid HP.out.st
          have hjl := HLE.out
          obtain ⟨x, hx, x1, x2, x3, x4⟩ := HT.out.wl.gd.root
          have hwk := fun V (hV : St w fp 50 [] V f j) => walk_any (by omega : j ≤ 1000000) 200 V x 0 hV hx x3 rfl (by rw [x1]; exact Chn.root f)
          rw [x1, x2, cnt_root HT.out.wl.gd] at hwk
          obtain ⟨nn, hnn⟩ : ∃ n, f.N.length = n := ⟨_, rfl⟩
          rw [hnn] at hwk
          have HWK : Hid (∀ V, St w fp 50 [] V f j → Calls Try.prog 11 #[pA fp, .agg #[.int .i64 1, .int .i64 1], .int .i64 0] V (WkPost V nn)) := Lib.hid hwk
          have HRO : Hid (∀ V, Calls Try.prog 12 #[pA fp] V fun e w' => e = .returned (.agg #[.int .i64 1, .int .i64 1]) ∧ Below V.heap.size V w') := Lib.hid (fun V => root_any fp V)
          have HNN : Hid (nn + 1 = lkT f 200 + foT f 200 ∧ nn ≤ j) := Lib.hid ⟨by rw [← hnn]; exact tot_all HT.out.wl.gd, by rw [← hnn]; exact HT.out.wl.bd.nms⟩
          clear hlt hj HP hf hjl hx x1 x2 x3 x4 hwk hnn
          go_wp2_with fail
          refine (HRO.out wr).mono ?_
          rintro e w4 ⟨rfl, hb4⟩
          have HT4 := Lib.hid (HT.out.below hb4)
          clear hb4
          go_wp2_with fail
          refine (HWK.out w4 HT4.out).mono ?_
          rintro e w5 ⟨rfl, hb5⟩
          have HT5 := Lib.hid (HT4.out.below hb5)
          clear hb5
          go_wp2_with fail
          go_loopw [8, 9, 10] (fun a b i wr => ∃ k k1 : Nat, k + 1 = k1 ∧ k ≤ 200 ∧ i = .int .i64 (k1 : Int) ∧ a = .int .i64 (lkT f k : Int) ∧ b = .int .i64 (foT f k : Int) ∧ Hid (St w fp 50 [] wr f j)) (fun _ _ i _ => 201 - (intOf i).toNat)
          case atStart => exact ⟨0, 1, rfl, by omega, rfl, rfl, rfl, HT5⟩
          case round =>
            obtain ⟨k, k1, hk1, hk, rfl, rfl, rfl, HP⟩ := hrel
            by_cases hlt : k < 200
            · as_aux_lemma =>
                have hki : (k1 : Int) ≤ 200 := by omega
                obtain ⟨j1, hj1⟩ : ∃ j1, j + 1 = j1 := ⟨_, rfl⟩
                have hwj : IntKind.i64.wrap ((j : Int) + 1) = (j1 : Int) := by rw [IntKind.wrap_i64]; have := HLE.out; omega
                obtain ⟨k2, hk2⟩ : ∃ k2, k1 + 1 = k2 := ⟨_, rfl⟩
                have hwk : IntKind.i64.wrap ((k1 : Int) + 1) = (k2 : Int) := by rw [IntKind.wrap_i64]; omega
                have HK : Hid (k < 200 ∧ k + 1 = k1 ∧ j + 1 = j1 ∧ k1 + 1 = k2) := Lib.hid ⟨hlt, hk1, hj1, hk2⟩
                have h0 := par_zero HT.out.wl.gd k
                have h1 := par_all HT.out.wl k
                have HPA : Hid (lkT f k + parL f k j1 = lkT f k1 ∧ foT f k + parF f k j1 = foT f k1) := Lib.hid (by
                  rw [← hj1, h1.1, h1.2, ← hk1]; exact ⟨rfl, rfl⟩)
                clear hlt hk hk1 hj1 hk2 h1
                go_wp2_with fail
                go_loopw [8, 9, 11] (fun a b i wr => ∃ g g1 : Nat, g + 1 = g1 ∧ g ≤ j1 ∧ i = .int .i64 (g1 : Int) ∧ a = .int .i64 ((lkT f k + parL f k g : Nat) : Int) ∧ b = .int .i64 ((foT f k + parF f k g : Nat) : Int) ∧ Hid (St w fp 50 [] wr f j)) (fun _ _ i _ => j1 + 1 - (intOf i).toNat)
                case atStart => exact ⟨0, 1, rfl, by omega, rfl, by rw [h0.1]; rfl, by rw [h0.2]; rfl, HP⟩
                case round =>
                  obtain ⟨g, g1, hg1, hg, rfl, rfl, rfl, HQ⟩ := hrel
                  clear h0
                  by_cases hlt : g < j1
                  · have hle : (g1 : Int) ≤ (j1 : Int) := by omega
                    have hst := st_stat HQ.out ⟨((k + 1 : Nat) : Int), ((g + 1 : Nat) : Int)⟩ ⟨by dsimp only; omega, by dsimp only; have := HK.out; omega, by dsimp only; omega, by dsimp only; have := HK.out; have := HLE.out; omega⟩
                    rw [hg1, HK.out.2.1] at hst
                    obtain ⟨g2, hg2⟩ : ∃ g2, g1 + 1 = g2 := ⟨_, rfl⟩
                    have hwg : IntKind.i64.wrap ((g1 : Int) + 1) = (g2 : Int) := by rw [IntKind.wrap_i64]; have := HLE.out; have := HK.out; omega
                    have HG : Hid (g < j1 ∧ g + 1 = g1 ∧ g1 + 1 = g2) := Lib.hid ⟨hlt, hg1, hg2⟩
                    have b1 := par_le HT.out.wl k g
                    have b2 := par_le HT.out.wl k g1
                    rcases hfn : fnd f.I ⟨((k + 1 : Nat) : Int), ((g + 1 : Nat) : Int)⟩ with _ | y
                    · have hm := par_miss hfn
                      rw [hg1] at hm
                      have e9 : stF f ⟨(k1 : Int), (g1 : Int)⟩ = (inf0, 175) := by rw [← hg1, ← HK.out.2.1]; unfold stF; rw [hfn]
                      rw [e9] at hst
                      have HST : Hid (Calls Try.prog 13 #[pA fp, .agg #[.int .i64 (k1 : Int), .int .i64 (g1 : Int)]] wr fun e W' => e = .returned (.tuple #[.agg #[.int .i64 0, .int .i64 0, .int .i64 0, .int .i64 0, .int .i64 0, .int .i64 0, .int .i64 0, .int .i64 0], .int .i64 175]) ∧ Below wr.heap.size wr W') := Lib.hid hst
                      have HM := Lib.hid hm
                      clear hlt hg hg1 hg2 hst hfn hm e9 b1 b2
                      go_wp2_with fail
                      refine HST.out.mono ?_
                      rintro e w6 ⟨rfl, hb6⟩
                      have HT7 : Hid (St w fp 50 [] (w6.alloc (.cells #[.int .i64 0, .int .i64 0, .int .i64 0, .int .i64 0, .int .i64 0, .int .i64 0, .int .i64 0, .int .i64 0] 43)) f j) := Lib.hid ((HQ.out.below hb6).below (box_below w6 _))
                      clear hb6
                      go_wp2_with fail
                      go_roundw
                      case rel => exact ⟨g1, g2, HG.out.2.2, by have := HG.out; omega, rfl, by rw [HM.out.1, Int.natCast_add], by rw [HM.out.2, Int.natCast_add], HT7⟩
                      case measure => simp [intOf]; have := HG.out; omega
                    · obtain ⟨hy, p1, p2, p3, p4⟩ := par_hit hfn
                      rw [hg1] at p3 p4
                      have e9 : stF f ⟨(k1 : Int), (g1 : Int)⟩ = (infN f y, 0) := by rw [← hg1, ← HK.out.2.1]; unfold stF; rw [hfn]
                      rw [e9] at hst
                      obtain ⟨lk, hlk⟩ : ∃ k : Nat, links f.I f.N y = k := ⟨_, rfl⟩
                      obtain ⟨sz, hsz⟩ : ∃ k : Int, sizN f.N y = k := ⟨_, rfl⟩
                      obtain ⟨bk, hbk⟩ : ∃ k : Int, blkN y = k := ⟨_, rfl⟩
                      unfold infN at hst
                      rw [hlk, hsz, hbk] at hst
                      have HST : Hid (Calls Try.prog 13 #[pA fp, .agg #[.int .i64 (k1 : Int), .int .i64 (g1 : Int)]] wr fun e W' => e = .returned (.tuple #[.agg #[.int .i64 (y.id : Int), .int .i64 (y.gen : Int), .int .i64 (y.kind : Int), .int .i64 y.mode, .int .i64 (lk : Int), .int .i64 sz, .int .i64 bk, .int .i64 y.time], .int .i64 0]) ∧ Below wr.heap.size wr W') := Lib.hid hst
                      have HP34 : Hid (parL f k g1 = (if y.kind = 2 then 0 else lk) ∧ parF f k g1 = (if y.kind = 2 then 1 else 0)) := Lib.hid ⟨by rw [p3, ← hlk]; rfl, by rw [p4]; rfl⟩
                      obtain ⟨la, hla⟩ : ∃ a, lkT f k + parL f k g = a := ⟨_, rfl⟩
                      obtain ⟨fa, hfa⟩ : ∃ a, foT f k + parF f k g = a := ⟨_, rfl⟩
                      have HLA : Hid (lkT f k = la ∧ foT f k = fa) := Lib.hid (by omega)
                      have HB2 := Lib.hid b2
                      rw [hla, hfa]
                      clear hlt hg hg1 hg2 hst hfn e9 hy p1 p2 p3 p4 hlk hsz hbk b1 b2 hla hfa
                      go_wp2_with fail
                      refine HST.out.mono ?_
                      rintro e w6 ⟨rfl, hb6⟩
                      obtain ⟨w7, hw7⟩ : ∃ V, V = w6.alloc (.cells #[.int .i64 (y.id : Int), .int .i64 (y.gen : Int), .int .i64 (y.kind : Int), .int .i64 y.mode, .int .i64 (lk : Int), .int .i64 sz, .int .i64 bk, .int .i64 y.time] 43) := ⟨_, rfl⟩
                      obtain ⟨k7, hk7⟩ : ∃ k, k = w6.heap.size := ⟨_, rfl⟩
                      have hbw7 : Below w6.heap.size w6 w7 := by rw [hw7]; exact box_below w6 _
                      have hxw7 : w7.heap[k7]? = some (.cells #[.int .i64 (y.id : Int), .int .i64 (y.gen : Int), .int .i64 (y.kind : Int), .int .i64 y.mode, .int .i64 (lk : Int), .int .i64 sz, .int .i64 bk, .int .i64 y.time] 43 (0, 0)) := by rw [hw7, hk7]; exact new_block w6 _
                      have HWw7 := Lib.hid hw7
                      have EKw7 := Lib.hid hk7
                      have HT7 : Hid (St w fp 50 [] w7 f j) := Lib.hid ((HQ.out.below hb6).below hbw7)
                      have u1 := cell_of hxw7 (j := 2) rfl
                      have u3 := cell_of hxw7 (j := 4) rfl
                      clear hb6 hbw7 hxw7 hw7 hk7
                      go_upto_region 20 with fail
                      rw [← HWw7.out, ← EKw7.out]
                      by_cases hk2 : y.kind = 2
                      · have hk2'' : (y.kind : Int) = 2 := by omega
                        have HPX : Hid (lkT f k + parL f k g1 = la ∧ foT f k + parF f k g1 = fa + 1) := Lib.hid (by
                          have h9 := HP34.out
                          rw [if_pos hk2, if_pos hk2] at h9
                          have := HLA.out
                          omega)
                        obtain ⟨fb, hfb⟩ : ∃ b, fa + 1 = b := ⟨_, rfl⟩
                        rw [hfb] at HPX
                        have hwf : IntKind.i64.wrap ((fa : Int) + 1) = (fb : Int) := by rw [IntKind.wrap_i64]; have := HPX.out; have := HB2.out; have := HLE.out; omega
                        clear hk2 hfb
                        go_wp2_with fail
                        go_roundw
                        case rel => exact ⟨g1, g2, HG.out.2.2, by have := HG.out; omega, rfl, by rw [HPX.out.1], by rw [HPX.out.2], HT7⟩
                        case measure => simp [intOf]; have := HG.out; omega
                      · have hk2'' : ¬ (y.kind : Int) = 2 := by omega
                        obtain ⟨lb, hlb⟩ : ∃ b, la + lk = b := ⟨_, rfl⟩
                        have HPX : Hid (lkT f k + parL f k g1 = lb ∧ foT f k + parF f k g1 = fa) := Lib.hid (by
                          have h9 := HP34.out
                          rw [if_neg hk2, if_neg hk2] at h9
                          have := HLA.out
                          omega)
                        have hwf : IntKind.i64.wrap ((la : Int) + (lk : Int)) = (lb : Int) := by rw [IntKind.wrap_i64]; have := HPX.out; have := HB2.out; have := HLE.out; omega
                        clear hk2 hlb
                        go_wp2_with fail
                        go_roundw
                        case rel => exact ⟨g1, g2, HG.out.2.2, by have := HG.out; omega, rfl, by rw [HPX.out.1], by rw [HPX.out.2], HT7⟩
                        case measure => simp [intOf]; have := HG.out; omega
                  · have hle : ¬ (g1 : Int) ≤ (j1 : Int) := by omega
                    obtain rfl : g = j1 := by omega
                    have HE : Hid (∃ k_1 k1_1 : Nat, k_1 + 1 = k1_1 ∧ k_1 ≤ 200 ∧ Value.int .i64 (k2 : Int) = .int .i64 (k1_1 : Int) ∧ Value.int .i64 ((lkT f k + parL f k g : Nat) : Int) = .int .i64 (lkT f k_1 : Int) ∧ Value.int .i64 ((foT f k + parF f k g : Nat) : Int) = .int .i64 (foT f k_1 : Int) ∧ Hid (St w fp 50 [] wr f j)) := Lib.hid ⟨k1, k2, HK.out.2.2.2, by have := HK.out; omega, rfl, by rw [HPA.out.1], by rw [HPA.out.2], HQ⟩
                    clear hlt hg hg1
                    go_wp2_with fail
                    go_roundw
                    case rel => exact HE.out
                    case measure => simp [intOf]; have := HK.out; omega
            · as_aux_lemma =>
                obtain rfl : k = 200 := by omega
                have hki : ¬ (k1 : Int) ≤ 200 := by omega
                obtain ⟨la, hla⟩ : ∃ a, lkT f 200 = a := ⟨_, rfl⟩
                obtain ⟨fa, hfa⟩ : ∃ a, foT f 200 = a := ⟨_, rfl⟩
                have hnn := HNN.out
                rw [hla, hfa] at hnn
                rw [hla, hfa]
                obtain ⟨s, hs⟩ : ∃ s, la + fa = s := ⟨_, rfl⟩
                have hws : IntKind.i64.wrap ((la : Int) + (fa : Int)) = (s : Int) := by rw [IntKind.wrap_i64]; have := HLE.out; omega
                have hwn : IntKind.i64.wrap ((s : Int) - 1) = (nn : Int) := by rw [IntKind.wrap_i64]; have := HLE.out; omega
                clear hlt hk hk1 hla hfa hnn hs
                go_wp2_with fail
                refine (HAL.out wr).mono ?_
                rintro e w9 ⟨rfl, hb9⟩
                have HE : Hid (Below w.heap.size w w9) := Lib.hid (HP.out.bl.trans (hb9.mono HP.out.bl.size))
                clear hb9
                go_wp2_with fail
                go_ret
                exact ⟨rfl, HE.out⟩
end Go.Proofs.Ytoaahhgngelnaaa
