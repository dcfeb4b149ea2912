/-
  What the laws' own stands returns. Condition: both know the same messages and pairs.
-/
import Derived.Test.YtdlhjpcofldfnaaRef6
import Derived.Deep.RegionHeld3
import Derived.BigQuiet
namespace Go.Proofs.Ytdlhjpcofldfnaa
set_option maxRecDepth 100000
open Go.ChangeShapes Go.WideShapes Go.ChangeAt Go.RowKit

theorem len_quiet {w : World} {B np mb : Nat} {rv : Value} {L : List Pk} {ap : List (Int × Int)} (h : NetW w B np mb rv L ap) (W : World) (hW : Below w.heap.size w W) :
    Calls Try.prog 12 #[.pointer (some ⟨np, 0, none⟩)] W fun e w' => e = .returned (.int .i64 (L.length : Int)) ∧ W = w' := len_any (h.kept hW)
structure Sees (w : World) (B np mb : Nat) (rv : Value) (L : List Pk) (ap : List (Int × Int)) (bz : Nat) (A1 : Option Addr) (n1 c1 : Nat) (A2 : Option Addr) (n2 c2 : Nat) (qs : List (Int × Int)) : Prop where
  net : NetW w B np mb rv L ap
  z : w.heap[bz]? = some (.cells #[.slice A1 n1 c1, .slice A2 n2 c2] 29 (0, 0))
  pk : PReads w A1 n1 L
  qk : QReads w A2 n2 qs
theorem Sees.kept {w w' : World} {B np mb : Nat} {rv : Value} {L : List Pk} {ap : List (Int × Int)} {bz : Nat} {A1 : Option Addr} {n1 c1 : Nat} {A2 : Option Addr} {n2 c2 : Nat} {qs : List (Int × Int)} (h : Sees w B np mb rv L ap bz A1 n1 c1 A2 n2 c2 qs) (hb : Below w.heap.size w w') : Sees w' B np mb rv L ap bz A1 n1 c1 A2 n2 c2 qs :=
  ⟨h.net.kept hb, (hb.block _ (Array.getElem?_eq_some_iff.1 h.z).1).trans h.z, h.pk.kept hb, h.qk.kept hb⟩
theorem iv_cell {w : World} {B m c i : Nat} {A : Option Addr} {l : List Nat} (h : w.ownsRow B 3 1 (.slice A m c) m (ivs l)) (hl : l.length = m) (hi : i < m) : ∃ g, A = some ⟨g, 0, none⟩ ∧ w.cell? ⟨g, i, none⟩ = some (.int .i64 ((l.getD i 0 : Nat) : Int)) := by
  obtain ⟨A', c', e, -, -, hA⟩ := own_form h
  injection e with e1 e2 e3
  obtain ⟨g, hg⟩ := hA (by omega)
  rw [← e1] at hg
  subst hg
  refine ⟨g, rfl, own_cell h i _ ?_⟩
  have hil : i < l.length := by omega
  rw [getD_eq 0 hil]
  simp [ivs, hil]
set_option maxHeartbeats 16000000 in
theorem stands_any {w : World} {B np mb : Nat} {rv : Value} {L : List Pk} {ap : List (Int × Int)} {A1 A2 : Option Addr} {n1 c1 n2 c2 : Nat} {qs : List (Int × Int)} (h : NetW w B np mb rv L ap) (hp : PReads w A1 n1 L) (hq : QReads w A2 n2 qs) (hn2 : n2 ≤ 100000)
    (hap : ∀ a b : Int, decide ((min a b, max a b) ∈ ap) = qs.any (mtq a b)) :
    Calls Try.prog 13 #[.pointer (some ⟨np, 0, none⟩), .agg #[.slice A1 n1 c1, .slice A2 n2 c2]] w fun e w' => e = .returned (.bool true) ∧ Below w.heap.size w w' := by
  obtain ⟨bz, hbz⟩ : ∃ b, b = w.heap.size := ⟨_, rfl⟩
  obtain ⟨wbz, hwbz⟩ : ∃ q, q = w.alloc (.cells #[.slice A1 n1 c1, .slice A2 n2 c2] 29) := ⟨_, rfl⟩
  have ebz : bz = w.heap.size := by rw [hbz]
  have hbwbz : Below w.heap.size w wbz := by rw [hwbz]; exact (Below.refl _ _).alloc (by omega) _
  have xbz : wbz.heap[bz]? = some (.cells #[.slice A1 n1 c1, .slice A2 n2 c2] 29 (0, 0)) := by rw [hwbz, ebz]; exact new_block _ _
  have Xbz := Lib.hid xbz
  have Ebz := Lib.hid hbz
  have Wbz := Lib.hid hwbz
  have Sbz : Hid (w.heap.size ≤ bz) := Lib.hid (by rw [hbz]; omega)
  have HB := Lib.hid hbwbz
  clear hbwbz hwbz hbz ebz xbz
  have hn1 : n1 ≤ 2000 := by rw [← hp.len]; exact h.small.1
  have hs0 : Sees wbz B np mb rv L ap bz A1 n1 c1 A2 n2 c2 qs := ⟨h.kept HB.out, Xbz.out, hp.kept HB.out, hq.kept HB.out⟩
  have HS0 := Lib.hid hs0
  have HLE := Lib.hid hp.len
  have HAP := Lib.hid hap
  have HQ1 : Hid (∀ W, Below wbz.heap.size wbz W → Calls Try.prog 12 #[.pointer (some ⟨np, 0, none⟩)] W fun e w' => e = .returned (.int .i64 (n1 : Int)) ∧ W = w') := Lib.hid (by rw [← hp.len]; exact fun W hW => len_quiet hs0.net W hW)
  have HZZ : Hid (∀ W, Below wbz.heap.size wbz W → W.cell? ⟨bz, 0, none⟩ = some (.slice A1 n1 c1)) := Lib.hid (fun W hW => cell_of (hs0.kept hW).z (j := 0) rfl)
  clear h hp hq hap hs0 Xbz
  have z0 := HZZ.out _ (Below.refl _ _)
  go_enter Try.func13, Try.ntmps13
  go_upto_region 1 with fail
  rw [← Wbz.out, ← Ebz.out]
  go_region_held3 (fun w' => w'.cell? ⟨bz, 0, none⟩ = some (.slice A1 n1 c1) ∧ Below wbz.heap.size wbz w')
    (first
      | exact ⟨HZZ.out _ (Below.refl _ _).drew, (Below.refl _ _).drew⟩
      | assumption)
    (first
      | (go_at_call 12; (with_reducible refine (HQ1.out _ (by first | exact (Below.refl _ _).drew | assumption)).mono ?_); rintro e w1 ⟨rfl, rfl⟩))
  have HSD := Lib.hid (HS0.out.kept (Below.refl _ _).drew)
  have HBD := Lib.hid (HB.out.drew)
  clear z0
  go_wp2_with fail
  go_loopw [5] (fun v5 wr => ∃ k : Int, -1 ≤ k ∧ k ≤ (n1 : Int) + 1 ∧ v5 = .int .i64 k ∧ Sees wr B np mb rv L ap bz A1 n1 c1 A2 n2 c2 qs ∧ Below w.heap.size w wr) (fun v _ => ((n1 : Int) + 1 - intOf v).toNat)
  case atStart => exact ⟨-1, by omega, by omega, rfl, HSD.out, HBD.out⟩
  case round =>
    obtain ⟨k, hk1, hk2, rfl, hs, hbw⟩ := hrel
    have HS := Lib.hid hs
    have HBW := Lib.hid hbw
    clear hs hbw
    have z0 := cell_of HS.out.z (j := 0) rfl
    by_cases hle : k ≤ (n1 : Int)
    · have HAT := Lib.hid (at_any HS.out.net k)
      obtain ⟨x, hx⟩ : ∃ x, x = (atL L k).1 := ⟨_, rfl⟩
      obtain ⟨bb, hbb⟩ : ∃ q, q = (atL L k).2 := ⟨_, rfl⟩
      have HX := Lib.hid hx
      have HBB := Lib.hid hbb
      clear hx hbb
      go_wp2_with fail
      refine HAT.out.mono ?_
      rintro e w3 ⟨rfl, hb3⟩
      rw [← HX.out, ← HBB.out]
      obtain ⟨bq, hbq⟩ : ∃ b, b = w3.heap.size := ⟨_, rfl⟩
      obtain ⟨w4, hw4⟩ : ∃ w4, w4 = w3.alloc (.cells #[.int .i64 x.f, .int .i64 x.t, .string x.b] 31) := ⟨_, rfl⟩
      have hb4 : Below w3.heap.size w3 w4 := by rw [hw4]; exact box_below w3 _
      have hb34 := hb3.trans (hb4.mono hb3.size)
      have HQ4 : Hid (w4.heap[bq]? = some (.cells #[.int .i64 x.f, .int .i64 x.t, .string x.b] 31 (0, 0))) := Lib.hid (by rw [hw4, hbq]; exact new_block w3 _)
      have HS4 := Lib.hid (HS.out.kept hb34)
      have HB4 := Lib.hid (HBW.out.trans (hb34.mono HBW.out.size))
      have HW4 := Lib.hid hw4
      have HBQ := Lib.hid hbq
      have HRT := Lib.hid (rat_any (A2 := A2) (n2 := n2) (c1 := c1) (c2 := c2) (HS.out.kept hb34).pk k)
      clear hb3 hb4 hb34 hw4 hbq z0 HAT
      unfold pv
      go_upto_region 7 with fail
      rw [← HW4.out, ← HBQ.out]
      have z0 := cell_of HS4.out.z (j := 0) rfl
      have z1 := cell_of HS4.out.z (j := 1) rfl
      go_wp2_with fail
      refine HRT.out.mono ?_
      rintro e w5 ⟨rfl, hb5⟩
      rw [← HX.out, ← HBB.out]
      obtain ⟨bs, hbs⟩ : ∃ b, b = w5.heap.size := ⟨_, rfl⟩
      obtain ⟨w6, hw6⟩ : ∃ w6, w6 = w5.alloc (.cells #[.int .i64 x.f, .int .i64 x.t, .string x.b] 31) := ⟨_, rfl⟩
      have hb6 : Below w5.heap.size w5 w6 := by rw [hw6]; exact box_below w5 _
      have hb56 := hb5.trans (hb6.mono hb5.size)
      have HR6 : Hid (w6.heap[bs]? = some (.cells #[.int .i64 x.f, .int .i64 x.t, .string x.b] 31 (0, 0))) := Lib.hid (by rw [hw6, hbs]; exact new_block w5 _)
      have HQ6 := Lib.hid ((hb56.block _ (Array.getElem?_eq_some_iff.1 HQ4.out).1).trans HQ4.out)
      have HS6 := Lib.hid (HS4.out.kept hb56)
      have HB6 := Lib.hid (HB4.out.trans (hb56.mono HB4.out.size))
      have HW6 := Lib.hid hw6
      have HBS := Lib.hid hbs
      clear hb5 hb6 hb56 hw6 hbs z0 z1 HRT
      unfold pv
      go_upto_region 8 with fail
      rw [← HW6.out, ← HBS.out]
      have p0 := cell_of HQ6.out (j := 0) rfl
      have p1 := cell_of HQ6.out (j := 1) rfl
      have p2 := cell_of HQ6.out (j := 2) rfl
      have r0 := cell_of HR6.out (j := 0) rfl
      have r1 := cell_of HR6.out (j := 1) rfl
      have r2 := cell_of HR6.out (j := 2) rfl
      have hne := neq31 x x
      rw [same_refl] at hne
      cases bb
      all_goals
        go_wp2_with fail
        go_round
        case rel => exact ⟨k + 1, by omega, by omega, by go_num, HS6.out, HB6.out⟩
        case measure => simp [intOf]; omega
    · go_wp2_with fail
      clear z0
      go_loopw [10] (fun v10 wr => ∃ a : Int, -1 ≤ a ∧ a ≤ 4 ∧ v10 = .int .i64 a ∧ Sees wr B np mb rv L ap bz A1 n1 c1 A2 n2 c2 qs ∧ Below w.heap.size w wr) (fun v _ => ((4 : Int) - intOf v).toNat)
      case atStart => exact ⟨-1, by omega, by omega, rfl, HS.out, HBW.out⟩
      case round =>
        obtain ⟨a, ha1, ha2, rfl, hs, hbw⟩ := hrel
        have HSA := Lib.hid hs
        have HBA := Lib.hid hbw
        by_cases hlt : a < 4
        · obtain ⟨l, hl⟩ : ∃ l, l = idx L a L.length := ⟨_, rfl⟩
          obtain ⟨m, hm⟩ : ∃ m, m = l.length := ⟨_, rfl⟩
          have hm2 : m ≤ 2000 := by rw [hm, hl]; exact Nat.le_trans (idx_le _ _ _) hs.net.small.1
          have HC26 : Hid (∀ W, Below wr.heap.size wr W → Calls Try.prog 26 #[.pointer (some ⟨np, 0, none⟩), .int .i64 a] W fun e w' => ∃ A c, e = .returned (.slice A m c) ∧ w'.ownsRow W.heap.size 3 1 (.slice A m c) m (ivs l) ∧ Below W.heap.size W w') := Lib.hid (fun W hW => by rw [hm, hl]; exact for_any (hs.net.kept hW) a)
          have HC27 : Hid (∀ W, Below wr.heap.size wr W → Calls Try.prog 27 #[.agg #[.slice A1 n1 c1, .slice A2 n2 c2], .int .i64 a] W fun e w' => ∃ A c, e = .returned (.slice A m c) ∧ w'.ownsRow W.heap.size 3 1 (.slice A m c) m (ivs l) ∧ Below W.heap.size W w') := Lib.hid (fun W hW => by rw [hm, hl]; exact rfor_any (hs.kept hW).pk hn1 a)
          have HZA : Hid (∀ W, Below wr.heap.size wr W → W.cell? ⟨bz, 0, none⟩ = some (.slice A1 n1 c1) ∧ W.cell? ⟨bz, 1, none⟩ = some (.slice A2 n2 c2) ∧ Below wr.heap.size wr W) := Lib.hid (fun W hW => ⟨cell_of (hs.kept hW).z (j := 0) rfl, cell_of (hs.kept hW).z (j := 1) rfl, hW⟩)
          have HLM := Lib.hid hm.symm
          have z0 := cell_of hs.z (j := 0) rfl
          have z1 := cell_of hs.z (j := 1) rfl
          clear hs hbw hl hm
          go_wp2_with fail
          go_region_held3 (fun w' => w'.cell? ⟨bz, 0, none⟩ = some (.slice A1 n1 c1) ∧ w'.cell? ⟨bz, 1, none⟩ = some (.slice A2 n2 c2) ∧ Below wr.heap.size wr w')
            (first
              | exact HZA.out _ (Below.refl _ _).drew
              | assumption)
            (first
              | (go_at_call 27; (with_reducible refine (HC27.out _ hwP).mono ?_); rintro e w2 ⟨QA, qc, rfl, hoQ, hbQ⟩; have hw2 := hwP.trans (hbQ.mono hwP.size); have hS2 := HZA.out _ hw2; have hoP2 := own_below hoP hbQ; have hoQ2 := hoQ)
              | (go_at_call 26; (with_reducible refine (HC26.out _ hwQ).mono ?_); rintro e w2 ⟨PA, pc, rfl, hoP, hbP⟩; have hw2 := hwQ.trans (hbP.mono hwQ.size); have hS2 := HZA.out _ hw2; have hoQ2 := own_below hoQ hbP; have hoP2 := hoP)
              | (go_at_call 26; (with_reducible refine (HC26.out _ (Below.refl _ _).drew).mono ?_); rintro e w1 ⟨PA, pc, rfl, hoP, hbP⟩; have hwP : Below wr.heap.size wr w1 := (Below.refl _ _).drew.trans hbP; have hS1 := HZA.out _ hwP)
              | (go_at_call 27; (with_reducible refine (HC27.out _ (Below.refl _ _).drew).mono ?_); rintro e w1 ⟨QA, qc, rfl, hoQ, hbQ⟩; have hwQ : Below wr.heap.size wr w1 := (Below.refl _ _).drew.trans hbQ; have hS1 := HZA.out _ hwQ))
          all_goals
            have HOP := Lib.hid (own_base hoP2 (Nat.zero_le _))
            have HOQ := Lib.hid (own_base hoQ2 (Nat.zero_le _))
            have HS2 := Lib.hid (HSA.out.kept hw2)
            have HB2 := Lib.hid (HBA.out.trans (hw2.mono HBA.out.size))
            clear hoP2 hoQ2 hw2 z0 z1
            go_wp2_with fail
            go_loopw [65] (fun v wr2 => ∃ i : Nat, i ≤ m ∧ v = .int .i64 i ∧ Sees wr2 B np mb rv L ap bz A1 n1 c1 A2 n2 c2 qs ∧ wr2.ownsRow 0 3 1 (.slice PA m pc) m (ivs l) ∧ wr2.ownsRow 0 3 1 (.slice QA m qc) m (ivs l) ∧ Below w.heap.size w wr2) (fun v _ => m - (intOf v).toNat)
            case atStart => exact ⟨0, Nat.zero_le _, rfl, HS2.out, HOP.out, HOQ.out, HB2.out⟩
            case round =>
              obtain ⟨i, hi, rfl, hs, hop, hoq, hbw⟩ := hrel
              have HSI := Lib.hid hs
              have HPI := Lib.hid hop
              have HQI := Lib.hid hoq
              have HBI := Lib.hid hbw
              have HDI : Hid (∀ n : Nat, Below wr.heap.size wr (wr.drewN n)) := Lib.hid (fun n => below_drewN (Below.refl _ _) n)
              clear hs hop hoq hbw
              by_cases hlt2 : i < m
              · obtain ⟨g1, e1, s1⟩ := iv_cell HPI.out HLM.out hlt2
                obtain ⟨g2, e2, s2⟩ := iv_cell HQI.out HLM.out hlt2
                obtain ⟨t, ht⟩ : ∃ t : Int, t = ((l.getD i 0 : Nat) : Int) := ⟨_, rfl⟩
                rw [← ht] at s1 s2
                subst e1 e2
                have hi0 : (0 : Int) ≤ (i : Int) := by omega
                have hi1 : (i : Int) < (m : Int) := by omega
                clear ht
                go_wp2_with fail
                go_quiet (fail)
                go_wp2_with fail
                go_roundw
                case rel => exact ⟨i + 1, by omega, by go_num, HSI.out.kept (HDI.out _), own_below HPI.out (HDI.out _), own_below HQI.out (HDI.out _), HBI.out.trans ((HDI.out _).mono HBI.out.size)⟩
                case measure => simp [intOf]; omega
              · obtain rfl : i = m := by omega
                have hi1 : ¬ (i : Int) < (i : Int) := by omega
                go_wp2_with fail
                go_loopw [14] (fun v wr2 => ∃ q : Int, -1 ≤ q ∧ q ≤ 4 ∧ v = .int .i64 q ∧ Sees wr2 B np mb rv L ap bz A1 n1 c1 A2 n2 c2 qs ∧ Below w.heap.size w wr2) (fun v _ => ((4 : Int) - intOf v).toNat)
                case atStart => exact ⟨-1, by omega, by omega, rfl, HSI.out, HBI.out⟩
                case round =>
                  obtain ⟨q, hq1, hq2, rfl, hs, hbw⟩ := hrel
                  have HSQ := Lib.hid hs
                  have HBQ := Lib.hid hbw
                  by_cases hlt3 : q < 4
                  · obtain ⟨r, hr⟩ : ∃ r, r = qs.any (mtq a q) := ⟨_, rfl⟩
                    have HC19 : Hid (∀ W, Below wr.heap.size wr W → Calls Try.prog 19 #[.pointer (some ⟨np, 0, none⟩), .int .i64 a, .int .i64 q] W fun e w' => e = .returned (.bool r) ∧ Below W.heap.size W w') := Lib.hid (fun W hW => by rw [hr, ← HAP.out a q]; exact apart_any (hs.net.kept hW) ⟨by omega, by omega⟩ ⟨by omega, by omega⟩)
                    have HC28 : Hid (∀ W, Below wr.heap.size wr W → Calls Try.prog 28 #[.agg #[.slice A1 n1 c1, .slice A2 n2 c2], .int .i64 a, .int .i64 q] W fun e w' => e = .returned (.bool r) ∧ Below W.heap.size W w') := Lib.hid (fun W hW => by rw [hr]; exact rapart_any (hs.kept hW).qk hn2 a q)
                    have HZQ : Hid (∀ W, Below wr.heap.size wr W → W.cell? ⟨bz, 0, none⟩ = some (.slice A1 n1 c1) ∧ W.cell? ⟨bz, 1, none⟩ = some (.slice A2 n2 c2) ∧ Below wr.heap.size wr W) := Lib.hid (fun W hW => ⟨cell_of (hs.kept hW).z (j := 0) rfl, cell_of (hs.kept hW).z (j := 1) rfl, hW⟩)
                    have z0 := cell_of hs.z (j := 0) rfl
                    have z1 := cell_of hs.z (j := 1) rfl
                    clear hs hbw hr
                    go_wp2_with fail
                    go_region_held3 (fun w' => w'.cell? ⟨bz, 0, none⟩ = some (.slice A1 n1 c1) ∧ w'.cell? ⟨bz, 1, none⟩ = some (.slice A2 n2 c2) ∧ Below wr.heap.size wr w')
                      (first
                        | exact HZQ.out _ (Below.refl _ _).drew
                        | assumption)
                      (first
                        | (go_at_call 28; (with_reducible refine (HC28.out _ hwP).mono ?_); rintro e w2 ⟨rfl, hbQ⟩; have hw2 := hwP.trans (hbQ.mono hwP.size); have hS2 := HZQ.out _ hw2)
                        | (go_at_call 19; (with_reducible refine (HC19.out _ hwQ).mono ?_); rintro e w2 ⟨rfl, hbP⟩; have hw2 := hwQ.trans (hbP.mono hwQ.size); have hS2 := HZQ.out _ hw2)
                        | (go_at_call 19; (with_reducible refine (HC19.out _ (Below.refl _ _).drew).mono ?_); rintro e w1 ⟨rfl, hbP⟩; have hwP : Below wr.heap.size wr w1 := (Below.refl _ _).drew.trans hbP; have hS1 := HZQ.out _ hwP)
                        | (go_at_call 28; (with_reducible refine (HC28.out _ (Below.refl _ _).drew).mono ?_); rintro e w1 ⟨rfl, hbQ⟩; have hwQ : Below wr.heap.size wr w1 := (Below.refl _ _).drew.trans hbQ; have hS1 := HZQ.out _ hwQ))
                    all_goals
                      have HS3 := Lib.hid (HSQ.out.kept hw2)
                      have HB3 := Lib.hid (HBQ.out.trans (hw2.mono HBQ.out.size))
                      clear hw2 z0 z1
                      cases r
                      all_goals
                        go_wp2_with fail
                        go_round
                        case rel => exact ⟨q + 1, by omega, by omega, by go_num, HS3.out, HB3.out⟩
                        case measure => simp [intOf]; omega
                  · obtain rfl : q = 4 := by omega
                    clear hs hbw
                    go_wp2_with fail
                    go_round
                    case rel => exact ⟨a + 1, by omega, by omega, by go_num, HSQ.out, HBQ.out⟩
                    case measure => simp [intOf]; omega
        · obtain rfl : a = 4 := by omega
          clear hs hbw
          go_wp2_with fail
          go_ret
          exact ⟨rfl, HBA.out⟩
end Go.Proofs.Ytdlhjpcofldfnaa
