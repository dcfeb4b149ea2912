/-
  LedgerCrash: the law returns true of every script, wherever the disk dies, and whatever its crash leaves. No condition.
-/
import Derived.Test.YtdbpnfceabklkaaInvD
namespace Go.Proofs.Ytdbpnfceabklkaa
set_option maxRecDepth 100000
open Go.ChangeShapes Go.WideShapes Go.ChangeAt Go.RowKit

/-- Pairs of numbers in memory. -/
def KReads (w : World) (A : Option Addr) (len : Nat) (l : List (Int × Int)) : Prop :=
  l.length = len ∧ (0 < len → ∃ b off, A = some ⟨b, off, none⟩ ∧ ∀ i, i < len → w.cell? ⟨b, off + i * 2, none⟩ = some (.int .i64 (l.getD i (0, 0)).1) ∧ w.cell? ⟨b, off + i * 2 + 1, none⟩ = some (.int .i64 (l.getD i (0, 0)).2))
theorem KReads.kept {w w' : World} {A : Option Addr} {len : Nat} {l : List (Int × Int)} (h : KReads w A len l) (hb : Below w.heap.size w w') : KReads w' A len l := by
  refine ⟨h.1, fun hl => ?_⟩
  obtain ⟨b, off, e, hc⟩ := h.2 hl
  exact ⟨b, off, e, fun i hi => ⟨(hb.cell (p := ⟨b, off + i * 2, none⟩) (cell_lt (hc i hi).1)).trans (hc i hi).1, (hb.cell (p := ⟨b, off + i * 2 + 1, none⟩) (cell_lt (hc i hi).2)).trans (hc i hi).2⟩⟩
/-- A round's beginning. -/
structure Head (w : World) (sb0 q p : Nat) (G : Lg) (bv : Value) (D : Dk) (now firm : List (List Int)) (A1 : Option Addr) (n1 c1 : Nat) (A2 : Option Addr) (n2 c2 : Nat) (wr : World) : Prop where
  run : CRun w q p G bv D now firm wr
  box : wr.heap[sb0]? = some (.cells #[.slice A1 n1 c1, .slice A2 n2 c2] 31 (0, 0))
  s1 : STr w.heap.size wr A1 n1 now
  s2 : STr w.heap.size wr A2 n2 firm
theorem Head.below {w : World} {sb0 q p : Nat} {G : Lg} {bv : Value} {D : Dk} {now firm : List (List Int)} {A1 : Option Addr} {n1 c1 : Nat} {A2 : Option Addr} {n2 c2 : Nat} {wr wr' : World} (h : Head w sb0 q p G bv D now firm A1 n1 c1 A2 n2 c2 wr) (hb : Below wr.heap.size wr wr') : Head w sb0 q p G bv D now firm A1 n1 c1 A2 n2 c2 wr' :=
  ⟨h.run.below hb, (hb.block _ (Array.getElem?_eq_some_iff.1 h.box).1).trans h.box, h.s1.kept hb h.run.kl.below.size, h.s2.kept hb h.run.kl.below.size⟩
/-- A disk that crashes next. -/
structure Die (w : World) (sb0 bo p : Nat) (D : Dk) (e : Int) (o : Ov) (now firm : List (List Int)) (A1 : Option Addr) (n1 c1 : Nat) (A2 : Option Addr) (n2 c2 : Nat) (wr : World) : Prop where
  disk : PDisk wr w.heap.size p D
  leaves : Leaves D e firm (nextL o.k now firm o.all)
  opb : wr.heap[bo]? = some (.cells #[.int .i64 o.k, .string o.S, .slice o.A o.len o.cap] 33 (0, 0))
  box : wr.heap[sb0]? = some (.cells #[.slice A1 n1 c1, .slice A2 n2 c2] 31 (0, 0))
  s1 : STr w.heap.size wr A1 n1 now
  s2 : STr w.heap.size wr A2 n2 firm
  kl : Kl w.heap.size w wr
theorem Die.below {w : World} {sb0 bo p : Nat} {D : Dk} {e : Int} {o : Ov} {now firm : List (List Int)} {A1 : Option Addr} {n1 c1 : Nat} {A2 : Option Addr} {n2 c2 : Nat} {wr wr' : World} (h : Die w sb0 bo p D e o now firm A1 n1 c1 A2 n2 c2 wr) (hb : Below wr.heap.size wr wr') : Die w sb0 bo p D e o now firm A1 n1 c1 A2 n2 c2 wr' :=
  ⟨h.disk.kept hb, h.leaves, (hb.block _ (Array.getElem?_eq_some_iff.1 h.opb).1).trans h.opb, (hb.block _ (Array.getElem?_eq_some_iff.1 h.box).1).trans h.box, h.s1.kept hb h.kl.below.size, h.s2.kept hb h.kl.below.size, h.kl.trans (Kl.of_below hb h.kl.below.size)⟩
theorem Die.oth {w : World} {sb0 bo p : Nat} {D : Dk} {e : Int} {o : Ov} {now firm : List (List Int)} {A1 : Option Addr} {n1 c1 : Nat} {A2 : Option Addr} {n2 c2 : Nat} {wr wr' : World} (h : Die w sb0 bo p D e o now firm A1 n1 c1 A2 n2 c2 wr) {g : Nat} (ho : Oth g wr wr') (hg : w.heap.size ≤ g) (h1 : bo ≠ g) (h2 : sb0 ≠ g) : Die w sb0 bo p D e o now firm A1 n1 c1 A2 n2 c2 wr' :=
  ⟨ho.disk h.disk, h.leaves, (ho.rest _ h1).trans h.opb, (ho.rest _ h2).trans h.box, ho.str h.s1 hg, ho.str h.s2 hg, ho.kl h.kl hg hg⟩
theorem Die.lt {w : World} {sb0 bo p : Nat} {D : Dk} {e : Int} {o : Ov} {now firm : List (List Int)} {A1 : Option Addr} {n1 c1 : Nat} {A2 : Option Addr} {n2 c2 : Nat} {wr : World} (h : Die w sb0 bo p D e o now firm A1 n1 c1 A2 n2 c2 wr) : bo < wr.heap.size ∧ sb0 < wr.heap.size :=
  ⟨(Array.getElem?_eq_some_iff.1 h.opb).1, (Array.getElem?_eq_some_iff.1 h.box).1⟩
set_option maxHeartbeats 8000000 in
theorem law_crash (A : Option Addr) (n c : Nat) (l : List Ov) (x : Int) (A3 : Option Addr) (n3 c3 : Nat) (ks : List (Int × Int)) (w : World) (hR : OReads w A n l) (hK : KReads w A3 n3 ks) (hx : x ≤ 9223372036854775807) :
    Calls Try.prog 5 #[.slice A n c, .int .i64 x, .slice A3 n3 c3] w fun e w' => e = .returned (.bool true) ∧ Below w.heap.size w w' := by
  have HF := Lib.hid (few_any A n c l w hR)
  have HR := Lib.hid hR
  have HKS := Lib.hid hK
  have HXB := Lib.hid hx
  obtain ⟨f, hf⟩ : ∃ f, f = fewL l := ⟨_, rfl⟩
  rw [← hf] at HF
  have HFW := Lib.hid hf
  clear hR hf hK hx
  cases f with
  | false =>
    go_enter Try.func5, Try.ntmps5
    go_wp2_with fail
    refine HF.out.mono ?_
    rintro e w1 ⟨rfl, hb1⟩
    have HB1 := Lib.hid hb1
    clear hb1
    go_wp2_with fail
    refine (alive_any w1).mono ?_
    rintro e w2 ⟨rfl, hb2⟩
    have HB2 := Lib.hid (HB1.out.trans (hb2.mono HB1.out.size))
    clear hb2
    go_wp2_with fail
    go_ret
    exact ⟨rfl, HB2.out⟩
  | true =>
    by_cases h50 : (50 : Int) < (n3 : Int)
    · go_enter Try.func5, Try.ntmps5
      go_wp2_with fail
      refine HF.out.mono ?_
      rintro e w1 ⟨rfl, hb1⟩
      have HB1 := Lib.hid hb1
      clear hb1
      go_wp2_with fail
      refine (alive_any w1).mono ?_
      rintro e w2 ⟨rfl, hb2⟩
      have HB2 := Lib.hid (HB1.out.trans (hb2.mono HB1.out.size))
      clear hb2
      go_wp2_with fail
      go_ret
      exact ⟨rfl, HB2.out⟩
    have hfew := few_ok HFW.out.symm
    rw [HR.out.len] at hfew
    have HFEW := Lib.hid hfew
    have hn120 : n ≤ 120 := hfew.1
    have hn3 : n3 ≤ 50 := by omega
    clear hfew
    go_enter Try.func5, Try.ntmps5
    go_wp2_with fail
    refine HF.out.mono ?_
    rintro e w1 ⟨rfl, hb1⟩
    have HB1 := Lib.hid hb1
    clear hb1
    go_wp2_with fail
    refine (opened_any 60 w1 (by decide) (by decide)).mono ?_
    rintro e w2 ⟨p, q, bv, rfl, hpl, hb2⟩
    have hrun := run_open (w := w) (by decide) (by decide) HB1.out hpl hb2
    obtain ⟨sb0, hsb⟩ : ∃ s, s = w2.heap.size := ⟨_, rfl⟩
    obtain ⟨w3, hw3⟩ : ∃ w3, w3 = w2.alloc (.cells #[.slice none 0 0, .slice none 0 0] 31) := ⟨_, rfl⟩
    have hb3 : Below w2.heap.size w2 w3 := by rw [hw3]; exact box_below w2 _
    have hcr : CRun w q p ⟨2, 29, mk0, []⟩ bv (newD 64) [] [] w3 := by
      have h := hrun.below hb3
      exact ⟨h.pl, ⟨h.al.inv, h.al.dead, rfl⟩, rfl, rfl, newD_len 64, h.kl⟩
    have HX3 : Hid (w3.heap[sb0]? = some (.cells #[.slice none 0 0, .slice none 0 0] 31 (0, 0))) := Lib.hid (by rw [hw3, hsb]; exact new_block w2 _)
    have HCR := Lib.hid hcr
    have HSB : Hid (w.heap.size ≤ sb0) := Lib.hid (by rw [hsb]; exact hrun.kl.below.size)
    have HARM := Lib.hid (arm_any w.heap.size p (newD 64) x w3 hcr.pl.disk HXB.out)
    have HSBE := Lib.hid hsb
    have HW3 := Lib.hid hw3
    clear hpl hb2 hsb hw3 hb3 hcr hrun
    go_upto_region 7 with fail
    rw [← HW3.out, ← HSBE.out]
    go_wp2_with fail
    refine HARM.out.mono ?_
    rintro e w4 ⟨rfl, hd4, hk4⟩
    have HH : Hid (Head w sb0 q p ⟨2, 29, mk0, []⟩ bv { newD 64 with armed := max x 0 } [] [] none 0 0 none 0 0 w4) := Lib.hid ⟨⟨HCR.out.pl.arm hd4 hk4 rfl, cr_arm HCR.out.cr x, rfl, rfl, newD_len 64, HCR.out.kl.trans (Kl.of_kp hk4)⟩, hk4.tag _ _ _ _ HX3.out (by decide) (by decide) (by decide), STr.none _ _, STr.none _ _⟩
    clear hd4 hk4
    go_wp2_with fail
    go_loopw [7, 8, 10, 38] (fun v7 v8 v10 vk wr => ∃ (k nn : Nat) (G : Lg) (bv : Value) (D : Dk) (now firm : List (List Int)) (q p : Nat) (A1 A2 : Option Addr) (n1 c1 n2 c2 : Nat), k ≤ n ∧ nn ≤ k ∧ vk = .int .i64 k ∧ v10 = .int .i64 nn ∧ v7 = .pointer (some ⟨p, 0, none⟩) ∧ v8 = .pointer (some ⟨q, 0, none⟩) ∧ Head w sb0 q p G bv D now firm A1 n1 c1 A2 n2 c2 wr) (fun _ _ _ vk _ => n - (intOf vk).toNat)
    case atStart => exact ⟨0, 0, _, bv, _, [], [], q, p, none, none, 0, 0, 0, 0, Nat.zero_le _, Nat.le_refl _, rfl, rfl, rfl, rfl, HH.out⟩
    case round =>
      obtain ⟨k, nn, G, bv, D, now, firm, q, p, A1, A2, n1, c1, n2, c2, hk, hnn, rfl, rfl, rfl, rfl, hhd⟩ := hrel
      have HHD := Lib.hid hhd
      clear hhd
      by_cases hlt : k < n
      · obtain ⟨b, off, o, rfl, hmem, -, hok, h0, h1, h2⟩ := ov_round HR.out hlt HHD.out.run.kl.below
        have hol : o.len ≤ 60 := HFEW.out.2 o hmem
        obtain ⟨bo, hbo'⟩ : ∃ bo, bo = wr.heap.size := ⟨_, rfl⟩
        obtain ⟨wo, hwo⟩ : ∃ wo, wo = wr.alloc (.cells #[.int .i64 o.k, .string o.S, .slice o.A o.len o.cap] 33) := ⟨_, rfl⟩
        have hbo : Below wr.heap.size wr wo := by rw [hwo]; exact box_below wr _
        have HHO := Lib.hid (HHD.out.below hbo)
        have hbo2 : wo.heap[bo]? = some (.cells #[.int .i64 o.k, .string o.S, .slice o.A o.len o.cap] 33 (0, 0)) := by rw [hwo, hbo']; exact new_block wr _
        have HBO2 := Lib.hid hbo2
        have HWO := Lib.hid hwo
        have HBE := Lib.hid hbo'
        have HOK := Lib.hid hok
        have HD := Lib.hid (cut_does HHO.out.run hok hol)
        have hk0 : (0 : Int) ≤ (k : Int) := by omega
        have hk1 : (k : Int) < (n : Int) := by omega
        have hk2 : (k : Int) ≤ 120 := by omega
        clear hwo hbo hbo2 hok hmem hbo'
        go_upto_region 12 with fail
        rw [← HWO.out, ← HBE.out]
        have o0 := cell_of HBO2.out (j := 0) rfl
        have o1 := cell_of HBO2.out (j := 1) rfl
        have o2 := cell_of HBO2.out (j := 2) rfl
        go_wp2_with fail
        refine HD.out.mono ?_
        rintro e w5 ⟨G5, D5, e5, bv5, rfl, hpl5, hcut, hk5⟩
        have HBO5 : Hid (w5.heap[bo]? = some (.cells #[.int .i64 o.k, .string o.S, .slice o.A o.len o.cap] 33 (0, 0))) := Lib.hid (hk5.tag _ _ _ _ HBO2.out (by decide))
        have hx5 : w5.heap[sb0]? = some (.cells #[.slice A1 n1 c1, .slice A2 n2 c2] 31 (0, 0)) := hk5.tag _ _ _ _ HHO.out.box (by decide)
        have HX5 := Lib.hid hx5
        have HS15 := Lib.hid (HHO.out.s1.kl hk5)
        have HS25 := Lib.hid (HHO.out.s2.kl hk5)
        have HKL5 := Lib.hid (HHO.out.run.kl.trans hk5)
        have HPL5 := Lib.hid hpl5
        have HCUT := Lib.hid hcut
        have hnl := (crun_len HHO.out.run).1
        have HNL := Lib.hid hnl
        clear hpl5 hcut hk5 hx5 hnl o0 o1 o2 h0 h1 h2
        by_cases he : e5 = 40
        · subst he
          have HDI : Hid (Die w sb0 bo p D5 40 o now firm A1 n1 c1 A2 n2 c2 w5) := Lib.hid (by
            obtain ⟨-, -, h3, h4⟩ := HCUT.out
            rcases h4 with ⟨h4, -⟩ | ⟨-, h4⟩
            · exact absurd rfl h4
            · exact ⟨HPL5.out.disk, cut_leaves h4 HHO.out.run.fr HHO.out.run.size (h3.trans HHO.out.run.len), HBO5.out, HX5.out, HS15.out, HS25.out, HKL5.out⟩)
          have HPK0 := Lib.hid (HKS.out.kept HDI.out.kl.below)
          obtain ⟨pb, hpb⟩ : ∃ b, b = w5.heap.size := ⟨_, rfl⟩
          obtain ⟨w8, hw8⟩ : ∃ w8, w8 = w5.alloc (.cells #[.int .i64 0, .int .i64 0] 52) := ⟨_, rfl⟩
          have hb8 : Below w5.heap.size w5 w8 := by rw [hw8]; exact box_below _ _
          have HD8 := Lib.hid (HDI.out.below hb8)
          have HPK := Lib.hid (HPK0.out.kept hb8)
          have hx8 : w8.heap[pb]? = some (.cells #[.int .i64 0, .int .i64 0] 52 (0, 0)) := by rw [hw8, hpb]; exact new_block _ _
          have HX8 := Lib.hid hx8
          have HPB : Hid (w.heap.size ≤ pb ∧ bo ≠ pb ∧ sb0 ≠ pb) := Lib.hid (by
            have h1 := HDI.out.lt
            have h2 := HDI.out.kl.below.size
            rw [hpb]; omega)
          have HW8 := Lib.hid hw8
          have HPBE := Lib.hid hpb
          clear hpb hw8 hb8 hx8
          go_upto_region 17 with fail
          rw [← HW8.out, ← HPBE.out]
          by_cases hp : nn < n3
          case' pos =>
            obtain ⟨b3, off3, rfl, hc3⟩ := HPK.out.2 (by omega)
            obtain ⟨hK1, hK2⟩ := hc3 nn hp
            obtain ⟨K, hKe⟩ : ∃ K, K = (ks.getD nn (0, 0)).1 := ⟨_, rfl⟩
            obtain ⟨T, hTe⟩ : ∃ K, K = (ks.getD nn (0, 0)).2 := ⟨_, rfl⟩
            rw [← hKe] at hK1
            rw [← hTe] at hK2
            have hq0 : (0 : Int) ≤ (nn : Int) := by omega
            have hq1 : (nn : Int) < (n3 : Int) := by omega
            obtain ⟨w9, hw9⟩ : ∃ w9, w9 = (w8.setCell ⟨pb, 0, none⟩ (.int .i64 K)).setCell ⟨pb, 1, none⟩ (.int .i64 T) := ⟨_, rfl⟩
            obtain ⟨hot, hx9⟩ := oth_set2 HX8.out (by decide) (.int .i64 K) (.int .i64 T)
            rw [← hw9] at hot hx9
            have HD9 := Lib.hid (HD8.out.oth hot HPB.out.1 HPB.out.2.1 HPB.out.2.2)
            have HX9 : Hid (∃ K T : Int, w9.heap[pb]? = some (.cells #[.int .i64 K, .int .i64 T] 52 (0, 0))) := Lib.hid ⟨K, T, hx9⟩
            have f0 := frozen_of_row w8 pb 0 _ _ HX8.out
            have f1 := frozen_of_row w8 pb 1 _ _ HX8.out
            have z0 := cell_of HX8.out (j := 0) rfl
            have z1 := cell_of HX8.out (j := 1) rfl
            have HW9 := Lib.hid hw9
            clear hc3 hKe hTe hw9 hot hx9
            go_upto_region 19 with fail
            rw [← HW9.out]
            clear f0 f1 z0 z1 hK1 hK2
          case' neg =>
            have hq0 : (0 : Int) ≤ (nn : Int) := by omega
            have hq1 : ¬ (nn : Int) < (n3 : Int) := by omega
            obtain ⟨w9, hw9⟩ : ∃ w9, w9 = w8 := ⟨_, rfl⟩
            have HD9 : Hid (Die w sb0 bo p D5 40 o now firm A1 n1 c1 A2 n2 c2 w9) := Lib.hid (by rw [hw9]; exact HD8.out)
            have HX9 : Hid (∃ K T : Int, w9.heap[pb]? = some (.cells #[.int .i64 K, .int .i64 T] 52 (0, 0))) := Lib.hid ⟨0, 0, by rw [hw9]; exact HX8.out⟩
            have HW9 := Lib.hid hw9
            clear hw9
            go_upto_region 19 with fail
            rw [← HW9.out]
          all_goals
            clear hp hq0 hq1
            obtain ⟨K, T, hx9⟩ := HX9.out
            have z0 := cell_of hx9 (j := 0) rfl
            have z1 := cell_of hx9 (j := 1) rfl
            have HCRA := Lib.hid (crash_any w.heap.size p D5 K T w9 HD9.out.disk (by rw [HD9.out.leaves.2.1]; decide) HD9.out.leaves.1)
            obtain ⟨fl, m, hfl, hrok, hhold⟩ := HD9.out.leaves.2.2 K T
            have HFL := Lib.hid hfl
            have HROK := Lib.hid hrok
            have HHOLD := Lib.hid hhold
            have hnn0 : (0 : Int) ≤ (nn : Int) := by omega
            have hnn1 : (nn : Int) ≤ 120 := by omega
            clear hx9 hfl hrok hhold
            go_wp2_with fail
            refine HCRA.out.mono ?_
            rintro e w10 ⟨p10, rfl, hp10, hb10⟩
            have HD10 := Lib.hid (HD9.out.below hb10)
            have HOP := Lib.hid (open_found w.heap.size p10 2 60 29 m fl (crash D5 K T) w10 (hp10.mono HD9.out.kl.below.size) HD10.out.kl.below.size rfl (by rw [crash_flen, HD9.out.leaves.2.1]; decide) (by decide) (by rw [crash_flen, HD9.out.leaves.2.1]; decide) rfl HHOLD.out HROK.out)
            clear hp10 hb10 z0 z1
            go_wp2_with fail
            refine HOP.out.mono ?_
            rintro e w11 ⟨q11, bv11, rfl, hpl11, -, hb11⟩
            have HD11 := Lib.hid (HD10.out.below hb11)
            have HPL11 := Lib.hid hpl11
            have HAL := Lib.hid (all_any w.heap.size q11 p10 _ bv11 _ fl w11 hpl11 rfl HROK.out)
            clear hpl11 hb11
            go_wp2_with fail
            refine HAL.out.mono ?_
            rintro e w12 ⟨v12, rfl, ho12, hb12⟩
            obtain ⟨nf, hnfe⟩ : ∃ m, m = fl.length := ⟨_, rfl⟩
            rw [← hnfe] at ho12
            obtain ⟨Af, cf, rfl, hsf, -, -⟩ := own_str (B := w.heap.size) ho12 (fun s hs => (HROK.out s hs).2)
            have HSF := Lib.hid hsf
            have HD12 := Lib.hid (HD11.out.below hb12)
            have HPL12 := Lib.hid (HPL11.out.kept hb12)
            have hnf : nf ≤ 100000000 := by
              have h1 := need_len fl
              have h2 := HHOLD.out.room
              rw [enc_length] at h2
              omega
            have z1 := cell_of HD12.out.box (j := 1) rfl
            clear hnfe ho12 hsf hb12
            by_cases hl : fl = firm
            case' pos =>
              have HSM : Hid (Calls Try.prog 17 #[.slice Af nf cf, .slice A2 n2 c2] w12 fun e w' => e = .returned (.bool true) ∧ ∃ k, w' = w12.drewN k) := Lib.hid (by
                have h := same_any Af A2 nf n2 cf c2 fl firm w12 HSF.out.1 HD12.out.s2.1 hnf
                rw [decide_eq_true hl] at h
                exact h)
              clear hl
              go_wp2_with fail
              refine HSM.out.mono ?_
              rintro e w14 ⟨rfl, m14, hw14⟩
              have hb14 : Below w12.heap.size w12 w14 := by rw [hw14]; exact below_drewN (Below.refl _ _) _
              clear hw14
              go_upto_region 29 with fail
            case' neg =>
              have hnx : fl = nextL o.k now firm o.all := HFL.out.elim (fun h => absurd h hl) (fun h => h.2)
              have HSM : Hid (Calls Try.prog 17 #[.slice Af nf cf, .slice A2 n2 c2] w12 fun e w' => e = .returned (.bool false) ∧ ∃ k, w' = w12.drewN k) := Lib.hid (by
                have h := same_any Af A2 nf n2 cf c2 fl firm w12 HSF.out.1 HD12.out.s2.1 hnf
                rw [decide_eq_false hl] at h
                exact h)
              have HNX := Lib.hid hnx
              clear hl hnx
              go_wp2_with fail
              refine HSM.out.mono ?_
              rintro e w13 ⟨rfl, m13, hw13⟩
              have hb13 : Below w12.heap.size w12 w13 := by rw [hw13]; exact below_drewN (Below.refl _ _) _
              have HB13 := Lib.hid hb13
              have HD13 := Lib.hid (HD12.out.below hb13)
              have y0 := cell_of HD13.out.box (j := 0) rfl
              have y1 := cell_of HD13.out.box (j := 1) rfl
              have x0 := cell_of HD13.out.opb (j := 0) rfl
              have x1 := cell_of HD13.out.opb (j := 1) rfl
              have x2 := cell_of HD13.out.opb (j := 2) rfl
              have HNE := Lib.hid (rnext_any A1 A2 o.A n1 c1 n2 c2 o.len o.cap o.k o.S w13)
              clear hw13 hb13 z1
              go_wp2_with fail
              refine HNE.out.mono ?_
              rintro e w15 ⟨rfl, hb15⟩
              have HB15 := Lib.hid (HB13.out.trans (hb15.mono HB13.out.size))
              have HD15 := Lib.hid (HD12.out.below HB15.out)
              obtain ⟨Ax, nx, cx, hv, hsx⟩ := next_str (c1 := c1) (c2 := c2) (c3 := o.cap) HD15.out.s1 HD15.out.s2 (ov_str HOK.out HD15.out.kl)
              rw [hv]
              rw [← HNX.out] at hsx
              have HSN := Lib.hid (same_true Af Ax nf nx cf cx fl w15 (HSF.out.kept HB15.out HD12.out.kl.below.size).1 hsx.1 hnf)
              clear hv hsx hb15 y0 y1 x0 x1 x2
              go_wp2_with fail
              refine HSN.out.mono ?_
              rintro e w14 ⟨rfl, m14, hw14⟩
              have hb14 : Below w12.heap.size w12 w14 := HB15.out.trans (by rw [hw14]; exact (below_drewN (Below.refl _ _) _).mono HB15.out.size)
              clear hw14
              go_upto_region 29 with fail
            all_goals
              try clear z1
              have HD14 := Lib.hid (HD12.out.below hb14)
              have HPL14 := Lib.hid (HPL12.out.kept hb14)
              have HSF14 := Lib.hid (HSF.out.kept hb14 HD12.out.kl.below.size)
              have hx14 := HD14.out.box
              obtain ⟨w16, hw16⟩ : ∃ w16, w16 = (w14.setCell ⟨sb0, 0, none⟩ (.slice Af nf cf)).setCell ⟨sb0, 1, none⟩ (.slice Af nf cf) := ⟨_, rfl⟩
              obtain ⟨hot, hx16⟩ := oth_set2 hx14 (by decide) (.slice Af nf cf) (.slice Af nf cf)
              rw [← hw16] at hot hx16
              have HPL16 := Lib.hid (hot.pl HPL14.out)
              have HSF16 := Lib.hid (hot.str HSF14.out HSB.out)
              have HX16 := Lib.hid hx16
              have HKL16 := Lib.hid (hot.kl HD14.out.kl HSB.out HSB.out)
              have f0 := frozen_of_row w14 sb0 0 _ _ hx14
              have f1 := frozen_of_row w14 sb0 1 _ _ hx14
              have z0 := cell_of hx14 (j := 0) rfl
              have z2 := cell_of hx14 (j := 1) rfl
              have HW16 := Lib.hid hw16
              have HAR := Lib.hid (arm_any w.heap.size p10 (crash D5 K T) x w16 HPL16.out.disk HXB.out)
              clear hb14 hx14 hw16 hot hx16
              go_upto_region 30 with fail
              rw [← HW16.out]
              clear f0 f1 z0 z2
              go_wp2_with fail
              refine HAR.out.mono ?_
              rintro e w17 ⟨rfl, hd17, hk17⟩
              have HH17 : Hid (Head w sb0 q11 p10 ⟨2, 29, m, enc fl⟩ bv11 { crash D5 K T with armed := max x 0 } fl fl Af nf cf Af nf cf w17) := Lib.hid ⟨⟨HPL16.out.arm hd17 hk17 rfl, cr_arm (cr_crash HROK.out HHOLD.out) x, rfl, rfl, (crash_flen D5 K T).trans HD9.out.leaves.2.1, HKL16.out.trans (Kl.of_kp hk17)⟩, hk17.tag _ _ _ _ HX16.out (by decide) (by decide) (by decide), HSF16.out.kl (Kl.of_kp hk17), HSF16.out.kl (Kl.of_kp hk17)⟩
              clear hd17 hk17
              go_wp2_with fail
              go_round
              case rel => exact ⟨k + 1, nn + 1, _, bv11, _, fl, fl, q11, p10, Af, Af, nf, cf, nf, cf, by omega, by omega, by go_num, by go_num, rfl, rfl, HH17.out⟩
              case measure => simp [intOf]; omega
        · have hb40 : (e5 == 40) = false := by simpa using he
          have HE := Lib.hid he
          have p0 := cell_of HBO5.out (j := 0) rfl
          have p1 := cell_of HBO5.out (j := 1) rfl
          have p2 := cell_of HBO5.out (j := 2) rfl
          have s0 := cell_of HX5.out (j := 0) rfl
          have s1 := cell_of HX5.out (j := 1) rfl
          have HRD := Lib.hid (rdo_any w.heap.size A1 A2 o.A n1 c1 n2 c2 o.len o.cap o.k e5 o.S now firm o.all w5 HKL5.out.below.size HS15.out HS25.out (ov_str HOK.out HKL5.out) (by rw [← HS15.out.1.1]; have := HNL.out; omega))
          clear he
          go_wp2_with fail
          refine HRD.out.mono ?_
          rintro e w6 ⟨A6, n6, c6, A7, n7, c7, rfl, hs6, hs7, hb6⟩
          obtain ⟨now6, hnow6⟩ : ∃ x, x = doNow o.k e5 (sb o.S) o.all now := ⟨_, rfl⟩
          obtain ⟨firm6, hfirm6⟩ : ∃ x, x = doFirm o.k e5 o.all now firm := ⟨_, rfl⟩
          rw [← hnow6] at hs6
          rw [← hfirm6] at hs7
          have hbo6 : w6.heap[bo]? = some (.cells #[.int .i64 o.k, .string o.S, .slice o.A o.len o.cap] 33 (0, 0)) := (hb6.block _ (Array.getElem?_eq_some_iff.1 HBO5.out).1).trans HBO5.out
          have hx6 : w6.heap[sb0]? = some (.cells #[.slice A1 n1 c1, .slice A2 n2 c2] 31 (0, 0)) := (hb6.block _ (Array.getElem?_eq_some_iff.1 HX5.out).1).trans HX5.out
          obtain ⟨w7, hw7⟩ : ∃ w7, w7 = (w6.setCell ⟨sb0, 0, none⟩ (.slice A6 n6 c6)).setCell ⟨sb0, 1, none⟩ (.slice A7 n7 c7) := ⟨_, rfl⟩
          obtain ⟨hot, hx7⟩ := oth_set2 hx6 (by decide) (.slice A6 n6 c6) (.slice A7 n7 c7)
          rw [← hw7] at hot hx7
          have hkl6 : Kl w.heap.size w w6 := HKL5.out.trans (Kl.of_below hb6 HKL5.out.below.size)
          have hcr : G5.fr = G.fr ∧ G5.sz = G.sz ∧ D5.firm.length = D.firm.length ∧ Cr G5 D5 now6 firm6 := by
            obtain ⟨h1, h2, h3, h4⟩ := HCUT.out
            rcases h4 with ⟨-, h4⟩ | ⟨h4, -⟩
            · rw [hnow6, hfirm6]; exact ⟨h1, h2, h3, h4⟩
            · exact absurd h4 HE.out
          obtain ⟨hg1, hg2, hg3, hg4⟩ := hcr
          have HH7 : Hid (Head w sb0 q p G5 bv5 D5 now6 firm6 A6 n6 c6 A7 n7 c7 w7) := Lib.hid ⟨⟨hot.pl (HPL5.out.kept hb6), hg4, hg1.trans HHO.out.run.fr, hg2.trans HHO.out.run.size, hg3.trans HHO.out.run.len, hot.kl hkl6 HSB.out HSB.out⟩, hx7, hot.str hs6 HSB.out, hot.str hs7 HSB.out⟩
          have HBO7 : Hid (w7.heap[bo]? = some (.cells #[.int .i64 o.k, .string o.S, .slice o.A o.len o.cap] 33 (0, 0))) := Lib.hid ((hot.rest _ (fun e => by
            rw [e, hx6] at hbo6
            injection hbo6 with h
            injection h with _ h _
            exact absurd h (by decide))).trans hbo6)
          have HDI : Hid (Die w sb0 bo p D5 e5 o now6 firm6 A6 n6 c6 A7 n7 c7 w7) := Lib.hid ⟨HH7.out.run.pl.disk, idle_leaves hg4 HH7.out.run.fr HH7.out.run.size HH7.out.run.len _ _, HBO7.out, HH7.out.box, HH7.out.s1, HH7.out.s2, HH7.out.run.kl⟩
          have f0 := frozen_of_row w6 sb0 0 _ _ hx6
          have f1 := frozen_of_row w6 sb0 1 _ _ hx6
          have z0 := cell_of hx6 (j := 0) rfl
          have z1 := cell_of hx6 (j := 1) rfl
          have HW7 := Lib.hid hw7
          clear hs6 hs7 hb6 hnow6 hfirm6 hx6 hbo6 hw7 hot hx7 hkl6 hg1 hg2 hg3 hg4 p0 p1 p2 s0 s1
          go_upto_region 15 with fail
          rw [← HW7.out]
          clear f0 f1 z0 z1
          by_cases h7 : (k : Int) % 7 = 6
          · have hb7 : (((k : Int) % 7) != 6) = false := by simp [h7]
            have HPK0 := Lib.hid (HKS.out.kept HDI.out.kl.below)
            obtain ⟨pb, hpb⟩ : ∃ b, b = w7.heap.size := ⟨_, rfl⟩
            obtain ⟨w8, hw8⟩ : ∃ w8, w8 = w7.alloc (.cells #[.int .i64 0, .int .i64 0] 52) := ⟨_, rfl⟩
            have hb8 : Below w7.heap.size w7 w8 := by rw [hw8]; exact box_below _ _
            have HD8 := Lib.hid (HDI.out.below hb8)
            have HPK := Lib.hid (HPK0.out.kept hb8)
            have hx8 : w8.heap[pb]? = some (.cells #[.int .i64 0, .int .i64 0] 52 (0, 0)) := by rw [hw8, hpb]; exact new_block _ _
            have HX8 := Lib.hid hx8
            have HPB : Hid (w.heap.size ≤ pb ∧ bo ≠ pb ∧ sb0 ≠ pb) := Lib.hid (by
              have h1 := HDI.out.lt
              have h2 := HDI.out.kl.below.size
              rw [hpb]; omega)
            have HW8 := Lib.hid hw8
            have HPBE := Lib.hid hpb
            clear hpb hw8 hb8 hx8
            go_upto_region 17 with fail
            rw [← HW8.out, ← HPBE.out]
            by_cases hp : nn < n3
            case' pos =>
              obtain ⟨b3, off3, rfl, hc3⟩ := HPK.out.2 (by omega)
              obtain ⟨hK1, hK2⟩ := hc3 nn hp
              obtain ⟨K, hKe⟩ : ∃ K, K = (ks.getD nn (0, 0)).1 := ⟨_, rfl⟩
              obtain ⟨T, hTe⟩ : ∃ K, K = (ks.getD nn (0, 0)).2 := ⟨_, rfl⟩
              rw [← hKe] at hK1
              rw [← hTe] at hK2
              have hq0 : (0 : Int) ≤ (nn : Int) := by omega
              have hq1 : (nn : Int) < (n3 : Int) := by omega
              obtain ⟨w9, hw9⟩ : ∃ w9, w9 = (w8.setCell ⟨pb, 0, none⟩ (.int .i64 K)).setCell ⟨pb, 1, none⟩ (.int .i64 T) := ⟨_, rfl⟩
              obtain ⟨hot, hx9⟩ := oth_set2 HX8.out (by decide) (.int .i64 K) (.int .i64 T)
              rw [← hw9] at hot hx9
              have HD9 := Lib.hid (HD8.out.oth hot HPB.out.1 HPB.out.2.1 HPB.out.2.2)
              have HX9 : Hid (∃ K T : Int, w9.heap[pb]? = some (.cells #[.int .i64 K, .int .i64 T] 52 (0, 0))) := Lib.hid ⟨K, T, hx9⟩
              have f0 := frozen_of_row w8 pb 0 _ _ HX8.out
              have f1 := frozen_of_row w8 pb 1 _ _ HX8.out
              have z0 := cell_of HX8.out (j := 0) rfl
              have z1 := cell_of HX8.out (j := 1) rfl
              have HW9 := Lib.hid hw9
              clear hc3 hKe hTe hw9 hot hx9
              go_upto_region 19 with fail
              rw [← HW9.out]
              clear f0 f1 z0 z1 hK1 hK2
            case' neg =>
              have hq0 : (0 : Int) ≤ (nn : Int) := by omega
              have hq1 : ¬ (nn : Int) < (n3 : Int) := by omega
              obtain ⟨w9, hw9⟩ : ∃ w9, w9 = w8 := ⟨_, rfl⟩
              have HD9 : Hid (Die w sb0 bo p D5 e5 o now6 firm6 A6 n6 c6 A7 n7 c7 w9) := Lib.hid (by rw [hw9]; exact HD8.out)
              have HX9 : Hid (∃ K T : Int, w9.heap[pb]? = some (.cells #[.int .i64 K, .int .i64 T] 52 (0, 0))) := Lib.hid ⟨0, 0, by rw [hw9]; exact HX8.out⟩
              have HW9 := Lib.hid hw9
              clear hw9
              go_upto_region 19 with fail
              rw [← HW9.out]
            all_goals
              clear hp hq0 hq1
              obtain ⟨K, T, hx9⟩ := HX9.out
              have z0 := cell_of hx9 (j := 0) rfl
              have z1 := cell_of hx9 (j := 1) rfl
              have HCRA := Lib.hid (crash_any w.heap.size p D5 K T w9 HD9.out.disk (by rw [HD9.out.leaves.2.1]; decide) HD9.out.leaves.1)
              obtain ⟨fl, m, hfl, hrok, hhold⟩ := HD9.out.leaves.2.2 K T
              have HFL := Lib.hid hfl
              have HROK := Lib.hid hrok
              have HHOLD := Lib.hid hhold
              have hnn0 : (0 : Int) ≤ (nn : Int) := by omega
              have hnn1 : (nn : Int) ≤ 120 := by omega
              clear hx9 hfl hrok hhold
              go_wp2_with fail
              refine HCRA.out.mono ?_
              rintro e w10 ⟨p10, rfl, hp10, hb10⟩
              have HD10 := Lib.hid (HD9.out.below hb10)
              have HOP := Lib.hid (open_found w.heap.size p10 2 60 29 m fl (crash D5 K T) w10 (hp10.mono HD9.out.kl.below.size) HD10.out.kl.below.size rfl (by rw [crash_flen, HD9.out.leaves.2.1]; decide) (by decide) (by rw [crash_flen, HD9.out.leaves.2.1]; decide) rfl HHOLD.out HROK.out)
              clear hp10 hb10 z0 z1
              go_wp2_with fail
              refine HOP.out.mono ?_
              rintro e w11 ⟨q11, bv11, rfl, hpl11, -, hb11⟩
              have HD11 := Lib.hid (HD10.out.below hb11)
              have HPL11 := Lib.hid hpl11
              have HAL := Lib.hid (all_any w.heap.size q11 p10 _ bv11 _ fl w11 hpl11 rfl HROK.out)
              clear hpl11 hb11
              go_wp2_with fail
              refine HAL.out.mono ?_
              rintro e w12 ⟨v12, rfl, ho12, hb12⟩
              obtain ⟨nf, hnfe⟩ : ∃ m, m = fl.length := ⟨_, rfl⟩
              rw [← hnfe] at ho12
              obtain ⟨Af, cf, rfl, hsf, -, -⟩ := own_str (B := w.heap.size) ho12 (fun s hs => (HROK.out s hs).2)
              have HSF := Lib.hid hsf
              have HD12 := Lib.hid (HD11.out.below hb12)
              have HPL12 := Lib.hid (HPL11.out.kept hb12)
              have hnf : nf ≤ 100000000 := by
                have h1 := need_len fl
                have h2 := HHOLD.out.room
                rw [enc_length] at h2
                omega
              have z1 := cell_of HD12.out.box (j := 1) rfl
              clear hnfe ho12 hsf hb12
              have hl : fl = firm6 := HFL.out.elim id (fun h => absurd h.1 HE.out)
              have HSM : Hid (Calls Try.prog 17 #[.slice Af nf cf, .slice A7 n7 c7] w12 fun e w' => e = .returned (.bool true) ∧ ∃ k, w' = w12.drewN k) := Lib.hid (by
                have h := same_any Af A7 nf n7 cf c7 fl firm6 w12 HSF.out.1 HD12.out.s2.1 hnf
                rw [decide_eq_true hl] at h
                exact h)
              clear hl
              go_wp2_with fail
              refine HSM.out.mono ?_
              rintro e w14 ⟨rfl, m14, hw14⟩
              have hb14 : Below w12.heap.size w12 w14 := by rw [hw14]; exact below_drewN (Below.refl _ _) _
              clear hw14
              go_upto_region 29 with fail
              try clear z1
              have HD14 := Lib.hid (HD12.out.below hb14)
              have HPL14 := Lib.hid (HPL12.out.kept hb14)
              have HSF14 := Lib.hid (HSF.out.kept hb14 HD12.out.kl.below.size)
              have hx14 := HD14.out.box
              obtain ⟨w16, hw16⟩ : ∃ w16, w16 = (w14.setCell ⟨sb0, 0, none⟩ (.slice Af nf cf)).setCell ⟨sb0, 1, none⟩ (.slice Af nf cf) := ⟨_, rfl⟩
              obtain ⟨hot, hx16⟩ := oth_set2 hx14 (by decide) (.slice Af nf cf) (.slice Af nf cf)
              rw [← hw16] at hot hx16
              have HPL16 := Lib.hid (hot.pl HPL14.out)
              have HSF16 := Lib.hid (hot.str HSF14.out HSB.out)
              have HX16 := Lib.hid hx16
              have HKL16 := Lib.hid (hot.kl HD14.out.kl HSB.out HSB.out)
              have f0 := frozen_of_row w14 sb0 0 _ _ hx14
              have f1 := frozen_of_row w14 sb0 1 _ _ hx14
              have z0 := cell_of hx14 (j := 0) rfl
              have z2 := cell_of hx14 (j := 1) rfl
              have HW16 := Lib.hid hw16
              have HAR := Lib.hid (arm_any w.heap.size p10 (crash D5 K T) x w16 HPL16.out.disk HXB.out)
              clear hb14 hx14 hw16 hot hx16
              go_upto_region 30 with fail
              rw [← HW16.out]
              clear f0 f1 z0 z2
              go_wp2_with fail
              refine HAR.out.mono ?_
              rintro e w17 ⟨rfl, hd17, hk17⟩
              have HH17 : Hid (Head w sb0 q11 p10 ⟨2, 29, m, enc fl⟩ bv11 { crash D5 K T with armed := max x 0 } fl fl Af nf cf Af nf cf w17) := Lib.hid ⟨⟨HPL16.out.arm hd17 hk17 rfl, cr_arm (cr_crash HROK.out HHOLD.out) x, rfl, rfl, (crash_flen D5 K T).trans HD9.out.leaves.2.1, HKL16.out.trans (Kl.of_kp hk17)⟩, hk17.tag _ _ _ _ HX16.out (by decide) (by decide) (by decide), HSF16.out.kl (Kl.of_kp hk17), HSF16.out.kl (Kl.of_kp hk17)⟩
              clear hd17 hk17
              go_wp2_with fail
              go_round
              case rel => exact ⟨k + 1, nn + 1, _, bv11, _, fl, fl, q11, p10, Af, Af, nf, cf, nf, cf, by omega, by omega, by go_num, by go_num, rfl, rfl, HH17.out⟩
              case measure => simp [intOf]; omega
          · have hb7 : (((k : Int) % 7) != 6) = true := by simp [h7]
            go_wp2_with fail
            go_round
            case rel => exact ⟨k + 1, nn, G5, bv5, D5, now6, firm6, q, p, A6, A7, n6, c6, n7, c7, by omega, by omega, by go_num, rfl, rfl, rfl, HH7.out⟩
            case measure => simp [intOf]; omega
      · obtain rfl : k = n := by omega
        have hk1 : ¬ (k : Int) < (k : Int) := by omega
        go_wp2_with fail
        refine (alive_any wr).mono ?_
        rintro e w3 ⟨rfl, hb3⟩
        have HH3 := Lib.hid (HHD.out.below hb3)
        clear hb3
        go_wp2_with fail
        go_ret
        exact ⟨rfl, HH3.out.run.kl.below⟩
end Go.Proofs.Ytdbpnfceabklkaa
