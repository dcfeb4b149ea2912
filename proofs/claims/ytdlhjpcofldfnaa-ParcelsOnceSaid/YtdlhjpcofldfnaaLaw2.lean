/-
  ParcelsOnce: the law returns true of every script. No condition.
-/
import Derived.Test.YtdlhjpcofldfnaaSent
import Derived.Test.YtdlhjpcofldfnaaLaw4
import Derived.BigQuiet
namespace Go.Proofs.Ytdlhjpcofldfnaa
set_option maxRecDepth 100000
open Go.ChangeShapes Go.WideShapes Go.ChangeAt Go.RowKit

/-! ### What is on its way was sent -/
theorem first_at (S : List Pk) (x : Pk) (h : x ∈ S) : ∃ j, j < S.length ∧ S.getD j pk0 = x ∧ (∀ i, i < j → S.getD i pk0 ≠ x) ∧ S.Perm (x :: S.eraseIdx j) := by
  induction S with
  | nil => cases h
  | cons y S ih =>
    by_cases e : y = x
    · subst e
      exact ⟨0, by simp, rfl, fun i hi => by omega, List.Perm.refl _⟩
    · have hx : x ∈ S := by
        rcases List.mem_cons.1 h with e2 | e2
        · exact absurd e2.symm e
        · exact e2
      obtain ⟨j, h1, h2, h3, h4⟩ := ih hx
      refine ⟨j + 1, by simpa using h1, h2, fun i hi => ?_, ?_⟩
      · cases i with
        | zero => exact e
        | succ i => exact h3 i (by omega)
      · rw [List.eraseIdx_cons_succ]
        exact (List.Perm.cons y h4).trans (List.Perm.swap x y _)
theorem erase_perm (L : List Pk) (k : Nat) (h : k < L.length) : L.Perm (L.getD k pk0 :: L.eraseIdx k) := by
  induction L generalizing k with
  | nil => cases h
  | cons y L ih =>
    cases k with
    | zero => exact List.Perm.refl _
    | succ k =>
      rw [List.eraseIdx_cons_succ]
      exact (List.Perm.cons y (ih k (by simpa using h))).trans (List.Perm.swap _ y _)
theorem once_step {L S R : List Pk} (ap : List (Int × Int)) {o : Po} (h : (L ++ R).Perm S) (h2 : o.k ≠ 2) :
    (o.k = 0 ∧ (doL L ap o).is = true ∧ ∃ R' : List Pk, ((doL L ap o).L ++ R').Perm (S ++ [o.p])) ∨
    (o.k = 1 ∧ (doL L ap o).is = true ∧ ∃ (j : Nat) (R' : List Pk), j < S.length ∧ S.getD j pk0 = (doL L ap o).x ∧ (∀ i, i < j → S.getD i pk0 ≠ (doL L ap o).x) ∧ ((doL L ap o).L ++ R').Perm (S.eraseIdx j)) ∨
    (((o.k = 0 ∧ (doL L ap o).is = false) ∨ (o.k = 1 ∧ (doL L ap o).is = false) ∨ (o.k ≠ 0 ∧ o.k ≠ 1)) ∧ ∃ R' : List Pk, ((doL L ap o).L ++ R').Perm S) := by
  unfold doL
  by_cases k0 : o.k = 0
  · rw [if_pos k0]
    by_cases hs : canSend L ap o.p = true
    · refine .inl ⟨k0, hs, R, ?_⟩
      rw [if_pos hs]
      show ((L ++ [o.p]) ++ R).Perm (S ++ [o.p])
      rw [List.append_assoc]
      refine (List.Perm.append_left L (List.perm_append_comm (l₁ := [o.p]) (l₂ := R))).trans ?_
      rw [← List.append_assoc]
      exact List.Perm.append_right _ h
    · refine .inr (.inr ⟨.inl ⟨k0, by simpa using hs⟩, R, ?_⟩)
      rw [if_neg hs]
      exact h
  rw [if_neg k0]
  by_cases k1 : o.k = 1
  · rw [if_pos k1]
    by_cases hs : (atL L o.K).2 = true
    · obtain ⟨n, hn, hlt⟩ := at_true hs
      have hx : (atL L o.K).1 = L.getD n pk0 := by
        unfold atL
        rw [hn, if_pos ⟨by omega, by omega⟩]
        rfl
      have ht : tkL L o.K = L.eraseIdx n := by
        unfold tkL
        rw [if_pos hs, hn]
        rfl
      have hp := erase_perm L n hlt
      have hm : L.getD n pk0 ∈ S := h.mem_iff.1 (List.mem_append_left _ (hp.mem_iff.2 List.mem_cons_self))
      obtain ⟨j, h1, h2, h3, h4⟩ := first_at S _ hm
      refine .inr (.inl ⟨k1, hs, j, R, h1, ?_, ?_, ?_⟩)
      · show S.getD j pk0 = (atL L o.K).1
        rw [hx]; exact h2
      · show ∀ i, i < j → S.getD i pk0 ≠ (atL L o.K).1
        rw [hx]; exact h3
      · show (tkL L o.K ++ R).Perm (S.eraseIdx j)
        rw [ht]
        exact List.Perm.cons_inv ((List.Perm.append_right R hp.symm).trans (h.trans h4))
    · have hs' : (atL L o.K).2 = false := by simpa using hs
      refine .inr (.inr ⟨.inr (.inl ⟨k1, hs'⟩), R, ?_⟩)
      show (tkL L o.K ++ R).Perm S
      unfold tkL
      rw [if_neg hs]
      exact h
  rw [if_neg k1, if_neg h2]
  refine .inr (.inr ⟨.inr (.inr ⟨k0, k1⟩), ?_⟩)
  by_cases k3 : o.k = 3
  · rw [if_pos k3]
    refine ⟨(L.filter fun x => !(!btw (min o.K o.J) (max o.K o.J) x)) ++ R, ?_⟩
    show (keepF _ _ L ++ _).Perm S
    rw [← List.append_assoc]
    exact (List.Perm.append_right R (List.filter_append_perm _ L)).trans h
  · rw [if_neg k3]
    by_cases k4 : o.k = 4
    · rw [if_pos k4]; exact ⟨R, h⟩
    · rw [if_neg k4]; exact ⟨R, h⟩
theorem sr_next {w w' : World} {B np mb n c n' c' g : Nat} {rv : Value} {L S S' : List Pk} {ap : List (Int × Int)} {A : Option Addr} (hn : NetW w B np mb rv L ap) (h : SR np mb rv w B A n c S) (hr : SRow w' B (some ⟨g, 0, none⟩) n' c' S') (hat : (Value.slice A n c).ownBlock = some g ∨ w.heap.size ≤ g) : SR np mb rv w' B (some ⟨g, 0, none⟩) n' c' S' := by
  refine ⟨hr, fun a e => ?_⟩
  injection e with e
  subst e
  rcases hat with e | e
  · cases A with
    | none => cases e
    | some a => 
      injection e with e
      have := h.far a rfl
      rw [e] at this
      exact this
  · have h1 := hn.lt
    have h2 := own_block_lt hn.row g
    exact ⟨fun e2 => by simp only at e2; omega, fun e2 => by simp only at e2; omega, fun e2 => by have := h2 e2; omega⟩
theorem sr_row {w : World} {np mb B n c : Nat} {rv : Value} {A : Option Addr} {S : List Pk} (h : SR np mb rv w B A n c S) : ∀ g, (Value.slice A n c).ownBlock = some g → g ≠ np ∧ g ≠ mb ∧ rv.ownBlock ≠ some g := fun g e => by
  cases A with
  | none => cases e
  | some a => 
    injection e with e
    subst e
    exact h.far a rfl
theorem sr_base {w : World} {np mb B n c : Nat} {rv : Value} {A : Option Addr} {S : List Pk} (h : SR np mb rv w B A n c S) : ∀ g, (Value.slice A n c).ownBlock = some g → B ≤ g ∧ g < w.heap.size := fun g e => by
  cases A with
  | none => cases e
  | some a => 
    injection e with e
    subst e
    exact h.row.blk a rfl
theorem sent_more {w : World} {B n c g : Nat} {S : List Pk} {p : Pk} (hl : S.length = n) (h : w.ownsRow B 31 3 (.slice (some ⟨g, 0, none⟩) (n + 1) c) (n + 1) (pcells S ++ pcell p)) : SRow w B (some ⟨g, 0, none⟩) (n + 1) c (S ++ [p]) :=
  SRow.of_own (by simp [hl]) (by rw [pcells_append]; simpa [pcells] using h)
theorem not_bo {A : Option Addr} {n c bq bo : Nat} (h : ∀ a, A = some a → a.block ≠ bq ∧ a.block ≠ bo) : ∀ g, (Value.slice A n c).ownBlock = some g → g ≠ bo := fun g e => by
  cases A with
  | none => cases e
  | some a =>
    injection e with e
    subst e
    exact (h a rfl).2
def ORel (w : World) (np mb n : Nat) (v4 vk : Value) (wr : World) : Prop :=
  ∃ (k : Nat) (rv : Value) (L : List Pk) (ap : List (Int × Int)) (A4 : Option Addr) (n4 c4 : Nat) (S R : List Pk), k ≤ n ∧ vk = .int .i64 k ∧ v4 = .slice A4 n4 c4 ∧ NetW wr w.heap.size np mb rv L ap ∧ ap.length ≤ k ∧ SR np mb rv wr w.heap.size A4 n4 c4 S ∧ n4 ≤ k ∧ (L ++ R).Perm S ∧ Below w.heap.size w wr
set_option maxHeartbeats 8000000 in
theorem law_once (A : Option Addr) (n c : Nat) (l : List Po) (w : World) (hR : SReads w A n l) :
    Calls Try.prog 4 #[.slice A n c] w fun e w' => e = .returned (.bool true) ∧ Below w.heap.size w w' := by
  have HR := Lib.hid hR
  clear hR
  by_cases hlong : (500 : Int) < (n : Int)
  · go_enter Try.func4, Try.ntmps4
    go_wp2_with fail
    refine (new_any w).mono ?_
    rintro e w1 ⟨np, mb, rfl, hn, hb⟩
    have HB := Lib.hid hb
    clear hn hb
    go_wp2_with fail
    refine (alive_any w1).mono ?_
    rintro e w2 ⟨rfl, hb2⟩
    have HB3 := Lib.hid (HB.out.trans (hb2.mono HB.out.size))
    clear hb2
    go_wp2_with fail
    go_ret
    exact ⟨rfl, HB3.out⟩
  have hn500 : n ≤ 500 := by omega
  go_enter Try.func4, Try.ntmps4
  go_wp2_with fail
  refine (new_any w).mono ?_
  rintro e w1 ⟨np, mb, rfl, hn, hb⟩
  have HN := Lib.hid hn
  have HB := Lib.hid hb
  clear hn hb
  go_wp2_with fail
  go_loopw [4, 25] (fun v4 vk wr => ORel w np mb n v4 vk wr) (fun _ vk _ => n - (intOf vk).toNat)
  case atStart => exact ⟨0, _, _, _, none, 0, 0, [], [], Nat.zero_le _, rfl, rfl, HN.out, Nat.le_refl _, ⟨SRow.nil _ _, fun a e => by cases e⟩, Nat.le_refl _, List.Perm.refl _, HB.out⟩
  case round =>
    obtain ⟨k, rv, L, ap, A4, n4, c4, S, R, hk, rfl, rfl, hnet, hap, hsr, hn4, hpm, hbw⟩ := hrel
    have HNT := Lib.hid hnet
    have HBW := Lib.hid hbw
    have HAP := Lib.hid hap
    have HSR := Lib.hid hsr
    have HPM := Lib.hid hpm
    clear hnet hbw hap hsr hpm
    by_cases hlt : k < n
    · obtain ⟨b1, off, o, rfl, -, -, hok, hoc⟩ := (HR.out.kept HBW.out).round hlt
      obtain ⟨bo, hbe⟩ : ∃ bo, bo = wr.heap.size := ⟨_, rfl⟩
      obtain ⟨wo, hwo⟩ : ∃ wo, wo = wr.alloc (.cells #[.int .i64 o.k, .int .i64 o.K, .int .i64 o.J, .int .i64 o.p.f, .int .i64 o.p.t, .string o.p.b] 33) := ⟨_, rfl⟩
      have hbo : Below wr.heap.size wr wo := by rw [hwo]; exact box_below wr _
      have HBX : Hid (Bx np mb rv wo bo (.cells #[.int .i64 o.k, .int .i64 o.K, .int .i64 o.J, .int .i64 o.p.f, .int .i64 o.p.t, .string o.p.b] 33)) := Lib.hid (by rw [hwo, hbe]; exact Bx.new HNT.out _)
      have HNO := Lib.hid (HNT.out.kept hbo)
      have HSO := Lib.hid (HSR.out.kn (Kn.of_below hbo HNT.out.size))
      have HBO := Lib.hid (HBW.out.trans (hbo.mono HBW.out.size))
      have HWO := Lib.hid hwo
      have HBE := Lib.hid hbe
      have HDO := Lib.hid (does_any HNO.out o hok (by have := HAP.out; omega))
      obtain ⟨h0, h1, h2, h3, h4, h5⟩ := hoc
      have hk0 : (0 : Int) ≤ (k : Int) := by omega
      have hk1 : (k : Int) < (n : Int) := by omega
      clear hok hwo hbo hbe
      by_cases h2k : o.k = 2
      · have HK2 := Lib.hid h2k
        clear h2k
        go_upto_region 8 with fail
        rw [← HWO.out, ← HBE.out]
        have o0 := cell_of HBX.out.here (j := 0) rfl
        rw [HK2.out] at o0
        clear h0 h1 h2 h3 h4 h5
        go_wp2_with fail
        go_round
        case rel => exact ⟨k + 1, rv, L, ap, A4, n4, c4, S, R, by omega, by go_num, rfl, HNO.out, by have := HAP.out; omega, HSO.out, by omega, HPM.out, HBO.out⟩
        case measure => simp [intOf]; omega
      have HST := Lib.hid (once_step ap HPM.out h2k)
      have b2 : (o.k == 2) = false := by simpa using h2k
      have HA1 := Lib.hid (ap_one L ap o)
      clear h2k
      go_upto_region 8 with fail
      rw [← HWO.out, ← HBE.out]
      have o0 := cell_of HBX.out.here (j := 0) rfl
      have o1 := cell_of HBX.out.here (j := 1) rfl
      have o2 := cell_of HBX.out.here (j := 2) rfl
      have o3 := cell_of HBX.out.here (j := 3) rfl
      have o4 := cell_of HBX.out.here (j := 4) rfl
      have o5 := cell_of HBX.out.here (j := 5) rfl
      go_wp2_with fail
      refine HDO.out.mono ?_
      rintro e w5 ⟨rfl, rv5, hn5, hk5⟩
      obtain ⟨d, hd⟩ : ∃ d, d = doL L ap o := ⟨_, rfl⟩
      rw [← hd] at hn5 HST HA1 ⊢
      obtain ⟨M, ap5, x, is⟩ := d
      have HST2 : Hid ((o.k = 0 ∧ is = true ∧ ∃ R' : List Pk, (M ++ R').Perm (S ++ [o.p])) ∨
        (o.k = 1 ∧ is = true ∧ ∃ (j : Nat) (R' : List Pk), j < S.length ∧ S.getD j pk0 = x ∧ (∀ i, i < j → S.getD i pk0 ≠ x) ∧ (M ++ R').Perm (S.eraseIdx j)) ∨
        (((o.k = 0 ∧ is = false) ∨ (o.k = 1 ∧ is = false) ∨ (o.k ≠ 0 ∧ o.k ≠ 1)) ∧ ∃ R' : List Pk, (M ++ R').Perm S)) := HST
      have HA2 : Hid (ap5.length ≤ ap.length + 1) := HA1
      have HN5 : Hid (NetW w5 w.heap.size np mb rv5 M ap5) := Lib.hid hn5
      have HX5 := Lib.hid (HBX.out.kn hk5)
      have HS5 := Lib.hid (HSO.out.kn hk5)
      have HB5 := Lib.hid (HBO.out.trans hk5.below)
      clear hn5 hk5 hd HST HA1 HDO o0 o1 o2 o3 o4 o5 h0 h1 h2 h3 h4 h5
      obtain ⟨bq, hbq⟩ : ∃ b, b = w5.heap.size := ⟨_, rfl⟩
      obtain ⟨w6, hw6⟩ : ∃ w6, w6 = w5.alloc (.cells #[.int .i64 x.f, .int .i64 x.t, .string x.b] 31) := ⟨_, rfl⟩
      have hb6 : Below w5.heap.size w5 w6 := by rw [hw6]; exact box_below w5 _
      have hkn6 : Kn w.heap.size np mb rv5 rv5 w5 w6 := Kn.of_below hb6 HN5.out.size
      have HQ6 : Hid (Bx np mb rv5 w6 bq (.cells #[.int .i64 x.f, .int .i64 x.t, .string x.b] 31)) := Lib.hid (by rw [hw6, hbq]; exact Bx.new HN5.out _)
      have HNQ : Hid (bo ≠ bq) := Lib.hid (by have := (Array.getElem?_eq_some_iff.1 HX5.out.here).1; omega)
      have HN6 := Lib.hid (HN5.out.kept hb6)
      have HX6 := Lib.hid (HX5.out.kn hkn6)
      have HS6 := Lib.hid (HS5.out.kn hkn6)
      have HB6 := Lib.hid (HB5.out.trans (hb6.mono HB5.out.size))
      have HW6 := Lib.hid hw6
      have HBQ := Lib.hid hbq
      have HFQ : Hid (∀ a, A4 = some a → a.block ≠ bq ∧ a.block ≠ bo) := Lib.hid (fun a e => by
        have h1 := (HS5.out.row.blk a e).2
        have h2 := (HSR.out.row.blk a e).2
        have h3 := HBE.out
        omega)
      clear hb6 hkn6 hw6 hbq
      unfold pv
      go_upto_region 10 with fail
      rw [← HW6.out, ← HBQ.out]
      rcases HST2.out with ⟨hk0', rfl, R', hpm⟩ | ⟨hk1', rfl, j, R', hj, hjx, hfst, hpm⟩ | ⟨hkk, R', hpm⟩
      · have HPM2 := Lib.hid hpm
        have HK := Lib.hid hk0'
        clear hpm hk0'
        have o0 := cell_of HX6.out.here (j := 0) rfl
        have o3 := cell_of HX6.out.here (j := 3) rfl
        have o4 := cell_of HX6.out.here (j := 4) rfl
        have o5 := cell_of HX6.out.here (j := 5) rfl
        rw [HK.out] at o0
        have hb7 := box_below w6 (.cells #[.int .i64 o.p.f, .int .i64 o.p.t, .string o.p.b] 31)
        have HX7 := Lib.hid (new_block w6 (.cells #[.int .i64 o.p.f, .int .i64 o.p.t, .string o.p.b] 31))
        have HN7 := Lib.hid (HN6.out.kept hb7)
        have HS7 := Lib.hid (HS6.out.kn (Kn.of_below hb7 HN6.out.size))
        have HO7 := Lib.hid (HX6.out.kn (Kn.of_below hb7 HN6.out.size))
        have HB7 := Lib.hid (HB6.out.trans (hb7.mono HB6.out.size))
        clear hb7
        go_wp2_with (first
          | (at_builtin; go_loud (refine wpList_append_sent rfl (.tmp 44) (.tmp 47) rfl rfl HS7.out.row ⟨w6.heap.size, 0, none⟩ 1 1 (pcell o.p) rfl rfl (World.news_of_block HX7.out) (by intro u hu; simp [pcell] at hu; rcases hu with rfl | rfl | rfl <;> rfl) (by decide) (by omega) HN7.out.size ?_; intro g cap w8 hown hgrow hat hlt8; have HN8 := Lib.hid (HN7.out.grown hgrow (sr_row HS7.out)); have HS8 := Lib.hid (sr_next (S' := S ++ [o.p]) HN7.out HS7.out (sent_more HS7.out.row.len hown) hat); have hx8 := (HO7.out.grown hgrow (not_bo HFQ.out)).here; have HB8 := Lib.hid (HB7.out.grown hgrow HN7.out.size (fun g e => (sr_base HS7.out g e).1)); have y0 := cell_of hx8 (j := 0) rfl; rw [HK.out] at y0; clear hown hgrow hat hlt8 hx8))
          | fail)
        go_round
        case rel => exact ⟨k + 1, rv5, M, ap5, _, n4 + 1, _, S ++ [o.p], R', by omega, by go_num, rfl, HN8.out, by have := HAP.out; have := HA2.out; omega, HS8.out, by omega, HPM2.out, HB8.out⟩
        case measure => simp [intOf]; omega
      · have HPM2 := Lib.hid hpm
        have HK := Lib.hid hk1'
        have HFS := Lib.hid hfst
        have HJX := Lib.hid hjx
        have hl4 := HS6.out.row.len
        have hjn : j < n4 := by omega
        clear hpm hk1' hfst hjx hl4 hj
        have o0 := cell_of HX6.out.here (j := 0) rfl
        rw [HK.out] at o0
        obtain ⟨g, c0, rfl, -, -, -⟩ := HS6.out.row.at (by omega)
        go_wp2_with fail
        go_loopw [9] (fun v9 wr2 => ∃ i : Nat, i ≤ j ∧ v9 = .int .i64 i ∧ NetW wr2 w.heap.size np mb rv5 M ap5 ∧ SR np mb rv5 wr2 w.heap.size (some ⟨g, 0, none⟩) n4 c4 S ∧ Bx np mb rv5 wr2 bq (.cells #[.int .i64 x.f, .int .i64 x.t, .string x.b] 31) ∧ Below w.heap.size w wr2) (fun v9 _ => j - (intOf v9).toNat)
        case atStart => exact ⟨0, Nat.zero_le _, rfl, HN6.out, HS6.out, HQ6.out, HB6.out⟩
        case round =>
          obtain ⟨i, hi, rfl, hnet, hsr, hbx, hbw⟩ := hrel
          have HNI := Lib.hid hnet
          have HSI := Lib.hid hsr
          have HXI := Lib.hid hbx
          have HBI := Lib.hid hbw
          clear hnet hsr hbx hbw o0
          have q0 := cell_of HXI.out.here (j := 0) rfl
          have q1 := cell_of HXI.out.here (j := 1) rfl
          have q2 := cell_of HXI.out.here (j := 2) rfl
          have hi0 : (0 : Int) ≤ (i : Int) := by omega
          have hi1 : (i : Int) < (n4 : Int) := by omega
          obtain ⟨s0, s1, s2⟩ := HSI.out.row.three i (by omega)
          obtain ⟨y, hy⟩ : ∃ y, y = S.getD i pk0 := ⟨_, rfl⟩
          rw [← hy] at s0 s1 s2
          have hne := neq31 y x
          have HD : Hid (∀ m : Nat, Below wr.heap.size wr (wr.drewN m)) := Lib.hid (fun m => below_drewN (Below.refl _ _) m)
          by_cases hlt2 : i < j
          · have hs : same31 y x = false := by
              rw [Bool.eq_false_iff]
              intro h
              exact HFS.out i hlt2 (hy.symm.trans (same_iff.1 h))
            rw [hs] at hne
            clear hy hs
            go_wp2_with fail
            go_quiet (fail)
            go_wp2_with fail
            go_roundw
            case rel => exact ⟨i + 1, by omega, by go_num, HNI.out.kept (HD.out _), HSI.out.kn (Kn.of_below (HD.out _) HNI.out.size), HXI.out.kn (Kn.of_below (HD.out _) HNI.out.size), HBI.out.trans ((HD.out _).mono HBI.out.size)⟩
            case measure => simp [intOf]; omega
          · obtain rfl : i = j := by omega
            have hs : same31 y x = true := same_iff.2 (hy.trans HJX.out)
            rw [hs] at hne
            clear hy hs
            go_wp2_with fail
            go_quiet (fail)
            obtain ⟨wq, hwq⟩ : ∃ wq, wq = wr.drewN nq := ⟨_, rfl⟩
            rw [← hwq]
            have hbq := HD.out nq
            rw [← hwq] at hbq
            have hkq : Kn w.heap.size np mb rv5 rv5 wr wq := Kn.of_below hbq HNI.out.size
            have HNQ2 := Lib.hid (HNI.out.kept hbq)
            have HSQ := Lib.hid (HSI.out.kn hkq)
            have HBQ2 := Lib.hid (HBI.out.trans (hbq.mono HBI.out.size))
            have hcap := HSQ.out.row.cap
            have hs1 := slice_hm g n4 c4 i (by omega)
            obtain ⟨A2, hs2, hA2⟩ := slice_from g n4 c4 (i + 1) (by omega) hcap
            rw [show ((i + 1 : Nat) : Int) = (i : Int) + 1 by omega] at hs2
            have HA2' : Hid (i + 1 < n4 → A2 = ⟨g, (i + 1) * 3, none⟩) := Lib.hid (fun h => hA2 (by omega))
            have HJN := Lib.hid hjn
            have HN4 : Hid (n4 ≤ 100000) := Lib.hid (by omega)
            have HSD : Hid (SRow wq.drew w.heap.size (some ⟨g, 0, none⟩) n4 c4 S) := Lib.hid (HSQ.out.row.kept (fun _ _ => rfl))
            have hij : ((i : Int) == (n4 : Int)) = false := by rw [beq_eq_false_iff_ne]; omega
            have hwrp : IntKind.i64.wrap ((i : Int) + 1) = (i : Int) + 1 := by rw [IntKind.wrap_i64]; omega
            clear hwq hbq hkq hA2 hne s0 s1 s2 q0 q1 q2 hlt2
            go_wp2_with fail
            go_region_law (first
              | (go_loud (refine step_cut rfl (.tmp 77) (.tmp 81) rfl HSD.out HJN.out (by simp [Act.eval, Act.put]) A2 (c4 - (i + 1)) (by simp [Act.eval, Act.put]) HA2'.out HN4.out HNQ2.out.size ?_; intro g' c' w9 hrow hgrow hat; have HN9 := Lib.hid ((HNQ2.out.kept (Below.refl _ _).drew).grown hgrow (fun _ e => by cases e)); have HS9 := Lib.hid (sr_next (HNQ2.out.kept (Below.refl _ _).drew) (HSQ.out.kn (Kn.of_below (Below.refl _ _).drew HNQ2.out.size)) hrow (hat.imp (fun e => by rw [e]; rfl) id)); have HB9 := Lib.hid ((HBQ2.out.trans ((Below.refl _ _).drew.mono HBQ2.out.size)).grown hgrow HNQ2.out.size (fun _ e => by cases e)); clear hrow hgrow hat))
              | fail)
            go_wp2_with fail
            go_round
            case rel => exact ⟨k + 1, rv5, M, ap5, _, n4 - 1, _, S.eraseIdx i, R', by omega, by go_num, rfl, HN9.out, by have := HAP.out; have := HA2.out; omega, HS9.out, by omega, HPM2.out, HB9.out⟩
            case measure => simp [intOf]; omega
      · have HPM2 := Lib.hid hpm
        clear hpm
        have o0 := cell_of HX6.out.here (j := 0) rfl
        rcases hkk with ⟨e0, rfl⟩ | ⟨e0, rfl⟩ | ⟨e0, e1⟩
        · have HK := Lib.hid e0
          clear e0
          rw [HK.out] at o0
          go_wp2_with fail
          go_round
          case rel => exact ⟨k + 1, rv5, M, ap5, _, n4, c4, S, R', by omega, by go_num, rfl, HN6.out, by have := HAP.out; have := HA2.out; omega, HS6.out, by omega, HPM2.out, HB6.out⟩
          case measure => simp [intOf]; omega
        · have HK := Lib.hid e0
          clear e0
          rw [HK.out] at o0
          go_wp2_with fail
          go_round
          case rel => exact ⟨k + 1, rv5, M, ap5, _, n4, c4, S, R', by omega, by go_num, rfl, HN6.out, by have := HAP.out; have := HA2.out; omega, HS6.out, by omega, HPM2.out, HB6.out⟩
          case measure => simp [intOf]; omega
        · have d0 : (o.k == 0) = false := by simpa using e0
          have d1 : (o.k == 1) = false := by simpa using e1
          go_wp2_with fail
          go_round
          case rel => exact ⟨k + 1, rv5, M, ap5, _, n4, c4, S, R', by omega, by go_num, rfl, HN6.out, by have := HAP.out; have := HA2.out; omega, HS6.out, by omega, HPM2.out, HB6.out⟩
          case measure => simp [intOf]; omega
    · obtain rfl : k = n := by omega
      have hk1 : ¬ (k : Int) < (k : Int) := by omega
      go_wp2_with fail
      refine (alive_any wr).mono ?_
      rintro e w9 ⟨rfl, hb9⟩
      have HB9 := Lib.hid (HBW.out.trans (hb9.mono HBW.out.size))
      clear hb9
      go_wp2_with fail
      go_ret
      exact ⟨rfl, HB9.out⟩
end Go.Proofs.Ytdlhjpcofldfnaa
