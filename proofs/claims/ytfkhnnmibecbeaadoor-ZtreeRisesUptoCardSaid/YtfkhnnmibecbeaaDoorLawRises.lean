/-
  ZtreeRises returns true. Conditions: memory holds the scripts; they are small enough to be counted.
-/
import Derived.Test.YtfkhnnmibecbeaaDoorAlive
import Derived.Test.YtfkhnnmibecbeaaDoorFew
import Derived.Test.YtfkhnnmibecbeaaDoorTree6
import Derived.Laws.Cover1
namespace Go.Proofs.YtfkhnnmibecbeaaDoor
set_option maxRecDepth 100000
open Go.ChangeShapes Go.WideShapes Go.ChangeAt Go.RowKit Go.Proofs.Zn Go.Proofs.Zt

theorem infoO : (Tryd.prog.info? 28).map (fun i => (i.zero, i.size, i.bytes)) = some (some (.agg #[.int .i64 0, .int .i64 0, .int .i64 0, .slice none 0 0]), 4, 48) := by kernel_rfl
theorem ocell_one (x : Opv) : ∀ u ∈ ocell x, u.oneCell' = true := fun u hu => by
  simp only [ocell, List.mem_cons, List.not_mem_nil, or_false] at hu
  rcases hu with rfl | rfl | rfl | rfl <;> rfl
theorem less_dec' (x y : Txt) : Op.bytesLess x y = decide (x < y) := by
  induction x generalizing y with
  | nil => cases y <;> simp [Op.bytesLess]
  | cons a x ih =>
    cases y with
    | nil => simp [Op.bytesLess]
    | cons b y =>
      rw [Op.bytesLess, ih, Bool.eq_iff_iff, decide_eq_true_iff, List.cons_lt_cons_iff]
      simp
theorem le_no {x y : Txt} (h : y < x) : (Op.bytesLess x y || x == y) = false := by
  rw [less_dec']
  have h3 : (x == y) = false := by simpa using fun e => lt_ne h e.symm
  simp [not_lt_of h, h3]
theorem tot_append (a b : List Opv) : tot (a ++ b) = tot a + tot b := by unfold tot; rw [List.map_append, List.sum_append]
theorem tot_mem {l : List Opv} {o : Opv} (h : o ∈ l) : o.m + 1 ≤ tot l := by
  unfold tot
  induction l with
  | nil => cases h
  | cons x r ih =>
    simp only [List.map_cons, List.sum_cons]
    rcases List.mem_cons.1 h with rfl | h
    · omega
    · have := ih h; omega
theorem rd_one' {w : World} {g : Nat} (c : Chg) (h : w.heap[g]? = some (.cells #[.int .i64 c.kind, .string (B c.path), .string (B c.data), .int .i64 c.ver, .bool c.eph, .bool c.sq] 48 (0, 0))) : Rd ccell 6 w (some ⟨g, 0, none⟩) 1 [c] := rd_one c h
theorem join1 {w w5 w6 : World} {v6 : Value} {T : Tr} {tp mb n : Nat} {l : List Opv} (HB5 : Below w.heap.size w w5) (HT5 : TreeW w5 tp mb T)
    (ho0 : (w5.alloc (.cells #[] 28)).ownsRow w5.heap.size 28 4 (.slice (some ⟨w5.heap.size, 0, none⟩) 0 0) 0 []) (ho : w6.ownsRow w5.heap.size 28 4 v6 (0 + n) ([] ++ l.flatMap ocell))
    (hg : (w5.alloc (.cells #[] 28)).grownBy w6 (Value.slice (some ⟨w5.heap.size, 0, none⟩) 0 0).ownBlock) :
    Hid (Below w.heap.size w w6) ∧ Hid (TreeW w6 tp mb T) ∧ w5.heap.size ≤ w6.heap.size ∧ ∃ A c, v6 = .slice A n c ∧ w6.ownsRow w5.heap.size 28 4 (.slice A n c) n (l.flatMap ocell) := by
  have hs := (box_below w5 (.cells #[] 28)).size
  have hs2 := hg.size
  have hs3 := HB5.size
  rw [Nat.zero_add, List.nil_append] at ho
  obtain ⟨A, c, rfl, -, -, -⟩ := own_form ho
  exact ⟨Lib.hid ((HB5.trans ((box_below w5 (.cells #[] 28)).mono hs3)).trans (gb_to (x := w5.heap.size) hg hs3 (by omega))), Lib.hid ((HT5.below (box_below w5 _)).gbo ho0 hg (by decide)), by omega, A, c, rfl, ho⟩
theorem join2 {w w5 w6 w7 : World} {v7 : Value} {T : Tr} {tp mb n n2 N : Nat} (eN : n + n2 = N) {A : Option Addr} {c : Nat} {l l2 : List Opv} (HB6 : Hid (Below w.heap.size w w6)) (HT6 : Hid (TreeW w6 tp mb T)) (hs5 : w.heap.size ≤ w5.heap.size) (hs : w5.heap.size ≤ w6.heap.size)
    (ho6 : w6.ownsRow w5.heap.size 28 4 (.slice A n c) n (l.flatMap ocell)) (ho : w7.ownsRow w5.heap.size 28 4 v7 (n + n2) (l.flatMap ocell ++ l2.flatMap ocell)) (hg : w6.grownBy w7 (Value.slice A n c).ownBlock) :
    Hid (Below w.heap.size w w7) ∧ Hid (TreeW w7 tp mb T) ∧ ∃ A c, v7 = .slice A N c ∧ Hid (w7.ownsRow w5.heap.size 28 4 (.slice A N c) N ((l ++ l2).flatMap ocell)) := by
  subst eN
  obtain ⟨A7, c7, rfl, -, -, -⟩ := own_form ho
  rw [← List.flatMap_append] at ho
  exact ⟨Lib.hid (HB6.out.trans (gb_own ho6 hg hs5 (by omega))), Lib.hid (HT6.out.gbo ho6 hg (by decide)), A7, c7, rfl, Lib.hid ho⟩
set_option maxHeartbeats 8000000 in
theorem rises_law {w : World} {A A2 : Option Addr} {n c n2 c2 : Nat} {l l2 : List Opv} (h : Scr w A n l) (h2 : Scr w A2 n2 l2) (ht : tot l ≤ 10000000) (ht2 : tot l2 ≤ 10000000) (hA : A = none → c = 0) (hA2 : A2 = none → c2 = 0) :
    Calls Tryd.prog 4 #[.slice A n c, .slice A2 n2 c2] w fun e w' => e = .returned (.bool true) ∧ Below w.heap.size w w' := by
  obtain ⟨i0, hi, hz0, hz1, hz2⟩ := info_parts infoO
  have HN := Lib.hid (new_any w)
  have HSC := Lib.hid h
  have HSC2 := Lib.hid h2
  have HTT := Lib.hid ht
  have HTT2 := Lib.hid ht2
  have HAA := Lib.hid hA
  have HAA2 := Lib.hid hA2
  clear h h2 ht ht2 hA hA2
  go_enter Tryd.func4, Tryd.ntmps4
  go_wp2_with fail
  refine HN.out.mono ?_
  rintro e w1 ⟨tp, mb1, rfl, ht1, hb1, hu1, -⟩
  have HT1 := Lib.hid ht1
  have HB1 := Lib.hid hb1
  have HU1 := Lib.hid hu1
  have HF1 := Lib.hid (few_any (c := c) (HSC.out.below hb1) (by have := HTT.out; omega))
  obtain ⟨f1, hf1⟩ : ∃ b, decide (tot l ≤ 300) = b := ⟨_, rfl⟩
  rw [hf1] at HF1
  have HFF1 := Lib.hid hf1
  clear ht1 hb1 hu1 hf1
  go_wp2_with fail
  refine HF1.out.mono ?_
  rintro e w2 ⟨rfl, hb2⟩
  have HB2 := Lib.hid (HB1.out.trans (hb2.mono HB1.out.size))
  have HT2 := Lib.hid (HT1.out.below hb2)
  clear hb2
  cases f1 with
  | false =>
    have HAL := Lib.hid (alive_any w2)
    go_wp2_with fail
    refine HAL.out.mono ?_
    rintro e w3 ⟨rfl, hb3⟩
    have HB3 := Lib.hid (HB2.out.trans (hb3.mono HB2.out.size))
    clear hb3
    go_wp2_with fail
    go_ret
    exact ⟨rfl, HB3.out⟩
  | true =>
    have HF2 := Lib.hid (few_any (c := c2) (HSC2.out.below HB2.out) (by have := HTT2.out; omega))
    obtain ⟨f2, hf2⟩ : ∃ b, decide (tot l2 ≤ 300) = b := ⟨_, rfl⟩
    rw [hf2] at HF2
    have HFF2 := Lib.hid hf2
    clear hf2
    go_wp2_with fail
    refine HF2.out.mono ?_
    rintro e w3 ⟨rfl, hb3⟩
    have HB3 := Lib.hid (HB2.out.trans (hb3.mono HB2.out.size))
    have HT3 := Lib.hid (HT2.out.below hb3)
    clear hb3
    cases f2 with
    | false =>
      have HAL := Lib.hid (alive_any w3)
      go_wp2_with fail
      refine HAL.out.mono ?_
      rintro e w4 ⟨rfl, hb4⟩
      have HB4 := Lib.hid (HB3.out.trans (hb4.mono HB3.out.size))
      clear hb4
      go_wp2_with fail
      go_ret
      exact ⟨rfl, HB4.out⟩
    | true =>
      obtain ⟨w4, hw4⟩ : ∃ w4, w4 = w3.alloc (.cells #[.int .i64 1, .string ⟨#[47, 113]⟩, .string ⟨#[]⟩, .int .i64 0, .bool false, .bool false] 48) := ⟨_, rfl⟩
      have hb4 : Below w3.heap.size w3 w4 := by rw [hw4]; exact box_below w3 _
      have HD := Lib.hid (do_any (cp := 1) (HT3.out.below hb4) new_good 1 0 (l := [cQ]) (rd_one (w := w4) (g := w3.heap.size) cQ (by rw [hw4]; exact new_block w3 _)) (by omega) (fun c hc => by rcases List.mem_singleton.1 hc with rfl; show (2 : Nat) ≤ _; omega))
      have HW4 := Lib.hid hw4
      have HB4 := Lib.hid (HB3.out.trans (hb4.mono HB3.out.size))
      clear hb4 hw4
      go_wp2_with fail
      rw [← HW4.out]
      refine HD.out.mono ?_
      rintro e w5 ⟨v1, v2, mb5, rfl, ht5, hg5, -, -⟩
      have HB5 := Lib.hid (HB4.out.trans (gb_to hg5 HU1.out HB4.out.size))
      have HT5 := Lib.hid ht5
      have HI5 := Lib.hid rinv_start
      have HG5 := Lib.hid (doL_good new_good 1 0 [cQ])
      obtain ⟨T5, hT5⟩ : ∃ T, (doL Zt.new 1 0 [cQ]).T = T := ⟨_, rfl⟩
      rw [hT5] at HT5 HI5 HG5
      have hn300 : n ≤ 300 := by have h1 := tot_len l; have h2 := HFF1.out; rw [HSC.out.rd.len] at h1; simp at h2; omega
      have hn2300 : n2 ≤ 300 := by have h1 := tot_len l2; have h2 := HFF2.out; rw [HSC2.out.rd.len] at h1; simp at h2; omega
      have hS1 := HSC.out.below HB5.out
      have hS2 := HSC2.out.below HB5.out
      have ho0 : (w5.alloc (.cells #[] 28)).ownsRow w5.heap.size 28 4 (.slice (some ⟨w5.heap.size, 0, none⟩) 0 0) 0 [] := own_new (new_block w5 (.cells #[] 28)) (Nat.le_refl _) (by unfold maxLen; omega) rfl
      have hr1 := hS1.rd.below (box_below w5 (.cells #[] 28))
      have HTL := Lib.hid hT5
      have hAA := HAA.out
      clear ht5 hg5 hT5
      have hsz5 : w.heap.size ≤ w5.heap.size := HB5.out.size
      obtain ⟨N, eN⟩ : ∃ N, n + n2 = N := ⟨_, rfl⟩
      have hN : N ≤ 600 := by omega
      go_upto_region 6 with fail
      have hB5 := HB5.out
      have hT5 := HT5.out
      go_wp2_with (first
        | (at_builtin; refine wpList_append_rd rfl _ _ 22 rfl w5.heap.size 28 i0 _ 4 48 Tryd.underlying22 hi hz0 hz1 hz2 rfl (by decide) _ 0 [] rfl ho0 A n c l rfl hr1 (fun _ _ => rfl) ocell_one hAA (by unfold maxLen; omega) (by omega) (by simp) ?_; intro v6 w6 hown6 hg6; obtain ⟨HB6, HT6, hs6, A6, c6, rfl, ho6⟩ := join1 hB5 hT5 ho0 hown6 hg6; have hr2 := (HSC2.out.below HB6.out).rd; have hAA2 := HAA2.out; clear hown6 hg6)
        | (at_builtin; refine wpList_append_rd rfl _ _ 22 rfl w5.heap.size 28 i0 _ 4 48 Tryd.underlying22 hi hz0 hz1 hz2 rfl (by decide) (.slice A6 n c6) n (l.flatMap ocell) rfl ho6 A2 n2 c2 l2 rfl hr2 (fun _ _ => rfl) ocell_one hAA2 (by unfold maxLen; omega) (by omega) hs6 ?_; intro v7 w7 hown7 hg7; obtain ⟨HB7, HT7, A7, c7, rfl, HOJ⟩ := join2 eN HB6 HT6 hsz5 hs6 ho6 hown7 hg7; clear hown7 hg7)
        | fail)
      have HOKS : Hid (∀ o ∈ l ++ l2, OpOk w o) := Lib.hid (fun o ho => by
        rcases List.mem_append.1 ho with h | h
        · exact HSC.out.ok o h
        · exact HSC2.out.ok o h)
      have HTOT : Hid (∀ o ∈ l ++ l2, o.m ≤ 300) := Lib.hid (fun o ho => by
        rcases List.mem_append.1 ho with h | h
        · have h1 := tot_mem h; have h2 := HFF1.out; simp at h2; omega
        · have h1 := tot_mem h; have h2 := HFF2.out; simp at h2; omega)
      obtain ⟨L, eL⟩ : ∃ L, l ++ l2 = L := ⟨_, rfl⟩
      rw [eL] at HOJ HOKS HTOT
      clear hr1 hS1 ho0 hAA hB5 hT5 hr2 hAA2 ho6 eL HN HD HF1 HF2 hs6
      go_wp2_with fail
      go_loopw [6, 44] (fun s i wr => ∃ (k : Nat) (mb : Nat) (T : Tr) (last : Txt), k ≤ N ∧ i = .int .i64 k ∧ s = .string (B last) ∧ Hid (TreeW wr tp mb T) ∧ Hid (Zt.Good T) ∧ Hid (RInv T last) ∧ Hid (wr.ownsRow w5.heap.size 28 4 (.slice A7 N c7) N (L.flatMap ocell)) ∧ Hid (Below w.heap.size w wr)) (fun _ i _ => N - (intOf i).toNat)
      case atStart => exact ⟨0, _, T5, [], Nat.zero_le _, rfl, rfl, HT7, HG5, HI5, HOJ, HB7⟩
      case round =>
        obtain ⟨k, mb, T, last, hk, rfl, rfl, HT, HG, HI, HO, HX⟩ := hrel
        by_cases hlt : k < N
        · obtain ⟨b, off, o, rfl, ho, hc⟩ := (Rd.of_own (cell := ocell) (l := L) HO.out (fun _ _ => rfl) (by omega)).at hlt
          have HOM := Lib.hid (List.mem_of_getElem? ho)
          have a0 : wr.cell? ⟨b, off + k * 4, none⟩ = some (.int .i64 o.k) := hc 0 _ rfl
          have a1 : wr.cell? ⟨b, off + k * 4 + 1, none⟩ = some (.int .i64 o.zx) := hc 1 _ rfl
          have a2 : wr.cell? ⟨b, off + k * 4 + 2, none⟩ = some (.int .i64 o.se) := hc 2 _ rfl
          have a3 : wr.cell? ⟨b, off + k * 4 + 3, none⟩ = some (.slice o.A o.m o.c) := hc 3 _ rfl
          obtain ⟨w8, hw8⟩ : ∃ w8, w8 = wr.alloc (.cells #[.int .i64 o.k, .int .i64 o.zx, .int .i64 o.se, .slice o.A o.m o.c] 28) := ⟨_, rfl⟩
          obtain ⟨q, eq⟩ : ∃ q, q = wr.heap.size := ⟨_, rfl⟩
          have hb8 : Below wr.heap.size wr w8 := by rw [hw8]; exact box_below wr _
          have hq8 : w8.heap[q]? = some (.cells #[.int .i64 o.k, .int .i64 o.zx, .int .i64 o.se, .slice o.A o.m o.c] 28 (0, 0)) := by rw [hw8, eq]; exact new_block wr _
          have HB8 := Lib.hid (HX.out.trans (hb8.mono HX.out.size))
          have HT8 := Lib.hid (HT.out.below hb8)
          have HO8 := Lib.hid (own_below HO.out hb8)
          have HQ8 := Lib.hid hq8
          have HW8 := Lib.hid hw8
          have EQ := Lib.hid eq
          have q1 := cell_of hq8 (j := 1) rfl
          clear ho hc hw8 eq hb8 hq8
          go_upto_region 9 with fail
          rw [← HW8.out, ← EQ.out]
          clear a0 a1 a2 a3
          obtain ⟨w9, hw9⟩ : ∃ w9, w9 = w8.alloc (.cells #[.int .i64 1, .string ⟨#[47, 113, 47, 110]⟩, .string ⟨#[]⟩, .int .i64 0, .bool false, .bool true] 48) := ⟨_, rfl⟩
          have hb9 : Below w8.heap.size w8 w9 := by rw [hw9]; exact box_below w8 _
          have HD := Lib.hid (do_any (cp := 1) (HT8.out.below hb9) HG.out o.zx 0 (l := [cN]) (rd_one (w := w9) (g := w8.heap.size) cN (by rw [hw9]; exact new_block w8 _)) (by omega) (fun c hc => by rcases List.mem_singleton.1 hc with rfl; show (4 : Nat) ≤ _; omega))
          have HW9 := Lib.hid hw9
          have HB9 := Lib.hid (HB8.out.trans (hb9.mono HB8.out.size))
          have HO9 := Lib.hid (own_below HO8.out hb9)
          have HQ9 := Lib.hid (blk_below HQ8.out hb9)
          clear hb9 hw9
          go_wp2_with fail
          rw [← HW9.out]
          refine HD.out.mono ?_
          rintro e w10 ⟨u1, u2, mb10, rfl, ht10, hg10, ho10, -⟩
          have HT10 := Lib.hid ht10
          have HB10 := Lib.hid (HB9.out.trans (gb_to hg10 HU1.out HB9.out.size))
          have HG10 := Lib.hid (doL_good HG.out o.zx 0 [cN])
          have HI10 := Lib.hid (rinv_create HG.out HI.out o.zx)
          have HO10 := Lib.hid (own_gb HO9.out hg10 (own_ne HO9.out (HT8.out.below (by rw [HW9.out]; exact box_below w8 _)).here (by decide)))
          have HQ10 := Lib.hid (gb_cells hg10 (fun e => by have h1 := (HT8.out.here); have h2 := HQ8.out; rw [e, h1] at h2; injection h2 with h2; injection h2 with _ h3 _; exact absurd h3 (by decide)) HQ9.out)
          obtain ⟨S, hS⟩ : ∃ S, doL T o.zx 0 [cN] = S := ⟨_, rfl⟩
          rw [hS] at HI10 HG10 HT10 ho10
          have HP10 := Lib.hid ho10
          have hSe := congrArg Ans.e hS
          have HGE := Lib.hid (get_any HT10.out qP (by unfold maxLen; decide))
          have HIS : Hid ((get S.T qP).isSome = true) := Lib.hid (by
            rcases HI10.out with ⟨_, q, hq, _⟩ | ⟨_, p, _, _, q, hq, _⟩
            · rw [hq]; rfl
            · rw [hq]; rfl)
          rw [HIS.out] at HGE
          obtain ⟨pz, hpz⟩ : ∃ p, (get S.T qP).getD nd0 = p := ⟨_, rfl⟩
          rw [hpz] at HGE
          unfold ndv at HGE
          clear ht10 hg10 ho10 q1 hS hpz
          go_wp2_with fail
          refine HGE.out.mono ?_
          rintro e w11 ⟨rfl, hb11⟩
          obtain ⟨w12, hw12⟩ : ∃ w12, w12 = w11.alloc (.cells #[.string (B pz.path), .string (B pz.data), .int .i64 pz.cr, .int .i64 pz.ch, .int .i64 pz.kd, .int .i64 pz.ver, .int .i64 pz.ks, .int .i64 pz.own, .int .i64 pz.nx] 40) := ⟨_, rfl⟩
          have hb12 : Below w11.heap.size w11 w12 := by rw [hw12]; exact box_below w11 _
          have hb1012 := hb11.trans (hb12.mono hb11.size)
          have HB12 := Lib.hid (HB10.out.trans (hb1012.mono HB10.out.size))
          have HT12 := Lib.hid (HT10.out.below hb1012)
          have HO12 := Lib.hid (own_below HO10.out hb1012)
          have HQ12 := Lib.hid (blk_below HQ10.out hb1012)
          have HP12 := Lib.hid (own_below HP10.out hb1012)
          have HW12 := Lib.hid hw12
          clear hb11 hb12 hb1012 hw12
          go_upto_region 11 with fail
          rw [← HW12.out]
          by_cases he : S.e = 0
          · have t1 : (S.e == 0) = true := by simpa using he
            obtain ⟨p, hp, hlast, hix⟩ : ∃ p, S.ps = [p] ∧ last < p ∧ RInv S.T p := by
              rcases HI10.out with ⟨h1, _⟩ | ⟨_, h2⟩
              · exact absurd he h1
              · exact h2
            have HIX := Lib.hid hix
            have hp12 := HP12.out
            rw [hp] at hp12
            replace hp12 : w12.ownsRow w9.heap.size 9 1 u1 1 (scells [p]) := hp12
            obtain ⟨P, pc, rfl, hple, -, hpg⟩ := own_form hp12
            obtain ⟨g, rfl⟩ := hpg (by omega)
            have p0 := own_cell hp12 0 (.string (B p)) rfl
            have hle := le_no hlast
            clear he hp hix hp12 hpg hlast
            go_upto_region 17 with fail
            clear p0 hle
            have HOK12 := Lib.hid ((HOKS.out o HOM.out).below HB12.out)
            have hm300 : o.m ≤ 300 := HTOT.out o HOM.out
            have q0 := cell_of HQ12.out (j := 0) rfl
            have q1 := cell_of HQ12.out (j := 1) rfl
            have q2 := cell_of HQ12.out (j := 2) rfl
            have q3 := cell_of HQ12.out (j := 3) rfl
            obtain ⟨oA, eoA⟩ : ∃ x, o.A = x := ⟨_, rfl⟩
            rw [eoA] at q3
            have EOA := Lib.hid eoA
            clear eoA
            go_upto_region 18 with fail
            clear q0 q1 q2 q3
            go_loopw [84] (fun i wr => ∃ (j : Nat) (mb : Nat) (T : Tr), j ≤ o.m ∧ i = .int .i64 j ∧ Hid (TreeW wr tp mb T) ∧ Hid (Zt.Good T) ∧ Hid (RInv T p) ∧ Hid (wr.ownsRow w5.heap.size 28 4 (.slice (some ⟨b, off, none⟩) N c7) N (L.flatMap ocell)) ∧ Hid (wr.heap[q]? = some (.cells #[.int .i64 o.k, .int .i64 o.zx, .int .i64 o.se, .slice o.A o.m o.c] 28 (0, 0))) ∧ Hid (Below w.heap.size w wr)) (fun i _ => o.m - (intOf i).toNat)
            case atStart => exact ⟨0, _, S.T, Nat.zero_le _, rfl, HT12, HG10, HIX, HO12, HQ12, HB12⟩
            case round =>
              obtain ⟨j, mbj, Tj, hj, rfl, HTj, HGj, HIj, HOj, HQj, HXj⟩ := hrel
              by_cases hltj : j < o.m
              · have hrj := ((HOKS.out o HOM.out).below HXj.out).rd
                rw [EOA.out] at hrj
                obtain ⟨bj, offj, c, rfl, hcj, hccj⟩ := hrj.at hltj
                have HCO := Lib.hid ((HOKS.out o HOM.out).ok c (List.mem_of_getElem? hcj))
                have a0 : wr.cell? ⟨bj, offj + j * 6, none⟩ = some (.int .i64 c.kind) := hccj 0 _ rfl
                have a1 : wr.cell? ⟨bj, offj + j * 6 + 1, none⟩ = some (.string (B c.path)) := hccj 1 _ rfl
                have a2 : wr.cell? ⟨bj, offj + j * 6 + 2, none⟩ = some (.string (B c.data)) := hccj 2 _ rfl
                have a3 : wr.cell? ⟨bj, offj + j * 6 + 3, none⟩ = some (.int .i64 c.ver) := hccj 3 _ rfl
                have a4 : wr.cell? ⟨bj, offj + j * 6 + 4, none⟩ = some (.bool c.eph) := hccj 4 _ rfl
                have a5 : wr.cell? ⟨bj, offj + j * 6 + 5, none⟩ = some (.bool c.sq) := hccj 5 _ rfl
                obtain ⟨w13, hw13⟩ : ∃ w13, w13 = wr.alloc (.cells #[.int .i64 c.kind, .string (B c.path), .string (B c.data), .int .i64 c.ver, .bool c.eph, .bool c.sq] 48) := ⟨_, rfl⟩
                obtain ⟨u, eu⟩ : ∃ u, u = wr.heap.size := ⟨_, rfl⟩
                have hb13 : Below wr.heap.size wr w13 := by rw [hw13]; exact box_below wr _
                have hu13 : w13.heap[u]? = some (.cells #[.int .i64 c.kind, .string (B c.path), .string (B c.data), .int .i64 c.ver, .bool c.eph, .bool c.sq] 48 (0, 0)) := by rw [hw13, eu]; exact new_block wr _
                have HB13 := Lib.hid (HXj.out.trans (hb13.mono HXj.out.size))
                have HT13 := Lib.hid (HTj.out.below hb13)
                have HO13 := Lib.hid (own_below HOj.out hb13)
                have HQ13 := Lib.hid (blk_below HQj.out hb13)
                have HW13 := Lib.hid hw13
                have EU := Lib.hid eu
                have HU13 := Lib.hid hu13
                have u0 := cell_of hu13 (j := 0) rfl
                have u1 := cell_of hu13 (j := 1) rfl
                have u2 := cell_of hu13 (j := 2) rfl
                have u3 := cell_of hu13 (j := 3) rfl
                have u4 := cell_of hu13 (j := 4) rfl
                have u5 := cell_of hu13 (j := 5) rfl
                clear hrj hcj hccj hw13 eu hb13 hu13
                go_upto_region 20 with fail
                rw [← HW13.out, ← EU.out]
                clear a0 a1 a2 a3 a4 a5
                have HBU : Hid (tp ≠ u) := Lib.hid (fun e => by have h1 := HT13.out.here; have h2 := HU13.out; rw [← e, h1] at h2; injection h2 with h2; injection h2 with _ h3 _; exact absurd h3 (by decide))
                by_cases hsk : c.kind = 2 ∧ c.path = qP
                · have t2 : (c.kind == 2) = true := by simpa using hsk.1
                  have t3 : (c.path == [47, 113]) = true := by rw [hsk.2]; rfl
                  clear hsk
                  go_wp2_with fail
                  go_roundw
                  case rel => exact ⟨j + 1, mbj, Tj, hltj, by go_num, HT13, HGj, HIj, HO13, HQ13, HB13⟩
                  case measure => simp [intOf]; omega
                obtain ⟨w14, hw14⟩ : ∃ w14, w14 = w13.alloc (.cells #[.int .i64 c.kind, .string (B c.path), .string (B c.data), .int .i64 c.ver, .bool c.eph, .bool c.sq] 48) := ⟨_, rfl⟩
                have hb14 : Below w13.heap.size w13 w14 := by rw [hw14]; exact box_below w13 _
                have HD := Lib.hid (do_any (cp := 1) (HT13.out.below hb14) HGj.out o.zx o.se (l := [c]) (rd_one (w := w14) (g := w13.heap.size) c (by rw [hw14]; exact new_block w13 _)) (by omega) (fun x hx => by rcases List.mem_singleton.1 hx with rfl; exact HCO.out))
                have HW14 := Lib.hid hw14
                have HB14 := Lib.hid (HB13.out.trans (hb14.mono HB13.out.size))
                have HT14 := Lib.hid (HT13.out.below hb14)
                have HO14 := Lib.hid (own_below HO13.out hb14)
                have HQ14 := Lib.hid (blk_below HQ13.out hb14)
                have HIj2 := Lib.hid (rinv_do HGj.out HIj.out o.zx o.se c hsk)
                have q1 := cell_of HQ13.out (j := 1) rfl
                have q2 := cell_of HQ13.out (j := 2) rfl
                clear hb14 hw14
                by_cases hk2 : c.kind = 2
                · have t2 : (c.kind == 2) = true := by simpa using hk2
                  have t3 : (c.path == [47, 113]) = false := by
                    have : ¬ c.path = [47, 113] := fun h => hsk ⟨hk2, h⟩
                    simpa using this
                  clear hk2 hsk
                  go_wp2_with fail
                  rw [← HW14.out]
                  refine HD.out.mono ?_
                  rintro e w15 ⟨y1, y2, mb15, rfl, ht15, hg15, -, -⟩
                  have HT15 := Lib.hid ht15
                  have HB15 := Lib.hid (HB14.out.trans (gb_to hg15 HU1.out HB14.out.size))
                  have HG15 := Lib.hid (doL_good HGj.out o.zx o.se [c])
                  have HO15 := Lib.hid (own_gb HO14.out hg15 (own_ne HO14.out HT14.out.here (by decide)))
                  have HQ15 := Lib.hid (gb_cells hg15 (fun e => by have h1 := HT14.out.here; have h2 := HQ14.out; rw [e, h1] at h2; injection h2 with h2; injection h2 with _ h3 _; exact absurd h3 (by decide)) HQ14.out)
                  clear ht15 hg15 q1 q2 u0 u1 u2 u3 u4 u5
                  go_wp2_with fail
                  go_roundw
                  case rel => exact ⟨j + 1, mb15, _, hltj, by go_num, HT15, HG15, HIj2, HO15, HQ15, HB15⟩
                  case measure => simp [intOf]; omega
                · have t2 : (c.kind == 2) = false := by simpa using hk2
                  clear hk2 hsk
                  go_wp2_with fail
                  rw [← HW14.out]
                  refine HD.out.mono ?_
                  rintro e w15 ⟨y1, y2, mb15, rfl, ht15, hg15, -, -⟩
                  have HT15 := Lib.hid ht15
                  have HB15 := Lib.hid (HB14.out.trans (gb_to hg15 HU1.out HB14.out.size))
                  have HG15 := Lib.hid (doL_good HGj.out o.zx o.se [c])
                  have HO15 := Lib.hid (own_gb HO14.out hg15 (own_ne HO14.out HT14.out.here (by decide)))
                  have HQ15 := Lib.hid (gb_cells hg15 (fun e => by have h1 := HT14.out.here; have h2 := HQ14.out; rw [e, h1] at h2; injection h2 with h2; injection h2 with _ h3 _; exact absurd h3 (by decide)) HQ14.out)
                  clear ht15 hg15 q1 q2 u0 u1 u2 u3 u4 u5
                  go_wp2_with fail
                  go_roundw
                  case rel => exact ⟨j + 1, mb15, _, hltj, by go_num, HT15, HG15, HIj2, HO15, HQ15, HB15⟩
                  case measure => simp [intOf]; omega
              · go_wp2_with fail
                go_roundw
                case rel => exact ⟨k + 1, mbj, Tj, p, hlt, by go_num, rfl, HTj, HGj, HIj, HOj, HXj⟩
                case measure => simp [intOf]; omega
          · have t1 : (S.e == 0) = false := by simpa using he
            have HIX : Hid (RInv S.T last) := Lib.hid (by
              rcases HI10.out with ⟨_, h1⟩ | ⟨h1, _⟩
              · exact h1
              · exact absurd h1 he)
            clear he
            go_upto_region 17 with fail
            have HOK12 := Lib.hid ((HOKS.out o HOM.out).below HB12.out)
            have hm300 : o.m ≤ 300 := HTOT.out o HOM.out
            have q0 := cell_of HQ12.out (j := 0) rfl
            have q1 := cell_of HQ12.out (j := 1) rfl
            have q2 := cell_of HQ12.out (j := 2) rfl
            have q3 := cell_of HQ12.out (j := 3) rfl
            obtain ⟨oA, eoA⟩ : ∃ x, o.A = x := ⟨_, rfl⟩
            rw [eoA] at q3
            have EOA := Lib.hid eoA
            clear eoA
            go_upto_region 18 with fail
            clear q0 q1 q2 q3
            go_loopw [84] (fun i wr => ∃ (j : Nat) (mb : Nat) (T : Tr), j ≤ o.m ∧ i = .int .i64 j ∧ Hid (TreeW wr tp mb T) ∧ Hid (Zt.Good T) ∧ Hid (RInv T last) ∧ Hid (wr.ownsRow w5.heap.size 28 4 (.slice (some ⟨b, off, none⟩) N c7) N (L.flatMap ocell)) ∧ Hid (wr.heap[q]? = some (.cells #[.int .i64 o.k, .int .i64 o.zx, .int .i64 o.se, .slice o.A o.m o.c] 28 (0, 0))) ∧ Hid (Below w.heap.size w wr)) (fun i _ => o.m - (intOf i).toNat)
            case atStart => exact ⟨0, _, S.T, Nat.zero_le _, rfl, HT12, HG10, HIX, HO12, HQ12, HB12⟩
            case round =>
              obtain ⟨j, mbj, Tj, hj, rfl, HTj, HGj, HIj, HOj, HQj, HXj⟩ := hrel
              by_cases hltj : j < o.m
              · have hrj := ((HOKS.out o HOM.out).below HXj.out).rd
                rw [EOA.out] at hrj
                obtain ⟨bj, offj, c, rfl, hcj, hccj⟩ := hrj.at hltj
                have HCO := Lib.hid ((HOKS.out o HOM.out).ok c (List.mem_of_getElem? hcj))
                have a0 : wr.cell? ⟨bj, offj + j * 6, none⟩ = some (.int .i64 c.kind) := hccj 0 _ rfl
                have a1 : wr.cell? ⟨bj, offj + j * 6 + 1, none⟩ = some (.string (B c.path)) := hccj 1 _ rfl
                have a2 : wr.cell? ⟨bj, offj + j * 6 + 2, none⟩ = some (.string (B c.data)) := hccj 2 _ rfl
                have a3 : wr.cell? ⟨bj, offj + j * 6 + 3, none⟩ = some (.int .i64 c.ver) := hccj 3 _ rfl
                have a4 : wr.cell? ⟨bj, offj + j * 6 + 4, none⟩ = some (.bool c.eph) := hccj 4 _ rfl
                have a5 : wr.cell? ⟨bj, offj + j * 6 + 5, none⟩ = some (.bool c.sq) := hccj 5 _ rfl
                obtain ⟨w13, hw13⟩ : ∃ w13, w13 = wr.alloc (.cells #[.int .i64 c.kind, .string (B c.path), .string (B c.data), .int .i64 c.ver, .bool c.eph, .bool c.sq] 48) := ⟨_, rfl⟩
                obtain ⟨u, eu⟩ : ∃ u, u = wr.heap.size := ⟨_, rfl⟩
                have hb13 : Below wr.heap.size wr w13 := by rw [hw13]; exact box_below wr _
                have hu13 : w13.heap[u]? = some (.cells #[.int .i64 c.kind, .string (B c.path), .string (B c.data), .int .i64 c.ver, .bool c.eph, .bool c.sq] 48 (0, 0)) := by rw [hw13, eu]; exact new_block wr _
                have HB13 := Lib.hid (HXj.out.trans (hb13.mono HXj.out.size))
                have HT13 := Lib.hid (HTj.out.below hb13)
                have HO13 := Lib.hid (own_below HOj.out hb13)
                have HQ13 := Lib.hid (blk_below HQj.out hb13)
                have HW13 := Lib.hid hw13
                have EU := Lib.hid eu
                have HU13 := Lib.hid hu13
                have u0 := cell_of hu13 (j := 0) rfl
                have u1 := cell_of hu13 (j := 1) rfl
                have u2 := cell_of hu13 (j := 2) rfl
                have u3 := cell_of hu13 (j := 3) rfl
                have u4 := cell_of hu13 (j := 4) rfl
                have u5 := cell_of hu13 (j := 5) rfl
                clear hrj hcj hccj hw13 eu hb13 hu13
                go_upto_region 20 with fail
                rw [← HW13.out, ← EU.out]
                clear a0 a1 a2 a3 a4 a5
                have HBU : Hid (tp ≠ u) := Lib.hid (fun e => by have h1 := HT13.out.here; have h2 := HU13.out; rw [← e, h1] at h2; injection h2 with h2; injection h2 with _ h3 _; exact absurd h3 (by decide))
                by_cases hsk : c.kind = 2 ∧ c.path = qP
                · have t2 : (c.kind == 2) = true := by simpa using hsk.1
                  have t3 : (c.path == [47, 113]) = true := by rw [hsk.2]; rfl
                  clear hsk
                  go_wp2_with fail
                  go_roundw
                  case rel => exact ⟨j + 1, mbj, Tj, hltj, by go_num, HT13, HGj, HIj, HO13, HQ13, HB13⟩
                  case measure => simp [intOf]; omega
                obtain ⟨w14, hw14⟩ : ∃ w14, w14 = w13.alloc (.cells #[.int .i64 c.kind, .string (B c.path), .string (B c.data), .int .i64 c.ver, .bool c.eph, .bool c.sq] 48) := ⟨_, rfl⟩
                have hb14 : Below w13.heap.size w13 w14 := by rw [hw14]; exact box_below w13 _
                have HD := Lib.hid (do_any (cp := 1) (HT13.out.below hb14) HGj.out o.zx o.se (l := [c]) (rd_one (w := w14) (g := w13.heap.size) c (by rw [hw14]; exact new_block w13 _)) (by omega) (fun x hx => by rcases List.mem_singleton.1 hx with rfl; exact HCO.out))
                have HW14 := Lib.hid hw14
                have HB14 := Lib.hid (HB13.out.trans (hb14.mono HB13.out.size))
                have HT14 := Lib.hid (HT13.out.below hb14)
                have HO14 := Lib.hid (own_below HO13.out hb14)
                have HQ14 := Lib.hid (blk_below HQ13.out hb14)
                have HIj2 := Lib.hid (rinv_do HGj.out HIj.out o.zx o.se c hsk)
                have q1 := cell_of HQ13.out (j := 1) rfl
                have q2 := cell_of HQ13.out (j := 2) rfl
                clear hb14 hw14
                by_cases hk2 : c.kind = 2
                · have t2 : (c.kind == 2) = true := by simpa using hk2
                  have t3 : (c.path == [47, 113]) = false := by
                    have : ¬ c.path = [47, 113] := fun h => hsk ⟨hk2, h⟩
                    simpa using this
                  clear hk2 hsk
                  go_wp2_with fail
                  rw [← HW14.out]
                  refine HD.out.mono ?_
                  rintro e w15 ⟨y1, y2, mb15, rfl, ht15, hg15, -, -⟩
                  have HT15 := Lib.hid ht15
                  have HB15 := Lib.hid (HB14.out.trans (gb_to hg15 HU1.out HB14.out.size))
                  have HG15 := Lib.hid (doL_good HGj.out o.zx o.se [c])
                  have HO15 := Lib.hid (own_gb HO14.out hg15 (own_ne HO14.out HT14.out.here (by decide)))
                  have HQ15 := Lib.hid (gb_cells hg15 (fun e => by have h1 := HT14.out.here; have h2 := HQ14.out; rw [e, h1] at h2; injection h2 with h2; injection h2 with _ h3 _; exact absurd h3 (by decide)) HQ14.out)
                  clear ht15 hg15 q1 q2 u0 u1 u2 u3 u4 u5
                  go_wp2_with fail
                  go_roundw
                  case rel => exact ⟨j + 1, mb15, _, hltj, by go_num, HT15, HG15, HIj2, HO15, HQ15, HB15⟩
                  case measure => simp [intOf]; omega
                · have t2 : (c.kind == 2) = false := by simpa using hk2
                  clear hk2 hsk
                  go_wp2_with fail
                  rw [← HW14.out]
                  refine HD.out.mono ?_
                  rintro e w15 ⟨y1, y2, mb15, rfl, ht15, hg15, -, -⟩
                  have HT15 := Lib.hid ht15
                  have HB15 := Lib.hid (HB14.out.trans (gb_to hg15 HU1.out HB14.out.size))
                  have HG15 := Lib.hid (doL_good HGj.out o.zx o.se [c])
                  have HO15 := Lib.hid (own_gb HO14.out hg15 (own_ne HO14.out HT14.out.here (by decide)))
                  have HQ15 := Lib.hid (gb_cells hg15 (fun e => by have h1 := HT14.out.here; have h2 := HQ14.out; rw [e, h1] at h2; injection h2 with h2; injection h2 with _ h3 _; exact absurd h3 (by decide)) HQ14.out)
                  clear ht15 hg15 q1 q2 u0 u1 u2 u3 u4 u5
                  go_wp2_with fail
                  go_roundw
                  case rel => exact ⟨j + 1, mb15, _, hltj, by go_num, HT15, HG15, HIj2, HO15, HQ15, HB15⟩
                  case measure => simp [intOf]; omega
              · go_wp2_with fail
                go_roundw
                case rel => exact ⟨k + 1, mbj, Tj, last, hlt, by go_num, rfl, HTj, HGj, HIj, HOj, HXj⟩
                case measure => simp [intOf]; omega
        · have HAL := Lib.hid (alive_any wr)
          go_wp2_with fail
          refine HAL.out.mono ?_
          rintro e w8 ⟨rfl, hb8⟩
          have HB8 := Lib.hid (HX.out.trans (hb8.mono HX.out.size))
          clear hb8
          go_wp2_with fail
          go_ret
          exact ⟨rfl, HB8.out⟩
end Go.Proofs.YtfkhnnmibecbeaaDoor
