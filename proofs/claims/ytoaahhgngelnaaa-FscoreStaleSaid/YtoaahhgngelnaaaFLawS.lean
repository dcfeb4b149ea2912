/-
  A handle that is stale is stale for ever: the law FscoreStale returns true. No condition.
-/
import Derived.Test.YtoaahhgngelnaaaFSr
namespace Go.Proofs.Ytoaahhgngelnaaa
set_option maxRecDepth 100000
open Go.ChangeShapes Go.WideShapes Go.ChangeAt Go.RowKit Go.Proofs.Sg Go.Proofs.Fz

theorem neqY (x y : Hd) (w : World) : (binOp .neq 28 (hV x) (hV y)).run Try.prog w = .ok (.bool (!(decide (x.id = y.id ∧ x.gen = y.gen)))) w := by
  have hS : Try.prog.underlying 28 = some (.struct (Try.prog.fieldsOf 28)) := by kernel_rfl
  have hp : Try.prog.stoodInHeld 28 = false := by kernel_rfl
  have hui := Try.underlying3
  have hai := Try.isAgg3
  have hzi := Try.sizeOf3
  rw [run_neq_struct, show (10000 : Nat) = 9999 + 1 from rfl, run_equalIn_agg w 9999 28 _ _ hS hp]
  simp only [Program.fieldsOf, Try.underlying28]
  go_simp
  obtain ⟨a, b⟩ := x
  obtain ⟨a', b'⟩ := y
  by_cases h1 : a = a' <;> by_cases h2 : b = b' <;> simp [h1, h2]
theorem infoH : (Try.prog.info? 40).map (fun i => (i.zero, i.size, i.bytes)) = some (some (.agg #[.int .i64 0, .int .i64 0]), 2, 16) := by kernel_rfl
theorem SR.row0 {w W : World} {fp R T : Nat} {K : List (Nat × Obj)} {V : List (Nat × Value × List Hd)} {f : Fst} (h : SR w fp R K V W f T) {b : Nat} (hb : w.heap.size ≤ b) : SR w fp R K ((b, .slice none 0 0, []) :: V) W f T := by
  obtain ⟨Z, h1, h2, h3, h4, h5, h6⟩ := h
  refine ⟨Z, h1, h2, h3, h4, h5, fun r hr => ?_⟩
  rcases List.mem_cons.1 hr with rfl | hr
  · exact ⟨hb, HRow.nil _ _⟩
  · exact h6 r hr
set_option maxHeartbeats 16000000 in
theorem stale_law {w : World} {ad1 : Option Addr} {len1 cap1 : Nat} {os1 : List Opf} (hR1 : OReads w w.heap.size ad1 len1 os1) {ad2 : Option Addr} {len2 cap2 : Nat} {os2 : List Opf} (hR2 : OReads w w.heap.size ad2 len2 os2) (h : Hd) (hh : HdOk h) :
    Calls Try.prog 4 #[.slice ad1 len1 cap1, .slice ad2 len2 cap2, hV h] w fun e w' => e = .returned (.bool true) ∧ Below w.heap.size w w' := by
  obtain ⟨w1, hw1⟩ : ∃ W, W = w.alloc (.cells #[.int .i64 h.id, .int .i64 h.gen] 28) := ⟨_, rfl⟩
  obtain ⟨k0, hk0⟩ : ∃ k, k = w.heap.size := ⟨_, rfl⟩
  have hb0 : Below w.heap.size w w1 := by rw [hw1]; exact box_below w _
  have hx0 : w1.heap[k0]? = some (.cells #[.int .i64 h.id, .int .i64 h.gen] 28) := by rw [hw1, hk0]; exact new_block w _
  have HK0 : Hid (k0 < w1.heap.size) := Lib.hid (blk_lt hx0)
  have HB0 := Lib.hid hb0
  have HX0 := Lib.hid hx0
  have HW1 := Lib.hid hw1
  have EK0 := Lib.hid hk0
  have HO1 : Hid (∀ W, Below w1.heap.size w1 W → OReads W w.heap.size ad1 len1 os1) := Lib.hid (fun W hW => (hR1.kept hb0).kept (hW.mono hb0.size))
  have HO2 : Hid (∀ W, Below w1.heap.size w1 W → OReads W w.heap.size ad2 len2 os2) := Lib.hid (fun W hW => (hR2.kept hb0).kept (hW.mono hb0.size))
  have HL1 := Lib.hid hR1.1
  have HL2 := Lib.hid hR2.1
  have HHH := Lib.hid hh
  have HN := Lib.hid (fnew_any 50 w1)
  have HAL := Lib.hid alive_any
  clear hR1 hR2 hh hw1 hk0 hb0 hx0
  go_enter Try.func4, Try.ntmps4
  go_upto_region 1 with fail
  rw [← HW1.out, ← EK0.out]
  go_wp2_with fail
  refine HN.out.mono ?_
  rintro e w2 ⟨Y, rfl, hm, hb⟩
  obtain ⟨fp, hfp⟩ : ∃ k, Y.fp = k := ⟨_, rfl⟩
  rw [hfp]
  have HS2 : Hid (SR w1 fp 50 [(k0, .cells #[.int .i64 h.id, .int .i64 h.gen] 28)] [] w2 (newF 50) 0) := Lib.hid ⟨Y, hm, hfp, hb, Wl.new 50, fun k hk => by
    rw [List.mem_singleton.1 hk]
    exact ⟨blk_below HX0.out hb, fun hf => by have := hm.ge _ hf; have := HK0.out; omega⟩, fun r hr => by cases hr⟩
  have HFW := Lib.hid (few_any (cap := cap1) (HO1.out w2 hb) (Nat.le_trans HB0.out.size hb.size))
  clear hm hb hfp
  go_wp2_with fail
  refine HFW.out.mono ?_
  rintro e w3 ⟨r, rfl, hr, hb3⟩
  have HS3 := Lib.hid (HS2.out.below hb3)
  have HR1 := Lib.hid hr
  clear hr hb3
  cases r with
  | false =>
    go_wp2_with fail
    refine (HAL.out w3).mono ?_
    rintro e w9 ⟨rfl, hb9⟩
    have HB9 : Hid (Below w.heap.size w w9) := Lib.hid (by
      have h9 := HS3.out.st.bl.trans (hb9.mono HS3.out.st.bl.size)
      exact HB0.out.trans (h9.mono HB0.out.size))
    clear hb9
    go_wp2_with fail
    go_ret
    exact ⟨rfl, HB9.out⟩
  | true =>
    have HRA := Lib.hid (HR1.out rfl)
    have HFX := Lib.hid (few_any (cap := cap2) (HO2.out w3 HS3.out.st.bl) (Nat.le_trans HB0.out.size HS3.out.st.bl.size))
    clear HR1
    go_wp2_with fail
    refine HFX.out.mono ?_
    rintro e w4 ⟨r, rfl, hr, hb4⟩
    have HS4 := Lib.hid (HS3.out.below hb4)
    have HR2 := Lib.hid hr
    clear hr hb4
    cases r with
    | false =>
      go_wp2_with fail
      refine (HAL.out w4).mono ?_
      rintro e w9 ⟨rfl, hb9⟩
      have HB9 : Hid (Below w.heap.size w w9) := Lib.hid (by
        have h9 := HS4.out.st.bl.trans (hb9.mono HS4.out.st.bl.size)
        exact HB0.out.trans (h9.mono HB0.out.size))
      clear hb9
      go_wp2_with fail
      go_ret
      exact ⟨rfl, HB9.out⟩
    | true =>
      have HRB := Lib.hid (HR2.out rfl)
      have HLE : Hid (len1 ≤ 250 ∧ len2 ≤ 250) := Lib.hid ⟨by rw [← HL1.out]; exact HRA.out.2, by rw [← HL2.out]; exact HRB.out.2⟩
      clear HR2
      go_wp2_with fail
      obtain ⟨i00, hi, hz0, hz1, hz2⟩ := info_parts infoH
      go_loopw [8, 47] (fun v i wr => ∃ (j : Nat) (l : List Hd), j ≤ len1 ∧ i = .int .i64 (j : Int) ∧ Hid (SR w1 fp 50 [(k0, .cells #[.int .i64 h.id, .int .i64 h.gen] 28)] [(w1.heap.size, v, l)] wr (runF (newF 50) (os1.take j)) j) ∧ Hid ((∀ x ∈ l, Gv (runF (newF 50) (os1.take j)) x) ∧ l.length ≤ j)) (fun _ i _ => len1 - (intOf i).toNat)
      case atStart => exact ⟨0, [], Nat.zero_le _, rfl, Lib.hid (HS4.out.row0 (Nat.le_refl _)), Lib.hid ⟨fun x hx => (by cases hx), Nat.le_refl _⟩⟩
      case round =>
        obtain ⟨j, l, hj, rfl, HP, HG⟩ := hrel
        by_cases hlt : j < len1
        · as_aux_lemma =>
            obtain ⟨b, off, rfl, -, hc⟩ := (HO1.out wr HP.out.st.bl).2 (by omega)
            obtain ⟨e0, e1, e2, e3, e4, e5, e6, e7, e8, e9, e10, e11, e12, e13, e14, ⟨A, ln, c, e15, hr, -, hlc⟩, hok⟩ := hc j hlt
            obtain ⟨o, ho⟩ : ∃ o, os1.getD j of0 = o := ⟨_, rfl⟩
            have hj2 : j < os1.length := by rw [HL1.out]; exact hlt
            have hob : o.b.length ≤ 2000 := by rw [← ho, getD_at hj2]; exact HRA.out.1 _ (List.getElem_mem hj2)
            rw [ho] at e0 e1 e2 e3 e4 e5 e6 e7 e8 e9 e10 e11 e12 e13 e14 hr hok
            have hnx := run_next (f := newF 50) hj2
            rw [ho] at hnx
            obtain ⟨f, hf⟩ : ∃ f, runF (newF 50) (os1.take j) = f := ⟨_, rfl⟩
            rw [hf] at HP HG hnx
            have hbx := box_below wr (.cells #[.int .i64 o.kind, .int .i64 o.h.id, .int .i64 o.h.gen, .int .i64 o.g.id, .int .i64 o.g.gen, .string (B o.nm), .string (B o.ot), .int .i64 o.m.kind, .int .i64 o.m.mode, .int .i64 o.m.time, .string (B o.m.tg), .bool o.fd, .int .i64 o.p, .int .i64 o.n, .int .i64 o.t, .slice A ln c] 33)
            have hri := step_rise f o
            have hgv := step_given HP.out.st.wl.gd o
            have hd := sr_does (HP.out.below hbx) (by have := HLE.out; omega) (by decide) o (hok.ok hob) (hr.below hbx) hlc
            obtain ⟨g, hg⟩ : ∃ g, (stepF f o).1 = g := ⟨_, rfl⟩
            obtain ⟨a, ha⟩ : ∃ a, (stepF f o).2 = a := ⟨_, rfl⟩
            rw [hg] at hnx hri hgv hd
            rw [ha] at hgv hd
            obtain ⟨⟨ai, ag⟩, ab, ae⟩ := a
            obtain ⟨str, hstr⟩ : ∃ s, B ab = s := ⟨_, rfl⟩
            have HD : Hid (Calls Try.prog 10 #[pA fp, .agg #[.int .i64 o.kind, .int .i64 o.h.id, .int .i64 o.h.gen, .int .i64 o.g.id, .int .i64 o.g.gen, .string (B o.nm), .string (B o.ot), .int .i64 o.m.kind, .int .i64 o.m.mode, .int .i64 o.m.time, .string (B o.m.tg), .bool o.fd, .int .i64 o.p, .int .i64 o.n, .int .i64 o.t, .slice A ln c]] (wr.alloc (.cells #[.int .i64 o.kind, .int .i64 o.h.id, .int .i64 o.h.gen, .int .i64 o.g.id, .int .i64 o.g.gen, .string (B o.nm), .string (B o.ot), .int .i64 o.m.kind, .int .i64 o.m.mode, .int .i64 o.m.time, .string (B o.m.tg), .bool o.fd, .int .i64 o.p, .int .i64 o.n, .int .i64 o.t, .slice A ln c] 33)) fun e W' => e = .returned (.agg #[.int .i64 ai, .int .i64 ag, .string str, .int .i64 ae]) ∧ SR w1 fp 50 [(k0, .cells #[.int .i64 h.id, .int .i64 h.gen] 28)] [(w1.heap.size, u8, l)] W' g (j + 1)) := Lib.hid (by rw [← hstr]; exact hd)
            have HRI := Lib.hid hri
            have HGV : Hid (Gv g ⟨ai, ag⟩) := Lib.hid hgv
            have hj0 : (0 : Int) ≤ (j : Int) := by omega
            have hji : (j : Int) < (len1 : Int) := by omega
            obtain ⟨j1, hj1⟩ : ∃ j1, j + 1 = j1 := ⟨_, rfl⟩
            have hwj : IntKind.i64.wrap ((j : Int) + 1) = (j1 : Int) := by rw [IntKind.wrap_i64]; have := HLE.out; omega
            have HJ1 : Hid (j < len1 ∧ j + 1 = j1) := Lib.hid ⟨hlt, hj1⟩
            rw [hj1] at HD hnx
            have HNX := Lib.hid hnx
            have HG1 : Hid ((∀ x ∈ l, Gv g x) ∧ l.length ≤ j1) := Lib.hid ⟨fun x hx => (HG.out.1 x hx).rise hri, by have := HG.out.2; omega⟩
            have HLJ := Lib.hid HG.out.2
            clear hlt hj hj1 hr hlc hok hc ho hj2 hob hnx hf hbx HP HG hri hgv hd hg ha hstr
            go_wp2_with fail
            refine HD.out.mono ?_
            rintro e w5 ⟨rfl, hs5⟩
            obtain ⟨k1, hk1⟩ : ∃ k, k = w5.heap.size := ⟨_, rfl⟩
            obtain ⟨w6, hw6⟩ : ∃ W, W = w5.alloc (.cells #[.int .i64 ai, .int .i64 ag, .string str, .int .i64 ae] 36) := ⟨_, rfl⟩
            have hx6 : w6.heap[k1]? = some (.cells #[.int .i64 ai, .int .i64 ag, .string str, .int .i64 ae] 36 (0, 0)) := by rw [hw6, hk1]; exact new_block w5 _
            have hs6 := hs5.below (box_below w5 (.cells #[.int .i64 ai, .int .i64 ag, .string str, .int .i64 ae] 36))
            rw [← hw6] at hs6
            have HS6 := Lib.hid hs6
            have HW6 := Lib.hid hw6
            have HK1 := Lib.hid hk1
            have a0 := cell_of hx6 (j := 0) rfl
            have a1 := cell_of hx6 (j := 1) rfl
            have a3 := cell_of hx6 (j := 3) rfl
            clear hs5 hs6 hx6 hw6 hk1
            go_upto_region 9 with fail
            rw [← HW6.out, ← HK1.out]
            have HNO : Hid (∃ (j_1 : Nat) (l_1 : List Hd), j_1 ≤ len1 ∧ Value.int .i64 (j1 : Int) = .int .i64 (j_1 : Int) ∧ Hid (SR w1 fp 50 [(k0, .cells #[.int .i64 h.id, .int .i64 h.gen] 28)] [(w1.heap.size, u8, l_1)] w6 (runF (newF 50) (os1.take j_1)) j_1) ∧ Hid ((∀ x ∈ l_1, Gv (runF (newF 50) (os1.take j_1)) x) ∧ l_1.length ≤ j_1)) := Lib.hid ⟨j1, l, by have := HJ1.out; omega, rfl, Lib.hid (by rw [HNX.out]; exact HS6.out), Lib.hid (by rw [HNX.out]; exact HG1.out)⟩
            by_cases he : ae = 0
            · subst he
              by_cases hz : ai = 0 ∧ ag = 0
              · obtain ⟨rfl, rfl⟩ := hz
                have hnq : ∀ W, (binOp .neq 28 (.agg #[.int .i64 0, .int .i64 0]) (.agg #[.int .i64 0, .int .i64 0])).run Try.prog W = .ok (.bool false) W := fun W => by have h9 := neqY ⟨0, 0⟩ ⟨0, 0⟩ W; simpa using h9
                go_wp2_with fail
                go_roundw
                case rel => exact HNO.out
                case measure => simp [intOf]; have := HJ1.out; omega
              · have hnq : ∀ W, (binOp .neq 28 (.agg #[.int .i64 ai, .int .i64 ag]) (.agg #[.int .i64 0, .int .i64 0])).run Try.prog W = .ok (.bool true) W := fun W => by
                  have h9 := neqY ⟨ai, ag⟩ ⟨0, 0⟩ W
                  rw [decide_eq_false (by exact hz)] at h9
                  exact h9
                have HLO := Lib.hid (lown_any ⟨ai, ag⟩ w6)
                clear hz
                go_wp2_with fail
                refine HLO.out.mono ?_
                rintro e w7 ⟨rfl, hb7⟩
                have HS7 := Lib.hid (HS6.out.below hb7)
                have HRW : Hid (w7.ownsRow w1.heap.size 40 2 u8 l.length (l.flatMap hcell)) := Lib.hid (HS7.out.row (r := (w1.heap.size, u8, l)) (by simp))
                clear hb7
                go_wp2_with (at_builtin; refine wpList_append_own _ rfl _ _ 46 rfl w1.heap.size 40 i00 _ 2 16 Try.underlying46 hi hz0 hz1 hz2 rfl (by decide) _ l.length (l.flatMap hcell) rfl (HRW.out.alloc _) ⟨w7.heap.size, 0, none⟩ 1 1 [.int .i64 ai, .int .i64 ag] rfl rfl (World.news_of_block (new_block w7 _)) (fun u hu => by simp at hu; rcases hu with rfl | rfl <;> rfl) (by have := HG1.out.2; have := HJ1.out; have := HLE.out; unfold maxLen; omega) (by have := HG1.out.2; have := HJ1.out; have := HLE.out; omega) (by have := HS7.out.st.bl.size; simp; omega) ?_; intro v8 w8 hown' hg8 hnil8)
                have HS8 := Lib.hid (HS7.out.app (x := ⟨ai, ag⟩) (fun k hk => by rw [List.mem_singleton.1 hk]; exact HK0.out) (fun r hr => by cases hr) HS7.out.st.bl.size hown' hg8)
                have HG8 : Hid ((∀ x ∈ l ++ [⟨ai, ag⟩], Gv g x) ∧ (l ++ [(⟨ai, ag⟩ : Hd)]).length ≤ j1) := Lib.hid ⟨fun x hx => by
                  rcases List.mem_append.1 hx with hx | hx
                  · exact HG1.out.1 x hx
                  · rw [List.mem_singleton.1 hx]; exact HGV.out, by rw [List.length_append]; have := HLJ.out; have := HJ1.out; simp; omega⟩
                clear hown' hg8 hnil8
                go_wp2_with fail
                go_roundw
                case rel => exact ⟨j1, _, by have := HJ1.out; omega, rfl, Lib.hid (by rw [HNX.out]; exact HS8.out), Lib.hid (by rw [HNX.out]; exact HG8.out)⟩
                case measure => simp [intOf]; have := HJ1.out; omega
            · have he' : (ae == 0) = false := by simpa using he
              go_wp2_with fail
              go_roundw
              case rel => exact HNO.out
              case measure => simp [intOf]; have := HJ1.out; omega
        · as_aux_lemma =>
            obtain rfl : j = len1 := by omega
            have hji : ¬ (j : Int) < (j : Int) := by omega
            obtain ⟨f1, hf1⟩ : ∃ f, runF (newF 50) (os1.take j) = f := ⟨_, rfl⟩
            rw [hf1] at HP HG
            have hrw := HP.out.row (r := (w1.heap.size, u8, l)) (by simp)
            obtain ⟨A1, c1, eA1, -, -, hA1⟩ := own_form hrw
            dsimp only at eA1
            subst eA1
            have HA1 := Lib.hid hA1
            obtain ⟨b2, hb2⟩ : ∃ k, k = wr.heap.size := ⟨_, rfl⟩
            have HB2 : Hid (w1.heap.size ≤ b2) := Lib.hid (by rw [hb2]; exact HP.out.st.bl.size)
            have HR1B : Hid (∀ k, (Value.slice A1 l.length c1).ownBlock = some k → k < b2) := Lib.hid (fun k hk => by rw [hb2]; exact own_lt hrw hk)
            have HP2 : Hid (SR w1 fp 50 [(k0, .cells #[.int .i64 h.id, .int .i64 h.gen] 28)] [(b2, .slice none 0 0, []), (w1.heap.size, .slice A1 l.length c1, l)] wr f1 j) := Lib.hid (HP.out.row0 HB2.out)
            have HJJ : Hid (l.length ≤ j ∧ j ≤ 250 ∧ b2 ≤ wr.heap.size) := Lib.hid ⟨HG.out.2, HLE.out.1, by omega⟩
            have HGL : Hid (∀ x ∈ l, Gv f1 x) := Lib.hid HG.out.1
            clear hlt hj HP HG hf1 hrw hA1 hb2
            go_wp2_with fail
            go_loopw [12, 72] (fun v i wr => ∃ (d : Nat) (l2 : List Hd), d ≤ l.length ∧ i = .int .i64 (d : Int) ∧ Hid (SR w1 fp 50 [(k0, .cells #[.int .i64 h.id, .int .i64 h.gen] 28)] [(b2, v, l2), (w1.heap.size, .slice A1 l.length c1, l)] wr f1 j ∧ b2 ≤ wr.heap.size) ∧ Hid ((∀ x ∈ l2, Gv f1 x ∧ fnd f1.I x = none) ∧ l2.length ≤ d)) (fun _ i _ => l.length - (intOf i).toNat)
            case atStart => exact ⟨0, [], Nat.zero_le _, rfl, Lib.hid ⟨HP2.out, HJJ.out.2.2⟩, Lib.hid ⟨fun x hx => (by cases hx), Nat.le_refl _⟩⟩
            case round =>
              obtain ⟨d, l2, hd, rfl, HQ, HG2⟩ := hrel
              by_cases hlt : d < l.length
              · as_aux_lemma =>
                  obtain ⟨gb, rfl⟩ := HA1.out (by omega)
                  obtain ⟨xi, xg, hx⟩ : ∃ a b, l[d] = (⟨a, b⟩ : Hd) := ⟨_, _, rfl⟩
                  have hrow := HQ.out.1.row (r := (w1.heap.size, .slice (some ⟨gb, 0, none⟩) l.length c1, l)) (by simp)
                  have x0 : wr.cell? ⟨gb, d * 2, none⟩ = some (.int .i64 xi) := own_cell hrow (d * 2) _ (by have h9 := part_get hcell 2 l d hlt (hcell_len l) 0 (by omega); rw [Nat.add_zero] at h9; rw [h9, hx]; rfl)
                  have x1 : wr.cell? ⟨gb, d * 2 + 1, none⟩ = some (.int .i64 xg) := own_cell hrow (d * 2 + 1) _ (by have h9 := part_get hcell 2 l d hlt (hcell_len l) 1 (by omega); rw [h9, hx]; rfl)
                  have hgx : Gv f1 ⟨xi, xg⟩ := by rw [← hx]; exact HGL.out _ (List.getElem_mem hlt)
                  have hok := hgx.ok HQ.out.1.st.wl (by have := HJJ.out; omega)
                  obtain ⟨k5, hk5⟩ : ∃ k, k = wr.heap.size := ⟨_, rfl⟩
                  obtain ⟨w5, hw5⟩ : ∃ W, W = wr.alloc (.cells #[.int .i64 xi, .int .i64 xg] 40) := ⟨_, rfl⟩
                  have hx5 : w5.heap[k5]? = some (.cells #[.int .i64 xi, .int .i64 xg] 40 (0, 0)) := by rw [hw5, hk5]; exact new_block wr _
                  have hb5 : Below wr.heap.size wr w5 := by rw [hw5]; exact box_below wr _
                  have hs5 := HQ.out.1.below hb5
                  have hst := st_stat hs5.st ⟨xi, xg⟩ hok
                  have hss := stat_stale (f := f1) (h := ⟨xi, xg⟩)
                  obtain ⟨es, hes⟩ : ∃ e, (stF f1 ⟨xi, xg⟩).2 = e := ⟨_, rfl⟩
                  obtain ⟨inf, hinf⟩ : ∃ e, (stF f1 ⟨xi, xg⟩).1 = e := ⟨_, rfl⟩
                  rw [hes] at hst hss
                  rw [hinf] at hst
                  obtain ⟨⟨i0, i1⟩, i2, i3, i4, i5, i6, i7⟩ := inf
                  have HST : Hid (Calls Try.prog 13 #[pA fp, .agg #[.int .i64 xi, .int .i64 xg]] w5 fun e W' => e = .returned (.tuple #[.agg #[.int .i64 i0, .int .i64 i1, .int .i64 i2, .int .i64 i3, .int .i64 i4, .int .i64 i5, .int .i64 i6, .int .i64 i7], .int .i64 es]) ∧ Below w5.heap.size w5 W') := Lib.hid hst
                  have HSS : Hid (es ≠ 0 → Gv f1 ⟨xi, xg⟩ ∧ fnd f1.I ⟨xi, xg⟩ = none) := Lib.hid (fun h => ⟨hgx, hss.1 h⟩)
                  have HS5 : Hid (SR w1 fp 50 [(k0, .cells #[.int .i64 h.id, .int .i64 h.gen] 28)] [(b2, u12, l2), (w1.heap.size, .slice (some ⟨gb, 0, none⟩) l.length c1, l)] w5 f1 j ∧ b2 ≤ w5.heap.size) := Lib.hid ⟨hs5, Nat.le_trans HQ.out.2 hb5.size⟩
                  have y0 := cell_of hx5 (j := 0) rfl
                  have y1 := cell_of hx5 (j := 1) rfl
                  have HX5 := Lib.hid hx5
                  have HW5 := Lib.hid hw5
                  have HK5 := Lib.hid hk5
                  have hj0 : (0 : Int) ≤ (d : Int) := by omega
                  have hji : (d : Int) < (l.length : Int) := by omega
                  obtain ⟨d1, hd1⟩ : ∃ j1, d + 1 = j1 := ⟨_, rfl⟩
                  have hwj : IntKind.i64.wrap ((d : Int) + 1) = (d1 : Int) := by rw [IntKind.wrap_i64]; have := HJJ.out; omega
                  have HD1 : Hid (d < l.length ∧ d + 1 = d1) := Lib.hid ⟨hlt, hd1⟩
                  clear hlt hd hd1 hrow hgx hok hx5 hb5 hs5 hst hss hes hinf hx hk5 hw5
                  go_upto_region 16 with fail
                  rw [← HW5.out, ← HK5.out]
                  clear x0 x1
                  go_wp2_with fail
                  refine HST.out.mono ?_
                  rintro e w6 ⟨rfl, hb6⟩
                  obtain ⟨k7, hk7⟩ : ∃ k, k = w6.heap.size := ⟨_, rfl⟩
                  obtain ⟨w7, hw7⟩ : ∃ W, W = w6.alloc (.cells #[.int .i64 i0, .int .i64 i1, .int .i64 i2, .int .i64 i3, .int .i64 i4, .int .i64 i5, .int .i64 i6, .int .i64 i7] 43) := ⟨_, rfl⟩
                  have hb7 : Below w6.heap.size w6 w7 := by rw [hw7]; exact box_below w6 _
                  have HS7 : Hid (SR w1 fp 50 [(k0, .cells #[.int .i64 h.id, .int .i64 h.gen] 28)] [(b2, u12, l2), (w1.heap.size, .slice (some ⟨gb, 0, none⟩) l.length c1, l)] w7 f1 j ∧ b2 ≤ w7.heap.size) := Lib.hid ⟨(HS5.out.1.below hb6).below hb7, Nat.le_trans HS5.out.2 (Nat.le_trans hb6.size hb7.size)⟩
                  have hx7 := blk_below (blk_below HX5.out hb6) hb7
                  clear y0 y1
                  have y0 := cell_of hx7 (j := 0) rfl
                  have y1 := cell_of hx7 (j := 1) rfl
                  have HW7 := Lib.hid hw7
                  have HK7 := Lib.hid hk7
                  clear hb6 hb7 hk7 hw7 hx7
                  go_upto_region 17 with fail
                  rw [← HW7.out, ← HK7.out]
                  by_cases he : es = 0
                  · subst he
                    go_wp2_with fail
                    go_roundw
                    case rel => exact ⟨d1, l2, by have := HD1.out; omega, rfl, HS7, Lib.hid ⟨HG2.out.1, by have := HG2.out.2; have := HD1.out; omega⟩⟩
                    case measure => simp [intOf]; have := HD1.out; omega
                  · have he' : (es == 0) = false := by simpa using he
                    have he2 : (es != 0) = true := by simpa using he
                    have HNS := Lib.hid (HSS.out he)
                    have HRW : Hid (w7.ownsRow b2 40 2 u12 l2.length (l2.flatMap hcell)) := Lib.hid (HS7.out.1.row (r := (b2, u12, l2)) (by simp))
                    clear he
                    go_wp2_with (at_builtin; refine wpList_append_own _ rfl _ _ 46 rfl b2 40 i00 _ 2 16 Try.underlying46 hi hz0 hz1 hz2 rfl (by decide) _ l2.length (l2.flatMap hcell) rfl (HRW.out.alloc _) ⟨w7.heap.size, 0, none⟩ 1 1 [.int .i64 xi, .int .i64 xg] rfl rfl (World.news_of_block (new_block w7 _)) (fun u hu => by simp at hu; rcases hu with rfl | rfl <;> rfl) (by have := HG2.out.2; have := HD1.out; have := HJJ.out; unfold maxLen; omega) (by have := HG2.out.2; have := HD1.out; have := HJJ.out; omega) (by have := HS7.out.2; simp; omega) ?_; intro v8 w8 hown' hg8 hnil8)
                    have HS8 : Hid (SR w1 fp 50 [(k0, .cells #[.int .i64 h.id, .int .i64 h.gen] 28)] [(b2, v8, l2 ++ [⟨xi, xg⟩]), (w1.heap.size, .slice (some ⟨gb, 0, none⟩) l.length c1, l)] w8 f1 j ∧ b2 ≤ w8.heap.size) := Lib.hid ⟨HS7.out.1.app (x := ⟨xi, xg⟩) (fun k hk => by rw [List.mem_singleton.1 hk]; have := HK0.out; have := HB2.out; dsimp only; omega) (fun r hr k hk => by rw [List.mem_singleton.1 hr] at hk; exact HR1B.out k hk) HS7.out.2 hown' hg8, by have h9 := hg8.size; simp at h9; have := HS7.out.2; omega⟩
                    have HG8 : Hid ((∀ x ∈ l2 ++ [⟨xi, xg⟩], Gv f1 x ∧ fnd f1.I x = none) ∧ (l2 ++ [(⟨xi, xg⟩ : Hd)]).length ≤ d1) := Lib.hid ⟨fun x hx => by
                      rcases List.mem_append.1 hx with hx | hx
                      · exact HG2.out.1 x hx
                      · rw [List.mem_singleton.1 hx]; exact HNS.out, by rw [List.length_append]; have := HG2.out.2; have := HD1.out; simp; omega⟩
                    clear hown' hg8 hnil8
                    go_wp2_with fail
                    go_roundw
                    case rel => exact ⟨d1, _, by have := HD1.out; omega, rfl, HS8, HG8⟩
                    case measure => simp [intOf]; have := HD1.out; omega
              · as_aux_lemma =>
                  obtain rfl : d = l.length := by omega
                  have hji : ¬ ((l.length : Nat) : Int) < ((l.length : Nat) : Int) := by omega
                  obtain ⟨A2, c2, eA2, -, -, hA2⟩ := own_form (HQ.out.1.row (r := (b2, u12, l2)) (by simp))
                  dsimp only at eA2
                  subst eA2
                  have HA2 := Lib.hid hA2
                  have HS0 : Hid (SR w1 fp 50 [(k0, .cells #[.int .i64 h.id, .int .i64 h.gen] 28)] [(b2, .slice A2 l2.length c2, l2), (w1.heap.size, .slice A1 l.length c1, l)] wr f1 250) := Lib.hid (HQ.out.1.mono HJJ.out.2.1)
                  have HG0 : Hid (∀ x ∈ l2, Gv f1 x ∧ fnd f1.I x = none) := Lib.hid HG2.out.1
                  have HL2L : Hid (l2.length ≤ 250) := Lib.hid (by have := HG2.out.2; have := HJJ.out; omega)
                  clear hlt hd HQ HG2 hA2
                  go_wp2_with fail
                  go_loopw [91] (fun i wr => ∃ (j3 : Nat) (f : Fst), j3 ≤ len2 ∧ i = .int .i64 (j3 : Int) ∧ Hid (SR w1 fp 50 [(k0, .cells #[.int .i64 h.id, .int .i64 h.gen] 28)] [(b2, .slice A2 l2.length c2, l2), (w1.heap.size, .slice A1 l.length c1, l)] wr f (250 + j3)) ∧ Hid (∀ x ∈ l2, Gv f x ∧ fnd f.I x = none)) (fun i _ => len2 - (intOf i).toNat)
                  case atStart => exact ⟨0, f1, Nat.zero_le _, rfl, HS0, HG0⟩
                  case round =>
                    obtain ⟨j3, f, hj, rfl, HP, HG⟩ := hrel
                    by_cases hlt : j3 < len2
                    · as_aux_lemma =>
                        obtain ⟨b, off, rfl, -, hc⟩ := (HO2.out wr HP.out.st.bl).2 (by omega)
                        obtain ⟨e0, e1, e2, e3, e4, e5, e6, e7, e8, e9, e10, e11, e12, e13, e14, ⟨A, ln, c, e15, hr, -, hlc⟩, hok⟩ := hc j3 hlt
                        obtain ⟨o, ho⟩ : ∃ o, os2.getD j3 of0 = o := ⟨_, rfl⟩
                        have hj2 : j3 < os2.length := by rw [HL2.out]; exact hlt
                        have hob : o.b.length ≤ 2000 := by rw [← ho, getD_at hj2]; exact HRB.out.1 _ (List.getElem_mem hj2)
                        rw [ho] at e0 e1 e2 e3 e4 e5 e6 e7 e8 e9 e10 e11 e12 e13 e14 hr hok
                        have hbx := box_below wr (.cells #[.int .i64 o.kind, .int .i64 o.h.id, .int .i64 o.h.gen, .int .i64 o.g.id, .int .i64 o.g.gen, .string (B o.nm), .string (B o.ot), .int .i64 o.m.kind, .int .i64 o.m.mode, .int .i64 o.m.time, .string (B o.m.tg), .bool o.fd, .int .i64 o.p, .int .i64 o.n, .int .i64 o.t, .slice A ln c] 33)
                        have hri := step_rise f o
                        have hnd := HP.out.st.wl.gd.ids
                        have hd := sr_does (HP.out.below hbx) (by have := HLE.out; omega) (by decide) o (hok.ok hob) (hr.below hbx) hlc
                        obtain ⟨g, hg⟩ : ∃ g, (stepF f o).1 = g := ⟨_, rfl⟩
                        obtain ⟨av, hav⟩ : ∃ a, anW (stepF f o).2 = a := ⟨_, rfl⟩
                        rw [hg] at hri hd
                        rw [hav] at hd
                        have HD : Hid (Calls Try.prog 10 #[pA fp, .agg #[.int .i64 o.kind, .int .i64 o.h.id, .int .i64 o.h.gen, .int .i64 o.g.id, .int .i64 o.g.gen, .string (B o.nm), .string (B o.ot), .int .i64 o.m.kind, .int .i64 o.m.mode, .int .i64 o.m.time, .string (B o.m.tg), .bool o.fd, .int .i64 o.p, .int .i64 o.n, .int .i64 o.t, .slice A ln c]] (wr.alloc (.cells #[.int .i64 o.kind, .int .i64 o.h.id, .int .i64 o.h.gen, .int .i64 o.g.id, .int .i64 o.g.gen, .string (B o.nm), .string (B o.ot), .int .i64 o.m.kind, .int .i64 o.m.mode, .int .i64 o.m.time, .string (B o.m.tg), .bool o.fd, .int .i64 o.p, .int .i64 o.n, .int .i64 o.t, .slice A ln c] 33)) fun e W' => e = .returned av ∧ SR w1 fp 50 [(k0, .cells #[.int .i64 h.id, .int .i64 h.gen] 28)] [(b2, .slice A2 l2.length c2, l2), (w1.heap.size, .slice A1 l.length c1, l)] W' g (250 + j3 + 1)) := Lib.hid hd
                        have HGG : Hid (∀ x ∈ l2, Gv g x ∧ fnd g.I x = none) := Lib.hid (fun x hx => ⟨(HG.out x hx).1.rise hri, stale_rise (HG.out x hx).1 (HG.out x hx).2 hnd hri⟩)
                        have hj0 : (0 : Int) ≤ (j3 : Int) := by omega
                        have hji : (j3 : Int) < (len2 : Int) := by omega
                        obtain ⟨j1, hj1⟩ : ∃ j1, j3 + 1 = j1 := ⟨_, rfl⟩
                        have hwj : IntKind.i64.wrap ((j3 : Int) + 1) = (j1 : Int) := by rw [IntKind.wrap_i64]; have := HLE.out; omega
                        have HJ1 : Hid (j3 < len2 ∧ j3 + 1 = j1 ∧ j1 ≤ 250) := Lib.hid ⟨hlt, hj1, by have := HLE.out; omega⟩
                        clear hlt hj hj1 hr hlc hok hc ho hj2 hob hbx HP HG hri hd hg hav hnd
                        go_wp2_with fail
                        refine HD.out.mono ?_
                        rintro e w5 ⟨rfl, hs5⟩
                        have HS5 : Hid (SR w1 fp 50 [(k0, .cells #[.int .i64 h.id, .int .i64 h.gen] 28)] [(b2, .slice A2 l2.length c2, l2), (w1.heap.size, .slice A1 l.length c1, l)] w5 g (250 + j1)) := Lib.hid (hs5.mono (by have := HJ1.out; omega))
                        clear hs5
                        go_wp2_with fail
                        go_loopw [100] (fun i wr => ∃ (d3 : Nat), d3 ≤ l2.length ∧ i = .int .i64 (d3 : Int) ∧ Hid (SR w1 fp 50 [(k0, .cells #[.int .i64 h.id, .int .i64 h.gen] 28)] [(b2, .slice A2 l2.length c2, l2), (w1.heap.size, .slice A1 l.length c1, l)] wr g (250 + j1))) (fun i _ => l2.length - (intOf i).toNat)
                        case atStart => exact ⟨0, Nat.zero_le _, rfl, HS5⟩
                        case round =>
                          obtain ⟨d, hd, rfl, HQ⟩ := hrel
                          by_cases hlt : d < l2.length
                          · as_aux_lemma =>
                              obtain ⟨gb, rfl⟩ := HA2.out (by omega)
                              obtain ⟨xi, xg, hx⟩ : ∃ a b, l2[d] = (⟨a, b⟩ : Hd) := ⟨_, _, rfl⟩
                              have hrow := HQ.out.row (r := (b2, .slice (some ⟨gb, 0, none⟩) l2.length c2, l2)) (by simp)
                              have x0 : wr.cell? ⟨gb, d * 2, none⟩ = some (.int .i64 xi) := own_cell hrow (d * 2) _ (by have h9 := part_get hcell 2 l2 d hlt (hcell_len l2) 0 (by omega); rw [Nat.add_zero] at h9; rw [h9, hx]; rfl)
                              have x1 : wr.cell? ⟨gb, d * 2 + 1, none⟩ = some (.int .i64 xg) := own_cell hrow (d * 2 + 1) _ (by have h9 := part_get hcell 2 l2 d hlt (hcell_len l2) 1 (by omega); rw [h9, hx]; rfl)
                              have hgx : Gv g ⟨xi, xg⟩ ∧ fnd g.I ⟨xi, xg⟩ = none := by rw [← hx]; exact HGG.out _ (List.getElem_mem hlt)
                              have hok := hgx.1.ok HQ.out.st.wl (by have := HJ1.out; omega)
                              obtain ⟨k5, hk5⟩ : ∃ k, k = wr.heap.size := ⟨_, rfl⟩
                              obtain ⟨w6, hw6⟩ : ∃ W, W = wr.alloc (.cells #[.int .i64 xi, .int .i64 xg] 40) := ⟨_, rfl⟩
                              have hx6 : w6.heap[k5]? = some (.cells #[.int .i64 xi, .int .i64 xg] 40 (0, 0)) := by rw [hw6, hk5]; exact new_block wr _
                              have hb6 : Below wr.heap.size wr w6 := by rw [hw6]; exact box_below wr _
                              have hs6 := HQ.out.below hb6
                              have hst := st_stat hs6.st ⟨xi, xg⟩ hok
                              have hes : stF g ⟨xi, xg⟩ = (inf0, 175) := by unfold stF; rw [hgx.2]
                              rw [hes] at hst
                              have HST : Hid (Calls Try.prog 13 #[pA fp, .agg #[.int .i64 xi, .int .i64 xg]] w6 fun e W' => e = .returned (.tuple #[.agg #[.int .i64 0, .int .i64 0, .int .i64 0, .int .i64 0, .int .i64 0, .int .i64 0, .int .i64 0, .int .i64 0], .int .i64 175]) ∧ Below w6.heap.size w6 W') := Lib.hid hst
                              have HS6 := Lib.hid hs6
                              have y0 := cell_of hx6 (j := 0) rfl
                              have y1 := cell_of hx6 (j := 1) rfl
                              have HW6 := Lib.hid hw6
                              have HK5 := Lib.hid hk5
                              have hd0 : (0 : Int) ≤ (d : Int) := by omega
                              have hdi : (d : Int) < (l2.length : Int) := by omega
                              obtain ⟨d1, hd1⟩ : ∃ j1, d + 1 = j1 := ⟨_, rfl⟩
                              have hwd : IntKind.i64.wrap ((d : Int) + 1) = (d1 : Int) := by rw [IntKind.wrap_i64]; have := HL2L.out; omega
                              have HD1 : Hid (d < l2.length ∧ d + 1 = d1) := Lib.hid ⟨hlt, hd1⟩
                              clear hlt hd hd1 hrow hgx hok hx6 hb6 hs6 hst hes hx hk5 hw6
                              go_upto_region 27 with fail
                              rw [← HW6.out, ← HK5.out]
                              clear x0 x1
                              go_wp2_with fail
                              refine HST.out.mono ?_
                              rintro e w7 ⟨rfl, hb7⟩
                              have HS7 : Hid (SR w1 fp 50 [(k0, .cells #[.int .i64 h.id, .int .i64 h.gen] 28)] [(b2, .slice (some ⟨gb, 0, none⟩) l2.length c2, l2), (w1.heap.size, .slice A1 l.length c1, l)] (w7.alloc (.cells #[.int .i64 0, .int .i64 0, .int .i64 0, .int .i64 0, .int .i64 0, .int .i64 0, .int .i64 0, .int .i64 0] 43)) g (250 + j1)) := Lib.hid ((HS6.out.below hb7).below (box_below w7 _))
                              clear hb7 y0 y1
                              go_wp2_with fail
                              go_roundw
                              case rel => exact ⟨d1, by have := HD1.out; omega, rfl, HS7⟩
                              case measure => simp [intOf]; have := HD1.out; omega
                          · obtain rfl : d = l2.length := by omega
                            have hdi : ¬ ((l2.length : Nat) : Int) < ((l2.length : Nat) : Int) := by omega
                            clear hlt hd
                            go_wp2_with fail
                            go_roundw
                            case rel => exact ⟨j1, g, by have := HJ1.out; omega, rfl, HQ, HGG⟩
                            case measure => simp [intOf]; have := HJ1.out; omega
                    · as_aux_lemma =>
                        obtain rfl : j3 = len2 := by omega
                        have hji : ¬ (j3 : Int) < (j3 : Int) := by omega
                        have HT0 : Hid (St w1 fp 50 [(k0, .cells #[.int .i64 h.id, .int .i64 h.gen] 28)] wr f (250 + j3)) := Lib.hid HP.out.st
                        have hlk := stat_look f h
                        obtain ⟨es, hes⟩ : ∃ e, (stF f h).2 = e := ⟨_, rfl⟩
                        obtain ⟨inf, hinf⟩ : ∃ e, (stF f h).1 = e := ⟨_, rfl⟩
                        obtain ⟨el, hel⟩ : ∃ e, (loF f h [46]).2 = e := ⟨_, rfl⟩
                        obtain ⟨lh, hlh⟩ : ∃ e, (loF f h [46]).1 = e := ⟨_, rfl⟩
                        rw [hes, hel] at hlk
                        obtain ⟨⟨i0, i1⟩, i2, i3, i4, i5, i6, i7⟩ := inf
                        obtain ⟨li, lg⟩ := lh
                        have HLK := Lib.hid hlk
                        have HSTA : Hid (∀ W, St w1 fp 50 [(k0, .cells #[.int .i64 h.id, .int .i64 h.gen] 28)] W f (250 + j3) → Calls Try.prog 13 #[pA fp, .agg #[.int .i64 h.id, .int .i64 h.gen]] W fun e W' => e = .returned (.tuple #[.agg #[.int .i64 i0, .int .i64 i1, .int .i64 i2, .int .i64 i3, .int .i64 i4, .int .i64 i5, .int .i64 i6, .int .i64 i7], .int .i64 es]) ∧ Below W.heap.size W W') := Lib.hid (fun W hW => by
                          have h9 := st_stat hW h HHH.out
                          rw [hes, hinf] at h9
                          exact h9)
                        have HLOO : Hid (∀ W, St w1 fp 50 [(k0, .cells #[.int .i64 h.id, .int .i64 h.gen] 28)] W f (250 + j3) → Calls Try.prog 15 #[pA fp, .agg #[.int .i64 h.id, .int .i64 h.gen], .string ⟨#[46]⟩] W fun e W' => e = .returned (.tuple #[.agg #[.int .i64 li, .int .i64 lg], .int .i64 el]) ∧ Below W.heap.size W W') := Lib.hid (fun W hW => by
                          have h9 := st_look hW h HHH.out [46] (by decide)
                          rw [hel, hlh] at h9
                          exact h9)
                        have HOW := Lib.hid (lown_any h)
                        have HCC : Hid (∀ W, St w1 fp 50 [(k0, .cells #[.int .i64 h.id, .int .i64 h.gen] 28)] W f (250 + j3) → W.cell? ⟨k0, 0, none⟩ = some (.int .i64 h.id) ∧ W.cell? ⟨k0, 1, none⟩ = some (.int .i64 h.gen)) := Lib.hid (fun W hW => ⟨cell_of (hW.at (List.mem_singleton.2 rfl)) (j := 0) rfl, cell_of (hW.at (List.mem_singleton.2 rfl)) (j := 1) rfl⟩)
                        clear hlt hj HP HG hes hinf hel hlh hlk
                        obtain ⟨q0, q1⟩ := HCC.out wr HT0.out
                        go_wp2_with fail
                        refine (HOW.out wr).mono ?_
                        rintro e y1 ⟨rfl, hb1⟩
                        have HY1 := Lib.hid (HT0.out.below hb1)
                        clear hb1 q0 q1
                        go_wp2_with fail
                        refine (HSTA.out y1 HY1.out).mono ?_
                        rintro e y2 ⟨rfl, hb2⟩
                        obtain ⟨y3, hy3⟩ : ∃ W, W = y2.alloc (.cells #[.int .i64 i0, .int .i64 i1, .int .i64 i2, .int .i64 i3, .int .i64 i4, .int .i64 i5, .int .i64 i6, .int .i64 i7] 43) := ⟨_, rfl⟩
                        obtain ⟨k3, hk3⟩ : ∃ k, k = y2.heap.size := ⟨_, rfl⟩
                        have HY3 : Hid (St w1 fp 50 [(k0, .cells #[.int .i64 h.id, .int .i64 h.gen] 28)] y3 f (250 + j3)) := Lib.hid (by rw [hy3]; exact (HY1.out.below hb2).below (box_below y2 _))
                        have HW3 := Lib.hid hy3
                        have HK3 := Lib.hid hk3
                        clear hb2 hy3 hk3
                        obtain ⟨q0, q1⟩ := HCC.out y3 HY3.out
                        go_upto_region 33 with fail
                        rw [← HW3.out, ← HK3.out]
                        go_wp2_with fail
                        refine (HOW.out y3).mono ?_
                        rintro e y4 ⟨rfl, hb4⟩
                        have HY4 := Lib.hid (HY3.out.below hb4)
                        clear hb4 q0 q1
                        go_wp2_with fail
                        refine (HLOO.out y4 HY4.out).mono ?_
                        rintro e y5 ⟨rfl, hb5⟩
                        obtain ⟨y6, hy6⟩ : ∃ W, W = y5.alloc (.cells #[.int .i64 li, .int .i64 lg] 40) := ⟨_, rfl⟩
                        obtain ⟨k6, hk6⟩ : ∃ k, k = y5.heap.size := ⟨_, rfl⟩
                        have HY6 : Hid (St w1 fp 50 [(k0, .cells #[.int .i64 h.id, .int .i64 h.gen] 28)] y6 f (250 + j3)) := Lib.hid (by rw [hy6]; exact (HY4.out.below hb5).below (box_below y5 _))
                        have HW6 := Lib.hid hy6
                        have HK6 := Lib.hid hk6
                        clear hb5 hy6 hk6
                        go_upto_region 34 with fail
                        rw [← HW6.out, ← HK6.out]
                        go_wp2_with fail
                        refine (HAL.out y6).mono ?_
                        rintro e y7 ⟨rfl, hb7⟩
                        have HE : Hid (Below w.heap.size w y7) := Lib.hid (by
                          have h9 := (HY6.out.below hb7).bl
                          exact HB0.out.trans (h9.mono HB0.out.size))
                        clear hb7
                        by_cases he : es = 0
                        · subst he
                          go_wp2_with fail
                          go_ret
                          exact ⟨rfl, HE.out⟩
                        · obtain rfl : el = 175 := HLK.out.resolve_left he
                          have he' : (es == 0) = false := by simpa using he
                          go_wp2_with fail
                          go_ret
                          exact ⟨rfl, HE.out⟩
end Go.Proofs.Ytoaahhgngelnaaa
