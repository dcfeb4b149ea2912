/-
  What the document's Check returns of any list. Condition: its paths have at most 2^21 bytes.
-/
import Derived.Test.YtflgemlhocjipaaGreatDoorRef1
import Derived.Test.YtflgemlhocjipaaGreatDoorRBase
import Derived.Test.YtflgemlhocjipaaGreatDoorTree3
import Derived.Laws.Cover1
namespace Go.Proofs.YtflgemlhocjipaaGreatDoor
set_option maxRecDepth 100000
open Go.ChangeShapes Go.WideShapes Go.ChangeAt Go.RowKit Go.Proofs.Zn Go.Proofs.Zt

theorem to_rd {w : World} {A : Option Addr} {n c : Nat} {T : Tr} (h : Rd ncell 9 w A n T) (hc : n ≤ c) (m : Nat) (hm : m ≤ n) :
    ∃ A', (∀ W : World, (Instr.slice 27 (.slice A n c) none (some (.int .i64 (m : Int))) none).run Tryz.prog W = .ok (.slice A' m c) W) ∧ Rd ncell 9 w A' m (T.take m) := by
  obtain ⟨i0, hi, hz0, hz1, hz2⟩ := info_parts infoZ
  have e : Tryz.prog.elem 27 = 132 := by kernel_rfl
  refine ⟨if c = 0 then A else A.map (·.add (0 * 9)), fun W => ?_, ?_⟩
  · rw [run_slice_h (P := Tryz.prog) (w := W) 27 A n c Tryz.underlying27 .i64 (m : Int) (by omega) (by omega)]
    simp [e, sizeOf, typeInfo, hi, hz1, sliced]
  · refine ⟨by rw [List.length_take, h.len]; omega, fun hp => ?_⟩
    obtain ⟨b, off, rfl, hcl⟩ := h.cells (by omega)
    refine ⟨b, off, by rw [if_neg (by omega)]; simp [Go.WideShapes.add_plain], fun i hi j v hv => ?_⟩
    have hi' : i < T.length := by rw [List.length_take] at hi; omega
    rw [List.getElem_take] at hv
    exact hcl i hi' j v hv
theorem chkGo_at {l : Tr} {k : Nat} {z : Nd} (hz : l[k]? = some z) : chkGo (l.take k) (l.drop k) = if chk1 (l.take k) z ≠ 0 then chk1 (l.take k) z else chkGo (l.take (k + 1)) (l.drop (k + 1)) := by
  obtain ⟨hk, rfl⟩ := List.getElem?_eq_some_iff.1 hz
  rw [List.drop_eq_getElem_cons hk, chkGo, List.take_succ_eq_append_getElem hk]
theorem lastLe_zero (l : Tr) (z : Nd) : lastLe (l.take 0) z = false := by rw [List.take_zero]; rfl
theorem lastLe_succ {l : Tr} {j : Nat} {y : Nd} (hy : l[j]? = some y) (z : Nd) : lastLe (l.take (j + 1)) z = !decide (y.path < z.path) := by
  obtain ⟨hk, rfl⟩ := List.getElem?_eq_some_iff.1 hy
  unfold lastLe
  rw [List.take_succ_eq_append_getElem hk, List.getLast?_append]
  rfl
theorem less_dec (x y : Txt) : Op.bytesLess x y = decide (x < y) := by
  induction x generalizing y with
  | nil => cases y <;> simp [Op.bytesLess]
  | cons a x ih =>
    cases y with
    | nil => simp [Op.bytesLess]
    | cons b y =>
      rw [Op.bytesLess, ih, Bool.eq_iff_iff, decide_eq_true_iff, List.cons_lt_cons_iff]
      simp
theorem le_dec (x y : Txt) : (Op.bytesLess x y || x == y) = !decide (y < x) := by
  rw [less_dec]
  by_cases h1 : x < y
  · simp [h1, not_lt_of h1]
  · rcases ge_of h1 with h2 | h2
    · subst h2; simp [h1]
    · have h3 : (x == y) = false := by simpa using fun e => lt_ne h2 e.symm
      simp [h1, h2, h3]
set_option maxHeartbeats 4000000 in
theorem rcheck_any {w : World} {A : Option Addr} {n c : Nat} {l : Tr} (h : Rd ncell 9 w A n l) (hc : n ≤ c) (hcm : c ≤ 9223372036854775807) (hn : n ≤ 1000000) (hp : ∀ z ∈ l, z.path.length ≤ 2097152) :
    Calls Tryz.prog 28 #[.slice A n c] w fun e w' => e = .returned (.int .i64 (chk l)) ∧ Below w.heap.size w w' := by
  obtain ⟨r, hr⟩ : ∃ r, chk l = r := ⟨_, rfl⟩
  rw [hr]
  have HRR := Lib.hid hr
  have HR := Lib.hid h
  have HP := Lib.hid hp
  have HC := Lib.hid hc
  have HCM := Lib.hid hcm
  by_cases hn0 : n = 0
  · subst hn0
    have HE : Hid (r = 80) := Lib.hid (by rw [← HRR.out, List.eq_nil_of_length_eq_zero h.len]; rfl)
    rw [HE.out]
    clear h hc hcm hp hr
    go_enter Tryz.func28, Tryz.ntmps28
    go_wp2_with fail
    go_ret
    exact ⟨rfl, Below.refl _ _⟩
  obtain ⟨b, off, z, rfl, hz, hcell⟩ := h.at (k := 0) (by omega)
  have a0 : w.cell? ⟨b, off, none⟩ = some (.string (B z.path)) := by have := hcell 0 _ rfl; simpa using this
  obtain ⟨t, ht⟩ : ∃ t, (z.path == [47]) = t := ⟨_, rfl⟩
  have ht2 : (z.path != [47]) = !t := by rw [← ht]; rfl
  have HH : Hid (headB l = t) := Lib.hid (by
    cases l with
    | nil => cases hz
    | cons x y => simp at hz; subst hz; exact ht)
  have hpos : 0 < n := by omega
  have HN0 := Lib.hid hn0
  have HN := Lib.hid hn
  clear h hc hcm hp hr hz hcell hn0
  cases t with
  | false =>
    have HE : Hid (r = 80) := Lib.hid (by rw [← HRR.out]; unfold chk; rw [if_pos HH.out])
    rw [HE.out]
    go_enter Tryz.func28, Tryz.ntmps28
    go_wp2_with fail
    go_ret
    exact ⟨rfl, Below.refl _ _⟩
  | true =>
    by_cases h200 : 200 < n
    · have HE : Hid (r = 86) := Lib.hid (by rw [← HRR.out]; unfold chk; rw [if_neg (by rw [HH.out]; simp), if_pos (by rw [HR.out.len]; exact h200)])
      have h200' : (200 : Int) < (n : Int) := by omega
      rw [HE.out]
      clear h200
      go_enter Tryz.func28, Tryz.ntmps28
      go_wp2_with fail
      go_ret
      exact ⟨rfl, Below.refl _ _⟩
    have h200' : ¬ (200 : Int) < (n : Int) := by omega
    have HGO : Hid (r = chkGo (l.take 0) (l.drop 0)) := Lib.hid (by rw [← HRR.out]; unfold chk; rw [if_neg (by rw [HH.out]; simp), if_neg (by rw [HR.out.len]; exact h200), List.take_zero, List.drop_zero])
    clear h200
    go_enter Tryz.func28, Tryz.ntmps28
    go_wp2_with fail
    clear a0 ht ht2
    go_loopw [3] (fun i wr => ∃ k : Nat, k ≤ n ∧ i = .int .i64 k ∧ Hid (r = chkGo (l.take k) (l.drop k)) ∧ Hid (Below w.heap.size w wr)) (fun i _ => n - (intOf i).toNat)
    case atStart => exact ⟨0, Nat.zero_le _, rfl, HGO, Lib.hid (Below.refl _ _)⟩
    case round =>
      obtain ⟨k, hk, rfl, HG, HX⟩ := hrel
      have hn := HN.out
      by_cases hlt : k < n
      · have HRW := Lib.hid (HR.out.below HX.out)
        obtain ⟨b', off', z, eA, hz, hcell⟩ := HRW.out.at hlt
        injection eA with eA
        injection eA with e1 e2 _
        subst e1 e2
        obtain ⟨w3, hw3⟩ : ∃ w3, w3 = wr.alloc (.cells #[.string (B z.path), .string (B z.data), .int .i64 z.cr, .int .i64 z.ch, .int .i64 z.kd, .int .i64 z.ver, .int .i64 z.ks, .int .i64 z.own, .int .i64 z.nx] 132) := ⟨_, rfl⟩
        obtain ⟨s, es⟩ : ∃ s, s = wr.heap.size := ⟨_, rfl⟩
        have hb3 : Below wr.heap.size wr w3 := by rw [hw3]; exact box_below wr _
        have hs3 : w3.heap[s]? = some (.cells #[.string (B z.path), .string (B z.data), .int .i64 z.cr, .int .i64 z.ch, .int .i64 z.kd, .int .i64 z.ver, .int .i64 z.ks, .int .i64 z.own, .int .i64 z.nx] 132 (0, 0)) := by rw [hw3, es]; exact new_block wr _
        have HZ := Lib.hid hz
        have HZP := Lib.hid (HP.out z (List.mem_of_getElem? hz))
        have HX3 := Lib.hid (HX.out.trans (hb3.mono HX.out.size))
        have HR3 := Lib.hid (HRW.out.below hb3)
        have HS3 := Lib.hid hs3
        have HW3 := Lib.hid hw3
        have ES := Lib.hid es
        have HGA := Lib.hid (HG.out.trans (chkGo_at hz))
        have a0 : wr.cell? ⟨b, off + k * 9, none⟩ = some (.string (B z.path)) := hcell 0 _ rfl
        have a1 : wr.cell? ⟨b, off + k * 9 + 1, none⟩ = some (.string (B z.data)) := hcell 1 _ rfl
        have a2 : wr.cell? ⟨b, off + k * 9 + 2, none⟩ = some (.int .i64 z.cr) := hcell 2 _ rfl
        have a3 : wr.cell? ⟨b, off + k * 9 + 3, none⟩ = some (.int .i64 z.ch) := hcell 3 _ rfl
        have a4 : wr.cell? ⟨b, off + k * 9 + 4, none⟩ = some (.int .i64 z.kd) := hcell 4 _ rfl
        have a5 : wr.cell? ⟨b, off + k * 9 + 5, none⟩ = some (.int .i64 z.ver) := hcell 5 _ rfl
        have a6 : wr.cell? ⟨b, off + k * 9 + 6, none⟩ = some (.int .i64 z.ks) := hcell 6 _ rfl
        have a7 : wr.cell? ⟨b, off + k * 9 + 7, none⟩ = some (.int .i64 z.own) := hcell 7 _ rfl
        have a8 : wr.cell? ⟨b, off + k * 9 + 8, none⟩ = some (.int .i64 z.nx) := hcell 8 _ rfl
        have s0 := cell_of hs3 (j := 0) rfl
        have HVA := Lib.hid (rvalid_any (B z.path) w3 (by rw [B_size]; exact HZP.out))
        simp only [LB] at HVA
        obtain ⟨v, hv⟩ : ∃ v, valid z.path = v := ⟨_, rfl⟩
        rw [hv] at HVA
        have HV := Lib.hid hv
        clear hz hcell hw3 es hb3 hs3 hv
        go_upto_region 9 with fail
        rw [← HW3.out, ← ES.out]
        clear a0 a1 a2 a3 a4 a5 a6 a7 a8
        go_wp2_with fail
        refine HVA.out.mono ?_
        rintro e w4 ⟨rfl, hb4⟩
        have HX4 := Lib.hid (HX3.out.trans (hb4.mono HX3.out.size))
        have HR4 := Lib.hid (HR3.out.below hb4)
        have HS4 := Lib.hid (blk_below HS3.out hb4)
        clear hb4 s0
        cases v with
        | false =>
          have HE : Hid (r = 70) := Lib.hid (by rw [HGA.out]; have : chk1 (l.take k) z = 70 := by unfold chk1; rw [if_pos HV.out]
                                                rw [this, if_pos (by decide)])
          go_wp2_with fail
          go_ret
          exact ⟨ret_i HE.out.symm, HX4.out⟩
        | true =>
          have hs4 := HS4.out
          have s0 := cell_of hs4 (j := 0) rfl
          clear hs4
          by_cases hk0 : k = 0
          · subst hk0
            obtain ⟨t, ht⟩ : ∃ t, lastLe (l.take 0) z = t := ⟨_, rfl⟩
            obtain rfl : t = false := by rw [← ht]; exact lastLe_zero l z
            have HLL := Lib.hid ht
            clear ht
            go_upto_region 11 with fail
            go_quiet (fail)
            obtain ⟨w5, hw5⟩ : ∃ w5, w5 = w4.drewN nq := ⟨_, rfl⟩
            have HW5 := Lib.hid hw5
            rw [← HW5.out]
            clear hw5 s0
            have HX5 : Hid (Below w.heap.size w w5) := Lib.hid (by rw [HW5.out]; exact below_drewN HX4.out _)
            have HR5 : Hid (Rd ncell 9 w5 (some ⟨b, off, none⟩) n l) := Lib.hid (HR4.out.below (by rw [HW5.out]; exact below_drewN (Below.refl _ _) _))
            have HS5 : Hid (w5.heap[s]? = some (.cells #[.string (B z.path), .string (B z.data), .int .i64 z.cr, .int .i64 z.ch, .int .i64 z.kd, .int .i64 z.ver, .int .i64 z.ks, .int .i64 z.own, .int .i64 z.nx] 132 (0, 0))) := Lib.hid (by rw [HW5.out]; exact HS4.out)
            have hs5 := HS5.out
            have s0 := cell_of hs5 (j := 0) rfl
            clear hs5
            have HPA := Lib.hid (rparent_any (B z.path) w5 (by rw [B_size]; exact HZP.out))
            simp only [LB] at HPA
            obtain ⟨po, hpo⟩ : ∃ b, parentOk z.path = b := ⟨_, rfl⟩
            obtain ⟨up, hup⟩ : ∃ u, parent z.path = u := ⟨_, rfl⟩
            rw [hpo, hup] at HPA
            have HPO := Lib.hid hpo
            have HUP := Lib.hid hup
            clear hpo hup
            go_wp2_with fail
            refine HPA.out.mono ?_
            rintro e w6 ⟨rfl, hb6⟩
            have HX6 := Lib.hid (HX5.out.trans (hb6.mono HX5.out.size))
            have HS6 := Lib.hid (blk_below HS5.out hb6)
            have HR6 := Lib.hid (HR5.out.below hb6)
            clear hb6 s0
            obtain ⟨A', hsl, hrd⟩ := to_rd HR6.out HC.out 0 (by omega)
            have HGT := Lib.hid (rget_any (c := c) hrd (by omega) up)
            unfold RgPost at HGT
            obtain ⟨pz, hpz⟩ : ∃ p, (get (l.take 0) up).getD nd0 = p := ⟨_, rfl⟩
            obtain ⟨is, his⟩ : ∃ b, (get (l.take 0) up).isSome = b := ⟨_, rfl⟩
            rw [hpz, his] at HGT
            unfold ndv at HGT
            have HPZ := Lib.hid hpz
            have HIS := Lib.hid his
            replace hsl : ∀ W : World, (Instr.slice 27 (.slice (some ⟨b, off, none⟩) n c) none (some (.int .i64 0)) none).run Tryz.prog W = .ok (.slice A' 0 c) W := hsl
            clear hrd hpz his
            go_wp2_with fail
            refine HGT.out.mono ?_
            rintro e w7 ⟨rfl, hb7⟩
            obtain ⟨w8, hw8⟩ : ∃ w8, w8 = w7.alloc (.cells #[.string (B pz.path), .string (B pz.data), .int .i64 pz.cr, .int .i64 pz.ch, .int .i64 pz.kd, .int .i64 pz.ver, .int .i64 pz.ks, .int .i64 pz.own, .int .i64 pz.nx] 132) := ⟨_, rfl⟩
            obtain ⟨u, eu⟩ : ∃ s, s = w7.heap.size := ⟨_, rfl⟩
            have hb8 : Below w7.heap.size w7 w8 := by rw [hw8]; exact box_below w7 _
            have hu8 : w8.heap[u]? = some (.cells #[.string (B pz.path), .string (B pz.data), .int .i64 pz.cr, .int .i64 pz.ch, .int .i64 pz.kd, .int .i64 pz.ver, .int .i64 pz.ks, .int .i64 pz.own, .int .i64 pz.nx] 132 (0, 0)) := by rw [hw8, eu]; exact new_block w7 _
            have HX7 := HX6.out.trans (hb7.mono HX6.out.size)
            have HX8 := Lib.hid (HX7.trans (hb8.mono HX7.size))
            have HS8 := Lib.hid (blk_below (blk_below HS6.out hb7) hb8)
            have HW8 := Lib.hid hw8
            have EU := Lib.hid eu
            have u7 := cell_of hu8 (j := 7) rfl
            have hs8 := HS8.out
            have s7 := cell_of hs8 (j := 7) rfl
            have s1 := cell_of hs8 (j := 1) rfl
            clear hb7 hb8 hu8 hw8 eu HX7 hs8 hsl
            go_upto_region 15 with fail
            rw [← HW8.out, ← EU.out]
            obtain ⟨o1, ho1⟩ : ∃ b, (pz.own != 0) = b := ⟨_, rfl⟩
            obtain ⟨o2, ho2⟩ : ∃ b, (z.own != 0) = b := ⟨_, rfl⟩
            have HO1 := Lib.hid ho1
            have HO2 := Lib.hid ho2
            have HNB : Hid (po = true → is = false → r = 83) := Lib.hid fun e1 e2 => by
              rw [HGA.out]
              have : chk1 (l.take 0) z = 83 := by
                unfold chk1
                rw [if_neg (by rw [HV.out]; simp), if_neg (by rw [HLL.out]; simp), if_pos ⟨by rw [HPO.out, e1], by rw [HUP.out, HIS.out, e2]⟩]
              rw [this, if_pos (by decide)]
            have HN83 : Hid ((po = true → is = true) → ¬ (parentOk z.path = true ∧ (get (l.take 0) (parent z.path)).isSome = false)) := Lib.hid fun h ⟨h1, h2⟩ => by
              rw [HPO.out] at h1
              rw [HUP.out, HIS.out, h h1] at h2
              cases h2
            have HBAD : Hid ((po = true → is = true) → ((po = true ∧ o1 = true) ∨ (po = false ∧ o2 = true)) → r = 85) := Lib.hid fun h0 h => by
              rw [HGA.out]
              have : chk1 (l.take 0) z = 85 := by
                unfold chk1
                rw [if_neg (by rw [HV.out]; simp), if_neg (by rw [HLL.out]; simp), if_neg (HN83.out h0), if_pos]
                rw [HPO.out, HUP.out, HPZ.out]
                rcases h with ⟨a, b⟩ | ⟨a, b⟩
                · exact .inl ⟨a, by have := HO1.out; rw [b] at this; simpa using this⟩
                · exact .inr ⟨a, by have := HO2.out; rw [b] at this; simpa using this⟩
              rw [this, if_pos (by decide)]
            have HN85 : Hid (¬ ((po = true ∧ o1 = true) ∨ (po = false ∧ o2 = true)) → ¬ ((parentOk z.path = true ∧ ((get (l.take 0) (parent z.path)).getD nd0).own ≠ 0) ∨ (parentOk z.path = false ∧ z.own ≠ 0))) := Lib.hid fun h h' => h (by
              rw [HPO.out, HUP.out, HPZ.out] at h'
              rcases h' with ⟨a, b⟩ | ⟨a, b⟩
              · exact .inl ⟨a, by rw [← HO1.out]; simpa using b⟩
              · exact .inr ⟨a, by rw [← HO2.out]; simpa using b⟩)
            cases po with
            | true =>
              cases is with
              | false =>
                have HE := Lib.hid (HNB.out rfl rfl)
                go_wp2_with fail
                go_ret
                exact ⟨ret_i HE.out.symm, HX8.out⟩
              | true =>
                cases o1 with
                | true =>
                  have HE := Lib.hid (HBAD.out (fun _ => rfl) (.inl ⟨rfl, rfl⟩))
                  go_wp2_with fail
                  go_ret
                  exact ⟨ret_i HE.out.symm, HX8.out⟩
                | false =>
                  have H83 := Lib.hid (HN83.out (fun _ => rfl))
                  have H85 := Lib.hid (HN85.out (by simp))
                  by_cases hd : 1024 < z.data.length
                  · have hd' : (1024 : Int) < (z.data.length : Int) := by omega
                    have HE : Hid (r = 87) := Lib.hid (by
                      rw [HGA.out]
                      have : chk1 (l.take 0) z = 87 := by
                        unfold chk1
                        rw [if_neg (by rw [HV.out]; simp), if_neg (by rw [HLL.out]; simp), if_neg H83.out, if_neg H85.out, if_pos hd]
                      rw [this, if_pos (by decide)])
                    clear hd
                    go_wp2_with fail
                    go_ret
                    exact ⟨ret_i HE.out.symm, HX8.out⟩
                  · have hd' : ¬ (1024 : Int) < (z.data.length : Int) := by omega
                    have HD := Lib.hid hd
                    clear hd
                    have H1 : Hid (nums z = false → r = 1) := Lib.hid fun e => by
                      rw [HGA.out]
                      have : chk1 (l.take 0) z = 1 := by
                        unfold chk1
                        rw [if_neg (by rw [HV.out]; simp), if_neg (by rw [HLL.out]; simp), if_neg H83.out, if_neg H85.out, if_neg HD.out, if_pos e]
                      rw [this, if_pos (by decide)]
                    have H0 : Hid (nums z = true → r = chkGo (l.take (0 + 1)) (l.drop (0 + 1))) := Lib.hid fun e => by
                      rw [HGA.out]
                      have : chk1 (l.take 0) z = 0 := by
                        unfold chk1
                        rw [if_neg (by rw [HV.out]; simp), if_neg (by rw [HLL.out]; simp), if_neg H83.out, if_neg H85.out, if_neg HD.out, if_neg (by rw [e]; simp)]
                      rw [this, if_neg (by simp)]
                    obtain ⟨w9, hw9⟩ : ∃ w9, w9 = w8.alloc (.cells #[.int .i64 z.cr, .int .i64 z.ch, .int .i64 z.kd, .int .i64 z.ver, .int .i64 z.ks, .int .i64 z.own] 130) := ⟨_, rfl⟩
                    obtain ⟨q, eq⟩ : ∃ s, s = w8.heap.size := ⟨_, rfl⟩
                    have hb9 : Below w8.heap.size w8 w9 := by rw [hw9]; exact box_below w8 _
                    have hq9 : w9.heap[q]? = some (.cells #[.int .i64 z.cr, .int .i64 z.ch, .int .i64 z.kd, .int .i64 z.ver, .int .i64 z.ks, .int .i64 z.own] 130 (0, 0)) := by rw [hw9, eq]; exact new_block w8 _
                    have HX9 := Lib.hid (HX8.out.trans (hb9.mono HX8.out.size))
                    have hs9 := blk_below HS8.out hb9
                    have hs8 := HS8.out
                    have s2 := cell_of hs8 (j := 2) rfl
                    have s3 := cell_of hs8 (j := 3) rfl
                    have s4 := cell_of hs8 (j := 4) rfl
                    have s5 := cell_of hs8 (j := 5) rfl
                    have s6 := cell_of hs8 (j := 6) rfl
                    have q0 := cell_of hq9 (j := 0) rfl
                    have q1 := cell_of hq9 (j := 1) rfl
                    have q2 := cell_of hq9 (j := 2) rfl
                    have q3 := cell_of hq9 (j := 3) rfl
                    have q4 := cell_of hq9 (j := 4) rfl
                    have q5 := cell_of hq9 (j := 5) rfl
                    have n8 := cell_of hs9 (j := 8) rfl
                    have HW9 := Lib.hid hw9
                    have EQ := Lib.hid eq
                    clear hb9 hw9 eq hq9 hs9 hs8
                    go_upto_region 22 with fail
                    rw [← HW9.out, ← EQ.out]
                    clear s1 s2 s3 s4 s5 s6 s7 u7
                    have HI0 := Lib.hid (rin_any z.cr w9)
                    obtain ⟨b0, hb0⟩ : ∃ b, inr z.cr = b := ⟨_, rfl⟩
                    rw [hb0] at HI0
                    have HB0 := Lib.hid hb0
                    clear hb0
                    go_wp2_with fail
                    refine HI0.out.mono ?_
                    rintro e w9' ⟨rfl, rfl⟩
                    cases b0 with
                    | false =>
                      have HE := Lib.hid (H1.out (by unfold nums; rw [HB0.out]; simp))
                      go_wp2_with fail
                      go_ret
                      exact ⟨ret_i HE.out.symm, HX9.out⟩
                    | true =>
                      have HI1 := Lib.hid (rin_any z.ch w9)
                      obtain ⟨b1, hb1⟩ : ∃ b, inr z.ch = b := ⟨_, rfl⟩
                      rw [hb1] at HI1
                      have HB1 := Lib.hid hb1
                      clear hb1
                      go_wp2_with fail
                      refine HI1.out.mono ?_
                      rintro e w9' ⟨rfl, rfl⟩
                      cases b1 with
                      | false =>
                        have HE := Lib.hid (H1.out (by unfold nums; rw [HB1.out]; simp))
                        go_wp2_with fail
                        go_ret
                        exact ⟨ret_i HE.out.symm, HX9.out⟩
                      | true =>
                        have HI2 := Lib.hid (rin_any z.kd w9)
                        obtain ⟨b2, hb2⟩ : ∃ b, inr z.kd = b := ⟨_, rfl⟩
                        rw [hb2] at HI2
                        have HB2 := Lib.hid hb2
                        clear hb2
                        go_wp2_with fail
                        refine HI2.out.mono ?_
                        rintro e w9' ⟨rfl, rfl⟩
                        cases b2 with
                        | false =>
                          have HE := Lib.hid (H1.out (by unfold nums; rw [HB2.out]; simp))
                          go_wp2_with fail
                          go_ret
                          exact ⟨ret_i HE.out.symm, HX9.out⟩
                        | true =>
                          have HI3 := Lib.hid (rin_any z.ver w9)
                          obtain ⟨b3, hb3⟩ : ∃ b, inr z.ver = b := ⟨_, rfl⟩
                          rw [hb3] at HI3
                          have HB3 := Lib.hid hb3
                          clear hb3
                          go_wp2_with fail
                          refine HI3.out.mono ?_
                          rintro e w9' ⟨rfl, rfl⟩
                          cases b3 with
                          | false =>
                            have HE := Lib.hid (H1.out (by unfold nums; rw [HB3.out]; simp))
                            go_wp2_with fail
                            go_ret
                            exact ⟨ret_i HE.out.symm, HX9.out⟩
                          | true =>
                            have HI4 := Lib.hid (rin_any z.ks w9)
                            obtain ⟨b4, hb4⟩ : ∃ b, inr z.ks = b := ⟨_, rfl⟩
                            rw [hb4] at HI4
                            have HB4 := Lib.hid hb4
                            clear hb4
                            go_wp2_with fail
                            refine HI4.out.mono ?_
                            rintro e w9' ⟨rfl, rfl⟩
                            cases b4 with
                            | false =>
                              have HE := Lib.hid (H1.out (by unfold nums; rw [HB4.out]; simp))
                              go_wp2_with fail
                              go_ret
                              exact ⟨ret_i HE.out.symm, HX9.out⟩
                            | true =>
                              have HI5 := Lib.hid (rin_any z.own w9)
                              obtain ⟨b5, hb5⟩ : ∃ b, inr z.own = b := ⟨_, rfl⟩
                              rw [hb5] at HI5
                              have HB5 := Lib.hid hb5
                              clear hb5
                              go_wp2_with fail
                              refine HI5.out.mono ?_
                              rintro e w9' ⟨rfl, rfl⟩
                              cases b5 with
                              | false =>
                                have HE := Lib.hid (H1.out (by unfold nums; rw [HB5.out]; simp))
                                go_wp2_with fail
                                go_ret
                                exact ⟨ret_i HE.out.symm, HX9.out⟩
                              | true =>
                                have HI6 := Lib.hid (rin_any z.nx w9)
                                obtain ⟨b6, hb6⟩ : ∃ b, inr z.nx = b := ⟨_, rfl⟩
                                rw [hb6] at HI6
                                have HB6 := Lib.hid hb6
                                clear hb6
                                go_wp2_with fail
                                refine HI6.out.mono ?_
                                rintro e w9' ⟨rfl, rfl⟩
                                cases b6 with
                                | false =>
                                  have HE := Lib.hid (H1.out (by unfold nums; rw [HB6.out]; simp))
                                  go_wp2_with fail
                                  go_ret
                                  exact ⟨ret_i HE.out.symm, HX9.out⟩
                                | true =>
                                  have HE := Lib.hid (H0.out (by unfold nums; rw [HB0.out, HB1.out, HB2.out, HB3.out, HB4.out, HB5.out, HB6.out]; rfl))
                                  go_wp2_with fail
                                  go_roundw
                                  case rel => exact ⟨0 + 1, hlt, by go_num, HE, HX9⟩
                                  case measure => simp [intOf]; omega
            | false =>
              cases o2 with
              | true =>
                have HE := Lib.hid (HBAD.out (fun e => by cases e) (.inr ⟨rfl, rfl⟩))
                go_wp2_with fail
                go_ret
                exact ⟨ret_i HE.out.symm, HX8.out⟩
              | false =>
                have H83 := Lib.hid (HN83.out (fun e => by cases e))
                have H85 := Lib.hid (HN85.out (by simp))
                by_cases hd : 1024 < z.data.length
                · have hd' : (1024 : Int) < (z.data.length : Int) := by omega
                  have HE : Hid (r = 87) := Lib.hid (by
                    rw [HGA.out]
                    have : chk1 (l.take 0) z = 87 := by
                      unfold chk1
                      rw [if_neg (by rw [HV.out]; simp), if_neg (by rw [HLL.out]; simp), if_neg H83.out, if_neg H85.out, if_pos hd]
                    rw [this, if_pos (by decide)])
                  clear hd
                  go_wp2_with fail
                  go_ret
                  exact ⟨ret_i HE.out.symm, HX8.out⟩
                · have hd' : ¬ (1024 : Int) < (z.data.length : Int) := by omega
                  have HD := Lib.hid hd
                  clear hd
                  have H1 : Hid (nums z = false → r = 1) := Lib.hid fun e => by
                    rw [HGA.out]
                    have : chk1 (l.take 0) z = 1 := by
                      unfold chk1
                      rw [if_neg (by rw [HV.out]; simp), if_neg (by rw [HLL.out]; simp), if_neg H83.out, if_neg H85.out, if_neg HD.out, if_pos e]
                    rw [this, if_pos (by decide)]
                  have H0 : Hid (nums z = true → r = chkGo (l.take (0 + 1)) (l.drop (0 + 1))) := Lib.hid fun e => by
                    rw [HGA.out]
                    have : chk1 (l.take 0) z = 0 := by
                      unfold chk1
                      rw [if_neg (by rw [HV.out]; simp), if_neg (by rw [HLL.out]; simp), if_neg H83.out, if_neg H85.out, if_neg HD.out, if_neg (by rw [e]; simp)]
                    rw [this, if_neg (by simp)]
                  obtain ⟨w9, hw9⟩ : ∃ w9, w9 = w8.alloc (.cells #[.int .i64 z.cr, .int .i64 z.ch, .int .i64 z.kd, .int .i64 z.ver, .int .i64 z.ks, .int .i64 z.own] 130) := ⟨_, rfl⟩
                  obtain ⟨q, eq⟩ : ∃ s, s = w8.heap.size := ⟨_, rfl⟩
                  have hb9 : Below w8.heap.size w8 w9 := by rw [hw9]; exact box_below w8 _
                  have hq9 : w9.heap[q]? = some (.cells #[.int .i64 z.cr, .int .i64 z.ch, .int .i64 z.kd, .int .i64 z.ver, .int .i64 z.ks, .int .i64 z.own] 130 (0, 0)) := by rw [hw9, eq]; exact new_block w8 _
                  have HX9 := Lib.hid (HX8.out.trans (hb9.mono HX8.out.size))
                  have hs9 := blk_below HS8.out hb9
                  have hs8 := HS8.out
                  have s2 := cell_of hs8 (j := 2) rfl
                  have s3 := cell_of hs8 (j := 3) rfl
                  have s4 := cell_of hs8 (j := 4) rfl
                  have s5 := cell_of hs8 (j := 5) rfl
                  have s6 := cell_of hs8 (j := 6) rfl
                  have q0 := cell_of hq9 (j := 0) rfl
                  have q1 := cell_of hq9 (j := 1) rfl
                  have q2 := cell_of hq9 (j := 2) rfl
                  have q3 := cell_of hq9 (j := 3) rfl
                  have q4 := cell_of hq9 (j := 4) rfl
                  have q5 := cell_of hq9 (j := 5) rfl
                  have n8 := cell_of hs9 (j := 8) rfl
                  have HW9 := Lib.hid hw9
                  have EQ := Lib.hid eq
                  clear hb9 hw9 eq hq9 hs9 hs8
                  go_upto_region 22 with fail
                  rw [← HW9.out, ← EQ.out]
                  clear s1 s2 s3 s4 s5 s6 s7 u7
                  have HI0 := Lib.hid (rin_any z.cr w9)
                  obtain ⟨b0, hb0⟩ : ∃ b, inr z.cr = b := ⟨_, rfl⟩
                  rw [hb0] at HI0
                  have HB0 := Lib.hid hb0
                  clear hb0
                  go_wp2_with fail
                  refine HI0.out.mono ?_
                  rintro e w9' ⟨rfl, rfl⟩
                  cases b0 with
                  | false =>
                    have HE := Lib.hid (H1.out (by unfold nums; rw [HB0.out]; simp))
                    go_wp2_with fail
                    go_ret
                    exact ⟨ret_i HE.out.symm, HX9.out⟩
                  | true =>
                    have HI1 := Lib.hid (rin_any z.ch w9)
                    obtain ⟨b1, hb1⟩ : ∃ b, inr z.ch = b := ⟨_, rfl⟩
                    rw [hb1] at HI1
                    have HB1 := Lib.hid hb1
                    clear hb1
                    go_wp2_with fail
                    refine HI1.out.mono ?_
                    rintro e w9' ⟨rfl, rfl⟩
                    cases b1 with
                    | false =>
                      have HE := Lib.hid (H1.out (by unfold nums; rw [HB1.out]; simp))
                      go_wp2_with fail
                      go_ret
                      exact ⟨ret_i HE.out.symm, HX9.out⟩
                    | true =>
                      have HI2 := Lib.hid (rin_any z.kd w9)
                      obtain ⟨b2, hb2⟩ : ∃ b, inr z.kd = b := ⟨_, rfl⟩
                      rw [hb2] at HI2
                      have HB2 := Lib.hid hb2
                      clear hb2
                      go_wp2_with fail
                      refine HI2.out.mono ?_
                      rintro e w9' ⟨rfl, rfl⟩
                      cases b2 with
                      | false =>
                        have HE := Lib.hid (H1.out (by unfold nums; rw [HB2.out]; simp))
                        go_wp2_with fail
                        go_ret
                        exact ⟨ret_i HE.out.symm, HX9.out⟩
                      | true =>
                        have HI3 := Lib.hid (rin_any z.ver w9)
                        obtain ⟨b3, hb3⟩ : ∃ b, inr z.ver = b := ⟨_, rfl⟩
                        rw [hb3] at HI3
                        have HB3 := Lib.hid hb3
                        clear hb3
                        go_wp2_with fail
                        refine HI3.out.mono ?_
                        rintro e w9' ⟨rfl, rfl⟩
                        cases b3 with
                        | false =>
                          have HE := Lib.hid (H1.out (by unfold nums; rw [HB3.out]; simp))
                          go_wp2_with fail
                          go_ret
                          exact ⟨ret_i HE.out.symm, HX9.out⟩
                        | true =>
                          have HI4 := Lib.hid (rin_any z.ks w9)
                          obtain ⟨b4, hb4⟩ : ∃ b, inr z.ks = b := ⟨_, rfl⟩
                          rw [hb4] at HI4
                          have HB4 := Lib.hid hb4
                          clear hb4
                          go_wp2_with fail
                          refine HI4.out.mono ?_
                          rintro e w9' ⟨rfl, rfl⟩
                          cases b4 with
                          | false =>
                            have HE := Lib.hid (H1.out (by unfold nums; rw [HB4.out]; simp))
                            go_wp2_with fail
                            go_ret
                            exact ⟨ret_i HE.out.symm, HX9.out⟩
                          | true =>
                            have HI5 := Lib.hid (rin_any z.own w9)
                            obtain ⟨b5, hb5⟩ : ∃ b, inr z.own = b := ⟨_, rfl⟩
                            rw [hb5] at HI5
                            have HB5 := Lib.hid hb5
                            clear hb5
                            go_wp2_with fail
                            refine HI5.out.mono ?_
                            rintro e w9' ⟨rfl, rfl⟩
                            cases b5 with
                            | false =>
                              have HE := Lib.hid (H1.out (by unfold nums; rw [HB5.out]; simp))
                              go_wp2_with fail
                              go_ret
                              exact ⟨ret_i HE.out.symm, HX9.out⟩
                            | true =>
                              have HI6 := Lib.hid (rin_any z.nx w9)
                              obtain ⟨b6, hb6⟩ : ∃ b, inr z.nx = b := ⟨_, rfl⟩
                              rw [hb6] at HI6
                              have HB6 := Lib.hid hb6
                              clear hb6
                              go_wp2_with fail
                              refine HI6.out.mono ?_
                              rintro e w9' ⟨rfl, rfl⟩
                              cases b6 with
                              | false =>
                                have HE := Lib.hid (H1.out (by unfold nums; rw [HB6.out]; simp))
                                go_wp2_with fail
                                go_ret
                                exact ⟨ret_i HE.out.symm, HX9.out⟩
                              | true =>
                                have HE := Lib.hid (H0.out (by unfold nums; rw [HB0.out, HB1.out, HB2.out, HB3.out, HB4.out, HB5.out, HB6.out]; rfl))
                                go_wp2_with fail
                                go_roundw
                                case rel => exact ⟨0 + 1, hlt, by go_num, HE, HX9⟩
                                case measure => simp [intOf]; omega
          · obtain ⟨j, hj⟩ : ∃ j, k = j + 1 := ⟨k - 1, by omega⟩
            obtain ⟨b'', off'', y, eA, hy, hcell⟩ := HR4.out.at (k := j) (by omega)
            injection eA with eA
            injection eA with e1 e2 _
            subst e1 e2
            have p0 : w4.cell? ⟨b, off + j * 9, none⟩ = some (.string (B y.path)) := hcell 0 _ rfl
            obtain ⟨t, ht⟩ : ∃ t, lastLe (l.take k) z = t := ⟨_, rfl⟩
            have htt : (!decide (y.path < z.path)) = t := by rw [← ht, hj]; exact (lastLe_succ hy z).symm
            have HLL := Lib.hid ht
            have hle : (Op.bytesLess z.path y.path || z.path == y.path) = t := by rw [← htt]; exact le_dec z.path y.path
            have ej0 : (0 : Int) ≤ (j : Int) := by omega
            have ej1 : (0 : Int) < (k : Int) := by omega
            have ek1 : 0 < k := by omega
            have ek2 : decide (0 < k) = true := decide_eq_true ek1
            have ejn : (j : Int) < (n : Int) := by omega
            have ew : IntKind.i64.wrap ((k : Int) - 1) = (j : Int) := by rw [IntKind.wrap_i64]; omega
            have HJ := Lib.hid hj
            clear hy hcell ht htt hj hk0
            go_upto_region 11 with fail
            go_quiet (fail)
            obtain ⟨w5, hw5⟩ : ∃ w5, w5 = w4.drewN nq := ⟨_, rfl⟩
            have HW5 := Lib.hid hw5
            rw [← HW5.out]
            clear hw5 s0 p0 ew ej0 ej1 ejn ek1 ek2 hle
            have HX5 : Hid (Below w.heap.size w w5) := Lib.hid (by rw [HW5.out]; exact below_drewN HX4.out _)
            have HR5 : Hid (Rd ncell 9 w5 (some ⟨b, off, none⟩) n l) := Lib.hid (HR4.out.below (by rw [HW5.out]; exact below_drewN (Below.refl _ _) _))
            have HS5 : Hid (w5.heap[s]? = some (.cells #[.string (B z.path), .string (B z.data), .int .i64 z.cr, .int .i64 z.ch, .int .i64 z.kd, .int .i64 z.ver, .int .i64 z.ks, .int .i64 z.own, .int .i64 z.nx] 132 (0, 0))) := Lib.hid (by rw [HW5.out]; exact HS4.out)
            cases t with
            | true =>
              have HE : Hid (r = 81) := Lib.hid (by
                rw [HGA.out]
                have : chk1 (l.take k) z = 81 := by
                  unfold chk1
                  rw [if_neg (by rw [HV.out]; simp), if_pos HLL.out]
                rw [this, if_pos (by decide)])
              go_wp2_with fail
              go_ret
              exact ⟨ret_i HE.out.symm, HX5.out⟩
            | false =>
              have hs5 := HS5.out
              have s0 := cell_of hs5 (j := 0) rfl
              clear hs5
              have HPA := Lib.hid (rparent_any (B z.path) w5 (by rw [B_size]; exact HZP.out))
              simp only [LB] at HPA
              obtain ⟨po, hpo⟩ : ∃ b, parentOk z.path = b := ⟨_, rfl⟩
              obtain ⟨up, hup⟩ : ∃ u, parent z.path = u := ⟨_, rfl⟩
              rw [hpo, hup] at HPA
              have HPO := Lib.hid hpo
              have HUP := Lib.hid hup
              clear hpo hup
              go_wp2_with fail
              refine HPA.out.mono ?_
              rintro e w6 ⟨rfl, hb6⟩
              have HX6 := Lib.hid (HX5.out.trans (hb6.mono HX5.out.size))
              have HS6 := Lib.hid (blk_below HS5.out hb6)
              have HR6 := Lib.hid (HR5.out.below hb6)
              clear hb6 s0
              obtain ⟨A', hsl, hrd⟩ := to_rd HR6.out HC.out k (by omega)
              have HGT := Lib.hid (rget_any (c := c) hrd (by omega) up)
              unfold RgPost at HGT
              obtain ⟨pz, hpz⟩ : ∃ p, (get (l.take k) up).getD nd0 = p := ⟨_, rfl⟩
              obtain ⟨is, his⟩ : ∃ b, (get (l.take k) up).isSome = b := ⟨_, rfl⟩
              rw [hpz, his] at HGT
              unfold ndv at HGT
              have HPZ := Lib.hid hpz
              have HIS := Lib.hid his
              clear hrd hpz his
              go_wp2_with fail
              refine HGT.out.mono ?_
              rintro e w7 ⟨rfl, hb7⟩
              obtain ⟨w8, hw8⟩ : ∃ w8, w8 = w7.alloc (.cells #[.string (B pz.path), .string (B pz.data), .int .i64 pz.cr, .int .i64 pz.ch, .int .i64 pz.kd, .int .i64 pz.ver, .int .i64 pz.ks, .int .i64 pz.own, .int .i64 pz.nx] 132) := ⟨_, rfl⟩
              obtain ⟨u, eu⟩ : ∃ s, s = w7.heap.size := ⟨_, rfl⟩
              have hb8 : Below w7.heap.size w7 w8 := by rw [hw8]; exact box_below w7 _
              have hu8 : w8.heap[u]? = some (.cells #[.string (B pz.path), .string (B pz.data), .int .i64 pz.cr, .int .i64 pz.ch, .int .i64 pz.kd, .int .i64 pz.ver, .int .i64 pz.ks, .int .i64 pz.own, .int .i64 pz.nx] 132 (0, 0)) := by rw [hw8, eu]; exact new_block w7 _
              have HX7 := HX6.out.trans (hb7.mono HX6.out.size)
              have HX8 := Lib.hid (HX7.trans (hb8.mono HX7.size))
              have HS8 := Lib.hid (blk_below (blk_below HS6.out hb7) hb8)
              have HW8 := Lib.hid hw8
              have EU := Lib.hid eu
              have u7 := cell_of hu8 (j := 7) rfl
              have hs8 := HS8.out
              have s7 := cell_of hs8 (j := 7) rfl
              have s1 := cell_of hs8 (j := 1) rfl
              clear hb7 hb8 hu8 hw8 eu HX7 hs8 hsl
              go_upto_region 15 with fail
              rw [← HW8.out, ← EU.out]
              obtain ⟨o1, ho1⟩ : ∃ b, (pz.own != 0) = b := ⟨_, rfl⟩
              obtain ⟨o2, ho2⟩ : ∃ b, (z.own != 0) = b := ⟨_, rfl⟩
              have HO1 := Lib.hid ho1
              have HO2 := Lib.hid ho2
              have HNB : Hid (po = true → is = false → r = 83) := Lib.hid fun e1 e2 => by
                rw [HGA.out]
                have : chk1 (l.take k) z = 83 := by
                  unfold chk1
                  rw [if_neg (by rw [HV.out]; simp), if_neg (by rw [HLL.out]; simp), if_pos ⟨by rw [HPO.out, e1], by rw [HUP.out, HIS.out, e2]⟩]
                rw [this, if_pos (by decide)]
              have HN83 : Hid ((po = true → is = true) → ¬ (parentOk z.path = true ∧ (get (l.take k) (parent z.path)).isSome = false)) := Lib.hid fun h ⟨h1, h2⟩ => by
                rw [HPO.out] at h1
                rw [HUP.out, HIS.out, h h1] at h2
                cases h2
              have HBAD : Hid ((po = true → is = true) → ((po = true ∧ o1 = true) ∨ (po = false ∧ o2 = true)) → r = 85) := Lib.hid fun h0 h => by
                rw [HGA.out]
                have : chk1 (l.take k) z = 85 := by
                  unfold chk1
                  rw [if_neg (by rw [HV.out]; simp), if_neg (by rw [HLL.out]; simp), if_neg (HN83.out h0), if_pos]
                  rw [HPO.out, HUP.out, HPZ.out]
                  rcases h with ⟨a, b⟩ | ⟨a, b⟩
                  · exact .inl ⟨a, by have := HO1.out; rw [b] at this; simpa using this⟩
                  · exact .inr ⟨a, by have := HO2.out; rw [b] at this; simpa using this⟩
                rw [this, if_pos (by decide)]
              have HN85 : Hid (¬ ((po = true ∧ o1 = true) ∨ (po = false ∧ o2 = true)) → ¬ ((parentOk z.path = true ∧ ((get (l.take k) (parent z.path)).getD nd0).own ≠ 0) ∨ (parentOk z.path = false ∧ z.own ≠ 0))) := Lib.hid fun h h' => h (by
                rw [HPO.out, HUP.out, HPZ.out] at h'
                rcases h' with ⟨a, b⟩ | ⟨a, b⟩
                · exact .inl ⟨a, by rw [← HO1.out]; simpa using b⟩
                · exact .inr ⟨a, by rw [← HO2.out]; simpa using b⟩)
              cases po with
              | true =>
                cases is with
                | false =>
                  have HE := Lib.hid (HNB.out rfl rfl)
                  go_wp2_with fail
                  go_ret
                  exact ⟨ret_i HE.out.symm, HX8.out⟩
                | true =>
                  cases o1 with
                  | true =>
                    have HE := Lib.hid (HBAD.out (fun _ => rfl) (.inl ⟨rfl, rfl⟩))
                    go_wp2_with fail
                    go_ret
                    exact ⟨ret_i HE.out.symm, HX8.out⟩
                  | false =>
                    have H83 := Lib.hid (HN83.out (fun _ => rfl))
                    have H85 := Lib.hid (HN85.out (by simp))
                    by_cases hd : 1024 < z.data.length
                    · have hd' : (1024 : Int) < (z.data.length : Int) := by omega
                      have HE : Hid (r = 87) := Lib.hid (by
                        rw [HGA.out]
                        have : chk1 (l.take k) z = 87 := by
                          unfold chk1
                          rw [if_neg (by rw [HV.out]; simp), if_neg (by rw [HLL.out]; simp), if_neg H83.out, if_neg H85.out, if_pos hd]
                        rw [this, if_pos (by decide)])
                      clear hd
                      go_wp2_with fail
                      go_ret
                      exact ⟨ret_i HE.out.symm, HX8.out⟩
                    · have hd' : ¬ (1024 : Int) < (z.data.length : Int) := by omega
                      have HD := Lib.hid hd
                      clear hd
                      have H1 : Hid (nums z = false → r = 1) := Lib.hid fun e => by
                        rw [HGA.out]
                        have : chk1 (l.take k) z = 1 := by
                          unfold chk1
                          rw [if_neg (by rw [HV.out]; simp), if_neg (by rw [HLL.out]; simp), if_neg H83.out, if_neg H85.out, if_neg HD.out, if_pos e]
                        rw [this, if_pos (by decide)]
                      have H0 : Hid (nums z = true → r = chkGo (l.take (k + 1)) (l.drop (k + 1))) := Lib.hid fun e => by
                        rw [HGA.out]
                        have : chk1 (l.take k) z = 0 := by
                          unfold chk1
                          rw [if_neg (by rw [HV.out]; simp), if_neg (by rw [HLL.out]; simp), if_neg H83.out, if_neg H85.out, if_neg HD.out, if_neg (by rw [e]; simp)]
                        rw [this, if_neg (by simp)]
                      obtain ⟨w9, hw9⟩ : ∃ w9, w9 = w8.alloc (.cells #[.int .i64 z.cr, .int .i64 z.ch, .int .i64 z.kd, .int .i64 z.ver, .int .i64 z.ks, .int .i64 z.own] 130) := ⟨_, rfl⟩
                      obtain ⟨q, eq⟩ : ∃ s, s = w8.heap.size := ⟨_, rfl⟩
                      have hb9 : Below w8.heap.size w8 w9 := by rw [hw9]; exact box_below w8 _
                      have hq9 : w9.heap[q]? = some (.cells #[.int .i64 z.cr, .int .i64 z.ch, .int .i64 z.kd, .int .i64 z.ver, .int .i64 z.ks, .int .i64 z.own] 130 (0, 0)) := by rw [hw9, eq]; exact new_block w8 _
                      have HX9 := Lib.hid (HX8.out.trans (hb9.mono HX8.out.size))
                      have hs9 := blk_below HS8.out hb9
                      have hs8 := HS8.out
                      have s2 := cell_of hs8 (j := 2) rfl
                      have s3 := cell_of hs8 (j := 3) rfl
                      have s4 := cell_of hs8 (j := 4) rfl
                      have s5 := cell_of hs8 (j := 5) rfl
                      have s6 := cell_of hs8 (j := 6) rfl
                      have q0 := cell_of hq9 (j := 0) rfl
                      have q1 := cell_of hq9 (j := 1) rfl
                      have q2 := cell_of hq9 (j := 2) rfl
                      have q3 := cell_of hq9 (j := 3) rfl
                      have q4 := cell_of hq9 (j := 4) rfl
                      have q5 := cell_of hq9 (j := 5) rfl
                      have n8 := cell_of hs9 (j := 8) rfl
                      have HW9 := Lib.hid hw9
                      have EQ := Lib.hid eq
                      clear hb9 hw9 eq hq9 hs9 hs8
                      go_upto_region 22 with fail
                      rw [← HW9.out, ← EQ.out]
                      clear s1 s2 s3 s4 s5 s6 s7 u7
                      have HI0 := Lib.hid (rin_any z.cr w9)
                      obtain ⟨b0, hb0⟩ : ∃ b, inr z.cr = b := ⟨_, rfl⟩
                      rw [hb0] at HI0
                      have HB0 := Lib.hid hb0
                      clear hb0
                      go_wp2_with fail
                      refine HI0.out.mono ?_
                      rintro e w9' ⟨rfl, rfl⟩
                      cases b0 with
                      | false =>
                        have HE := Lib.hid (H1.out (by unfold nums; rw [HB0.out]; simp))
                        go_wp2_with fail
                        go_ret
                        exact ⟨ret_i HE.out.symm, HX9.out⟩
                      | true =>
                        have HI1 := Lib.hid (rin_any z.ch w9)
                        obtain ⟨b1, hb1⟩ : ∃ b, inr z.ch = b := ⟨_, rfl⟩
                        rw [hb1] at HI1
                        have HB1 := Lib.hid hb1
                        clear hb1
                        go_wp2_with fail
                        refine HI1.out.mono ?_
                        rintro e w9' ⟨rfl, rfl⟩
                        cases b1 with
                        | false =>
                          have HE := Lib.hid (H1.out (by unfold nums; rw [HB1.out]; simp))
                          go_wp2_with fail
                          go_ret
                          exact ⟨ret_i HE.out.symm, HX9.out⟩
                        | true =>
                          have HI2 := Lib.hid (rin_any z.kd w9)
                          obtain ⟨b2, hb2⟩ : ∃ b, inr z.kd = b := ⟨_, rfl⟩
                          rw [hb2] at HI2
                          have HB2 := Lib.hid hb2
                          clear hb2
                          go_wp2_with fail
                          refine HI2.out.mono ?_
                          rintro e w9' ⟨rfl, rfl⟩
                          cases b2 with
                          | false =>
                            have HE := Lib.hid (H1.out (by unfold nums; rw [HB2.out]; simp))
                            go_wp2_with fail
                            go_ret
                            exact ⟨ret_i HE.out.symm, HX9.out⟩
                          | true =>
                            have HI3 := Lib.hid (rin_any z.ver w9)
                            obtain ⟨b3, hb3⟩ : ∃ b, inr z.ver = b := ⟨_, rfl⟩
                            rw [hb3] at HI3
                            have HB3 := Lib.hid hb3
                            clear hb3
                            go_wp2_with fail
                            refine HI3.out.mono ?_
                            rintro e w9' ⟨rfl, rfl⟩
                            cases b3 with
                            | false =>
                              have HE := Lib.hid (H1.out (by unfold nums; rw [HB3.out]; simp))
                              go_wp2_with fail
                              go_ret
                              exact ⟨ret_i HE.out.symm, HX9.out⟩
                            | true =>
                              have HI4 := Lib.hid (rin_any z.ks w9)
                              obtain ⟨b4, hb4⟩ : ∃ b, inr z.ks = b := ⟨_, rfl⟩
                              rw [hb4] at HI4
                              have HB4 := Lib.hid hb4
                              clear hb4
                              go_wp2_with fail
                              refine HI4.out.mono ?_
                              rintro e w9' ⟨rfl, rfl⟩
                              cases b4 with
                              | false =>
                                have HE := Lib.hid (H1.out (by unfold nums; rw [HB4.out]; simp))
                                go_wp2_with fail
                                go_ret
                                exact ⟨ret_i HE.out.symm, HX9.out⟩
                              | true =>
                                have HI5 := Lib.hid (rin_any z.own w9)
                                obtain ⟨b5, hb5⟩ : ∃ b, inr z.own = b := ⟨_, rfl⟩
                                rw [hb5] at HI5
                                have HB5 := Lib.hid hb5
                                clear hb5
                                go_wp2_with fail
                                refine HI5.out.mono ?_
                                rintro e w9' ⟨rfl, rfl⟩
                                cases b5 with
                                | false =>
                                  have HE := Lib.hid (H1.out (by unfold nums; rw [HB5.out]; simp))
                                  go_wp2_with fail
                                  go_ret
                                  exact ⟨ret_i HE.out.symm, HX9.out⟩
                                | true =>
                                  have HI6 := Lib.hid (rin_any z.nx w9)
                                  obtain ⟨b6, hb6⟩ : ∃ b, inr z.nx = b := ⟨_, rfl⟩
                                  rw [hb6] at HI6
                                  have HB6 := Lib.hid hb6
                                  clear hb6
                                  go_wp2_with fail
                                  refine HI6.out.mono ?_
                                  rintro e w9' ⟨rfl, rfl⟩
                                  cases b6 with
                                  | false =>
                                    have HE := Lib.hid (H1.out (by unfold nums; rw [HB6.out]; simp))
                                    go_wp2_with fail
                                    go_ret
                                    exact ⟨ret_i HE.out.symm, HX9.out⟩
                                  | true =>
                                    have HE := Lib.hid (H0.out (by unfold nums; rw [HB0.out, HB1.out, HB2.out, HB3.out, HB4.out, HB5.out, HB6.out]; rfl))
                                    go_wp2_with fail
                                    go_roundw
                                    case rel => exact ⟨k + 1, hlt, by go_num, HE, HX9⟩
                                    case measure => simp [intOf]; omega
              | false =>
                cases o2 with
                | true =>
                  have HE := Lib.hid (HBAD.out (fun e => by cases e) (.inr ⟨rfl, rfl⟩))
                  go_wp2_with fail
                  go_ret
                  exact ⟨ret_i HE.out.symm, HX8.out⟩
                | false =>
                  have H83 := Lib.hid (HN83.out (fun e => by cases e))
                  have H85 := Lib.hid (HN85.out (by simp))
                  by_cases hd : 1024 < z.data.length
                  · have hd' : (1024 : Int) < (z.data.length : Int) := by omega
                    have HE : Hid (r = 87) := Lib.hid (by
                      rw [HGA.out]
                      have : chk1 (l.take k) z = 87 := by
                        unfold chk1
                        rw [if_neg (by rw [HV.out]; simp), if_neg (by rw [HLL.out]; simp), if_neg H83.out, if_neg H85.out, if_pos hd]
                      rw [this, if_pos (by decide)])
                    clear hd
                    go_wp2_with fail
                    go_ret
                    exact ⟨ret_i HE.out.symm, HX8.out⟩
                  · have hd' : ¬ (1024 : Int) < (z.data.length : Int) := by omega
                    have HD := Lib.hid hd
                    clear hd
                    have H1 : Hid (nums z = false → r = 1) := Lib.hid fun e => by
                      rw [HGA.out]
                      have : chk1 (l.take k) z = 1 := by
                        unfold chk1
                        rw [if_neg (by rw [HV.out]; simp), if_neg (by rw [HLL.out]; simp), if_neg H83.out, if_neg H85.out, if_neg HD.out, if_pos e]
                      rw [this, if_pos (by decide)]
                    have H0 : Hid (nums z = true → r = chkGo (l.take (k + 1)) (l.drop (k + 1))) := Lib.hid fun e => by
                      rw [HGA.out]
                      have : chk1 (l.take k) z = 0 := by
                        unfold chk1
                        rw [if_neg (by rw [HV.out]; simp), if_neg (by rw [HLL.out]; simp), if_neg H83.out, if_neg H85.out, if_neg HD.out, if_neg (by rw [e]; simp)]
                      rw [this, if_neg (by simp)]
                    obtain ⟨w9, hw9⟩ : ∃ w9, w9 = w8.alloc (.cells #[.int .i64 z.cr, .int .i64 z.ch, .int .i64 z.kd, .int .i64 z.ver, .int .i64 z.ks, .int .i64 z.own] 130) := ⟨_, rfl⟩
                    obtain ⟨q, eq⟩ : ∃ s, s = w8.heap.size := ⟨_, rfl⟩
                    have hb9 : Below w8.heap.size w8 w9 := by rw [hw9]; exact box_below w8 _
                    have hq9 : w9.heap[q]? = some (.cells #[.int .i64 z.cr, .int .i64 z.ch, .int .i64 z.kd, .int .i64 z.ver, .int .i64 z.ks, .int .i64 z.own] 130 (0, 0)) := by rw [hw9, eq]; exact new_block w8 _
                    have HX9 := Lib.hid (HX8.out.trans (hb9.mono HX8.out.size))
                    have hs9 := blk_below HS8.out hb9
                    have hs8 := HS8.out
                    have s2 := cell_of hs8 (j := 2) rfl
                    have s3 := cell_of hs8 (j := 3) rfl
                    have s4 := cell_of hs8 (j := 4) rfl
                    have s5 := cell_of hs8 (j := 5) rfl
                    have s6 := cell_of hs8 (j := 6) rfl
                    have q0 := cell_of hq9 (j := 0) rfl
                    have q1 := cell_of hq9 (j := 1) rfl
                    have q2 := cell_of hq9 (j := 2) rfl
                    have q3 := cell_of hq9 (j := 3) rfl
                    have q4 := cell_of hq9 (j := 4) rfl
                    have q5 := cell_of hq9 (j := 5) rfl
                    have n8 := cell_of hs9 (j := 8) rfl
                    have HW9 := Lib.hid hw9
                    have EQ := Lib.hid eq
                    clear hb9 hw9 eq hq9 hs9 hs8
                    go_upto_region 22 with fail
                    rw [← HW9.out, ← EQ.out]
                    clear s1 s2 s3 s4 s5 s6 s7 u7
                    have HI0 := Lib.hid (rin_any z.cr w9)
                    obtain ⟨b0, hb0⟩ : ∃ b, inr z.cr = b := ⟨_, rfl⟩
                    rw [hb0] at HI0
                    have HB0 := Lib.hid hb0
                    clear hb0
                    go_wp2_with fail
                    refine HI0.out.mono ?_
                    rintro e w9' ⟨rfl, rfl⟩
                    cases b0 with
                    | false =>
                      have HE := Lib.hid (H1.out (by unfold nums; rw [HB0.out]; simp))
                      go_wp2_with fail
                      go_ret
                      exact ⟨ret_i HE.out.symm, HX9.out⟩
                    | true =>
                      have HI1 := Lib.hid (rin_any z.ch w9)
                      obtain ⟨b1, hb1⟩ : ∃ b, inr z.ch = b := ⟨_, rfl⟩
                      rw [hb1] at HI1
                      have HB1 := Lib.hid hb1
                      clear hb1
                      go_wp2_with fail
                      refine HI1.out.mono ?_
                      rintro e w9' ⟨rfl, rfl⟩
                      cases b1 with
                      | false =>
                        have HE := Lib.hid (H1.out (by unfold nums; rw [HB1.out]; simp))
                        go_wp2_with fail
                        go_ret
                        exact ⟨ret_i HE.out.symm, HX9.out⟩
                      | true =>
                        have HI2 := Lib.hid (rin_any z.kd w9)
                        obtain ⟨b2, hb2⟩ : ∃ b, inr z.kd = b := ⟨_, rfl⟩
                        rw [hb2] at HI2
                        have HB2 := Lib.hid hb2
                        clear hb2
                        go_wp2_with fail
                        refine HI2.out.mono ?_
                        rintro e w9' ⟨rfl, rfl⟩
                        cases b2 with
                        | false =>
                          have HE := Lib.hid (H1.out (by unfold nums; rw [HB2.out]; simp))
                          go_wp2_with fail
                          go_ret
                          exact ⟨ret_i HE.out.symm, HX9.out⟩
                        | true =>
                          have HI3 := Lib.hid (rin_any z.ver w9)
                          obtain ⟨b3, hb3⟩ : ∃ b, inr z.ver = b := ⟨_, rfl⟩
                          rw [hb3] at HI3
                          have HB3 := Lib.hid hb3
                          clear hb3
                          go_wp2_with fail
                          refine HI3.out.mono ?_
                          rintro e w9' ⟨rfl, rfl⟩
                          cases b3 with
                          | false =>
                            have HE := Lib.hid (H1.out (by unfold nums; rw [HB3.out]; simp))
                            go_wp2_with fail
                            go_ret
                            exact ⟨ret_i HE.out.symm, HX9.out⟩
                          | true =>
                            have HI4 := Lib.hid (rin_any z.ks w9)
                            obtain ⟨b4, hb4⟩ : ∃ b, inr z.ks = b := ⟨_, rfl⟩
                            rw [hb4] at HI4
                            have HB4 := Lib.hid hb4
                            clear hb4
                            go_wp2_with fail
                            refine HI4.out.mono ?_
                            rintro e w9' ⟨rfl, rfl⟩
                            cases b4 with
                            | false =>
                              have HE := Lib.hid (H1.out (by unfold nums; rw [HB4.out]; simp))
                              go_wp2_with fail
                              go_ret
                              exact ⟨ret_i HE.out.symm, HX9.out⟩
                            | true =>
                              have HI5 := Lib.hid (rin_any z.own w9)
                              obtain ⟨b5, hb5⟩ : ∃ b, inr z.own = b := ⟨_, rfl⟩
                              rw [hb5] at HI5
                              have HB5 := Lib.hid hb5
                              clear hb5
                              go_wp2_with fail
                              refine HI5.out.mono ?_
                              rintro e w9' ⟨rfl, rfl⟩
                              cases b5 with
                              | false =>
                                have HE := Lib.hid (H1.out (by unfold nums; rw [HB5.out]; simp))
                                go_wp2_with fail
                                go_ret
                                exact ⟨ret_i HE.out.symm, HX9.out⟩
                              | true =>
                                have HI6 := Lib.hid (rin_any z.nx w9)
                                obtain ⟨b6, hb6⟩ : ∃ b, inr z.nx = b := ⟨_, rfl⟩
                                rw [hb6] at HI6
                                have HB6 := Lib.hid hb6
                                clear hb6
                                go_wp2_with fail
                                refine HI6.out.mono ?_
                                rintro e w9' ⟨rfl, rfl⟩
                                cases b6 with
                                | false =>
                                  have HE := Lib.hid (H1.out (by unfold nums; rw [HB6.out]; simp))
                                  go_wp2_with fail
                                  go_ret
                                  exact ⟨ret_i HE.out.symm, HX9.out⟩
                                | true =>
                                  have HE := Lib.hid (H0.out (by unfold nums; rw [HB0.out, HB1.out, HB2.out, HB3.out, HB4.out, HB5.out, HB6.out]; rfl))
                                  go_wp2_with fail
                                  go_roundw
                                  case rel => exact ⟨k + 1, hlt, by go_num, HE, HX9⟩
                                  case measure => simp [intOf]; omega

      · have hkn : k = n := by omega
        have HE : Hid (r = 0) := Lib.hid (by rw [HG.out, hkn, List.drop_of_length_le (by rw [HR.out.len]; exact Nat.le_refl _)]; rfl)
        clear hkn
        go_wp2_with fail
        go_ret
        exact ⟨ret_i HE.out.symm, HX.out⟩
end Go.Proofs.YtflgemlhocjipaaGreatDoor
