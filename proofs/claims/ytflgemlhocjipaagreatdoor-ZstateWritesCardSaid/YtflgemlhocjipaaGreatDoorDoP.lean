/-
  What Clone and Do return and leave. Conditions: the tree is good; as many changes, and as long paths, as memory bears.
-/
import Derived.Test.YtflgemlhocjipaaGreatDoorChange
import Derived.Test.YtflgemlhocjipaaGreatDoorRows8
namespace Go.Proofs.YtflgemlhocjipaaGreatDoor
set_option maxRecDepth 100000
open Go.ChangeShapes Go.WideShapes Go.ChangeAt Go.RowKit Go.Proofs.Zn Go.Proofs.Zt

def ClPost (T : Tr) (w : World) (e : Ending) (w' : World) : Prop := ∃ up mb, e = .returned (.pointer (some ⟨up, 0, none⟩)) ∧ TreeW w' up mb T ∧ Below w.heap.size w w' ∧ w.heap.size ≤ up ∧ w.heap.size ≤ mb
theorem cl_end {w w2 : World} {T : Tr} {mb : Nat} (hm : MapT w2 mb T) (hb : Below w.heap.size w w2) (h : w.heap.size ≤ mb) : ClPost T w (.returned (.pointer (some ⟨w2.heap.size, 0, none⟩))) (w2.alloc (.cells #[.map (some mb)] 155)) :=
  ⟨_, mb, rfl, ⟨new_block w2 _, hm.below (box_below w2 _)⟩, hb.trans ((box_below w2 _).mono hb.size), hb.size, h⟩
theorem clone_tree {w : World} {tp mb : Nat} {T : Tr} (h : TreeW w tp mb T) : Calls Tryz.prog 75 #[.pointer (some ⟨tp, 0, none⟩)] w (ClPost T w) := by
  have hc := AnyW.maps_Clone_owns cloneM 9 ndR mb T.length (Dm T) w h.map
  change Calls Tryz.prog 117 _ _ _ at hc
  have HC := Lib.hid hc
  have d0 := cell_of h.here (j := 0) rfl
  clear h hc
  go_enter Tryz.func75, Tryz.ntmps75
  go_wp2_with fail
  refine HC.out.mono ?_
  rintro e w2 ⟨rfl, h1, h2, hb⟩
  have HE := Lib.hid (cl_end (mb := w.heap.size) h1 hb (Nat.le_refl _))
  clear h1 h2 hb
  go_wp2_with fail
  go_ret
  exact HE.out

def ChOk (c : Chg) : Prop := c.path.length ≤ 140737488355328
def DoPost (tp : Nat) (a : Ans) (w : World) (e : Ending) (w' : World) : Prop :=
  ∃ v1 v2 mb', e = .returned (.tuple #[v1, v2, .int .i64 a.e]) ∧ TreeW w' tp mb' a.T ∧ w.grownBy w' (some tp) ∧ w'.ownsRow w.heap.size 9 1 v1 a.ps.length (scells a.ps) ∧ w'.ownsRow w.heap.size 165 3 v2 a.es.length (ecells a.es)
theorem do_fail {w w' : World} {tp mb : Nat} {T : Tr} {k : Int} (h : TreeW w tp mb T) (hb : Below w.heap.size w w') : DoPost tp ⟨T, [], [], k⟩ w (.returned (.tuple #[.slice none 0 0, .slice none 0 0, .int .i64 k])) w' :=
  ⟨_, _, mb, rfl, h.below hb, gb_below hb _, ⟨rfl, .inl ⟨rfl, rfl⟩⟩, ⟨rfl, .inl ⟨rfl, rfl⟩⟩⟩
theorem do_end {w wr : World} {tp mb up mb1 : Nat} {T now : Tr} {ps : List Txt} {es : List Evt} {v1 v2 : Value} (h : TreeW w tp mb T) (ht : TreeW wr up mb1 now) (hb : Below w.heap.size w wr)
    (h1 : wr.ownsRow w.heap.size 9 1 v1 ps.length (scells ps)) (h2 : wr.ownsRow w.heap.size 165 3 v2 es.length (ecells es)) : DoPost tp ⟨now, ps, es, 0⟩ w (.returned (.tuple #[v1, v2, .int .i64 0])) (wr.setCell ⟨tp, 0, none⟩ (.map (some mb1))) := by
  have hh := (h.below hb).here
  have h3 := heap_setCell_same wr tp 0 _ 155 (.map (some mb1)) hh
  have hwr : Wr tp wr (wr.setCell ⟨tp, 0, none⟩ (.map (some mb1))) := (Wr.refl tp wr).set 0 _
  have hlt := h.lt
  have hne : ∀ {base e sz n : Nat} {v : Value} {xs : List Value}, wr.ownsRow w.heap.size e sz v n xs → v.ownBlock ≠ some tp := fun ho e => by have := own_ge ho _ e; omega
  refine ⟨v1, v2, mb1, rfl, ⟨h3, ht.map.of_block (hwr.rest mb1 (Ne.symm (ht.map.ne_cells hh)))⟩, gb_trans (gb_below hb _) hwr.gb, own_gb h1 hwr.gb ?_, own_gb h2 hwr.gb ?_⟩
  · exact fun e => by have := own_ge h1 _ e; omega
  · exact fun e => by have := own_ge h2 _ e; omega
theorem one_evs (T : Tr) (zx se : Int) (c : Chg) : (Zt.one T zx se c).evs.length ≤ 2 := by
  unfold Zt.one create remove kidS fails
  repeat' split
  all_goals simp
theorem doGo_at {T0 : Tr} {zx se : Int} {now : Tr} {ps : List Txt} {es : List Evt} {l : List Chg} {k : Nat} {c : Chg} (hc : l[k]? = some c) : doGo T0 zx se now ps es (l.drop k) =
    if (Zt.one now zx se c).e ≠ 0 then ⟨T0, [], [], (Zt.one now zx se c).e⟩ else doGo T0 zx se (Zt.one now zx se c).T (ps ++ [(Zt.one now zx se c).path]) (es ++ (Zt.one now zx se c).evs) (l.drop (k + 1)) := by
  obtain ⟨hk, rfl⟩ := List.getElem?_eq_some_iff.1 hc
  rw [List.drop_eq_getElem_cons hk, doGo]
set_option maxHeartbeats 4000000 in
theorem do_any {w : World} {tp mb : Nat} {T : Tr} (h : TreeW w tp mb T) (hg : Zt.Good T) (zx se : Int) {A : Option Addr} {n cp : Nat} {l : List Chg} (hr : Rd ccell 6 w A n l) (hl : n ≤ 1000000) (hp : ∀ c ∈ l, ChOk c) :
    Calls Tryz.prog 34 #[.pointer (some ⟨tp, 0, none⟩), .int .i64 zx, .int .i64 se, .slice A n cp] w (DoPost tp (doL T zx se l) w) := by
  obtain ⟨i0, hi, hz0, hz1, hz2⟩ := info_parts infoS
  obtain ⟨i1, hi1, hy0, hy1, hy2⟩ := info_parts infoE
  obtain ⟨w1, hw1⟩ : ∃ w1, w1 = w.alloc (.cells #[.int .i64 zx, .int .i64 se] 3) := ⟨_, rfl⟩
  have hb1 : Below w.heap.size w w1 := by rw [hw1]; exact box_below w _
  have hq : w1.heap[w.heap.size]? = some (.cells #[.int .i64 zx, .int .i64 se] 3 (0, 0)) := by rw [hw1]; exact new_block w _
  have HF := Lib.hid (fit_any (w := w1) (A := some ⟨w.heap.size, 0, none⟩) (n := 2) (c := 2) (xs := [zx, se]) ⟨rfl, by omega, fun _ => ⟨_, rfl, fun j hj => by
    match j, hj with
    | 0, _ => exact cell_of hq (j := 0) rfl
    | 1, _ => exact cell_of hq (j := 1) rfl⟩⟩)
  have HT1 := Lib.hid (h.below hb1)
  have HT := Lib.hid h
  have HG := Lib.hid hg
  have HR := Lib.hid hr
  have HP := Lib.hid hp
  have HL := Lib.hid hl
  have HB1 := Lib.hid hb1
  have HW1 := Lib.hid hw1
  obtain ⟨a, ha⟩ : ∃ a, doL T zx se l = a := ⟨_, rfl⟩
  rw [ha]
  have HA := Lib.hid ha
  clear ha
  obtain ⟨b, hb⟩ : ∃ b, [zx, se].all inr = b := ⟨_, rfl⟩
  rw [hb] at HF
  have HBB := Lib.hid hb
  clear h hg hr hp hl hb1 hq hw1 hb
  go_enter Tryz.func34, Tryz.ntmps34
  go_wp2_with fail
  rw [← HW1.out]
  refine HF.out.mono ?_
  rintro e w1' ⟨rfl, rfl⟩
  cases b with
  | false =>
    have HD : Hid (a = ⟨T, [], [], 1⟩) := Lib.hid (by
      rw [← HA.out]
      unfold doL
      rw [if_pos]
      have := HBB.out
      simp only [List.all_cons, List.all_nil, Bool.and_true, Bool.and_eq_false_iff] at this
      exact this)
    have HE : Hid (DoPost tp a w (.returned (.tuple #[.slice none 0 0, .slice none 0 0, .int .i64 1])) w1) := Lib.hid (by rw [HD.out]; exact do_fail HT.out HB1.out)
    go_wp2_with fail
    go_ret3
    exact HE.out
  | true =>
    have hin : inr zx = true ∧ inr se = true := by
      have := HBB.out
      simpa using this
    have HIN := Lib.hid hin
    have HD : Hid (a = doGo T zx se T [] [] (l.drop 0)) := Lib.hid (by
      rw [← HA.out]
      unfold doL
      rw [if_neg (by rw [hin.1, hin.2]; simp), List.drop_zero])
    have HC := Lib.hid (clone_tree HT1.out)
    clear hin
    go_wp2_with fail
    refine HC.out.mono ?_
    rintro e w2 ⟨up, mb1, rfl, ht2, hb2, hu2, hm2⟩
    have HT2 := Lib.hid ht2
    have HB2 := Lib.hid (HB1.out.trans (hb2.mono HB1.out.size))
    have HU2 : Hid (w.heap.size ≤ up) := Lib.hid (by have := HB1.out.size; omega)
    have HM2 : Hid (w.heap.size ≤ mb1) := Lib.hid (by have := HB1.out.size; omega)
    clear ht2 hb2 hu2 hm2
    go_wp2_with fail
    go_loopw [12, 13, 28] (fun p v i wr => ∃ (k : Nat) (now : Tr) (ps : List Txt) (es : List Evt), k ≤ n ∧ i = .int .i64 k ∧ Hid (TreeW wr up mb1 now) ∧ Hid (Zt.Good now) ∧ Hid (wr.ownsRow w.heap.size 9 1 p ps.length (scells ps)) ∧ Hid (wr.ownsRow w.heap.size 165 3 v es.length (ecells es)) ∧
        Hid (a = doGo T zx se now ps es (l.drop k)) ∧ Hid (Below w.heap.size w wr) ∧ Hid (ps.length = k ∧ es.length ≤ 2 * k)) (fun _ _ i _ => n - (intOf i).toNat)
    case atStart => exact ⟨0, T, [], [], Nat.zero_le _, rfl, HT2, HG, Lib.hid ⟨rfl, .inl ⟨rfl, rfl⟩⟩, Lib.hid ⟨rfl, .inl ⟨rfl, rfl⟩⟩, HD, HB2, Lib.hid ⟨rfl, by simp⟩⟩
    case round =>
      obtain ⟨k, now, ps, es, hk, rfl, HTN, HGN, HO1, HO2, HDN, HBN, HLN⟩ := hrel
      by_cases hlt : k < n
      · obtain ⟨bb, off, c, rfl, hc, hcell⟩ := (HR.out.below HBN.out).at hlt
        have HCK := Lib.hid hc
        have HPC := Lib.hid (HP.out c (List.mem_of_getElem? hc))
        have c0 : wr.cell? ⟨bb, off + k * 6, none⟩ = some (.int .i64 c.kind) := hcell 0 _ rfl
        have c1 : wr.cell? ⟨bb, off + k * 6 + 1, none⟩ = some (.string (B c.path)) := hcell 1 _ rfl
        have c2 : wr.cell? ⟨bb, off + k * 6 + 2, none⟩ = some (.string (B c.data)) := hcell 2 _ rfl
        have c3 : wr.cell? ⟨bb, off + k * 6 + 3, none⟩ = some (.int .i64 c.ver) := hcell 3 _ rfl
        have c4 : wr.cell? ⟨bb, off + k * 6 + 4, none⟩ = some (.bool c.eph) := hcell 4 _ rfl
        have c5 : wr.cell? ⟨bb, off + k * 6 + 5, none⟩ = some (.bool c.sq) := hcell 5 _ rfl
        obtain ⟨w3, hw3⟩ : ∃ w3, w3 = wr.alloc (.cells #[.int .i64 c.kind, .string (B c.path), .string (B c.data), .int .i64 c.ver, .bool c.eph, .bool c.sq] 79) := ⟨_, rfl⟩
        obtain ⟨q, eq⟩ : ∃ q, q = wr.heap.size := ⟨_, rfl⟩
        have hb3 : Below wr.heap.size wr w3 := by rw [hw3]; exact box_below wr _
        have hq3 : w3.heap[q]? = some (.cells #[.int .i64 c.kind, .string (B c.path), .string (B c.data), .int .i64 c.ver, .bool c.eph, .bool c.sq] 79 (0, 0)) := by rw [hw3, eq]; exact new_block wr _
        have HB3 := Lib.hid (HBN.out.trans (hb3.mono HBN.out.size))
        have HO13 := Lib.hid (own_below HO1.out hb3)
        have HO23 := Lib.hid (own_below HO2.out hb3)
        have HT3 := Lib.hid (HTN.out.below hb3)
        have HCH := Lib.hid (change_any HT3.out HGN.out zx se c HPC.out)
        have HW3 := Lib.hid hw3
        have EQ := Lib.hid eq
        have q0 := cell_of hq3 (j := 0) rfl
        have q1 := cell_of hq3 (j := 1) rfl
        have q2 := cell_of hq3 (j := 2) rfl
        have q3 := cell_of hq3 (j := 3) rfl
        have q4 := cell_of hq3 (j := 4) rfl
        have q5 := cell_of hq3 (j := 5) rfl
        clear hc hcell hw3 eq hb3 hq3
        go_upto_region 9 with fail
        rw [← HW3.out, ← EQ.out]
        clear c0 c1 c2 c3 c4 c5
        go_wp2_with fail
        refine HCH.out.mono ?_
        rintro e w4 ⟨v, rfl, hg4, h4⟩
        obtain ⟨S, hS⟩ : ∃ S, Zt.one now zx se c = S := ⟨_, rfl⟩
        have HS := Lib.hid hS
        rw [hS] at h4 ⊢
        have HG4 := Lib.hid hg4
        have H4 := Lib.hid h4
        have HB4 := Lib.hid (HB3.out.trans (gb_to hg4 HM2.out HB3.out.size))
        clear hS hg4 h4 q0 q1 q2 q3 q4 q5
        by_cases hE : S.e = 0
        · obtain ⟨ht4, hv4⟩ := H4.out hE
          have hE' : (S.e != 0) = false := by simpa using hE
          have HEV : Hid (S.evs.length ≤ 2) := Lib.hid (by rw [← HS.out]; exact one_evs now zx se c)
          have HGS : Hid (Zt.Good S.T) := Lib.hid (by have := one_good HGN.out HIN.out.1 HIN.out.2 (c := c) (by rw [HS.out]; exact hE); rw [HS.out] at this; exact this)
          have HDD : Hid (a = doGo T zx se S.T (ps ++ [S.path]) (es ++ S.evs) (l.drop (k + 1))) := Lib.hid (by rw [HDN.out, doGo_at HCK.out, HS.out, if_neg (by rw [hE]; simp)])
          obtain ⟨AV, cv, rfl, -, -, hAV⟩ := own_form hv4
          have hrv := Rd.of_own (cell := ecell) (l := S.evs) hv4 (fun _ _ => rfl) (by omega)
          have hcv : AV = none → cv = 0 := fun e => by
            rcases hv4.2 with ⟨e1, _⟩ | ⟨g, cap, cur, e1, _⟩
            · injection e1
            · injection e1 with e1 _ _; rw [e] at e1; cases e1
          have ho14 := own_gb HO13.out HG4.out (own_ne_map HO13.out HT3.out.map)
          have ho24 := own_gb HO23.out HG4.out (own_ne_map HO23.out HT3.out.map)
          have hl47 := HLN.out
          have hnl := HL.out
          have hsz4 := HB4.out.size
          have HT4 := Lib.hid ht4
          have HRV := Lib.hid hrv
          have HV4 := Lib.hid hv4
          have HO24 := Lib.hid ho24
          have HO14 := Lib.hid ho14
          clear hE ht4 hrv hv4 hAV
          go_upto_region 13 with (at_builtin; refine wpList_append_own _ rfl _ _ 40 rfl w.heap.size 9 i0 (.string ⟨#[]⟩) 1 16 Tryz.underlying40 hi hz0 hz1 hz2 rfl (by decide) _ _ _ rfl (ho14.alloc _) ⟨w4.heap.size, 0, none⟩ 1 1 (scell S.path) rfl rfl (cell_one_new _ _ _) (by intro u hu; simp only [scell, List.mem_cons, List.not_mem_nil, or_false] at hu; subst hu; rfl) (by unfold maxLen at *; omega) (by omega) (by simp; omega) ?_; intro v' w5 hown' hg5 hnil5)
          have hB5 := (HB4.out.alloc hsz4 _).grown hg5 (by simp; omega) (fun j hj => (HO14.out.lt j hj).1)
          have hA4 := box_below w4 (.cells #[.string (B S.path)] 9)
          have HT5 := Lib.hid ((HT4.out.below hA4).gbo (own_below HO14.out hA4) hg5 (by decide))
          have ho25 := own_gb' (own_below HO24.out hA4) hg5 (own_apart (own_below HO24.out hA4) (own_below HO14.out hA4) (by decide))
          have hv5 := own_gb' (own_below HV4.out hA4) hg5 (own_apart (own_below HV4.out hA4) (own_below HO14.out hA4) (by decide))
          have hrv5 := Rd.of_own (cell := ecell) (l := S.evs) hv5 (fun _ _ => rfl) (by omega)
          have HB5 := Lib.hid hB5
          have HO15 := Lib.hid hown'
          have HO25 := Lib.hid ho25
          have hsz5 := hB5.size
          clear hown' hg5 hnil5 hA4 hv5 hB5 ho14 ho24 hsz4
          go_wp2_with (at_builtin; refine wpList_append_rd rfl _ _ 43 rfl w.heap.size 165 i1 _ 3 32 Tryz.underlying43 hi1 hy0 hy1 hy2 rfl (by decide) _ _ _ rfl ho25 AV _ cv S.evs rfl hrv5 (fun _ _ => rfl) ecell_one hcv (by unfold maxLen; have := HEV.out; omega) (by have := HEV.out; omega) (by omega) ?_; intro v6 w6 hown6 hg6)
          have HT6 := Lib.hid (HT5.out.gbo ho25 hg6 (by decide))
          have HO16 := Lib.hid (own_gb' HO15.out hg6 (own_apart HO15.out ho25 (by decide)))
          have HB6 := Lib.hid (HB5.out.trans (gb_own ho25 hg6 (Nat.le_refl _) hsz5))
          have HO26 := Lib.hid hown6
          clear ho25 hrv5 hown6 hg6
          go_roundw
          case rel =>
            refine ⟨k + 1, S.T, ps ++ [S.path], es ++ S.evs, hlt, by go_num, HT6, HGS, Lib.hid ?_, Lib.hid ?_, HDD, HB6, Lib.hid ⟨by rw [List.length_append, HLN.out.1]; rfl, by rw [List.length_append]; have := HLN.out; have := HEV.out; omega⟩⟩
            · rw [List.length_append, scells_append]; exact HO16.out
            · rw [List.length_append, ecells_append]; exact HO26.out
          case measure => simp [intOf]; omega
        · have hE' : (S.e != 0) = true := by simpa using hE
          have HDD : Hid (a = ⟨T, [], [], S.e⟩) := Lib.hid (by rw [HDN.out, doGo_at HCK.out, HS.out, if_pos hE])
          have HE : Hid (DoPost tp a w (.returned (.tuple #[.slice none 0 0, .slice none 0 0, .int .i64 S.e])) w4) := Lib.hid (by rw [HDD.out]; exact do_fail HT.out HB4.out)
          clear hE
          go_wp2_with fail
          go_ret3
          exact HE.out
      · have hkn : k = n := by omega
        have HDD : Hid (a = ⟨now, ps, es, 0⟩) := Lib.hid (by rw [HDN.out, hkn, List.drop_of_length_le (by rw [HR.out.len]; exact Nat.le_refl _)]; rfl)
        have HE : Hid (DoPost tp a w (.returned (.tuple #[u12, u13, .int .i64 0])) (wr.setCell ⟨tp, 0, none⟩ (.map (some mb1)))) := Lib.hid (by rw [HDD.out]; exact do_end HT.out HTN.out HBN.out HO1.out HO2.out)
        have htr := (HT.out.below HBN.out).here
        have htn := HTN.out.here
        have t0 := cell_of htr (j := 0) rfl
        have tf := frozen_of_row wr tp 0 _ _ htr
        have d0 := cell_of htn (j := 0) rfl
        clear htr htn hkn
        go_wp2_with fail
        go_ret3
        exact HE.out
end Go.Proofs.YtflgemlhocjipaaGreatDoor
