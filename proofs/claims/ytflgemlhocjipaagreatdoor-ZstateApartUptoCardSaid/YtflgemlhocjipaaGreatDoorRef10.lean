/-
  The document's one: a change alone. Conditions: memory holds the list, a good tree; the path is not very long.
-/
import Derived.Test.YtflgemlhocjipaaGreatDoorRef9
namespace Go.Proofs.YtflgemlhocjipaaGreatDoor
set_option maxRecDepth 100000
open Go.ChangeShapes Go.WideShapes Go.ChangeAt Go.RowKit Go.Proofs.Zn Go.Proofs.Zt

def OnPost (vt : Value) (T : Tr) (s : Stp) (w : World) (e : Ending) (w' : World) : Prop := ∃ v1 v2, e = .returned (.agg #[v1, .string (B s.path), v2, .int .i64 s.e]) ∧ ((v1 = vt ∧ s.T = T) ∨ w'.ownsRow w.heap.size 132 9 v1 s.T.length (ncells s.T)) ∧ w'.ownsRow w.heap.size 165 3 v2 s.evs.length (ecells s.evs) ∧ Below w.heap.size w w'
theorem below_step {a b c : World} (h : Below a.heap.size a b) (k : Below b.heap.size b c) : Below a.heap.size a c := h.trans (k.mono h.size)
theorem StPost.on {s : Stp} {w w' : World} {e : Ending} {vt : Value} {T : Tr} (h : StPost s w e w') : OnPost vt T s w e w' := by
  obtain ⟨v1, v2, he, h1, h2, hb⟩ := h
  exact ⟨v1, v2, he, .inr h1, h2, hb⟩
theorem on_fail {w0 w w6 : World} {vt : Value} {q r : Nat} {c : Chg} {T : Tr} {zx se k : Int} (h : Cr w0 q r c w) (hr : w0.heap.size ≤ r) (hp : Zt.one T zx se c = Zt.fails k) (hw6 : w6 = ((((w.setCell ⟨r, 0, none⟩ (.slice none 0 0)).setCell ⟨r, 1, none⟩ (.string ⟨#[]⟩)).setCell ⟨r, 2, none⟩ (.slice none 0 0)).setCell ⟨r, 3, none⟩ (.int .i64 k))) :
    OnPost vt T (Zt.one T zx se c) w0 (.returned (.agg #[.slice none 0 0, .string ⟨#[]⟩, .slice none 0 0, .int .i64 k])) w6 ∧ w6.heap[r]? = some (.cells #[.slice none 0 0, .string ⟨#[]⟩, .slice none 0 0, .int .i64 k] 229 (0, 0)) := by
  rw [hp]
  obtain ⟨h1, h2⟩ := st_store (s := Zt.fails k) h.br hr (Nat.le_refl _) ⟨rfl, .inl ⟨rfl, rfl⟩⟩ ⟨rfl, .inl ⟨rfl, rfl⟩⟩ h.below hw6
  exact ⟨h1.on, h2⟩
theorem am_at {T : Tr} {c : Chg} {z : Nd} (h : get T c.path = some z) : amissV T c = if c.kind = 2 ∧ c.path = [47] then 1 else if c.ver ≠ -1 ∧ c.ver ≠ z.ver then 82 else 0 := by unfold amissV; rw [h]
theorem one_at {T : Tr} {zx se : Int} {c : Chg} (h1 : ¬ (c.kind < 1 ∨ 4 < c.kind)) (hv : valid c.path = true) (hk1 : c.kind ≠ 1) (h3 : ¬ (c.kind = 3 ∧ 1024 < c.data.length)) :
    Zt.one T zx se c = if amissV T c ≠ 0 then Zt.fails (amissV T c) else if c.kind = 2 then (if kids T c.path ≠ [] then Zt.fails 84 else remove T zx c.path) else if c.kind = 4 then ⟨T, c.path, [], 0⟩ else
      ⟨put T (setd ((get T c.path).getD nd0) c.data zx), c.path, [⟨0, 3, c.path⟩], 0⟩ := by
  unfold Zt.one
  rw [if_neg h1, if_neg (by rw [hv]; simp), if_neg hk1, if_neg h3]
set_option maxHeartbeats 8000000 in
theorem rone_any {w : World} {AT : Option Addr} {cT : Nat} {T : Tr} (hT : Rd ncell 9 w AT T.length T) (hg : Zt.Good T) (zx se : Int) (c : Chg) (hp : c.path.length ≤ 2097152) :
    Calls Tryz.prog 141 #[.slice AT T.length cT, .int .i64 zx, .int .i64 se, .agg #[.int .i64 c.kind, .string (B c.path), .string (B c.data), .int .i64 c.ver, .bool c.eph, .bool c.sq]] w (OnPost (.slice AT T.length cT) T (Zt.one T zx se c) w) := by
  obtain ⟨w2, hw2, hB2, hq, hr, hs2⟩ := two_box w (.cells #[.int .i64 c.kind, .string (B c.path), .string (B c.data), .int .i64 c.ver, .bool c.eph, .bool c.sq] 79) (.cells #[.slice none 0 0, .string ⟨#[]⟩, .slice none 0 0, .int .i64 0] 229)
  obtain ⟨cb, ecb⟩ : ∃ q, q = w.heap.size := ⟨_, rfl⟩
  obtain ⟨r, er⟩ : ∃ r, r = w.heap.size + 1 := ⟨_, rfl⟩
  rw [← ecb] at hq
  rw [← er] at hr
  have HCR : Hid (Cr w cb r c w2) := Lib.hid ⟨hB2, hq, hr⟩
  have HRR : Hid (w.heap.size ≤ r) := Lib.hid (by omega)
  have HW2 := Lib.hid hw2
  have ECB := Lib.hid ecb
  have ER := Lib.hid er
  have HT := Lib.hid hT
  have HGG := Lib.hid hg
  have HPL := Lib.hid hp
  have HN : Hid (T.length ≤ 1000000) := Lib.hid (by have := hg.len; omega)
  clear hT hw2 hB2 hq hr hs2 ecb er hg hp
  have hcq := HCR.out.bq
  have y0 := cell_of hcq (j := 0) rfl
  have y1 := cell_of hcq (j := 1) rfl
  clear hcq
  go_enter Tryz.func141, Tryz.ntmps141
  go_upto_region 1 with fail
  rw [← HW2.out, ← ER.out, ← ECB.out]
  by_cases hk : c.kind < 1
  · have HK := Lib.hid hk
    have HFA := Lib.hid (rfails_any 1 w2)
    have HPC : Hid (Zt.one T zx se c = Zt.fails 1) := Lib.hid (by unfold Zt.one; rw [if_pos (.inl HK.out)])
    go_wp2_with fail
    refine HFA.out.mono ?_
    rintro e wf ⟨rfl, hbf⟩
    have hcf := HCR.out.go hbf
    obtain ⟨w6, hw6⟩ : ∃ w6, w6 = ((((wf.setCell ⟨r, 0, none⟩ (.slice none 0 0)).setCell ⟨r, 1, none⟩ (.string ⟨#[]⟩)).setCell ⟨r, 2, none⟩ (.slice none 0 0)).setCell ⟨r, 3, none⟩ (.int .i64 1)) := ⟨_, rfl⟩
    obtain ⟨hst, h6⟩ := on_fail (vt := .slice AT T.length cT) hcf HRR.out HPC.out hw6
    have HFIN := Lib.hid hst
    have hrb := hcf.br
    have q0 := cell_of hrb (j := 0) rfl
    have q1 := cell_of hrb (j := 1) rfl
    have q2 := cell_of hrb (j := 2) rfl
    have q3 := cell_of hrb (j := 3) rfl
    have rf0 := frozen_of_row wf _ 0 _ _ hrb
    have rf1 := frozen_of_row wf _ 1 _ _ hrb
    have rf2 := frozen_of_row wf _ 2 _ _ hrb
    have rf3 := frozen_of_row wf _ 3 _ _ hrb
    have t0 := cell_of h6 (j := 0) rfl
    have t1 := cell_of h6 (j := 1) rfl
    have t2 := cell_of h6 (j := 2) rfl
    have t3 := cell_of h6 (j := 3) rfl
    have HW6 := Lib.hid hw6
    clear hbf hcf hw6 hst h6 hrb
    go_wp2_with fail
    rw [← HW6.out]
    exact bodyPost_ret (v := .agg #[.slice none 0 0, .string ⟨#[]⟩, .slice none 0 0, .int .i64 1]) (by simp [results, Tryz.results141, go_sem, t0, t1, t2, t3]) rfl HFIN.out
  by_cases hk4 : 4 < c.kind
  · have HK := Lib.hid hk4
    have HFA := Lib.hid (rfails_any 1 w2)
    have HPC : Hid (Zt.one T zx se c = Zt.fails 1) := Lib.hid (by unfold Zt.one; rw [if_pos (.inr HK.out)])
    go_wp2_with fail
    refine HFA.out.mono ?_
    rintro e wf ⟨rfl, hbf⟩
    have hcf := HCR.out.go hbf
    obtain ⟨w6, hw6⟩ : ∃ w6, w6 = ((((wf.setCell ⟨r, 0, none⟩ (.slice none 0 0)).setCell ⟨r, 1, none⟩ (.string ⟨#[]⟩)).setCell ⟨r, 2, none⟩ (.slice none 0 0)).setCell ⟨r, 3, none⟩ (.int .i64 1)) := ⟨_, rfl⟩
    obtain ⟨hst, h6⟩ := on_fail (vt := .slice AT T.length cT) hcf HRR.out HPC.out hw6
    have HFIN := Lib.hid hst
    have hrb := hcf.br
    have q0 := cell_of hrb (j := 0) rfl
    have q1 := cell_of hrb (j := 1) rfl
    have q2 := cell_of hrb (j := 2) rfl
    have q3 := cell_of hrb (j := 3) rfl
    have rf0 := frozen_of_row wf _ 0 _ _ hrb
    have rf1 := frozen_of_row wf _ 1 _ _ hrb
    have rf2 := frozen_of_row wf _ 2 _ _ hrb
    have rf3 := frozen_of_row wf _ 3 _ _ hrb
    have t0 := cell_of h6 (j := 0) rfl
    have t1 := cell_of h6 (j := 1) rfl
    have t2 := cell_of h6 (j := 2) rfl
    have t3 := cell_of h6 (j := 3) rfl
    have HW6 := Lib.hid hw6
    clear hbf hcf hw6 hst h6 hrb
    go_wp2_with fail
    rw [← HW6.out]
    exact bodyPost_ret (v := .agg #[.slice none 0 0, .string ⟨#[]⟩, .slice none 0 0, .int .i64 1]) (by simp [results, Tryz.results141, go_sem, t0, t1, t2, t3]) rfl HFIN.out
  have HK14 : Hid (¬ (c.kind < 1 ∨ 4 < c.kind)) := Lib.hid (by omega)
  have HV := Lib.hid (rvalid_any (B c.path) w2 (by rw [B_size]; exact HPL.out))
  simp only [LB] at HV
  obtain ⟨vd, hvd⟩ : ∃ b, valid c.path = b := ⟨_, rfl⟩
  rw [hvd] at HV
  have HVD := Lib.hid hvd
  clear hvd
  go_wp2_with fail
  refine HV.out.mono ?_
  rintro e w3 ⟨rfl, hb3⟩
  have HCR3 := Lib.hid (HCR.out.go hb3)
  clear hb3 y0 y1 hk hk4
  cases vd with
  | false =>
    have hcq := HCR3.out.bq
    clear hcq
    have HFA := Lib.hid (rfails_any 70 w3)
    have HPC : Hid (Zt.one T zx se c = Zt.fails 70) := Lib.hid (by unfold Zt.one; rw [if_neg HK14.out, if_pos HVD.out])
    go_wp2_with fail
    refine HFA.out.mono ?_
    rintro e wf ⟨rfl, hbf⟩
    have hcf := HCR3.out.go hbf
    obtain ⟨w6, hw6⟩ : ∃ w6, w6 = ((((wf.setCell ⟨r, 0, none⟩ (.slice none 0 0)).setCell ⟨r, 1, none⟩ (.string ⟨#[]⟩)).setCell ⟨r, 2, none⟩ (.slice none 0 0)).setCell ⟨r, 3, none⟩ (.int .i64 70)) := ⟨_, rfl⟩
    obtain ⟨hst, h6⟩ := on_fail (vt := .slice AT T.length cT) hcf HRR.out HPC.out hw6
    have HFIN := Lib.hid hst
    have hrb := hcf.br
    have q0 := cell_of hrb (j := 0) rfl
    have q1 := cell_of hrb (j := 1) rfl
    have q2 := cell_of hrb (j := 2) rfl
    have q3 := cell_of hrb (j := 3) rfl
    have rf0 := frozen_of_row wf _ 0 _ _ hrb
    have rf1 := frozen_of_row wf _ 1 _ _ hrb
    have rf2 := frozen_of_row wf _ 2 _ _ hrb
    have rf3 := frozen_of_row wf _ 3 _ _ hrb
    have t0 := cell_of h6 (j := 0) rfl
    have t1 := cell_of h6 (j := 1) rfl
    have t2 := cell_of h6 (j := 2) rfl
    have t3 := cell_of h6 (j := 3) rfl
    have HW6 := Lib.hid hw6
    clear hbf hcf hw6 hst h6 hrb
    go_wp2_with fail
    rw [← HW6.out]
    exact bodyPost_ret (v := .agg #[.slice none 0 0, .string ⟨#[]⟩, .slice none 0 0, .int .i64 70]) (by simp [results, Tryz.results141, go_sem, t0, t1, t2, t3]) rfl HFIN.out
  | true =>
    by_cases k1 : c.kind = 1
    · have tk1 : (c.kind == 1) = true := by simpa using k1
      have HK1 := Lib.hid k1
      clear k1
      have hcq := HCR3.out.bq
      have y0 := cell_of hcq (j := 0) rfl
      have y1 := cell_of hcq (j := 1) rfl
      have y2 := cell_of hcq (j := 2) rfl
      have y3 := cell_of hcq (j := 3) rfl
      have y4 := cell_of hcq (j := 4) rfl
      have y5 := cell_of hcq (j := 5) rfl
      clear hcq
      have HCC := Lib.hid (rcreate_any (cT := cT) (HT.out.below HCR3.out.below) HGG.out zx se c HVD.out)
      go_wp2_with fail
      refine HCC.out.mono ?_
      clear y0 y1 y2 y3 y4 y5
      rintro e w12 ⟨v1, v2, rfl, h1, h2, hb12⟩
      have hcr := HCR3.out.go hb12
      have hr12 := hcr.br
      obtain ⟨A1, c1, e1, -, -, -⟩ := own_form h1
      obtain ⟨A3, c3, e3, -, -, -⟩ := own_form h2
      obtain ⟨R, hR⟩ : ∃ R, create T zx se c = R := ⟨_, rfl⟩
      have hR2 : Zt.one T zx se c = R := by rw [← hR]; exact (by unfold Zt.one; rw [if_neg HK14.out, if_neg (by rw [HVD.out]; simp), if_pos HK1.out])
      rw [hR] at h1 h2 e1 e3
      obtain ⟨n1, en1⟩ : ∃ n1, R.T.length = n1 := ⟨_, rfl⟩
      obtain ⟨n3, en3⟩ : ∃ n3, R.evs.length = n3 := ⟨_, rfl⟩
      obtain ⟨w6, hw6⟩ : ∃ w6, w6 = ((((w12.setCell ⟨r, 0, none⟩ (v1)).setCell ⟨r, 1, none⟩ (.string (B R.path))).setCell ⟨r, 2, none⟩ (v2)).setCell ⟨r, 3, none⟩ (.int .i64 R.e)) := ⟨_, rfl⟩
      obtain ⟨hst, h6⟩ := st_store hr12 HRR.out HCR3.out.below.size h1 h2 hcr.below hw6
      rw [en1] at e1
      rw [en3] at e3
      subst e1 e3
      have HFIN := Lib.hid (hst.on (vt := .slice AT T.length cT) (T := T))
      have HR2 := Lib.hid hR2
      have HW6 := Lib.hid hw6
      have q0 := cell_of hr12 (j := 0) rfl
      have q1 := cell_of hr12 (j := 1) rfl
      have q2 := cell_of hr12 (j := 2) rfl
      have q3 := cell_of hr12 (j := 3) rfl
      have rf0 := frozen_of_row w12 _ 0 _ _ hr12
      have rf1 := frozen_of_row w12 _ 1 _ _ hr12
      have rf2 := frozen_of_row w12 _ 2 _ _ hr12
      have rf3 := frozen_of_row w12 _ 3 _ _ hr12
      have t0 := cell_of h6 (j := 0) rfl
      have t1 := cell_of h6 (j := 1) rfl
      have t2 := cell_of h6 (j := 2) rfl
      have t3 := cell_of h6 (j := 3) rfl
      obtain ⟨rp, hrp⟩ : ∃ x, R.path = x := ⟨_, rfl⟩
      obtain ⟨re, hre⟩ : ∃ x, R.e = x := ⟨_, rfl⟩
      rw [hrp, hre] at HFIN
      rw [hrp, hre] at HW6
      rw [hrp] at t1
      rw [hre] at t3
      rw [hR, hrp, hre]
      clear h1 h2 hb12 hr12 hcr hR2 en1 en3 hw6 hst h6 hR hrp hre
      go_wp2_with fail
      rw [← HW6.out]
      exact bodyPost_ret (v := .agg #[.slice A1 n1 c1, .string (B rp), .slice A3 n3 c3, .int .i64 re]) (by simp [results, Tryz.results141, go_sem, t0, t1, t2, t3]) rfl (by rw [HR2.out]; exact HFIN.out)
    · have tk1 : (c.kind == 1) = false := by simpa using k1
      have HK1 := Lib.hid k1
      clear k1
      by_cases k3 : c.kind = 3
      · have tk3 : (c.kind == 3) = true := by simpa using k3
        have HKE := Lib.hid k3
        have HK2 : Hid (c.kind ≠ 2) := Lib.hid (by omega)
        have HK4 : Hid (c.kind ≠ 4) := Lib.hid (by omega)
        clear k3
        by_cases hd : 1024 < c.data.length
        · have hd' : (1024 : Int) < (c.data.length : Int) := by omega
          have HD := Lib.hid hd
          clear hd
          have hcq := HCR3.out.bq
          have y0 := cell_of hcq (j := 0) rfl
          have y2 := cell_of hcq (j := 2) rfl
          clear hcq
          have HFA := Lib.hid (rfails_any 87 w3)
          have HPC : Hid (Zt.one T zx se c = Zt.fails 87) := Lib.hid (by unfold Zt.one; rw [if_neg HK14.out, if_neg (by rw [HVD.out]; simp), if_neg HK1.out, if_pos ⟨HKE.out, HD.out⟩])
          go_wp2_with fail
          refine HFA.out.mono ?_
          rintro e wf ⟨rfl, hbf⟩
          have hcf := HCR3.out.go hbf
          obtain ⟨w6, hw6⟩ : ∃ w6, w6 = ((((wf.setCell ⟨r, 0, none⟩ (.slice none 0 0)).setCell ⟨r, 1, none⟩ (.string ⟨#[]⟩)).setCell ⟨r, 2, none⟩ (.slice none 0 0)).setCell ⟨r, 3, none⟩ (.int .i64 87)) := ⟨_, rfl⟩
          obtain ⟨hst, h6⟩ := on_fail (vt := .slice AT T.length cT) hcf HRR.out HPC.out hw6
          have HFIN := Lib.hid hst
          have hrb := hcf.br
          have q0 := cell_of hrb (j := 0) rfl
          have q1 := cell_of hrb (j := 1) rfl
          have q2 := cell_of hrb (j := 2) rfl
          have q3 := cell_of hrb (j := 3) rfl
          have rf0 := frozen_of_row wf _ 0 _ _ hrb
          have rf1 := frozen_of_row wf _ 1 _ _ hrb
          have rf2 := frozen_of_row wf _ 2 _ _ hrb
          have rf3 := frozen_of_row wf _ 3 _ _ hrb
          have t0 := cell_of h6 (j := 0) rfl
          have t1 := cell_of h6 (j := 1) rfl
          have t2 := cell_of h6 (j := 2) rfl
          have t3 := cell_of h6 (j := 3) rfl
          have HW6 := Lib.hid hw6
          clear hbf hcf hw6 hst h6 hrb
          go_wp2_with fail
          rw [← HW6.out]
          exact bodyPost_ret (v := .agg #[.slice none 0 0, .string ⟨#[]⟩, .slice none 0 0, .int .i64 87]) (by simp [results, Tryz.results141, go_sem, t0, t1, t2, t3]) rfl HFIN.out
        · have hd' : ¬ (1024 : Int) < (c.data.length : Int) := by omega
          have HK3 : Hid (¬ (c.kind = 3 ∧ 1024 < c.data.length)) := Lib.hid (fun h => hd h.2)
          clear hd
          have hcq := HCR3.out.bq
          have y2 := cell_of hcq (j := 2) rfl
          clear hcq
          have hcq := HCR3.out.bq
          have y0 := cell_of hcq (j := 0) rfl
          have y1 := cell_of hcq (j := 1) rfl
          clear hcq
          have HGE := Lib.hid (rget_any (c := cT) (HT.out.below HCR3.out.below) HN.out c.path)
          unfold RgPost ndv at HGE
          obtain ⟨z, hz⟩ : ∃ x, (get T c.path).getD nd0 = x := ⟨_, rfl⟩
          obtain ⟨is, his⟩ : ∃ b, (get T c.path).isSome = b := ⟨_, rfl⟩
          rw [hz, his] at HGE
          have HZ := Lib.hid hz
          have HIS := Lib.hid his
          clear hz his
          go_wp2_with fail
          refine HGE.out.mono ?_
          rintro e w4 ⟨rfl, hb4⟩
          obtain ⟨w5, hw5⟩ : ∃ w5, w5 = w4.alloc (.cells #[.string (B z.path), .string (B z.data), .int .i64 z.cr, .int .i64 z.ch, .int .i64 z.kd, .int .i64 z.ver, .int .i64 z.ks, .int .i64 z.own, .int .i64 z.nx] 132) := ⟨_, rfl⟩
          obtain ⟨zb, ezb⟩ : ∃ x, x = w4.heap.size := ⟨_, rfl⟩
          have hb5 : Below w4.heap.size w4 w5 := by rw [hw5]; exact box_below w4 _
          have hz5 : w5.heap[zb]? = some (.cells #[.string (B z.path), .string (B z.data), .int .i64 z.cr, .int .i64 z.ch, .int .i64 z.kd, .int .i64 z.ver, .int .i64 z.ks, .int .i64 z.own, .int .i64 z.nx] 132 (0, 0)) := by rw [hw5, ezb]; exact new_block w4 _
          have HCR5 := Lib.hid ((HCR3.out.go hb4).go hb5)
          have HZ5 := Lib.hid hz5
          have HZW : Hid (w.heap.size ≤ zb) := Lib.hid (by have h1 := HCR3.out.below.size; have h2 := hb4.size; omega)
          have HW5 := Lib.hid hw5
          have EZB := Lib.hid ezb
          clear hb4 hw5 ezb hb5 hz5 y0 y1
          go_upto_region 10 with fail
          rw [← HW5.out, ← EZB.out]
          have hcq := HCR5.out.bq
          have y0 := cell_of hcq (j := 0) rfl
          have y1 := cell_of hcq (j := 1) rfl
          have y3 := cell_of hcq (j := 3) rfl
          clear hcq
          cases is with
          | false =>
            have HAM : Hid (amissV T c = 80) := Lib.hid (by have h := HIS.out; unfold amissV; cases hx : get T c.path with
              | none => rfl
              | some y => rw [hx] at h; cases h)
            have HFA := Lib.hid (rfails_any 80 w5)
            have HPC : Hid (Zt.one T zx se c = Zt.fails 80) := Lib.hid (by rw [one_at HK14.out HVD.out HK1.out HK3.out, HAM.out, if_pos (by decide)])
            go_wp2_with fail
            refine HFA.out.mono ?_
            rintro e wf ⟨rfl, hbf⟩
            have hcf := HCR5.out.go hbf
            obtain ⟨w6, hw6⟩ : ∃ w6, w6 = ((((wf.setCell ⟨r, 0, none⟩ (.slice none 0 0)).setCell ⟨r, 1, none⟩ (.string ⟨#[]⟩)).setCell ⟨r, 2, none⟩ (.slice none 0 0)).setCell ⟨r, 3, none⟩ (.int .i64 80)) := ⟨_, rfl⟩
            obtain ⟨hst, h6⟩ := on_fail (vt := .slice AT T.length cT) hcf HRR.out HPC.out hw6
            have HFIN := Lib.hid hst
            have hrb := hcf.br
            have q0 := cell_of hrb (j := 0) rfl
            have q1 := cell_of hrb (j := 1) rfl
            have q2 := cell_of hrb (j := 2) rfl
            have q3 := cell_of hrb (j := 3) rfl
            have rf0 := frozen_of_row wf _ 0 _ _ hrb
            have rf1 := frozen_of_row wf _ 1 _ _ hrb
            have rf2 := frozen_of_row wf _ 2 _ _ hrb
            have rf3 := frozen_of_row wf _ 3 _ _ hrb
            have t0 := cell_of h6 (j := 0) rfl
            have t1 := cell_of h6 (j := 1) rfl
            have t2 := cell_of h6 (j := 2) rfl
            have t3 := cell_of h6 (j := 3) rfl
            have HW6 := Lib.hid hw6
            clear hbf hcf hw6 hst h6 hrb
            go_wp2_with fail
            rw [← HW6.out]
            exact bodyPost_ret (v := .agg #[.slice none 0 0, .string ⟨#[]⟩, .slice none 0 0, .int .i64 80]) (by simp [results, Tryz.results141, go_sem, t0, t1, t2, t3]) rfl HFIN.out
          | true =>
            have HGP : Hid (get T c.path = some z) := Lib.hid (by have h1 := HIS.out; have h2 := HZ.out; cases hx : get T c.path with
              | none => rw [hx] at h1; cases h1
              | some y => rw [hx] at h2; rw [← h2]; rfl)
            have tk2 : (c.kind == 2) = false := by simpa using HK2.out
            have tk4 : (c.kind == 4) = false := by simpa using HK4.out
            have z5 := cell_of HZ5.out (j := 5) rfl
            by_cases hv1 : c.ver = -1
            · have tv1 : (c.ver != -1) = false := by simpa using hv1
              have HAM : Hid (amissV T c = 0) := Lib.hid (by rw [am_at HGP.out, if_neg (fun h => HK2.out h.1), if_neg (fun h => h.1 hv1)])
              clear hv1
              obtain ⟨y, hy⟩ : ∃ y, setd z c.data zx = y := ⟨_, rfl⟩
              obtain ⟨U, hU⟩ : ∃ U, up z.ver = U := ⟨_, rfl⟩
              have hz5 := HZ5.out
              obtain ⟨wa, hwa⟩ : ∃ w', w' = w5.setCell ⟨zb, 1, none⟩ (.string (B c.data)) := ⟨_, rfl⟩
              have hza : wa.heap[zb]? = some (.cells #[.string (B z.path), .string (B c.data), .int .i64 z.cr, .int .i64 z.ch, .int .i64 z.kd, .int .i64 z.ver, .int .i64 z.ks, .int .i64 z.own, .int .i64 z.nx] 132 (0, 0)) := by rw [hwa]; exact heap_setCell_same w5 zb 1 _ 132 _ hz5
              obtain ⟨wb, hwb⟩ : ∃ w', w' = wa.setCell ⟨zb, 3, none⟩ (.int .i64 zx) := ⟨_, rfl⟩
              have hzb : wb.heap[zb]? = some (.cells #[.string (B z.path), .string (B c.data), .int .i64 z.cr, .int .i64 zx, .int .i64 z.kd, .int .i64 z.ver, .int .i64 z.ks, .int .i64 z.own, .int .i64 z.nx] 132 (0, 0)) := by rw [hwb]; exact heap_setCell_same wa zb 3 _ 132 _ hza
              obtain ⟨wc, hwc⟩ : ∃ w', w' = wb.setCell ⟨zb, 5, none⟩ (.int .i64 U) := ⟨_, rfl⟩
              have hzc : wc.heap[zb]? = some (.cells #[.string (B y.path), .string (B y.data), .int .i64 y.cr, .int .i64 y.ch, .int .i64 y.kd, .int .i64 y.ver, .int .i64 y.ks, .int .i64 y.own, .int .i64 y.nx] 132 (0, 0)) := by rw [hwc, ← hy, ← hU]; exact heap_setCell_same wb zb 5 _ 132 _ hzb
              have HRQ : Hid (r ≠ cb) := Lib.hid (fun e => by have h1 := HCR5.out.br; rw [e, HCR5.out.bq] at h1; injection h1 with h1; injection h1 with _ h _; exact absurd h (by decide))
              have HNQ : Hid (r ≠ zb ∧ cb ≠ zb ∧ w.heap.size ≤ zb) := Lib.hid (by
                have h1 : ∀ {k : Nat} {cs : Array Value} {t : TypeId}, w5.heap[k]? = some (.cells cs t (0, 0)) → t ≠ 132 → k ≠ zb := fun hk ht e => by rw [e, hz5] at hk; injection hk with hk; injection hk with _ h _; exact ht h.symm
                exact ⟨h1 HCR5.out.br (by decide), h1 HCR5.out.bq (by decide), HZW.out⟩)
              have hwr : Wr zb w5 wc := by rw [hwc, hwb, hwa]; exact (((Wr.refl zb w5).set 1 _).set 3 _).set 5 _
              have HCRc : Hid (Cr w cb r c wc) := Lib.hid ⟨HCR5.out.below.trans (hwr.below.mono HNQ.out.2.2), (hwr.rest cb HNQ.out.2.1).trans HCR5.out.bq, (hwr.rest r HNQ.out.1).trans HCR5.out.br⟩
              have hvin := inr_iff.1 (HGG.out.each z (get_some HGP.out).1).ver
              have HUP := Lib.hid (rup_any z.ver hvin.2 hvin.1 wb)
              rw [hU] at HUP
              have g1 := frozen_of_row w5 _ 1 _ _ hz5
              have c1 := cell_of hz5 (j := 1) rfl
              have g3 := frozen_of_row wa _ 3 _ _ hza
              have c3 := cell_of hza (j := 3) rfl
              have g5 := frozen_of_row wb _ 5 _ _ hzb
              have c5 := cell_of hzb (j := 5) rfl
              have hcq := HCR5.out.bq
              have y2 := cell_of hcq (j := 2) rfl
              have HWA := Lib.hid hwa
              have HWB := Lib.hid hwb
              have HWC := Lib.hid hwc
              have HZC := Lib.hid hzc
              have HY := Lib.hid hy
              clear hy hU hz5 hwa hza hwb hzb hwc hzc hwr hvin hcq
              go_upto_region 24 with fail
              rw [← HWA.out]
              go_upto_region 25 with fail
              rw [← HWB.out]
              go_wp2_with fail
              refine HUP.out.mono ?_
              rintro e w' ⟨rfl, rfl⟩
              go_upto_region 26 with fail
              rw [← HWC.out]
              clear g1 c1 g3 c3 g5 c5 y0 y1 y2 y3 z5
              have hTc := HT.out.below HCRc.out.below
              have HPU : Hid (∀ W, Below wc.heap.size wc W → Calls Tryz.prog 168 #[.slice AT T.length cT, .agg #[.string (B y.path), .string (B y.data), .int .i64 y.cr, .int .i64 y.ch, .int .i64 y.kd, .int .i64 y.ver, .int .i64 y.ks, .int .i64 y.own, .int .i64 y.nx]] W (TrPost (put T y) W)) := Lib.hid (fun W hW => rput_any (c := cT) (hTc.below hW) HN.out y)
              have HSS : Hid (∀ W, Below wc.heap.size wc W → (W.cell? ⟨cb, 1, none⟩ = some (.string (B c.path)) ∧ W.cell? ⟨zb, 0, none⟩ = some (.string (B y.path)) ∧ W.cell? ⟨zb, 1, none⟩ = some (.string (B y.data)) ∧ W.cell? ⟨zb, 2, none⟩ = some (.int .i64 y.cr) ∧ W.cell? ⟨zb, 3, none⟩ = some (.int .i64 y.ch) ∧ W.cell? ⟨zb, 4, none⟩ = some (.int .i64 y.kd) ∧ W.cell? ⟨zb, 5, none⟩ = some (.int .i64 y.ver) ∧ W.cell? ⟨zb, 6, none⟩ = some (.int .i64 y.ks) ∧ W.cell? ⟨zb, 7, none⟩ = some (.int .i64 y.own) ∧ W.cell? ⟨zb, 8, none⟩ = some (.int .i64 y.nx) ∧ Below w.heap.size w W)) := Lib.hid (fun W hW => by
                have hq := blk_below HCRc.out.bq hW
                have hz := blk_below HZC.out hW
                exact ⟨cell_of hq (j := 1) rfl, cell_of hz (j := 0) rfl, cell_of hz (j := 1) rfl, cell_of hz (j := 2) rfl, cell_of hz (j := 3) rfl, cell_of hz (j := 4) rfl, cell_of hz (j := 5) rfl, cell_of hz (j := 6) rfl, cell_of hz (j := 7) rfl, cell_of hz (j := 8) rfl, HCRc.out.below.trans (hW.mono HCRc.out.below.size)⟩)
              have HSK : Hid (∀ W (j : Nat) (v : Value), (W.cell? ⟨cb, 1, none⟩ = some (.string (B c.path)) ∧ W.cell? ⟨zb, 0, none⟩ = some (.string (B y.path)) ∧ W.cell? ⟨zb, 1, none⟩ = some (.string (B y.data)) ∧ W.cell? ⟨zb, 2, none⟩ = some (.int .i64 y.cr) ∧ W.cell? ⟨zb, 3, none⟩ = some (.int .i64 y.ch) ∧ W.cell? ⟨zb, 4, none⟩ = some (.int .i64 y.kd) ∧ W.cell? ⟨zb, 5, none⟩ = some (.int .i64 y.ver) ∧ W.cell? ⟨zb, 6, none⟩ = some (.int .i64 y.ks) ∧ W.cell? ⟨zb, 7, none⟩ = some (.int .i64 y.own) ∧ W.cell? ⟨zb, 8, none⟩ = some (.int .i64 y.nx) ∧ Below w.heap.size w W) → (fun W => W.cell? ⟨cb, 1, none⟩ = some (.string (B c.path)) ∧ W.cell? ⟨zb, 0, none⟩ = some (.string (B y.path)) ∧ W.cell? ⟨zb, 1, none⟩ = some (.string (B y.data)) ∧ W.cell? ⟨zb, 2, none⟩ = some (.int .i64 y.cr) ∧ W.cell? ⟨zb, 3, none⟩ = some (.int .i64 y.ch) ∧ W.cell? ⟨zb, 4, none⟩ = some (.int .i64 y.kd) ∧ W.cell? ⟨zb, 5, none⟩ = some (.int .i64 y.ver) ∧ W.cell? ⟨zb, 6, none⟩ = some (.int .i64 y.ks) ∧ W.cell? ⟨zb, 7, none⟩ = some (.int .i64 y.own) ∧ W.cell? ⟨zb, 8, none⟩ = some (.int .i64 y.nx) ∧ Below w.heap.size w W) (W.setCell ⟨r, j, none⟩ v)) := Lib.hid (fun W j v hS => by
                have k : ∀ b o u, r ≠ b → W.cell? ⟨b, o, none⟩ = some u → (W.setCell ⟨r, j, none⟩ v).cell? ⟨b, o, none⟩ = some u := fun b o u hb hx => by rw [World.cell?_setCell_far _ _ _ _ hb]; exact hx
                obtain ⟨s0, s1, s2, s3, s4, s5, s6, s7, s8, s9, sB⟩ := hS
                have n1 := HRQ.out
                have n2 := HNQ.out.1
                exact ⟨k _ _ _ n1 s0, k _ _ _ n2 s1, k _ _ _ n2 s2, k _ _ _ n2 s3, k _ _ _ n2 s4, k _ _ _ n2 s5, k _ _ _ n2 s6, k _ _ _ n2 s7, k _ _ _ n2 s8, k _ _ _ n2 s9, sB.setCell HRR.out v⟩)
              clear hTc
              have HONE : Hid (Zt.one T zx se c = ⟨put T y, c.path, [⟨0, 3, c.path⟩], 0⟩) := Lib.hid (by rw [one_at HK14.out HVD.out HK1.out HK3.out, HAM.out, if_neg (by decide), if_neg HK2.out, if_neg HK4.out, HGP.out]; show (⟨put T (setd z c.data zx), c.path, [⟨0, 3, c.path⟩], 0⟩ : Stp) = _; rw [HY.out])
              go_region_held3 (fun W => W.cell? ⟨cb, 1, none⟩ = some (.string (B c.path)) ∧ W.cell? ⟨zb, 0, none⟩ = some (.string (B y.path)) ∧ W.cell? ⟨zb, 1, none⟩ = some (.string (B y.data)) ∧ W.cell? ⟨zb, 2, none⟩ = some (.int .i64 y.cr) ∧ W.cell? ⟨zb, 3, none⟩ = some (.int .i64 y.ch) ∧ W.cell? ⟨zb, 4, none⟩ = some (.int .i64 y.kd) ∧ W.cell? ⟨zb, 5, none⟩ = some (.int .i64 y.ver) ∧ W.cell? ⟨zb, 6, none⟩ = some (.int .i64 y.ks) ∧ W.cell? ⟨zb, 7, none⟩ = some (.int .i64 y.own) ∧ W.cell? ⟨zb, 8, none⟩ = some (.int .i64 y.nx) ∧ Below w.heap.size w W)
                (first
                  | assumption
                  | (with_reducible exact HSS.out _ (Below.refl _ _).drew)
                  | (with_reducible exact HSS.out _ (below_step (by assumption) (box_below _ _)))
                  | (with_reducible exact HSS.out _ (below_step (Below.refl _ _).drew (box_below _ _)))
                  | (with_reducible exact HSK.out _ _ _ (HSK.out _ _ _ (HSK.out _ _ _ (HSK.out _ _ _ (by assumption))))))
                (first
                  | (go_at_call 168; (with_reducible refine (HPU.out _ (by first | exact (Below.refl _ _).drew | assumption | exact below_step (Below.refl _ _).drew (box_below _ _))).mono ?_); rintro e w12 ⟨v1, rfl, h1, hb12⟩; obtain ⟨A1, c1, rfl, -, -, -⟩ := own_form h1; have hB12 := below_step (a := wc) (by first | exact (Below.refl _ _).drew | assumption | exact below_step (Below.refl _ _).drew (box_below _ _)) hb12; have hS12 := HSS.out w12 hB12; have hr12 := blk_below HCRc.out.br hB12; have hrA := blk_below hr12 (box_below w12 (.cells #[.int .i64 0, .int .i64 3, .string (B c.path)] 165)); have r12c0 := cell_of hr12 (j := 0) rfl; have r12f0 := frozen_of_row w12 _ 0 _ _ hr12; have r12c1 := cell_of hr12 (j := 1) rfl; have r12f1 := frozen_of_row w12 _ 1 _ _ hr12; have r12c2 := cell_of hr12 (j := 2) rfl; have r12f2 := frozen_of_row w12 _ 2 _ _ hr12; have r12c3 := cell_of hr12 (j := 3) rfl; have r12f3 := frozen_of_row w12 _ 3 _ _ hr12; have rAc0 := cell_of hrA (j := 0) rfl; have rAf0 := frozen_of_row (w12.alloc (.cells #[.int .i64 0, .int .i64 3, .string (B c.path)] 165)) _ 0 _ _ hrA; have rAc1 := cell_of hrA (j := 1) rfl; have rAf1 := frozen_of_row (w12.alloc (.cells #[.int .i64 0, .int .i64 3, .string (B c.path)] 165)) _ 1 _ _ hrA; have rAc2 := cell_of hrA (j := 2) rfl; have rAf2 := frozen_of_row (w12.alloc (.cells #[.int .i64 0, .int .i64 3, .string (B c.path)] 165)) _ 2 _ _ hrA; have rAc3 := cell_of hrA (j := 3) rfl; have rAf3 := frozen_of_row (w12.alloc (.cells #[.int .i64 0, .int .i64 3, .string (B c.path)] 165)) _ 3 _ _ hrA))
              all_goals
                first
                  | (
                      obtain ⟨W5, hW5⟩ : ∃ W5, W5 = w12.alloc (.cells #[.int .i64 0, .int .i64 3, .string (B c.path)] 165) := ⟨_, rfl⟩
                      have hb5 : Below w12.heap.size w12 W5 := by rw [hW5]; exact box_below _ _
                      have hE : W5.heap[w12.heap.size]? = some (.cells #[.int .i64 0, .int .i64 3, .string (B c.path)] 165 (0, 0)) := by rw [hW5]; exact new_block _ _
                      have hBw : Below w.heap.size w W5 := (HCRc.out.below.trans (hB12.mono HCRc.out.below.size)).trans (hb5.mono (HCRc.out.below.trans (hB12.mono HCRc.out.below.size)).size)
                      have h1' := own_base (b' := w.heap.size) (own_below h1 hb5) HCRc.out.below.size
                      have h2' : W5.ownsRow w.heap.size 165 3 (.slice (some ⟨w12.heap.size, 0, none⟩) 1 1) 1 (ecells [⟨0, 3, c.path⟩]) := own_new hE (by have h := HCRc.out.below.size; have h' := hB12.size; omega) (by unfold maxLen; omega) rfl
                      have hr5 := blk_below hr12 hb5
                      obtain ⟨w6, hw6⟩ : ∃ w6, w6 = ((((W5.setCell ⟨r, 0, none⟩ (.slice A1 (put T y).length c1)).setCell ⟨r, 1, none⟩ (.string (B c.path))).setCell ⟨r, 2, none⟩ (.slice (some ⟨w12.heap.size, 0, none⟩) 1 1)).setCell ⟨r, 3, none⟩ (.int .i64 0)) := ⟨_, rfl⟩
                      obtain ⟨hst, h6⟩ := st_store (s := ⟨put T y, c.path, [⟨0, 3, c.path⟩], 0⟩) hr5 HRR.out (Nat.le_refl _) h1' h2' hBw hw6
                      have HFIN : Hid (OnPost (.slice AT T.length cT) T (Zt.one T zx se c) w (.returned (.agg #[.slice A1 (put T y).length c1, .string (B c.path), .slice (some ⟨w12.heap.size, 0, none⟩) 1 1, .int .i64 0])) w6) := Lib.hid (by rw [HONE.out]; exact hst.on)
                      have t0 := cell_of h6 (j := 0) rfl
                      have t1 := cell_of h6 (j := 1) rfl
                      have t2 := cell_of h6 (j := 2) rfl
                      have t3 := cell_of h6 (j := 3) rfl
                      rw [← hW5, ← hw6]
                      clear hW5 hw6 h6 hst h1' h2' hE hBw hr5 h1 hb12 hS12 hB12 hr12 hrA
                      go_wp2_with fail
                      exact bodyPost_ret (v := .agg #[.slice A1 (put T y).length c1, .string (B c.path), .slice (some ⟨w12.heap.size, 0, none⟩) 1 1, .int .i64 0]) (by simp [results, Tryz.results141, go_sem, t0, t1, t2, t3]) rfl HFIN.out)
                  | (
                      obtain ⟨W5, hW5⟩ : ∃ W5, W5 = w12 := ⟨_, rfl⟩
                      have hE : W5.heap[wc.heap.size]? = some (.cells #[.int .i64 0, .int .i64 3, .string (B c.path)] 165 (0, 0)) := by rw [hW5]; exact blk_below (new_block wc.drew _) hb12
                      have hBw : Below w.heap.size w W5 := by rw [hW5]; exact HCRc.out.below.trans (hB12.mono HCRc.out.below.size)
                      have h1' := own_base (b' := w.heap.size) h1 (Nat.le_trans HCRc.out.below.size (box_below wc.drew _).size)
                      rw [← hW5] at h1'
                      have h2' : W5.ownsRow w.heap.size 165 3 (.slice (some ⟨wc.heap.size, 0, none⟩) 1 1) 1 (ecells [⟨0, 3, c.path⟩]) := own_new hE (by have h := HCRc.out.below.size; omega) (by unfold maxLen; omega) rfl
                      have hr5 := hr12
                      rw [← hW5] at hr5
                      obtain ⟨w6, hw6⟩ : ∃ w6, w6 = ((((W5.setCell ⟨r, 0, none⟩ (.slice A1 (put T y).length c1)).setCell ⟨r, 1, none⟩ (.string (B c.path))).setCell ⟨r, 2, none⟩ (.slice (some ⟨wc.heap.size, 0, none⟩) 1 1)).setCell ⟨r, 3, none⟩ (.int .i64 0)) := ⟨_, rfl⟩
                      obtain ⟨hst, h6⟩ := st_store (s := ⟨put T y, c.path, [⟨0, 3, c.path⟩], 0⟩) hr5 HRR.out (Nat.le_refl _) h1' h2' hBw hw6
                      have HFIN : Hid (OnPost (.slice AT T.length cT) T (Zt.one T zx se c) w (.returned (.agg #[.slice A1 (put T y).length c1, .string (B c.path), .slice (some ⟨wc.heap.size, 0, none⟩) 1 1, .int .i64 0])) w6) := Lib.hid (by rw [HONE.out]; exact hst.on)
                      have t0 := cell_of h6 (j := 0) rfl
                      have t1 := cell_of h6 (j := 1) rfl
                      have t2 := cell_of h6 (j := 2) rfl
                      have t3 := cell_of h6 (j := 3) rfl
                      rw [← hW5, ← hw6]
                      clear hW5 hw6 h6 hst h1' h2' hE hBw hr5 h1 hb12 hS12 hB12 hr12 hrA
                      go_wp2_with fail
                      exact bodyPost_ret (v := .agg #[.slice A1 (put T y).length c1, .string (B c.path), .slice (some ⟨wc.heap.size, 0, none⟩) 1 1, .int .i64 0]) (by simp [results, Tryz.results141, go_sem, t0, t1, t2, t3]) rfl HFIN.out)
            · have tv1 : (c.ver != -1) = true := by simpa using hv1
              by_cases hv2 : c.ver = z.ver
              · have tv2 : (c.ver != z.ver) = false := by simpa using hv2
                have HAM : Hid (amissV T c = 0) := Lib.hid (by rw [am_at HGP.out, if_neg (fun h => HK2.out h.1), if_neg (fun h => h.2 hv2)])
                clear hv1 hv2
                obtain ⟨y, hy⟩ : ∃ y, setd z c.data zx = y := ⟨_, rfl⟩
                obtain ⟨U, hU⟩ : ∃ U, up z.ver = U := ⟨_, rfl⟩
                have hz5 := HZ5.out
                obtain ⟨wa, hwa⟩ : ∃ w', w' = w5.setCell ⟨zb, 1, none⟩ (.string (B c.data)) := ⟨_, rfl⟩
                have hza : wa.heap[zb]? = some (.cells #[.string (B z.path), .string (B c.data), .int .i64 z.cr, .int .i64 z.ch, .int .i64 z.kd, .int .i64 z.ver, .int .i64 z.ks, .int .i64 z.own, .int .i64 z.nx] 132 (0, 0)) := by rw [hwa]; exact heap_setCell_same w5 zb 1 _ 132 _ hz5
                obtain ⟨wb, hwb⟩ : ∃ w', w' = wa.setCell ⟨zb, 3, none⟩ (.int .i64 zx) := ⟨_, rfl⟩
                have hzb : wb.heap[zb]? = some (.cells #[.string (B z.path), .string (B c.data), .int .i64 z.cr, .int .i64 zx, .int .i64 z.kd, .int .i64 z.ver, .int .i64 z.ks, .int .i64 z.own, .int .i64 z.nx] 132 (0, 0)) := by rw [hwb]; exact heap_setCell_same wa zb 3 _ 132 _ hza
                obtain ⟨wc, hwc⟩ : ∃ w', w' = wb.setCell ⟨zb, 5, none⟩ (.int .i64 U) := ⟨_, rfl⟩
                have hzc : wc.heap[zb]? = some (.cells #[.string (B y.path), .string (B y.data), .int .i64 y.cr, .int .i64 y.ch, .int .i64 y.kd, .int .i64 y.ver, .int .i64 y.ks, .int .i64 y.own, .int .i64 y.nx] 132 (0, 0)) := by rw [hwc, ← hy, ← hU]; exact heap_setCell_same wb zb 5 _ 132 _ hzb
                have HRQ : Hid (r ≠ cb) := Lib.hid (fun e => by have h1 := HCR5.out.br; rw [e, HCR5.out.bq] at h1; injection h1 with h1; injection h1 with _ h _; exact absurd h (by decide))
                have HNQ : Hid (r ≠ zb ∧ cb ≠ zb ∧ w.heap.size ≤ zb) := Lib.hid (by
                  have h1 : ∀ {k : Nat} {cs : Array Value} {t : TypeId}, w5.heap[k]? = some (.cells cs t (0, 0)) → t ≠ 132 → k ≠ zb := fun hk ht e => by rw [e, hz5] at hk; injection hk with hk; injection hk with _ h _; exact ht h.symm
                  exact ⟨h1 HCR5.out.br (by decide), h1 HCR5.out.bq (by decide), HZW.out⟩)
                have hwr : Wr zb w5 wc := by rw [hwc, hwb, hwa]; exact (((Wr.refl zb w5).set 1 _).set 3 _).set 5 _
                have HCRc : Hid (Cr w cb r c wc) := Lib.hid ⟨HCR5.out.below.trans (hwr.below.mono HNQ.out.2.2), (hwr.rest cb HNQ.out.2.1).trans HCR5.out.bq, (hwr.rest r HNQ.out.1).trans HCR5.out.br⟩
                have hvin := inr_iff.1 (HGG.out.each z (get_some HGP.out).1).ver
                have HUP := Lib.hid (rup_any z.ver hvin.2 hvin.1 wb)
                rw [hU] at HUP
                have g1 := frozen_of_row w5 _ 1 _ _ hz5
                have c1 := cell_of hz5 (j := 1) rfl
                have g3 := frozen_of_row wa _ 3 _ _ hza
                have c3 := cell_of hza (j := 3) rfl
                have g5 := frozen_of_row wb _ 5 _ _ hzb
                have c5 := cell_of hzb (j := 5) rfl
                have hcq := HCR5.out.bq
                have y2 := cell_of hcq (j := 2) rfl
                have HWA := Lib.hid hwa
                have HWB := Lib.hid hwb
                have HWC := Lib.hid hwc
                have HZC := Lib.hid hzc
                have HY := Lib.hid hy
                clear hy hU hz5 hwa hza hwb hzb hwc hzc hwr hvin hcq
                go_upto_region 24 with fail
                rw [← HWA.out]
                go_upto_region 25 with fail
                rw [← HWB.out]
                go_wp2_with fail
                refine HUP.out.mono ?_
                rintro e w' ⟨rfl, rfl⟩
                go_upto_region 26 with fail
                rw [← HWC.out]
                clear g1 c1 g3 c3 g5 c5 y0 y1 y2 y3 z5
                have hTc := HT.out.below HCRc.out.below
                have HPU : Hid (∀ W, Below wc.heap.size wc W → Calls Tryz.prog 168 #[.slice AT T.length cT, .agg #[.string (B y.path), .string (B y.data), .int .i64 y.cr, .int .i64 y.ch, .int .i64 y.kd, .int .i64 y.ver, .int .i64 y.ks, .int .i64 y.own, .int .i64 y.nx]] W (TrPost (put T y) W)) := Lib.hid (fun W hW => rput_any (c := cT) (hTc.below hW) HN.out y)
                have HSS : Hid (∀ W, Below wc.heap.size wc W → (W.cell? ⟨cb, 1, none⟩ = some (.string (B c.path)) ∧ W.cell? ⟨zb, 0, none⟩ = some (.string (B y.path)) ∧ W.cell? ⟨zb, 1, none⟩ = some (.string (B y.data)) ∧ W.cell? ⟨zb, 2, none⟩ = some (.int .i64 y.cr) ∧ W.cell? ⟨zb, 3, none⟩ = some (.int .i64 y.ch) ∧ W.cell? ⟨zb, 4, none⟩ = some (.int .i64 y.kd) ∧ W.cell? ⟨zb, 5, none⟩ = some (.int .i64 y.ver) ∧ W.cell? ⟨zb, 6, none⟩ = some (.int .i64 y.ks) ∧ W.cell? ⟨zb, 7, none⟩ = some (.int .i64 y.own) ∧ W.cell? ⟨zb, 8, none⟩ = some (.int .i64 y.nx) ∧ Below w.heap.size w W)) := Lib.hid (fun W hW => by
                  have hq := blk_below HCRc.out.bq hW
                  have hz := blk_below HZC.out hW
                  exact ⟨cell_of hq (j := 1) rfl, cell_of hz (j := 0) rfl, cell_of hz (j := 1) rfl, cell_of hz (j := 2) rfl, cell_of hz (j := 3) rfl, cell_of hz (j := 4) rfl, cell_of hz (j := 5) rfl, cell_of hz (j := 6) rfl, cell_of hz (j := 7) rfl, cell_of hz (j := 8) rfl, HCRc.out.below.trans (hW.mono HCRc.out.below.size)⟩)
                have HSK : Hid (∀ W (j : Nat) (v : Value), (W.cell? ⟨cb, 1, none⟩ = some (.string (B c.path)) ∧ W.cell? ⟨zb, 0, none⟩ = some (.string (B y.path)) ∧ W.cell? ⟨zb, 1, none⟩ = some (.string (B y.data)) ∧ W.cell? ⟨zb, 2, none⟩ = some (.int .i64 y.cr) ∧ W.cell? ⟨zb, 3, none⟩ = some (.int .i64 y.ch) ∧ W.cell? ⟨zb, 4, none⟩ = some (.int .i64 y.kd) ∧ W.cell? ⟨zb, 5, none⟩ = some (.int .i64 y.ver) ∧ W.cell? ⟨zb, 6, none⟩ = some (.int .i64 y.ks) ∧ W.cell? ⟨zb, 7, none⟩ = some (.int .i64 y.own) ∧ W.cell? ⟨zb, 8, none⟩ = some (.int .i64 y.nx) ∧ Below w.heap.size w W) → (fun W => W.cell? ⟨cb, 1, none⟩ = some (.string (B c.path)) ∧ W.cell? ⟨zb, 0, none⟩ = some (.string (B y.path)) ∧ W.cell? ⟨zb, 1, none⟩ = some (.string (B y.data)) ∧ W.cell? ⟨zb, 2, none⟩ = some (.int .i64 y.cr) ∧ W.cell? ⟨zb, 3, none⟩ = some (.int .i64 y.ch) ∧ W.cell? ⟨zb, 4, none⟩ = some (.int .i64 y.kd) ∧ W.cell? ⟨zb, 5, none⟩ = some (.int .i64 y.ver) ∧ W.cell? ⟨zb, 6, none⟩ = some (.int .i64 y.ks) ∧ W.cell? ⟨zb, 7, none⟩ = some (.int .i64 y.own) ∧ W.cell? ⟨zb, 8, none⟩ = some (.int .i64 y.nx) ∧ Below w.heap.size w W) (W.setCell ⟨r, j, none⟩ v)) := Lib.hid (fun W j v hS => by
                  have k : ∀ b o u, r ≠ b → W.cell? ⟨b, o, none⟩ = some u → (W.setCell ⟨r, j, none⟩ v).cell? ⟨b, o, none⟩ = some u := fun b o u hb hx => by rw [World.cell?_setCell_far _ _ _ _ hb]; exact hx
                  obtain ⟨s0, s1, s2, s3, s4, s5, s6, s7, s8, s9, sB⟩ := hS
                  have n1 := HRQ.out
                  have n2 := HNQ.out.1
                  exact ⟨k _ _ _ n1 s0, k _ _ _ n2 s1, k _ _ _ n2 s2, k _ _ _ n2 s3, k _ _ _ n2 s4, k _ _ _ n2 s5, k _ _ _ n2 s6, k _ _ _ n2 s7, k _ _ _ n2 s8, k _ _ _ n2 s9, sB.setCell HRR.out v⟩)
                clear hTc
                have HONE : Hid (Zt.one T zx se c = ⟨put T y, c.path, [⟨0, 3, c.path⟩], 0⟩) := Lib.hid (by rw [one_at HK14.out HVD.out HK1.out HK3.out, HAM.out, if_neg (by decide), if_neg HK2.out, if_neg HK4.out, HGP.out]; show (⟨put T (setd z c.data zx), c.path, [⟨0, 3, c.path⟩], 0⟩ : Stp) = _; rw [HY.out])
                go_region_held3 (fun W => W.cell? ⟨cb, 1, none⟩ = some (.string (B c.path)) ∧ W.cell? ⟨zb, 0, none⟩ = some (.string (B y.path)) ∧ W.cell? ⟨zb, 1, none⟩ = some (.string (B y.data)) ∧ W.cell? ⟨zb, 2, none⟩ = some (.int .i64 y.cr) ∧ W.cell? ⟨zb, 3, none⟩ = some (.int .i64 y.ch) ∧ W.cell? ⟨zb, 4, none⟩ = some (.int .i64 y.kd) ∧ W.cell? ⟨zb, 5, none⟩ = some (.int .i64 y.ver) ∧ W.cell? ⟨zb, 6, none⟩ = some (.int .i64 y.ks) ∧ W.cell? ⟨zb, 7, none⟩ = some (.int .i64 y.own) ∧ W.cell? ⟨zb, 8, none⟩ = some (.int .i64 y.nx) ∧ Below w.heap.size w W)
                  (first
                    | assumption
                    | (with_reducible exact HSS.out _ (Below.refl _ _).drew)
                    | (with_reducible exact HSS.out _ (below_step (by assumption) (box_below _ _)))
                    | (with_reducible exact HSS.out _ (below_step (Below.refl _ _).drew (box_below _ _)))
                    | (with_reducible exact HSK.out _ _ _ (HSK.out _ _ _ (HSK.out _ _ _ (HSK.out _ _ _ (by assumption))))))
                  (first
                    | (go_at_call 168; (with_reducible refine (HPU.out _ (by first | exact (Below.refl _ _).drew | assumption | exact below_step (Below.refl _ _).drew (box_below _ _))).mono ?_); rintro e w12 ⟨v1, rfl, h1, hb12⟩; obtain ⟨A1, c1, rfl, -, -, -⟩ := own_form h1; have hB12 := below_step (a := wc) (by first | exact (Below.refl _ _).drew | assumption | exact below_step (Below.refl _ _).drew (box_below _ _)) hb12; have hS12 := HSS.out w12 hB12; have hr12 := blk_below HCRc.out.br hB12; have hrA := blk_below hr12 (box_below w12 (.cells #[.int .i64 0, .int .i64 3, .string (B c.path)] 165)); have r12c0 := cell_of hr12 (j := 0) rfl; have r12f0 := frozen_of_row w12 _ 0 _ _ hr12; have r12c1 := cell_of hr12 (j := 1) rfl; have r12f1 := frozen_of_row w12 _ 1 _ _ hr12; have r12c2 := cell_of hr12 (j := 2) rfl; have r12f2 := frozen_of_row w12 _ 2 _ _ hr12; have r12c3 := cell_of hr12 (j := 3) rfl; have r12f3 := frozen_of_row w12 _ 3 _ _ hr12; have rAc0 := cell_of hrA (j := 0) rfl; have rAf0 := frozen_of_row (w12.alloc (.cells #[.int .i64 0, .int .i64 3, .string (B c.path)] 165)) _ 0 _ _ hrA; have rAc1 := cell_of hrA (j := 1) rfl; have rAf1 := frozen_of_row (w12.alloc (.cells #[.int .i64 0, .int .i64 3, .string (B c.path)] 165)) _ 1 _ _ hrA; have rAc2 := cell_of hrA (j := 2) rfl; have rAf2 := frozen_of_row (w12.alloc (.cells #[.int .i64 0, .int .i64 3, .string (B c.path)] 165)) _ 2 _ _ hrA; have rAc3 := cell_of hrA (j := 3) rfl; have rAf3 := frozen_of_row (w12.alloc (.cells #[.int .i64 0, .int .i64 3, .string (B c.path)] 165)) _ 3 _ _ hrA))
                all_goals
                  first
                    | (
                        obtain ⟨W5, hW5⟩ : ∃ W5, W5 = w12.alloc (.cells #[.int .i64 0, .int .i64 3, .string (B c.path)] 165) := ⟨_, rfl⟩
                        have hb5 : Below w12.heap.size w12 W5 := by rw [hW5]; exact box_below _ _
                        have hE : W5.heap[w12.heap.size]? = some (.cells #[.int .i64 0, .int .i64 3, .string (B c.path)] 165 (0, 0)) := by rw [hW5]; exact new_block _ _
                        have hBw : Below w.heap.size w W5 := (HCRc.out.below.trans (hB12.mono HCRc.out.below.size)).trans (hb5.mono (HCRc.out.below.trans (hB12.mono HCRc.out.below.size)).size)
                        have h1' := own_base (b' := w.heap.size) (own_below h1 hb5) HCRc.out.below.size
                        have h2' : W5.ownsRow w.heap.size 165 3 (.slice (some ⟨w12.heap.size, 0, none⟩) 1 1) 1 (ecells [⟨0, 3, c.path⟩]) := own_new hE (by have h := HCRc.out.below.size; have h' := hB12.size; omega) (by unfold maxLen; omega) rfl
                        have hr5 := blk_below hr12 hb5
                        obtain ⟨w6, hw6⟩ : ∃ w6, w6 = ((((W5.setCell ⟨r, 0, none⟩ (.slice A1 (put T y).length c1)).setCell ⟨r, 1, none⟩ (.string (B c.path))).setCell ⟨r, 2, none⟩ (.slice (some ⟨w12.heap.size, 0, none⟩) 1 1)).setCell ⟨r, 3, none⟩ (.int .i64 0)) := ⟨_, rfl⟩
                        obtain ⟨hst, h6⟩ := st_store (s := ⟨put T y, c.path, [⟨0, 3, c.path⟩], 0⟩) hr5 HRR.out (Nat.le_refl _) h1' h2' hBw hw6
                        have HFIN : Hid (OnPost (.slice AT T.length cT) T (Zt.one T zx se c) w (.returned (.agg #[.slice A1 (put T y).length c1, .string (B c.path), .slice (some ⟨w12.heap.size, 0, none⟩) 1 1, .int .i64 0])) w6) := Lib.hid (by rw [HONE.out]; exact hst.on)
                        have t0 := cell_of h6 (j := 0) rfl
                        have t1 := cell_of h6 (j := 1) rfl
                        have t2 := cell_of h6 (j := 2) rfl
                        have t3 := cell_of h6 (j := 3) rfl
                        rw [← hW5, ← hw6]
                        clear hW5 hw6 h6 hst h1' h2' hE hBw hr5 h1 hb12 hS12 hB12 hr12 hrA
                        go_wp2_with fail
                        exact bodyPost_ret (v := .agg #[.slice A1 (put T y).length c1, .string (B c.path), .slice (some ⟨w12.heap.size, 0, none⟩) 1 1, .int .i64 0]) (by simp [results, Tryz.results141, go_sem, t0, t1, t2, t3]) rfl HFIN.out)
                    | (
                        obtain ⟨W5, hW5⟩ : ∃ W5, W5 = w12 := ⟨_, rfl⟩
                        have hE : W5.heap[wc.heap.size]? = some (.cells #[.int .i64 0, .int .i64 3, .string (B c.path)] 165 (0, 0)) := by rw [hW5]; exact blk_below (new_block wc.drew _) hb12
                        have hBw : Below w.heap.size w W5 := by rw [hW5]; exact HCRc.out.below.trans (hB12.mono HCRc.out.below.size)
                        have h1' := own_base (b' := w.heap.size) h1 (Nat.le_trans HCRc.out.below.size (box_below wc.drew _).size)
                        rw [← hW5] at h1'
                        have h2' : W5.ownsRow w.heap.size 165 3 (.slice (some ⟨wc.heap.size, 0, none⟩) 1 1) 1 (ecells [⟨0, 3, c.path⟩]) := own_new hE (by have h := HCRc.out.below.size; omega) (by unfold maxLen; omega) rfl
                        have hr5 := hr12
                        rw [← hW5] at hr5
                        obtain ⟨w6, hw6⟩ : ∃ w6, w6 = ((((W5.setCell ⟨r, 0, none⟩ (.slice A1 (put T y).length c1)).setCell ⟨r, 1, none⟩ (.string (B c.path))).setCell ⟨r, 2, none⟩ (.slice (some ⟨wc.heap.size, 0, none⟩) 1 1)).setCell ⟨r, 3, none⟩ (.int .i64 0)) := ⟨_, rfl⟩
                        obtain ⟨hst, h6⟩ := st_store (s := ⟨put T y, c.path, [⟨0, 3, c.path⟩], 0⟩) hr5 HRR.out (Nat.le_refl _) h1' h2' hBw hw6
                        have HFIN : Hid (OnPost (.slice AT T.length cT) T (Zt.one T zx se c) w (.returned (.agg #[.slice A1 (put T y).length c1, .string (B c.path), .slice (some ⟨wc.heap.size, 0, none⟩) 1 1, .int .i64 0])) w6) := Lib.hid (by rw [HONE.out]; exact hst.on)
                        have t0 := cell_of h6 (j := 0) rfl
                        have t1 := cell_of h6 (j := 1) rfl
                        have t2 := cell_of h6 (j := 2) rfl
                        have t3 := cell_of h6 (j := 3) rfl
                        rw [← hW5, ← hw6]
                        clear hW5 hw6 h6 hst h1' h2' hE hBw hr5 h1 hb12 hS12 hB12 hr12 hrA
                        go_wp2_with fail
                        exact bodyPost_ret (v := .agg #[.slice A1 (put T y).length c1, .string (B c.path), .slice (some ⟨wc.heap.size, 0, none⟩) 1 1, .int .i64 0]) (by simp [results, Tryz.results141, go_sem, t0, t1, t2, t3]) rfl HFIN.out)
              · have tv2 : (c.ver != z.ver) = true := by simpa using hv2
                have HAM : Hid (amissV T c = 82) := Lib.hid (by rw [am_at HGP.out, if_neg (fun h => HK2.out h.1), if_pos ⟨hv1, hv2⟩])
                clear hv1 hv2
                have HFA := Lib.hid (rfails_any 82 w5)
                have HPC : Hid (Zt.one T zx se c = Zt.fails 82) := Lib.hid (by rw [one_at HK14.out HVD.out HK1.out HK3.out, HAM.out, if_pos (by decide)])
                go_wp2_with fail
                refine HFA.out.mono ?_
                rintro e wf ⟨rfl, hbf⟩
                have hcf := HCR5.out.go hbf
                obtain ⟨w6, hw6⟩ : ∃ w6, w6 = ((((wf.setCell ⟨r, 0, none⟩ (.slice none 0 0)).setCell ⟨r, 1, none⟩ (.string ⟨#[]⟩)).setCell ⟨r, 2, none⟩ (.slice none 0 0)).setCell ⟨r, 3, none⟩ (.int .i64 82)) := ⟨_, rfl⟩
                obtain ⟨hst, h6⟩ := on_fail (vt := .slice AT T.length cT) hcf HRR.out HPC.out hw6
                have HFIN := Lib.hid hst
                have hrb := hcf.br
                have q0 := cell_of hrb (j := 0) rfl
                have q1 := cell_of hrb (j := 1) rfl
                have q2 := cell_of hrb (j := 2) rfl
                have q3 := cell_of hrb (j := 3) rfl
                have rf0 := frozen_of_row wf _ 0 _ _ hrb
                have rf1 := frozen_of_row wf _ 1 _ _ hrb
                have rf2 := frozen_of_row wf _ 2 _ _ hrb
                have rf3 := frozen_of_row wf _ 3 _ _ hrb
                have t0 := cell_of h6 (j := 0) rfl
                have t1 := cell_of h6 (j := 1) rfl
                have t2 := cell_of h6 (j := 2) rfl
                have t3 := cell_of h6 (j := 3) rfl
                have HW6 := Lib.hid hw6
                clear hbf hcf hw6 hst h6 hrb
                go_wp2_with fail
                rw [← HW6.out]
                exact bodyPost_ret (v := .agg #[.slice none 0 0, .string ⟨#[]⟩, .slice none 0 0, .int .i64 82]) (by simp [results, Tryz.results141, go_sem, t0, t1, t2, t3]) rfl HFIN.out
      · have tk3 : (c.kind == 3) = false := by simpa using k3
        have HKN3 := Lib.hid k3
        have HK3 : Hid (¬ (c.kind = 3 ∧ 1024 < c.data.length)) := Lib.hid (fun h => k3 h.1)
        clear k3
        have hcq := HCR3.out.bq
        have y0 := cell_of hcq (j := 0) rfl
        have y1 := cell_of hcq (j := 1) rfl
        clear hcq
        have HGE := Lib.hid (rget_any (c := cT) (HT.out.below HCR3.out.below) HN.out c.path)
        unfold RgPost ndv at HGE
        obtain ⟨z, hz⟩ : ∃ x, (get T c.path).getD nd0 = x := ⟨_, rfl⟩
        obtain ⟨is, his⟩ : ∃ b, (get T c.path).isSome = b := ⟨_, rfl⟩
        rw [hz, his] at HGE
        have HZ := Lib.hid hz
        have HIS := Lib.hid his
        clear hz his
        go_wp2_with fail
        refine HGE.out.mono ?_
        rintro e w4 ⟨rfl, hb4⟩
        obtain ⟨w5, hw5⟩ : ∃ w5, w5 = w4.alloc (.cells #[.string (B z.path), .string (B z.data), .int .i64 z.cr, .int .i64 z.ch, .int .i64 z.kd, .int .i64 z.ver, .int .i64 z.ks, .int .i64 z.own, .int .i64 z.nx] 132) := ⟨_, rfl⟩
        obtain ⟨zb, ezb⟩ : ∃ x, x = w4.heap.size := ⟨_, rfl⟩
        have hb5 : Below w4.heap.size w4 w5 := by rw [hw5]; exact box_below w4 _
        have hz5 : w5.heap[zb]? = some (.cells #[.string (B z.path), .string (B z.data), .int .i64 z.cr, .int .i64 z.ch, .int .i64 z.kd, .int .i64 z.ver, .int .i64 z.ks, .int .i64 z.own, .int .i64 z.nx] 132 (0, 0)) := by rw [hw5, ezb]; exact new_block w4 _
        have HCR5 := Lib.hid ((HCR3.out.go hb4).go hb5)
        have HZ5 := Lib.hid hz5
        have HZW : Hid (w.heap.size ≤ zb) := Lib.hid (by have h1 := HCR3.out.below.size; have h2 := hb4.size; omega)
        have HW5 := Lib.hid hw5
        have EZB := Lib.hid ezb
        clear hb4 hw5 ezb hb5 hz5 y0 y1
        go_upto_region 10 with fail
        rw [← HW5.out, ← EZB.out]
        have hcq := HCR5.out.bq
        have y0 := cell_of hcq (j := 0) rfl
        have y1 := cell_of hcq (j := 1) rfl
        have y3 := cell_of hcq (j := 3) rfl
        clear hcq
        cases is with
        | false =>
          have HAM : Hid (amissV T c = 80) := Lib.hid (by have h := HIS.out; unfold amissV; cases hx : get T c.path with
            | none => rfl
            | some y => rw [hx] at h; cases h)
          have HFA := Lib.hid (rfails_any 80 w5)
          have HPC : Hid (Zt.one T zx se c = Zt.fails 80) := Lib.hid (by rw [one_at HK14.out HVD.out HK1.out HK3.out, HAM.out, if_pos (by decide)])
          go_wp2_with fail
          refine HFA.out.mono ?_
          rintro e wf ⟨rfl, hbf⟩
          have hcf := HCR5.out.go hbf
          obtain ⟨w6, hw6⟩ : ∃ w6, w6 = ((((wf.setCell ⟨r, 0, none⟩ (.slice none 0 0)).setCell ⟨r, 1, none⟩ (.string ⟨#[]⟩)).setCell ⟨r, 2, none⟩ (.slice none 0 0)).setCell ⟨r, 3, none⟩ (.int .i64 80)) := ⟨_, rfl⟩
          obtain ⟨hst, h6⟩ := on_fail (vt := .slice AT T.length cT) hcf HRR.out HPC.out hw6
          have HFIN := Lib.hid hst
          have hrb := hcf.br
          have q0 := cell_of hrb (j := 0) rfl
          have q1 := cell_of hrb (j := 1) rfl
          have q2 := cell_of hrb (j := 2) rfl
          have q3 := cell_of hrb (j := 3) rfl
          have rf0 := frozen_of_row wf _ 0 _ _ hrb
          have rf1 := frozen_of_row wf _ 1 _ _ hrb
          have rf2 := frozen_of_row wf _ 2 _ _ hrb
          have rf3 := frozen_of_row wf _ 3 _ _ hrb
          have t0 := cell_of h6 (j := 0) rfl
          have t1 := cell_of h6 (j := 1) rfl
          have t2 := cell_of h6 (j := 2) rfl
          have t3 := cell_of h6 (j := 3) rfl
          have HW6 := Lib.hid hw6
          clear hbf hcf hw6 hst h6 hrb
          go_wp2_with fail
          rw [← HW6.out]
          exact bodyPost_ret (v := .agg #[.slice none 0 0, .string ⟨#[]⟩, .slice none 0 0, .int .i64 80]) (by simp [results, Tryz.results141, go_sem, t0, t1, t2, t3]) rfl HFIN.out
        | true =>
          have HGP : Hid (get T c.path = some z) := Lib.hid (by have h1 := HIS.out; have h2 := HZ.out; cases hx : get T c.path with
            | none => rw [hx] at h1; cases h1
            | some y => rw [hx] at h2; rw [← h2]; rfl)
          by_cases k2 : c.kind = 2
          · have tk2 : (c.kind == 2) = true := by simpa using k2
            have HK2' := Lib.hid k2
            clear k2
            by_cases hr : c.path = [47]
            · have t47 : (c.path == [47]) = true := by rw [hr]; rfl
              have HAM : Hid (amissV T c = 1) := Lib.hid (by rw [am_at HGP.out, if_pos ⟨HK2'.out, hr⟩])
              clear hr
              have HFA := Lib.hid (rfails_any 1 w5)
              have HPC : Hid (Zt.one T zx se c = Zt.fails 1) := Lib.hid (by rw [one_at HK14.out HVD.out HK1.out HK3.out, HAM.out, if_pos (by decide)])
              go_wp2_with fail
              refine HFA.out.mono ?_
              rintro e wf ⟨rfl, hbf⟩
              have hcf := HCR5.out.go hbf
              obtain ⟨w6, hw6⟩ : ∃ w6, w6 = ((((wf.setCell ⟨r, 0, none⟩ (.slice none 0 0)).setCell ⟨r, 1, none⟩ (.string ⟨#[]⟩)).setCell ⟨r, 2, none⟩ (.slice none 0 0)).setCell ⟨r, 3, none⟩ (.int .i64 1)) := ⟨_, rfl⟩
              obtain ⟨hst, h6⟩ := on_fail (vt := .slice AT T.length cT) hcf HRR.out HPC.out hw6
              have HFIN := Lib.hid hst
              have hrb := hcf.br
              have q0 := cell_of hrb (j := 0) rfl
              have q1 := cell_of hrb (j := 1) rfl
              have q2 := cell_of hrb (j := 2) rfl
              have q3 := cell_of hrb (j := 3) rfl
              have rf0 := frozen_of_row wf _ 0 _ _ hrb
              have rf1 := frozen_of_row wf _ 1 _ _ hrb
              have rf2 := frozen_of_row wf _ 2 _ _ hrb
              have rf3 := frozen_of_row wf _ 3 _ _ hrb
              have t0 := cell_of h6 (j := 0) rfl
              have t1 := cell_of h6 (j := 1) rfl
              have t2 := cell_of h6 (j := 2) rfl
              have t3 := cell_of h6 (j := 3) rfl
              have HW6 := Lib.hid hw6
              clear hbf hcf hw6 hst h6 hrb
              go_wp2_with fail
              rw [← HW6.out]
              exact bodyPost_ret (v := .agg #[.slice none 0 0, .string ⟨#[]⟩, .slice none 0 0, .int .i64 1]) (by simp [results, Tryz.results141, go_sem, t0, t1, t2, t3]) rfl HFIN.out
            · have t47 : (c.path == [47]) = false := by simpa using hr
              have HRT := Lib.hid hr
              clear hr
              have z5 := cell_of HZ5.out (j := 5) rfl
              by_cases hv1 : c.ver = -1
              · have tv1 : (c.ver != -1) = false := by simpa using hv1
                have HAM : Hid (amissV T c = 0) := Lib.hid (by rw [am_at HGP.out, if_neg (fun h => HRT.out h.2), if_neg (fun h => h.1 hv1)])
                clear hv1
                have HKI := Lib.hid (rkids_any (c := cT) (HT.out.below HCR5.out.below) HN.out (fun y hy => by have := len_le (HGG.out.each y hy).path; omega) c.path)
                obtain ⟨ks, hks⟩ : ∃ l, kidsR T c.path = l := ⟨_, rfl⟩
                have HKS : Hid (kids T c.path = ks) := Lib.hid (by rw [← hks]; unfold kidsR; rw [HGP.out]; rfl)
                unfold RkPost at HKI
                rw [hks] at HKI
                clear hks
                go_wp2_with fail
                refine HKI.out.mono ?_
                rintro e w7 ⟨v, rfl, hkr, hb7⟩
                obtain ⟨Ak, ck, rfl, -, -, -⟩ := own_form hkr
                have HCR7 := Lib.hid (HCR5.out.go hb7)
                clear hkr hb7 y0 y1 y3 z5
                by_cases hk0 : ks = []
                · have hk0' : ¬ 0 < ks.length := by rw [hk0]; simp
                  have HK0 := Lib.hid hk0
                  clear hk0
                  have hcq := HCR7.out.bq
                  have y0 := cell_of hcq (j := 0) rfl
                  have y1 := cell_of hcq (j := 1) rfl
                  clear hcq
                  have HRM := Lib.hid (rremove_any (c := cT) (HT.out.below HCR7.out.below) HN.out c.path HPL.out zx (wout_kin HGG.out c.path _).1 (wout_kin HGG.out c.path _).2)
                  go_wp2_with fail
                  refine HRM.out.mono ?_
                  clear y0 y1
                  rintro e w12 ⟨v1, v2, rfl, h1, h2, hb12⟩
                  have hcr := HCR7.out.go hb12
                  have hr12 := hcr.br
                  obtain ⟨A1, c1, e1, -, -, -⟩ := own_form h1
                  obtain ⟨A3, c3, e3, -, -, -⟩ := own_form h2
                  obtain ⟨R, hR⟩ : ∃ R, remove T zx c.path = R := ⟨_, rfl⟩
                  have hR2 : Zt.one T zx se c = R := by rw [← hR]; exact (by rw [one_at HK14.out HVD.out HK1.out HK3.out, HAM.out, if_neg (by decide), if_pos HK2'.out, if_neg (by rw [HKS.out]; exact fun h => h HK0.out)])
                  rw [hR] at h1 h2 e1 e3
                  obtain ⟨n1, en1⟩ : ∃ n1, R.T.length = n1 := ⟨_, rfl⟩
                  obtain ⟨n3, en3⟩ : ∃ n3, R.evs.length = n3 := ⟨_, rfl⟩
                  obtain ⟨w6, hw6⟩ : ∃ w6, w6 = ((((w12.setCell ⟨r, 0, none⟩ (v1)).setCell ⟨r, 1, none⟩ (.string (B R.path))).setCell ⟨r, 2, none⟩ (v2)).setCell ⟨r, 3, none⟩ (.int .i64 R.e)) := ⟨_, rfl⟩
                  obtain ⟨hst, h6⟩ := st_store hr12 HRR.out HCR7.out.below.size h1 h2 hcr.below hw6
                  rw [en1] at e1
                  rw [en3] at e3
                  subst e1 e3
                  have HFIN := Lib.hid (hst.on (vt := .slice AT T.length cT) (T := T))
                  have HR2 := Lib.hid hR2
                  have HW6 := Lib.hid hw6
                  have q0 := cell_of hr12 (j := 0) rfl
                  have q1 := cell_of hr12 (j := 1) rfl
                  have q2 := cell_of hr12 (j := 2) rfl
                  have q3 := cell_of hr12 (j := 3) rfl
                  have rf0 := frozen_of_row w12 _ 0 _ _ hr12
                  have rf1 := frozen_of_row w12 _ 1 _ _ hr12
                  have rf2 := frozen_of_row w12 _ 2 _ _ hr12
                  have rf3 := frozen_of_row w12 _ 3 _ _ hr12
                  have t0 := cell_of h6 (j := 0) rfl
                  have t1 := cell_of h6 (j := 1) rfl
                  have t2 := cell_of h6 (j := 2) rfl
                  have t3 := cell_of h6 (j := 3) rfl
                  obtain ⟨rp, hrp⟩ : ∃ x, R.path = x := ⟨_, rfl⟩
                  obtain ⟨re, hre⟩ : ∃ x, R.e = x := ⟨_, rfl⟩
                  rw [hrp, hre] at HFIN
                  rw [hrp, hre] at HW6
                  rw [hrp] at t1
                  rw [hre] at t3
                  rw [hR, hrp, hre]
                  clear h1 h2 hb12 hr12 hcr hR2 en1 en3 hw6 hst h6 hR hrp hre
                  go_wp2_with fail
                  rw [← HW6.out]
                  exact bodyPost_ret (v := .agg #[.slice A1 n1 c1, .string (B rp), .slice A3 n3 c3, .int .i64 re]) (by simp [results, Tryz.results141, go_sem, t0, t1, t2, t3]) rfl (by rw [HR2.out]; exact HFIN.out)
                · have hk0' : 0 < ks.length := List.length_pos_iff.2 hk0
                  have HK0 := Lib.hid hk0
                  clear hk0
                  have HFA := Lib.hid (rfails_any 84 w7)
                  have HPC : Hid (Zt.one T zx se c = Zt.fails 84) := Lib.hid (by rw [one_at HK14.out HVD.out HK1.out HK3.out, HAM.out, if_neg (by decide), if_pos HK2'.out, if_pos (by rw [HKS.out]; exact HK0.out)])
                  go_wp2_with fail
                  refine HFA.out.mono ?_
                  rintro e wf ⟨rfl, hbf⟩
                  have hcf := HCR7.out.go hbf
                  obtain ⟨w6, hw6⟩ : ∃ w6, w6 = ((((wf.setCell ⟨r, 0, none⟩ (.slice none 0 0)).setCell ⟨r, 1, none⟩ (.string ⟨#[]⟩)).setCell ⟨r, 2, none⟩ (.slice none 0 0)).setCell ⟨r, 3, none⟩ (.int .i64 84)) := ⟨_, rfl⟩
                  obtain ⟨hst, h6⟩ := on_fail (vt := .slice AT T.length cT) hcf HRR.out HPC.out hw6
                  have HFIN := Lib.hid hst
                  have hrb := hcf.br
                  have q0 := cell_of hrb (j := 0) rfl
                  have q1 := cell_of hrb (j := 1) rfl
                  have q2 := cell_of hrb (j := 2) rfl
                  have q3 := cell_of hrb (j := 3) rfl
                  have rf0 := frozen_of_row wf _ 0 _ _ hrb
                  have rf1 := frozen_of_row wf _ 1 _ _ hrb
                  have rf2 := frozen_of_row wf _ 2 _ _ hrb
                  have rf3 := frozen_of_row wf _ 3 _ _ hrb
                  have t0 := cell_of h6 (j := 0) rfl
                  have t1 := cell_of h6 (j := 1) rfl
                  have t2 := cell_of h6 (j := 2) rfl
                  have t3 := cell_of h6 (j := 3) rfl
                  have HW6 := Lib.hid hw6
                  clear hbf hcf hw6 hst h6 hrb
                  go_wp2_with fail
                  rw [← HW6.out]
                  exact bodyPost_ret (v := .agg #[.slice none 0 0, .string ⟨#[]⟩, .slice none 0 0, .int .i64 84]) (by simp [results, Tryz.results141, go_sem, t0, t1, t2, t3]) rfl HFIN.out
              · have tv1 : (c.ver != -1) = true := by simpa using hv1
                by_cases hv2 : c.ver = z.ver
                · have tv2 : (c.ver != z.ver) = false := by simpa using hv2
                  have HAM : Hid (amissV T c = 0) := Lib.hid (by rw [am_at HGP.out, if_neg (fun h => HRT.out h.2), if_neg (fun h => h.2 hv2)])
                  clear hv1 hv2
                  have HKI := Lib.hid (rkids_any (c := cT) (HT.out.below HCR5.out.below) HN.out (fun y hy => by have := len_le (HGG.out.each y hy).path; omega) c.path)
                  obtain ⟨ks, hks⟩ : ∃ l, kidsR T c.path = l := ⟨_, rfl⟩
                  have HKS : Hid (kids T c.path = ks) := Lib.hid (by rw [← hks]; unfold kidsR; rw [HGP.out]; rfl)
                  unfold RkPost at HKI
                  rw [hks] at HKI
                  clear hks
                  go_wp2_with fail
                  refine HKI.out.mono ?_
                  rintro e w7 ⟨v, rfl, hkr, hb7⟩
                  obtain ⟨Ak, ck, rfl, -, -, -⟩ := own_form hkr
                  have HCR7 := Lib.hid (HCR5.out.go hb7)
                  clear hkr hb7 y0 y1 y3 z5
                  by_cases hk0 : ks = []
                  · have hk0' : ¬ 0 < ks.length := by rw [hk0]; simp
                    have HK0 := Lib.hid hk0
                    clear hk0
                    have hcq := HCR7.out.bq
                    have y0 := cell_of hcq (j := 0) rfl
                    have y1 := cell_of hcq (j := 1) rfl
                    clear hcq
                    have HRM := Lib.hid (rremove_any (c := cT) (HT.out.below HCR7.out.below) HN.out c.path HPL.out zx (wout_kin HGG.out c.path _).1 (wout_kin HGG.out c.path _).2)
                    go_wp2_with fail
                    refine HRM.out.mono ?_
                    clear y0 y1
                    rintro e w12 ⟨v1, v2, rfl, h1, h2, hb12⟩
                    have hcr := HCR7.out.go hb12
                    have hr12 := hcr.br
                    obtain ⟨A1, c1, e1, -, -, -⟩ := own_form h1
                    obtain ⟨A3, c3, e3, -, -, -⟩ := own_form h2
                    obtain ⟨R, hR⟩ : ∃ R, remove T zx c.path = R := ⟨_, rfl⟩
                    have hR2 : Zt.one T zx se c = R := by rw [← hR]; exact (by rw [one_at HK14.out HVD.out HK1.out HK3.out, HAM.out, if_neg (by decide), if_pos HK2'.out, if_neg (by rw [HKS.out]; exact fun h => h HK0.out)])
                    rw [hR] at h1 h2 e1 e3
                    obtain ⟨n1, en1⟩ : ∃ n1, R.T.length = n1 := ⟨_, rfl⟩
                    obtain ⟨n3, en3⟩ : ∃ n3, R.evs.length = n3 := ⟨_, rfl⟩
                    obtain ⟨w6, hw6⟩ : ∃ w6, w6 = ((((w12.setCell ⟨r, 0, none⟩ (v1)).setCell ⟨r, 1, none⟩ (.string (B R.path))).setCell ⟨r, 2, none⟩ (v2)).setCell ⟨r, 3, none⟩ (.int .i64 R.e)) := ⟨_, rfl⟩
                    obtain ⟨hst, h6⟩ := st_store hr12 HRR.out HCR7.out.below.size h1 h2 hcr.below hw6
                    rw [en1] at e1
                    rw [en3] at e3
                    subst e1 e3
                    have HFIN := Lib.hid (hst.on (vt := .slice AT T.length cT) (T := T))
                    have HR2 := Lib.hid hR2
                    have HW6 := Lib.hid hw6
                    have q0 := cell_of hr12 (j := 0) rfl
                    have q1 := cell_of hr12 (j := 1) rfl
                    have q2 := cell_of hr12 (j := 2) rfl
                    have q3 := cell_of hr12 (j := 3) rfl
                    have rf0 := frozen_of_row w12 _ 0 _ _ hr12
                    have rf1 := frozen_of_row w12 _ 1 _ _ hr12
                    have rf2 := frozen_of_row w12 _ 2 _ _ hr12
                    have rf3 := frozen_of_row w12 _ 3 _ _ hr12
                    have t0 := cell_of h6 (j := 0) rfl
                    have t1 := cell_of h6 (j := 1) rfl
                    have t2 := cell_of h6 (j := 2) rfl
                    have t3 := cell_of h6 (j := 3) rfl
                    obtain ⟨rp, hrp⟩ : ∃ x, R.path = x := ⟨_, rfl⟩
                    obtain ⟨re, hre⟩ : ∃ x, R.e = x := ⟨_, rfl⟩
                    rw [hrp, hre] at HFIN
                    rw [hrp, hre] at HW6
                    rw [hrp] at t1
                    rw [hre] at t3
                    rw [hR, hrp, hre]
                    clear h1 h2 hb12 hr12 hcr hR2 en1 en3 hw6 hst h6 hR hrp hre
                    go_wp2_with fail
                    rw [← HW6.out]
                    exact bodyPost_ret (v := .agg #[.slice A1 n1 c1, .string (B rp), .slice A3 n3 c3, .int .i64 re]) (by simp [results, Tryz.results141, go_sem, t0, t1, t2, t3]) rfl (by rw [HR2.out]; exact HFIN.out)
                  · have hk0' : 0 < ks.length := List.length_pos_iff.2 hk0
                    have HK0 := Lib.hid hk0
                    clear hk0
                    have HFA := Lib.hid (rfails_any 84 w7)
                    have HPC : Hid (Zt.one T zx se c = Zt.fails 84) := Lib.hid (by rw [one_at HK14.out HVD.out HK1.out HK3.out, HAM.out, if_neg (by decide), if_pos HK2'.out, if_pos (by rw [HKS.out]; exact HK0.out)])
                    go_wp2_with fail
                    refine HFA.out.mono ?_
                    rintro e wf ⟨rfl, hbf⟩
                    have hcf := HCR7.out.go hbf
                    obtain ⟨w6, hw6⟩ : ∃ w6, w6 = ((((wf.setCell ⟨r, 0, none⟩ (.slice none 0 0)).setCell ⟨r, 1, none⟩ (.string ⟨#[]⟩)).setCell ⟨r, 2, none⟩ (.slice none 0 0)).setCell ⟨r, 3, none⟩ (.int .i64 84)) := ⟨_, rfl⟩
                    obtain ⟨hst, h6⟩ := on_fail (vt := .slice AT T.length cT) hcf HRR.out HPC.out hw6
                    have HFIN := Lib.hid hst
                    have hrb := hcf.br
                    have q0 := cell_of hrb (j := 0) rfl
                    have q1 := cell_of hrb (j := 1) rfl
                    have q2 := cell_of hrb (j := 2) rfl
                    have q3 := cell_of hrb (j := 3) rfl
                    have rf0 := frozen_of_row wf _ 0 _ _ hrb
                    have rf1 := frozen_of_row wf _ 1 _ _ hrb
                    have rf2 := frozen_of_row wf _ 2 _ _ hrb
                    have rf3 := frozen_of_row wf _ 3 _ _ hrb
                    have t0 := cell_of h6 (j := 0) rfl
                    have t1 := cell_of h6 (j := 1) rfl
                    have t2 := cell_of h6 (j := 2) rfl
                    have t3 := cell_of h6 (j := 3) rfl
                    have HW6 := Lib.hid hw6
                    clear hbf hcf hw6 hst h6 hrb
                    go_wp2_with fail
                    rw [← HW6.out]
                    exact bodyPost_ret (v := .agg #[.slice none 0 0, .string ⟨#[]⟩, .slice none 0 0, .int .i64 84]) (by simp [results, Tryz.results141, go_sem, t0, t1, t2, t3]) rfl HFIN.out
                · have tv2 : (c.ver != z.ver) = true := by simpa using hv2
                  have HAM : Hid (amissV T c = 82) := Lib.hid (by rw [am_at HGP.out, if_neg (fun h => HRT.out h.2), if_pos ⟨hv1, hv2⟩])
                  clear hv1 hv2
                  have HFA := Lib.hid (rfails_any 82 w5)
                  have HPC : Hid (Zt.one T zx se c = Zt.fails 82) := Lib.hid (by rw [one_at HK14.out HVD.out HK1.out HK3.out, HAM.out, if_pos (by decide)])
                  go_wp2_with fail
                  refine HFA.out.mono ?_
                  rintro e wf ⟨rfl, hbf⟩
                  have hcf := HCR5.out.go hbf
                  obtain ⟨w6, hw6⟩ : ∃ w6, w6 = ((((wf.setCell ⟨r, 0, none⟩ (.slice none 0 0)).setCell ⟨r, 1, none⟩ (.string ⟨#[]⟩)).setCell ⟨r, 2, none⟩ (.slice none 0 0)).setCell ⟨r, 3, none⟩ (.int .i64 82)) := ⟨_, rfl⟩
                  obtain ⟨hst, h6⟩ := on_fail (vt := .slice AT T.length cT) hcf HRR.out HPC.out hw6
                  have HFIN := Lib.hid hst
                  have hrb := hcf.br
                  have q0 := cell_of hrb (j := 0) rfl
                  have q1 := cell_of hrb (j := 1) rfl
                  have q2 := cell_of hrb (j := 2) rfl
                  have q3 := cell_of hrb (j := 3) rfl
                  have rf0 := frozen_of_row wf _ 0 _ _ hrb
                  have rf1 := frozen_of_row wf _ 1 _ _ hrb
                  have rf2 := frozen_of_row wf _ 2 _ _ hrb
                  have rf3 := frozen_of_row wf _ 3 _ _ hrb
                  have t0 := cell_of h6 (j := 0) rfl
                  have t1 := cell_of h6 (j := 1) rfl
                  have t2 := cell_of h6 (j := 2) rfl
                  have t3 := cell_of h6 (j := 3) rfl
                  have HW6 := Lib.hid hw6
                  clear hbf hcf hw6 hst h6 hrb
                  go_wp2_with fail
                  rw [← HW6.out]
                  exact bodyPost_ret (v := .agg #[.slice none 0 0, .string ⟨#[]⟩, .slice none 0 0, .int .i64 82]) (by simp [results, Tryz.results141, go_sem, t0, t1, t2, t3]) rfl HFIN.out
          · have tk2 : (c.kind == 2) = false := by simpa using k2
            have HK2 := Lib.hid k2
            have hk4 : c.kind = 4 := by have h1 := HK14.out; have h2 := HK1.out; have h3 := HKN3.out; omega
            have tk4 : (c.kind == 4) = true := by simpa using hk4
            have HK4 := Lib.hid hk4
            clear k2 hk4
            have z5 := cell_of HZ5.out (j := 5) rfl
            by_cases hv1 : c.ver = -1
            · have tv1 : (c.ver != -1) = false := by simpa using hv1
              have HAM : Hid (amissV T c = 0) := Lib.hid (by rw [am_at HGP.out, if_neg (fun h => HK2.out h.1), if_neg (fun h => h.1 hv1)])
              clear hv1
              obtain ⟨w6, hw6⟩ : ∃ w6, w6 = ((((w5.setCell ⟨r, 0, none⟩ (.slice AT T.length cT)).setCell ⟨r, 1, none⟩ (.string (B c.path))).setCell ⟨r, 2, none⟩ (.slice none 0 0)).setCell ⟨r, 3, none⟩ (.int .i64 0)) := ⟨_, rfl⟩
              have hrb := HCR5.out.br
              obtain ⟨hwr, h6⟩ := set_st hrb (.slice AT T.length cT) (.string (B c.path)) (.slice none 0 0) (.int .i64 0)
              rw [← hw6] at hwr h6
              have HFIN : Hid (OnPost (.slice AT T.length cT) T (Zt.one T zx se c) w (.returned (.agg #[.slice AT T.length cT, .string (B c.path), .slice none 0 0, .int .i64 0])) w6) := Lib.hid (by
                rw [one_at HK14.out HVD.out HK1.out HK3.out, HAM.out, if_neg (by decide), if_neg HK2.out, if_pos HK4.out]
                exact ⟨_, _, rfl, .inl ⟨rfl, rfl⟩, ⟨rfl, .inl ⟨rfl, rfl⟩⟩, HCR5.out.below.trans (hwr.below.mono HRR.out)⟩)
              have q0 := cell_of hrb (j := 0) rfl
              have q1 := cell_of hrb (j := 1) rfl
              have q2 := cell_of hrb (j := 2) rfl
              have q3 := cell_of hrb (j := 3) rfl
              have rf0 := frozen_of_row w5 _ 0 _ _ hrb
              have rf1 := frozen_of_row w5 _ 1 _ _ hrb
              have rf2 := frozen_of_row w5 _ 2 _ _ hrb
              have rf3 := frozen_of_row w5 _ 3 _ _ hrb
              have t0 := cell_of h6 (j := 0) rfl
              have t1 := cell_of h6 (j := 1) rfl
              have t2 := cell_of h6 (j := 2) rfl
              have t3 := cell_of h6 (j := 3) rfl
              have HW6 := Lib.hid hw6
              clear hw6 hwr h6 hrb
              go_wp2_with fail
              rw [← HW6.out]
              exact bodyPost_ret (v := .agg #[.slice AT T.length cT, .string (B c.path), .slice none 0 0, .int .i64 0]) (by simp [results, Tryz.results141, go_sem, t0, t1, t2, t3]) rfl HFIN.out
            · have tv1 : (c.ver != -1) = true := by simpa using hv1
              by_cases hv2 : c.ver = z.ver
              · have tv2 : (c.ver != z.ver) = false := by simpa using hv2
                have HAM : Hid (amissV T c = 0) := Lib.hid (by rw [am_at HGP.out, if_neg (fun h => HK2.out h.1), if_neg (fun h => h.2 hv2)])
                clear hv1 hv2
                obtain ⟨w6, hw6⟩ : ∃ w6, w6 = ((((w5.setCell ⟨r, 0, none⟩ (.slice AT T.length cT)).setCell ⟨r, 1, none⟩ (.string (B c.path))).setCell ⟨r, 2, none⟩ (.slice none 0 0)).setCell ⟨r, 3, none⟩ (.int .i64 0)) := ⟨_, rfl⟩
                have hrb := HCR5.out.br
                obtain ⟨hwr, h6⟩ := set_st hrb (.slice AT T.length cT) (.string (B c.path)) (.slice none 0 0) (.int .i64 0)
                rw [← hw6] at hwr h6
                have HFIN : Hid (OnPost (.slice AT T.length cT) T (Zt.one T zx se c) w (.returned (.agg #[.slice AT T.length cT, .string (B c.path), .slice none 0 0, .int .i64 0])) w6) := Lib.hid (by
                  rw [one_at HK14.out HVD.out HK1.out HK3.out, HAM.out, if_neg (by decide), if_neg HK2.out, if_pos HK4.out]
                  exact ⟨_, _, rfl, .inl ⟨rfl, rfl⟩, ⟨rfl, .inl ⟨rfl, rfl⟩⟩, HCR5.out.below.trans (hwr.below.mono HRR.out)⟩)
                have q0 := cell_of hrb (j := 0) rfl
                have q1 := cell_of hrb (j := 1) rfl
                have q2 := cell_of hrb (j := 2) rfl
                have q3 := cell_of hrb (j := 3) rfl
                have rf0 := frozen_of_row w5 _ 0 _ _ hrb
                have rf1 := frozen_of_row w5 _ 1 _ _ hrb
                have rf2 := frozen_of_row w5 _ 2 _ _ hrb
                have rf3 := frozen_of_row w5 _ 3 _ _ hrb
                have t0 := cell_of h6 (j := 0) rfl
                have t1 := cell_of h6 (j := 1) rfl
                have t2 := cell_of h6 (j := 2) rfl
                have t3 := cell_of h6 (j := 3) rfl
                have HW6 := Lib.hid hw6
                clear hw6 hwr h6 hrb
                go_wp2_with fail
                rw [← HW6.out]
                exact bodyPost_ret (v := .agg #[.slice AT T.length cT, .string (B c.path), .slice none 0 0, .int .i64 0]) (by simp [results, Tryz.results141, go_sem, t0, t1, t2, t3]) rfl HFIN.out
              · have tv2 : (c.ver != z.ver) = true := by simpa using hv2
                have HAM : Hid (amissV T c = 82) := Lib.hid (by rw [am_at HGP.out, if_neg (fun h => HK2.out h.1), if_pos ⟨hv1, hv2⟩])
                clear hv1 hv2
                have HFA := Lib.hid (rfails_any 82 w5)
                have HPC : Hid (Zt.one T zx se c = Zt.fails 82) := Lib.hid (by rw [one_at HK14.out HVD.out HK1.out HK3.out, HAM.out, if_pos (by decide)])
                go_wp2_with fail
                refine HFA.out.mono ?_
                rintro e wf ⟨rfl, hbf⟩
                have hcf := HCR5.out.go hbf
                obtain ⟨w6, hw6⟩ : ∃ w6, w6 = ((((wf.setCell ⟨r, 0, none⟩ (.slice none 0 0)).setCell ⟨r, 1, none⟩ (.string ⟨#[]⟩)).setCell ⟨r, 2, none⟩ (.slice none 0 0)).setCell ⟨r, 3, none⟩ (.int .i64 82)) := ⟨_, rfl⟩
                obtain ⟨hst, h6⟩ := on_fail (vt := .slice AT T.length cT) hcf HRR.out HPC.out hw6
                have HFIN := Lib.hid hst
                have hrb := hcf.br
                have q0 := cell_of hrb (j := 0) rfl
                have q1 := cell_of hrb (j := 1) rfl
                have q2 := cell_of hrb (j := 2) rfl
                have q3 := cell_of hrb (j := 3) rfl
                have rf0 := frozen_of_row wf _ 0 _ _ hrb
                have rf1 := frozen_of_row wf _ 1 _ _ hrb
                have rf2 := frozen_of_row wf _ 2 _ _ hrb
                have rf3 := frozen_of_row wf _ 3 _ _ hrb
                have t0 := cell_of h6 (j := 0) rfl
                have t1 := cell_of h6 (j := 1) rfl
                have t2 := cell_of h6 (j := 2) rfl
                have t3 := cell_of h6 (j := 3) rfl
                have HW6 := Lib.hid hw6
                clear hbf hcf hw6 hst h6 hrb
                go_wp2_with fail
                rw [← HW6.out]
                exact bodyPost_ret (v := .agg #[.slice none 0 0, .string ⟨#[]⟩, .slice none 0 0, .int .i64 82]) (by simp [results, Tryz.results141, go_sem, t0, t1, t2, t3]) rfl HFIN.out
end Go.Proofs.YtflgemlhocjipaaGreatDoor
