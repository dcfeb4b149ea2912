/-
  What the document's own Get returns of a slice of bytes that reads: the body, and how many bytes its crate has; or none, 0, and what is amiss first. No condition.
-/
import Derived.Test.YtkellgofdfpjpaaDoorGet
import Derived.Deep.RegionHeld3
namespace Go.Proofs.YtkellgofdfpjpaaDoor
open Go.ChangeShapes Go.WideShapes Go.ChangeAt Go.RowKit Go.Proofs.Crc

/-- What the document's Get leaves. -/
def RGotPost (w : World) (zs : List Int) (e : Ending) (w' : World) : Prop :=
  (∀ er, gt zs = .bad er → e = .returned (.tuple #[.slice none 0 0, .int .i64 0, .int .i64 er]) ∧ Below w.heap.size w w') ∧
  (∀ m, gt zs = .good m → ∃ A c, e = .returned (.tuple #[.slice A m c, .int .i64 ((m : Int) + 12), .int .i64 0]) ∧ Reads w' A m (bod zs m) ∧ Below w.heap.size w w')
theorem rgot_bad {w w' : World} {zs : List Int} {er : Int} (h : gt zs = .bad er) (hb : Below w.heap.size w w') : RGotPost w zs (.returned (.tuple #[.slice none 0 0, .int .i64 0, .int .i64 er])) w' := by
  refine ⟨fun er' h' => ?_, fun m h' => by rw [h] at h'; cases h'⟩
  rw [h] at h'
  injection h' with h'
  subst h'
  exact ⟨rfl, hb⟩
theorem rgot_good {w w' : World} {zs : List Int} {m c : Nat} {A : Option Addr} (h : gt zs = .good m) (ho : Reads w' A m (bod zs m)) (hb : Below w.heap.size w w') :
    RGotPost w zs (.returned (.tuple #[.slice A m c, .int .i64 ((m : Int) + 12), .int .i64 0])) w' := by
  refine ⟨fun er' h' => (by rw [h] at h'; cases h'), fun m' h' => ?_⟩
  rw [h] at h'
  injection h' with h'
  subst h'
  exact ⟨A, c, rfl, ho, hb⟩
/-- What holds of the world while two parts are looked at. -/
def RS (w : World) (A : Option Addr) (n : Nat) (xs : List Int) (B : Option Addr) (m : Nat) (ys : List Int) (w' : World) : Prop :=
  Reads w' A n xs ∧ Reads w' B m ys ∧ Below w.heap.size w w'
theorem rsum_rs {w w' : World} {A B : Option Addr} {n m c : Nat} {xs ys : List Int} (h : RS w A n xs B m ys w') (hn : n ≤ 9223372036854775807) :
    Calls Tryd.prog 17 #[.slice A n c] w' fun e w'' => e = .returned (.string (strOfNums (le4 (sm xs)))) ∧ RS w A n xs B m ys w'' := by
  obtain ⟨h1, h2, h3⟩ := h
  refine (rsum_any2 A n c xs w' h1 hn).mono ?_
  rintro e w'' ⟨he, hb⟩
  exact ⟨he, h1.kept hb, h2.kept hb, h3.trans (hb.mono h3.size)⟩
theorem toList_inj {a b : ByteArray} (h : a.toList = b.toList) : a = b := by
  rw [ByteArray.toList_eq, ByteArray.toList_eq] at h
  obtain ⟨⟨x⟩⟩ := a
  obtain ⟨⟨y⟩⟩ := b
  have h' : x = y := h
  rw [h']
/-- Four bytes are a number's, as strings, just where they read as it. -/
theorem four_test {zs : List Int} (hB : Bys zs) (h : 4 ≤ zs.length) (n : Int) (h0 : 0 ≤ n) (h1 : n ≤ 4294967295) : ((strOfNums (zs.take 4)).toList == (strOfNums (le4 n)).toList) = (n4 zs == n) := by
  rw [Bool.eq_iff_iff, beq_iff_eq, beq_iff_eq, ← four_iff hB h n h0 h1]
  constructor
  · intro e
    exact str_inj (bys_take _ hB) (le4_bys _) (toList_inj e)
  · intro e
    rw [e]
theorem rget_short (ad : Option Addr) (len cap : Nat) (zs : List Int) (w : World) (hR : Reads w ad len zs) (h8 : len < 8) :
    Calls Tryd.prog 12 #[.slice ad len cap] w (RGotPost w zs) := by
  have HG : Hid (gt zs = .bad 30) := Lib.hid (by unfold gt; rw [if_pos (by rw [hR.1]; exact h8)])
  have h1 : (len : Int) < 8 := by omega
  clear hR
  go_enter Tryd.func12, Tryd.ntmps12
  go_wp2
  go_ret3
  exact rgot_bad HG.out (Below.refl _ _)
set_option maxHeartbeats 1000000 in
theorem rget_any (ad : Option Addr) (len cap : Nat) (zs : List Int) (w : World) (hR : Reads w ad len zs) (hc : len ≤ cap) :
    Calls Tryd.prog 12 #[.slice ad len cap] w (RGotPost w zs) := by
  by_cases h8 : len < 8
  · exact rget_short ad len cap zs w hR h8
  have HR := Lib.hid hR
  have HL := Lib.hid hR.1
  have HB := Lib.hid hR.bys
  obtain ⟨A1, c1, s1, r1, -, -⟩ := sub_to hR hc 4 (by omega)
  obtain ⟨A2, c2, s2, r2, -, -, -⟩ := sub_any hR hc 4 8 (by omega) (by omega)
  have hn : ¬ (len : Int) < 8 := by omega
  clear hR
  have s1' : ∀ W : World, (Instr.slice 22 (.slice ad len cap) none (some (.int .i64 4)) none).run Tryd.prog W = .ok (.slice A1 4 c1) W := s1
  have s2' : ∀ W : World, (Instr.slice 22 (.slice ad len cap) (some (.int .i64 4)) (some (.int .i64 8)) none).run Tryd.prog W = .ok (.slice A2 4 c2) W := s2
  clear s1 s2
  have hcv : ∀ w', RS w A1 4 (zs.take 4) A2 4 ((zs.drop 4).take 4) w' → (convert 22 9 (.slice A2 4 c2)).run Tryd.prog w' = .ok (.string (strOfNums ((zs.drop 4).take 4))) w' := fun w' h => conv_reads h.2.1
  have HRS : Hid (RS w A1 4 (zs.take 4) A2 4 ((zs.drop 4).take 4) w.drew) := Lib.hid ⟨r1.kept (Below.refl _ _).drew, r2.kept (Below.refl _ _).drew, (Below.refl _ _).drew⟩
  have h4 : (4 : Nat) ≤ 9223372036854775807 := by omega
  clear r1 r2
  go_enter Tryd.func12, Tryd.ntmps12
  go_wp2
  go_region_held3 (fun w' => RS w A1 4 (zs.take 4) A2 4 ((zs.drop 4).take 4) w') (first | exact HRS.out | assumption)
    (first
      | (go_at_call 17; (with_reducible refine (rsum_rs (w := w) (B := A2) (m := 4) (xs := zs.take 4) (ys := (zs.drop 4).take 4) ?_ h4).mono ?_); assumption; rintro e w2 ⟨rfl, hs2⟩))
  have HW2 := Lib.hid hs2.2.2
  have hT := four_test (bys_drop 4 HB.out) (by rw [List.length_drop, HL.out]; omega) (sm (zs.take 4)) (sm_lo _) (sm_hi _)
  rw [hT]
  obtain ⟨t, ht⟩ : ∃ t, t = (n4 (zs.drop 4) == sm (zs.take 4)) := ⟨_, rfl⟩
  rw [← ht]
  have HS := Lib.hid ht
  clear hT ht hs2 hcv s1' s2' HRS
  cases t with
  | false =>
    have HG : Hid (gt zs = .bad 32) := Lib.hid (by
      have := HS.out
      unfold gt
      rw [if_neg (by rw [HL.out]; exact h8), if_pos (by intro e; rw [e] at this; simp at this)])
    go_wp2
    go_ret3
    exact rgot_bad HG.out HW2.out
  | true =>
    have HE : Hid (n4 (zs.drop 4) = sm (zs.take 4)) := Lib.hid (by have := HS.out; simpa using this.symm)
    clear HS
    have hR2 := HR.out.kept HW2.out
    obtain ⟨b, off, rfl, hcell⟩ := hR2.2.1 (by omega)
    have g0 := hcell 0 (by omega)
    rw [Nat.add_zero] at g0
    have g1 := hcell 1 (by omega)
    have g2 := hcell 2 (by omega)
    have g3 := hcell 3 (by omega)
    obtain ⟨z0, e0⟩ : ∃ z, z = zs.getD 0 0 := ⟨_, rfl⟩
    obtain ⟨z1, e1⟩ : ∃ z, z = zs.getD 1 0 := ⟨_, rfl⟩
    obtain ⟨z2, e2⟩ : ∃ z, z = zs.getD 2 0 := ⟨_, rfl⟩
    obtain ⟨z3, e3⟩ : ∃ z, z = zs.getD 3 0 := ⟨_, rfl⟩
    obtain ⟨b0, c0⟩ := bys_getD HB.out 0
    obtain ⟨b1, c1'⟩ := bys_getD HB.out 1
    obtain ⟨b2, c2'⟩ := bys_getD HB.out 2
    obtain ⟨b3, c3⟩ := bys_getD HB.out 3
    rw [← e0] at g0 b0 c0
    rw [← e1] at g1 b1 c1'
    rw [← e2] at g2 b2 c2'
    rw [← e3] at g3 b3 c3
    have l0 : (0 : Int) < (len : Int) := by omega
    have l1 : (1 : Int) < (len : Int) := by omega
    have l2 : (2 : Int) < (len : Int) := by omega
    have l3 : (3 : Int) < (len : Int) := by omega
    have HZ : Hid (n4 zs = z0 + 256 * z1 + 65536 * z2 + 16777216 * z3) := Lib.hid (by rw [e0, e1, e2, e3]; rfl)
    clear hcell e0 e1 e2 e3
    go_wp2
    go_quiet (fail)
    obtain ⟨m, hmN⟩ : ∃ m : Nat, n4 zs = (m : Int) := ⟨(n4 zs).toNat, by have := n4_lo HB.out; omega⟩
    rw [show z0 + 256 * z1 + 65536 * z2 + 16777216 * z3 = (m : Int) by rw [← HZ.out, hmN]]
    have hmh : (m : Int) ≤ 4294967295 := by rw [← hmN]; exact n4_hi HB.out
    have HN := Lib.hid hmN
    clear hmN HZ
    obtain ⟨w3, hw3⟩ : ∃ w3, w3 = w2.drewN nq := ⟨_, rfl⟩
    rw [← hw3]
    have HW3 : Hid (Below w.heap.size w w3) := Lib.hid (by rw [hw3]; exact below_drewN HW2.out nq)
    clear hw3 g0 g1 g2 g3 b0 c0 b1 c1' b2 c2' b3 c3 l0 l1 l2 l3 hR2
    have hm0 : (0 : Int) ≤ (m : Int) := by omega
    by_cases h4096 : 4096 < m
    · have HG : Hid (gt zs = .bad 31) := Lib.hid (by
        unfold gt
        rw [if_neg (by rw [HL.out]; exact h8), if_neg (by rw [HE.out]; simp), if_pos (by rw [HN.out]; omega)])
      have h1 : (4096 : Int) < (m : Int) := by omega
      go_wp2
      go_ret3
      exact rgot_bad HG.out HW3.out
    have h1 : (m : Int) ≤ 4096 := by omega
    clear hmh
    by_cases hshort : len < m + 12
    · have HG : Hid (gt zs = .bad 30) := Lib.hid (by
        unfold gt
        rw [if_neg (by rw [HL.out]; exact h8), if_neg (by rw [HE.out]; simp), if_neg (by rw [HN.out]; omega), if_pos (by rw [HL.out, HN.out]; omega)])
      have h2 : (len : Int) < (m : Int) + 12 := by omega
      go_wp2
      go_ret3
      exact rgot_bad HG.out HW3.out
    have h2 : ¬ (len : Int) < (m : Int) + 12 := by omega
    have hR3 := HR.out.kept HW3.out
    obtain ⟨A3, c3, s3, r3, -, -, -⟩ := sub_any hR3 hc 8 (8 + m) (by omega) (by omega)
    obtain ⟨A4, c4, s4, r4, -, -, -⟩ := sub_any hR3 hc (8 + m) (12 + m) (by omega) (by omega)
    have e8 : 8 + m - 8 = m := by omega
    have e9 : ((8 + m : Nat) : Int) = 8 + (m : Int) := by omega
    have e10 : ((12 + m : Nat) : Int) = 12 + (m : Int) := by omega
    have e11 : 12 + m - (8 + m) = 4 := by omega
    rw [e8] at s3 r3
    rw [e11] at s4 r4
    rw [e9] at s3 s4
    rw [e10] at s4
    have s3' : ∀ W : World, (Instr.slice 22 (.slice (some ⟨b, off, none⟩) len cap) (some (.int .i64 8)) (some (.int .i64 (8 + (m : Int)))) none).run Tryd.prog W = .ok (.slice A3 m c3) W := s3
    have hcv : ∀ w', RS w A3 m (bod zs m) A4 4 ((zs.drop (8 + m)).take 4) w' → (convert 22 9 (.slice A4 4 c4)).run Tryd.prog w' = .ok (.string (strOfNums ((zs.drop (8 + m)).take 4))) w' := fun w' h => conv_reads h.2.1
    have HRS : Hid (RS w A3 m (bod zs m) A4 4 ((zs.drop (8 + m)).take 4) w3.drew) := Lib.hid ⟨Reads.kept r3 (Below.refl _ _).drew, r4.kept (Below.refl _ _).drew, HW3.out.drew⟩
    have hm63 : m ≤ 9223372036854775807 := by omega
    have x1 : IntKind.i64.wrap (8 + (m : Int)) = 8 + (m : Int) := by rw [IntKind.wrap_i64]; omega
    have x2 : IntKind.i64.wrap (12 + (m : Int)) = 12 + (m : Int) := by rw [IntKind.wrap_i64]; omega
    clear r3 r4 e8 e9 e10 e11 s3 hR3
    go_wp2
    go_region_held3 (fun w' => RS w A3 m (bod zs m) A4 4 ((zs.drop (8 + m)).take 4) w') (first | exact HRS.out | assumption)
      (first
        | (go_at_call 17; (with_reducible refine (rsum_rs (w := w) (B := A4) (m := 4) (xs := bod zs m) (ys := (zs.drop (8 + m)).take 4) ?_ hm63).mono ?_); assumption; rintro e w4 ⟨rfl, hs4⟩))
    have HW4 := Lib.hid hs4.2.2
    have H4 := Lib.hid hs4.1
    have hT := four_test (bys_drop (8 + m) HB.out) (by rw [List.length_drop, HL.out]; omega) (sm (bod zs m)) (sm_lo _) (sm_hi _)
    rw [hT]
    obtain ⟨t, ht⟩ : ∃ t, t = (n4 (zs.drop (8 + m)) == sm (bod zs m)) := ⟨_, rfl⟩
    rw [← ht]
    have HS := Lib.hid ht
    clear hT ht hs4 hcv s4 HRS
    cases t with
    | false =>
      have HG : Hid (gt zs = .bad 32) := Lib.hid (by
        have := HS.out
        unfold gt
        have en : (n4 zs).toNat = m := by rw [HN.out]; rfl
        rw [en, if_neg (by rw [HL.out]; exact h8), if_neg (by rw [HE.out]; simp), if_neg (by rw [HN.out]; omega), if_neg (by rw [HL.out]; omega), if_pos (by intro e; unfold bod at this; rw [e] at this; simp at this)])
      go_wp2
      go_ret3
      exact rgot_bad HG.out HW4.out
    | true =>
      have HG : Hid (gt zs = .good m) := Lib.hid (gt_mk (by rw [HL.out]; omega) HE.out HN.out (by omega) (by rw [HL.out]; omega) (by have := HS.out; simpa using this.symm))
      go_wp2
      go_ret3
      exact rgot_good HG.out H4.out HW4.out
end Go.Proofs.YtkellgofdfpjpaaDoor
