/-
  What crate.Get returns of a slice of bytes that reads: the body in a row of the call's own, and how many bytes its crate has; or none, 0, and what is amiss first. Condition: the table's cells hold what its initialiser lays.
-/
import Derived.Test.YtkellgofdfpjpaaDoorSeal
namespace Go.Proofs.YtkellgofdfpjpaaDoor
open Go.ChangeShapes Go.WideShapes Go.ChangeAt Go.RowKit Go.Proofs.Crc

/-- What Get leaves. -/
def GotPost (w : World) (zs : List Int) (e : Ending) (w' : World) : Prop :=
  (∀ er, gt zs = .bad er → e = .returned (.tuple #[.slice none 0 0, .int .i64 0, .int .i64 er]) ∧ Below w.heap.size w w') ∧
  (∀ m, gt zs = .good m → ∃ v, e = .returned (.tuple #[v, .int .i64 ((m : Int) + 12), .int .i64 0]) ∧ w'.ownsRow w.heap.size 5 1 v m ((bod zs m).map (Value.int .u8)) ∧ Below w.heap.size w w')
theorem got_bad {w w' : World} {zs : List Int} {er : Int} (h : gt zs = .bad er) (hb : Below w.heap.size w w') : GotPost w zs (.returned (.tuple #[.slice none 0 0, .int .i64 0, .int .i64 er])) w' := by
  refine ⟨fun er' h' => ?_, fun m h' => by rw [h] at h'; cases h'⟩
  rw [h] at h'
  injection h' with h'
  subst h'
  exact ⟨rfl, hb⟩
theorem got_good {w w' : World} {zs : List Int} {m : Nat} {v : Value} {n : Int} (h : gt zs = .good m) (hn : n = (m : Int) + 12) (ho : w'.ownsRow w.heap.size 5 1 v m ((bod zs m).map (Value.int .u8))) (hb : Below w.heap.size w w') :
    GotPost w zs (.returned (.tuple #[v, .int .i64 n, .int .i64 0])) w' := by
  subst hn
  refine ⟨fun er' h' => (by rw [h] at h'; cases h'), fun m' h' => ?_⟩
  rw [h] at h'
  injection h' with h'
  subst h'
  exact ⟨v, rfl, ho, hb⟩
theorem get_short (ad : Option Addr) (len cap : Nat) (zs : List Int) (w : World) (hR : Reads w ad len zs) (h8 : len < 8) :
    Calls Tryd.prog 11 #[.slice ad len cap] w (GotPost w zs) := by
  have HG : Hid (gt zs = .bad 30) := Lib.hid (by unfold gt; rw [if_pos (by rw [hR.1]; exact h8)])
  have h1 : (len : Int) < 8 := by omega
  clear hR
  go_enter Tryd.func11, Tryd.ntmps11
  go_wp2
  go_ret3
  exact got_bad HG.out (Below.refl _ _)
set_option maxHeartbeats 1000000 in
theorem get_any (ad : Option Addr) (len cap : Nat) (zs : List Int) (w : World) (hR : Reads w ad len zs) (hT : Table w) (hc : len ≤ cap) (hm : cap ≤ 9223372036854775807) :
    Calls Tryd.prog 11 #[.slice ad len cap] w (GotPost w zs) := by
  by_cases h8 : len < 8
  · exact get_short ad len cap zs w hR h8
  have HR := Lib.hid hR
  have HL := Lib.hid hR.1
  have HB := Lib.hid hR.bys
  have HT := Lib.hid hT
  obtain ⟨A1, c1, s1, r1, -, -⟩ := sub_to hR hc 4 (by omega)
  obtain ⟨A2, c2, s2, r2, -, -⟩ := sub_from hR hc 4 (by omega)
  have hn : ¬ (len : Int) < 8 := by omega
  clear hR hT
  obtain ⟨n2, hn2⟩ : ∃ n2, n2 = len - 4 := ⟨_, rfl⟩
  rw [← hn2] at s2 r2
  have s1' : ∀ W : World, (Instr.slice 22 (.slice ad len cap) none (some (.int .i64 4)) none).run Tryd.prog W = .ok (.slice A1 4 c1) W := s1
  have s2' : ∀ W : World, (Instr.slice 22 (.slice ad len cap) (some (.int .i64 4)) none none).run Tryd.prog W = .ok (.slice A2 n2 c2) W := s2
  clear s1 s2
  obtain ⟨t, ht⟩ : ∃ t, t = (n4 (zs.drop 4) == sm (zs.take 4)) := ⟨_, rfl⟩
  have HC : Hid (∀ n, Calls Tryd.prog 18 #[.slice A1 4 c1, .slice A2 n2 c2] (w.drewN n) fun e w' => e = .returned (.bool t) ∧ ∃ m, w' = (w.drewN n).drewN m) := Lib.hid (fun n => by
    rw [ht]
    exact sealed_any A1 A2 4 n2 c1 c2 (zs.take 4) (zs.drop 4) (w.drewN n) (r1.drewN n) (r2.drewN n) (HT.out.drewN n) (by omega) (by omega) (by omega))
  have HS := Lib.hid ht
  clear ht r1 r2 hn2
  go_enter Tryd.func11, Tryd.ntmps11
  go_wp2
  go_quiet ((go_at_call 18; exact Calls.quiet_of (HC.out _)))
  cases t with
  | false =>
    have HG : Hid (gt zs = .bad 32) := Lib.hid (by
      have := HS.out
      unfold gt
      rw [if_neg (by rw [HL.out]; exact h8), if_pos (by intro e; rw [e] at this; simp at this)])
    go_wp2
    go_ret3
    exact got_bad HG.out (below_drewN (Below.refl _ _) _)
  | true =>
    have HE : Hid (n4 (zs.drop 4) = sm (zs.take 4)) := Lib.hid (by have := HS.out; simpa using this.symm)
    clear HC HS s1' s2'
    have HW : Hid (Below w.heap.size w (w.drewN nq)) := Lib.hid (below_drewN (Below.refl _ _) _)
    go_wp2_with fail
    refine (number_any ad len cap zs (w.drewN nq) (HR.out.drewN nq) (by omega) (by omega)).mono ?_
    rintro e w1 ⟨rfl, k, hw1⟩
    have HW1 : Hid (Below w.heap.size w w1) := Lib.hid (by rw [hw1]; exact below_drewN HW.out k)
    clear hw1 HW
    obtain ⟨m, hmN⟩ : ∃ m : Nat, n4 zs = (m : Int) := ⟨(n4 zs).toNat, by have := n4_lo HB.out; omega⟩
    have hmh : (m : Int) ≤ 4294967295 := by rw [← hmN]; exact n4_hi HB.out
    have HN := Lib.hid hmN
    rw [hmN]
    clear hmN
    have hm0 : (0 : Int) ≤ (m : Int) := by omega
    by_cases h4096 : 4096 < m
    · have HG : Hid (gt zs = .bad 31) := Lib.hid (by
        unfold gt
        rw [if_neg (by rw [HL.out]; exact h8), if_neg (by rw [HE.out]; simp), if_pos (by rw [HN.out]; omega)])
      have h1 : (4096 : Int) < (m : Int) := by omega
      go_wp2
      go_ret3
      exact got_bad HG.out HW1.out
    · have h1 : (m : Int) ≤ 4096 := by omega
      clear hmh
      by_cases hshort : len < m + 12
      · have HG : Hid (gt zs = .bad 30) := Lib.hid (by
          unfold gt
          rw [if_neg (by rw [HL.out]; exact h8), if_neg (by rw [HE.out]; simp), if_neg (by rw [HN.out]; omega), if_pos (by rw [HL.out, HN.out]; omega)])
        have h2 : (len : Int) < 8 + (m : Int) + 4 := by omega
        go_wp2
        go_ret3
        exact got_bad HG.out HW1.out
      · have h2 : ¬ (len : Int) < 8 + (m : Int) + 4 := by omega
        have hR1 := HR.out.kept HW1.out
        obtain ⟨b, off, rfl, -⟩ := hR1.2.1 (by omega)
        obtain ⟨A3, c3, s3, r3, -, -, hA3⟩ := sub_any hR1 hc 8 (8 + m) (by omega) (by omega)
        obtain ⟨A4, c4, s4, r4, -, -⟩ := sub_from hR1 hc (8 + m) (by omega)
        have e8 : 8 + m - 8 = m := by omega
        have e9 : ((8 + m : Nat) : Int) = 8 + (m : Int) := by omega
        rw [e8] at s3 r3
        rw [e9] at s3 s4
        obtain ⟨n4', hn4⟩ : ∃ n4', n4' = len - (8 + m) := ⟨_, rfl⟩
        rw [← hn4] at s4 r4
        have s3' : ∀ W : World, (Instr.slice 22 (.slice (some ⟨b, off, none⟩) len cap) (some (.int .i64 8)) (some (.int .i64 (8 + (m : Int)))) none).run Tryd.prog W = .ok (.slice A3 m c3) W := s3
        obtain ⟨t, ht⟩ : ∃ t, t = (n4 (zs.drop (8 + m)) == sm (bod zs m)) := ⟨_, rfl⟩
        have HC : Hid (Calls Tryd.prog 18 #[.slice A3 m c3, .slice A4 n4' c4] w1 fun e w' => e = .returned (.bool t) ∧ ∃ k, w' = w1.drewN k) := Lib.hid (by
          rw [ht]
          exact sealed_any A3 A4 m n4' c3 c4 (bod zs m) (zs.drop (8 + m)) w1 r3 r4 (HT.out.kept HW1.out) (by omega) (by omega) (by omega))
        have HS := Lib.hid ht
        have H3 : Hid (Reads w1 A3 m (bod zs m)) := Lib.hid r3
        have HA3 := Lib.hid (hA3 (by simp))
        clear ht r3 r4 hn4 e8 e9 hA3 s3 hR1
        go_wp2_with fail
        refine HC.out.mono ?_
        rintro e w2 ⟨rfl, k2, hw2⟩
        have HW2 : Hid (Below w.heap.size w w2) := Lib.hid (by rw [hw2]; exact below_drewN HW1.out k2)
        have H3' : Hid (Reads w2 A3 m (bod zs m)) := Lib.hid (by rw [hw2]; exact H3.out.drewN k2)
        clear hw2 HC H3
        cases t with
        | false =>
          have HG : Hid (gt zs = .bad 32) := Lib.hid (by
            have := HS.out
            unfold gt
            have en : (n4 zs).toNat = m := by rw [HN.out]; rfl
            rw [en, if_neg (by rw [HL.out]; exact h8), if_neg (by rw [HE.out]; simp), if_neg (by rw [HN.out]; omega), if_neg (by rw [HL.out]; omega), if_pos (by intro e; unfold bod at this; rw [e] at this; simp at this)])
          go_wp2
          go_ret3
          exact got_bad HG.out HW2.out
        | true =>
          have HG : Hid (gt zs = .good m) := Lib.hid (gt_mk (by rw [HL.out]; omega) HE.out HN.out (by omega) (by rw [HL.out]; omega) (by have := HS.out; simpa using this.symm))
          obtain ⟨a3, rfl⟩ : ∃ a3, A3 = some a3 := by
            cases A3 with
            | none => exact absurd rfl HA3.out
            | some a => exact ⟨a, rfl⟩
          go_wp2_with fail
          refine (clone_any a3 m c3 (bod zs m) w2 H3'.out (by omega)).mono ?_
          rintro e w3 ⟨v, rfl, ho, hb3⟩
          have HO := Lib.hid (own_base ho HW2.out.size)
          have HW3 := Lib.hid (HW2.out.trans (hb3.mono HW2.out.size))
          clear ho hb3
          go_wp2
          go_ret3
          exact got_good HG.out (by omega) HO.out HW3.out
end Go.Proofs.YtkellgofdfpjpaaDoor
