/-
  What the law PlatterFinds returns of a script that reads: true, and older memory is as it was. No condition.
-/
import Derived.Test.YtogofgfdkkjnlaaLaw1
import Derived.Test.YtogofgfdkkjnlaaRCrash
import Derived.Test.YtogofgfdkkjnlaaRAll
namespace Go.Proofs.Ytogofgfdkkjnlaa
open Go.ChangeShapes Go.WideShapes Go.ChangeAt Go.RowKit

/-- A row of sectors' words that a loop reads. -/
def WordsAt (w : World) (g : Nat) (C : List (List Int)) : Prop := g < w.heap.size ∧ ∀ k, k < C.length → w.cell? ⟨g, k, none⟩ = some (.string (strOfNums (C.getD k [])))
theorem WordsAt.kept {w w' : World} {g : Nat} {C : List (List Int)} (h : WordsAt w g C) (hb : Below w.heap.size w w') : WordsAt w' g C :=
  ⟨Nat.lt_of_lt_of_le h.1 hb.size, fun k hk => (hb.cell (p := ⟨g, k, none⟩) h.1).trans (h.2 k hk)⟩
theorem words_of {w : World} {B n g c : Nat} {C : List (List Int)} (h : w.ownsRow B 9 1 (.slice (some ⟨g, 0, none⟩) n c) n (strs C)) (hC : C.length = n) (hn : 0 < n) : WordsAt w g C := by
  have hk : ∀ k, k < C.length → w.cell? ⟨g, k, none⟩ = some (.string (strOfNums (C.getD k []))) := fun k hk => own_cell h k _ (strs_at hk)
  exact ⟨cell_lt (hk 0 (by omega)), hk⟩
def FiRel (w : World) (B g q : Nat) (C : Dk) (vi : Value) (wr : World) : Prop :=
  ∃ k : Nat, k ≤ 8 ∧ vi = .int .i64 (k : Int) ∧ PDisk wr B q C ∧ WordsAt wr g (cur C) ∧ Below w.heap.size w wr
set_option maxHeartbeats 2000000 in
theorem law_finds (ad : Option Addr) (len cap : Nat) (os : List Opr) (keep tear : Int) (w : World) (hO : OReads w w.heap.size ad len os) :
    Calls Try.prog 4 #[.slice ad len cap, .int .i64 keep, .int .i64 tear] w fun e w' => e = .returned (.bool true) ∧ Below w.heap.size w w' := by
  by_cases h200 : 200 < len
  · have h200' := more_than len h200
    clear hO
    go_enter Try.func4, Try.ntmps4
    go_wp2_with fail
    refine (alive_any _).mono ?_
    rintro e w2 ⟨rfl, hb2⟩
    go_wp2
    go_ret
    exact ⟨rfl, hb2⟩
  have h200' : ¬ (200 : Int) < (len : Int) := by omega
  have hol : os.length ≤ 200 := by have := hO.1; omega
  have HP := Lib.hid (plays_any 8 8 ad len cap os w hO (by decide) (.inr rfl) (by omega))
  clear hO
  go_enter Try.func4, Try.ntmps4
  go_wp2_with fail
  refine HP.out.mono ?_
  rintro e w1 ⟨p, Af, cf, Aw, cw, D, rfl, -, hpd, hrd, hok, hfl, hwl, hb1⟩
  have hb2 := box_below w1 (.cells #[.slice Af D.firm.length cf, .slice Aw D.wait.length cw, .int .i64 D.armed, .bool D.dead] 28)
  obtain ⟨w2, hw2⟩ : ∃ w2, w2 = w1.alloc (.cells #[.slice Af D.firm.length cf, .slice Aw D.wait.length cw, .int .i64 D.armed, .bool D.dead] 28) := ⟨_, rfl⟩
  have hbx : w2.heap[w1.heap.size]? = some (.cells #[.slice Af D.firm.length cf, .slice Aw D.wait.length cw, .int .i64 D.armed, .bool D.dead] 28 (0, 0)) := by rw [hw2]; exact new_block w1 _
  rw [← hw2] at hb2
  have HB2 := Lib.hid (hb1.trans (hb2.mono hb1.size))
  have HPD := Lib.hid (hpd.kept hb2)
  have HRD := Lib.hid (hrd.kept hb2)
  have HOK := Lib.hid hok
  have HFL := Lib.hid hfl
  have HWL := Lib.hid (show D.wait.length ≤ 200 by omega)
  obtain ⟨C, hC⟩ : ∃ C, C = crash D keep tear := ⟨_, rfl⟩
  have HC := Lib.hid hC
  have HBX := Lib.hid hbx
  clear hb1 hb2 hpd hrd hok hfl hwl hbx hC
  go_wp2_with fail
  try rw [← hw2]
  clear hw2
  refine (crash_any w.heap.size p D keep tear w2 HPD.out (by rw [HFL.out]; decide) (by have := HWL.out; omega)).mono ?_
  rintro e w3 ⟨q, rfl, hp3, hb3⟩
  rw [← HC.out] at hp3
  have HP3 := Lib.hid hp3
  have HB3 := Lib.hid (HB2.out.trans (hb3.mono HB2.out.size))
  have hbx3 := (hb3.block _ (lt_of_block HBX.out)).trans HBX.out
  have HPD3 := Lib.hid (HPD.out.kept hb3)
  have HRD3 := Lib.hid (HRD.out.kept hb3)
  have v0 := cell_of hbx3 (j := 0) rfl
  have v1 := cell_of hbx3 (j := 1) rfl
  have v2 := cell_of hbx3 (j := 2) rfl
  have v3 := cell_of hbx3 (j := 3) rfl
  obtain ⟨d4, hd4⟩ : ∃ d4, d4 = D.dead := ⟨_, rfl⟩
  have HD4 := Lib.hid hd4
  have HQ1 : Hid (∀ n : Nat, Calls Try.prog 12 #[.pointer (some ⟨q, 0, none⟩)] (w3.drewN n) fun e w' => e = .returned (.bool false) ∧ w' = w3.drewN n) := Lib.hid (fun n =>
    (dead_any _ q C _ (HP3.out.kept (below_drewN (Below.refl _ _) n))).mono fun _ _ ⟨h1, h2⟩ => ⟨by rw [h1, HC.out]; rfl, h2.symm⟩)
  have HQ2 : Hid (∀ n : Nat, Calls Try.prog 13 #[.pointer (some ⟨q, 0, none⟩)] (w3.drewN n) fun e w' => e = .returned (.int .i64 0) ∧ w' = w3.drewN n) := Lib.hid (fun n =>
    (pending_any _ q C _ (HP3.out.kept (below_drewN (Below.refl _ _) n))).mono fun _ _ ⟨h1, h2⟩ => ⟨by rw [h1, HC.out]; rfl, h2.symm⟩)
  have HQ3 : Hid (∀ n : Nat, Calls Try.prog 12 #[.pointer (some ⟨p, 0, none⟩)] (w3.drewN n) fun e w' => e = .returned (.bool d4) ∧ w' = w3.drewN n) := Lib.hid (fun n => by
    rw [HD4.out]; exact (dead_any _ p D _ (HPD3.out.kept (below_drewN (Below.refl _ _) n))).mono fun _ _ ⟨h1, h2⟩ => ⟨h1, h2.symm⟩)
  have HQ4 : Hid (∀ n : Nat, Calls Try.prog 13 #[.pointer (some ⟨p, 0, none⟩)] (w3.drewN n) fun e w' => e = .returned (.int .i64 (D.wait.length : Int)) ∧ w' = w3.drewN n) := Lib.hid (fun n =>
    (pending_any _ p D _ (HPD3.out.kept (below_drewN (Below.refl _ _) n))).mono fun _ _ ⟨h1, h2⟩ => ⟨h1, h2.symm⟩)
  rw [← hd4] at v3
  clear hp3 hb3 hbx3 hd4
  go_wp2
  go_quiet ((first | (go_at_call 12; first | exact Calls.quiet_of_same (HQ1.out _) | exact Calls.quiet_of_same (HQ3.out _)) | (go_at_call 13; first | exact Calls.quiet_of_same (HQ2.out _) | exact Calls.quiet_of_same (HQ4.out _))))
  have hdd := HD4.out
  subst hdd
  go_wp2_with fail
  refine (rcrash_any w.heap.size _ _ D keep tear _ (HRD3.out.kept (below_drewN (Below.refl _ _) _)) HOK.out (by rw [HFL.out]; decide)).mono ?_
  rintro e w5 ⟨Af2, cf2, rfl, hr5, hb5⟩
  rw [← HC.out] at hr5
  have hb35 : Below w3.heap.size w3 w5 := (below_drewN (Below.refl _ _) _).trans hb5
  have HB5 := Lib.hid (HB3.out.trans (hb35.mono HB3.out.size))
  have HP5 := Lib.hid (HP3.out.kept hb35)
  have L5 := Lib.hid (show C.firm.length = 8 by rw [HC.out]; exact (crash_length _ _ _ _).trans HFL.out)
  have HAL : Hid (Calls Try.prog 14 #[.agg #[.slice Af2 D.firm.length cf2, .slice none 0 0, .int .i64 0, .bool false]] w5 (AlPost w5 C)) := Lib.hid (by
    have e1 : C.armed = 0 := by rw [HC.out]; rfl
    have e2 : C.dead = false := by rw [HC.out]; rfl
    have := rall_any _ _ _ C w5 hr5 (by rw [L5.out]; decide)
    rwa [e1, e2] at this)
  clear hr5 hb5 hb35 HQ1 HQ2 HQ3 HQ4
  go_wp2_with fail
  refine HAL.out.mono ?_
  rintro e w6 ⟨v, rfl, ho6, hb6⟩
  rw [L5.out] at ho6
  obtain ⟨A1, c1, rfl, hl1, hm1, hg1⟩ := own_form ho6
  obtain ⟨g1, rfl⟩ := hg1 (by decide)
  have hw6 := words_of ho6 ((cur_len _).trans L5.out) (by decide)
  have HST : Hid (FiRel w w2.heap.size g1 q C (.int .i64 0) w6) := Lib.hid ⟨0, by decide, rfl, HP5.out.kept hb6, hw6, HB5.out.trans (hb6.mono HB5.out.size)⟩
  have HCL : Hid ((cur C).length = 8) := Lib.hid ((cur_len _).trans L5.out)
  have HDD : Hid (C.dead = false) := Lib.hid (by rw [HC.out]; rfl)
  clear ho6 hb6 hw6 hl1 hm1 hg1 v0 v1 v2 v3
  go_wp2
  go_loopw [63] (fun vi wr => FiRel w w2.heap.size g1 q C vi wr) (fun vi _ => 8 - (intOf vi).toNat)
  case atStart => exact HST.out
  case round =>
    obtain ⟨k, hk, rfl, hp, hw, hb⟩ := hrel
    have HR := Lib.hid hw
    have HP6 := Lib.hid hp
    have HB6 := Lib.hid hb
    by_cases hlt : k < 8
    · have hk0 : (0 : Int) ≤ (k : Int) := by omega
      have hk1 : (k : Int) < 8 := by omega
      have r1 := hw.2 k (by rw [HCL.out]; exact hlt)
      obtain ⟨S1, hS1⟩ : ∃ S, S = strOfNums ((cur C).getD k []) := ⟨_, rfl⟩
      rw [← hS1] at r1
      have HS1 := Lib.hid hS1
      have HDO := Lib.hid (do_read (D := C) (n := k) HDD.out (by rw [L5.out]; exact hlt))
      have HRA := Lib.hid (read_any _ q C (k : Int) wr hp)
      clear hp hw hb hS1
      go_wp2_with fail
      refine HRA.out.mono ?_
      rintro e w7 ⟨A7, l7, c7, rfl, hr7, -, -, hb7, -⟩
      rw [HDO.out] at hr7 ⊢
      have hcv := conv_reads (c := c7) hr7
      rw [← HS1.out] at hcv
      have HNX : Hid (FiRel w w2.heap.size g1 q C (.int .i64 ((k : Int) + 1)) w7) := Lib.hid ⟨k + 1, by omega, rfl, HP6.out.kept hb7, HR.out.kept hb7, HB6.out.trans (hb7.mono HB6.out.size)⟩
      clear hr7 hb7
      go_wp2
      go_roundw
      case rel => exact HNX.out
      case measure => simp [intOf] <;> omega
    · obtain rfl : k = 8 := by omega
      clear hp hw hb
      go_wp2_with fail
      refine (alive_any _).mono ?_
      rintro e w7 ⟨rfl, hb7⟩
      have HB7 := Lib.hid (HB6.out.trans (hb7.mono HB6.out.size))
      clear hb7
      go_wp2
      go_ret
      exact ⟨rfl, HB7.out⟩
end Go.Proofs.Ytogofgfdkkjnlaa
