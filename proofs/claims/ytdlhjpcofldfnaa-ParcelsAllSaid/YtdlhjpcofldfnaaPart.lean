/-
  What Part's closure, slices.IndexFunc and slices.DeleteFunc with it return and leave. No condition.
-/
import Derived.Test.YtdlhjpcofldfnaaPkEq
namespace Go.Proofs.Ytdlhjpcofldfnaa
set_option maxRecDepth 100000
open Go.ChangeShapes Go.WideShapes Go.ChangeAt Go.RowKit

theorem guard63 : Try.prog.eqGuardType Try.prog.depth 63 = false := by kernel_rfl
theorem eql63 (a b a' b' : Int) (w : World) : (binOp .eql 63 (.agg #[.int .i64 a, .int .i64 b]) (.agg #[.int .i64 a', .int .i64 b'])).run Try.prog w = .ok (.bool (a == a' && b == b')) w := by
  have hS : Try.prog.underlying 63 = some (.struct (Try.prog.fieldsOf 63)) := by kernel_rfl
  have hp : Try.prog.stoodInHeld 63 = false := by kernel_rfl
  have u3 := Try.underlying3
  have a3 := Try.isAgg3
  have z3 := Try.sizeOf3
  rw [run_eql_struct, show (10000 : Nat) = 9999 + 1 from rfl, run_equalIn_agg w 9999 63 _ _ hS hp]
  simp only [Program.fieldsOf, Try.underlying63]
  go_simp
  by_cases h1 : a = a' <;> by_cases h2 : b = b' <;> simp [h1, h2]
/-- Is a message between two ends? -/
def btw (lo hi : Int) (x : Pk) : Bool := min x.f x.t == lo && max x.f x.t == hi
/-- The box that the closure has. -/
def Cap (w : World) (pb : Nat) (lo hi : Int) : Prop := w.heap[pb]? = some (.cells #[.int .i64 lo, .int .i64 hi] 63 (0, 0))
set_option maxHeartbeats 1000000 in
theorem clo_any (w : World) (pb : Nat) (lo hi : Int) (x : Pk) (h : Cap w pb lo hi) :
    Calls Try.prog 31 #[.agg #[.int .i64 x.f, .int .i64 x.t, .string x.b], .pointer (some ⟨pb, 0, none⟩)] w fun e w' => e = .returned (.bool (btw lo hi x)) ∧ Below w.heap.size w w' := by
  obtain ⟨bx, hbx⟩ : ∃ b, b = w.heap.size := ⟨_, rfl⟩
  obtain ⟨w1, hw1⟩ : ∃ w1, w1 = w.alloc (.cells #[.int .i64 x.f, .int .i64 x.t, .string x.b] 31) := ⟨_, rfl⟩
  have hb1 : Below w.heap.size w w1 := by rw [hw1]; exact box_below w _
  have hx1 : w1.heap[bx]? = some (.cells #[.int .i64 x.f, .int .i64 x.t, .string x.b] 31 (0, 0)) := by rw [hw1, hbx]; exact new_block w _
  have hc1 : w1.heap[pb]? = some (.cells #[.int .i64 lo, .int .i64 hi] 63 (0, 0)) := (hb1.block _ (Array.getElem?_eq_some_iff.1 h).1).trans h
  have HS : Hid (∀ w', Below w1.heap.size w1 w' → w'.cell? ⟨bx, 0, none⟩ = some (.int .i64 x.f) ∧ w'.cell? ⟨bx, 1, none⟩ = some (.int .i64 x.t) ∧ w'.cell? ⟨pb, 0, none⟩ = some (.int .i64 lo) ∧ w'.cell? ⟨pb, 1, none⟩ = some (.int .i64 hi)) := Lib.hid (fun w' hb => by
    have h1 := (hb.block _ (Array.getElem?_eq_some_iff.1 hx1).1).trans hx1
    have h2 := (hb.block _ (Array.getElem?_eq_some_iff.1 hc1).1).trans hc1
    exact ⟨cell_of h1 (j := 0) rfl, cell_of h1 (j := 1) rfl, cell_of h2 (j := 0) rfl, cell_of h2 (j := 1) rfl⟩)
  have HBT := Lib.hid (fun W => between_any x.f x.t W)
  obtain ⟨mn, hmn⟩ : ∃ m, m = min x.f x.t := ⟨_, rfl⟩
  obtain ⟨mx, hmx⟩ : ∃ m, m = max x.f x.t := ⟨_, rfl⟩
  have hq := eql63 mn mx lo hi
  obtain ⟨r, hr⟩ : ∃ r, r = btw lo hi x := ⟨_, rfl⟩
  have hr2 : (mn == lo && mx == hi) = r := by rw [hr, hmn, hmx]; rfl
  rw [hr2] at hq
  have HBT2 : Hid (∀ W, Calls Try.prog 29 #[.int .i64 x.f, .int .i64 x.t] W fun e w' => e = .returned (.agg #[.int .i64 mn, .int .i64 mx]) ∧ Below W.heap.size W w') := Lib.hid (fun W => by
    have h := HBT.out W
    unfold kv at h
    rw [← hmn, ← hmx] at h
    exact h)
  rw [← hr]
  have HW1 := Lib.hid hw1
  have HBX := Lib.hid hbx
  have HB1 := Lib.hid hb1
  have g63 := guard63
  clear h hb1 hx1 hc1 hmn hmx hr hr2 hw1 hbx HBT
  go_enter Try.func31, Try.ntmps31
  go_upto_region 1 with fail
  rw [← HW1.out, ← HBX.out]
  go_region_held3 (fun w' => w'.cell? ⟨bx, 0, none⟩ = some (.int .i64 x.f) ∧ w'.cell? ⟨bx, 1, none⟩ = some (.int .i64 x.t) ∧ w'.cell? ⟨pb, 0, none⟩ = some (.int .i64 lo) ∧ w'.cell? ⟨pb, 1, none⟩ = some (.int .i64 hi))
    (first
      | exact HS.out _ (Below.refl _ _).drew
      | assumption)
    (first
      | (go_at_call 29; (with_reducible refine (HBT2.out _).mono ?_); rintro e w2 ⟨rfl, hb2⟩; have hb3 := (Below.refl _ _).drew.trans hb2; have hS2 := HS.out w2 hb3))
  all_goals
    have HB3 := Lib.hid (HB1.out.trans (hb3.mono HB1.out.size))
    clear hb2 hb3 hS2
    go_wp2_with fail
    go_ret
    exact ⟨rfl, HB3.out⟩
theorem row_reads {w : World} {B n c : Nat} {A : Option Addr} {L : List Pk} (h : w.ownsRow B 31 3 (.slice A n c) n (pcells L)) (hl : L.length = n) (hok : ∀ x ∈ L, POk x) : PReads w A n L := by
  subst hl
  refine ⟨rfl, fun hp => ?_, hok⟩
  obtain ⟨A', c', e, -, -, hA⟩ := own_form h
  injection e with e1 e2 e3
  obtain ⟨g, rfl⟩ := hA hp
  subst e1
  refine ⟨g, 0, rfl, fun i hi => ?_⟩
  rw [Nat.zero_add]
  exact row_cells h i hi
def clo (pb : Nat) : Value := .func (.func 31) #[] #[.pointer (some ⟨pb, 0, none⟩)]
theorem Cap.kept {w w' : World} {pb : Nat} {lo hi : Int} (h : Cap w pb lo hi) (hb : Below w.heap.size w w') : Cap w' pb lo hi := (hb.block _ (Array.getElem?_eq_some_iff.1 h).1).trans h
def IxPost (w : World) (L : List Pk) (lo hi : Int) (e : Ending) (w' : World) : Prop :=
  ∃ r : Int, e = .returned (.int .i64 r) ∧ ((r = -1 ∧ ∀ x ∈ L, btw lo hi x = false) ∨ ∃ k : Nat, r = (k : Int) ∧ k < L.length ∧ btw lo hi (L.getD k pk0) = true ∧ ∀ x ∈ L.take k, btw lo hi x = false) ∧ Below w.heap.size w w'
set_option maxHeartbeats 2000000 in
theorem idx_any (A : Option Addr) (n c : Nat) (L : List Pk) (w : World) (pb : Nat) (lo hi : Int) (hR : PReads w A n L) (hc : Cap w pb lo hi) (hn : n ≤ 2000) :
    Calls Try.prog 33 #[.slice A n c, .func (.func 31) #[] #[.pointer (some ⟨pb, 0, none⟩)]] w (IxPost w L lo hi) := by
  have HR := Lib.hid hR
  have HC := Lib.hid hc
  have HL := Lib.hid hR.len
  have hn2 : (n : Int) ≤ 2000 := by omega
  clear hR hc
  go_enter Try.func33, Try.ntmps33
  go_wp2_with fail
  go_loopw [8] (fun vk wr => ∃ k : Nat, k ≤ n ∧ vk = .int .i64 k ∧ (∀ x ∈ L.take k, btw lo hi x = false) ∧ Below w.heap.size w wr) (fun vk _ => n - (intOf vk).toNat)
  case atStart => exact ⟨0, Nat.zero_le _, rfl, fun x hx => by simp at hx, Below.refl _ _⟩
  case round =>
    obtain ⟨k, hk, rfl, hno, hbw⟩ := hrel
    have HNO := Lib.hid hno
    have HBW := Lib.hid hbw
    clear hno hbw
    by_cases hlt : k < n
    · obtain ⟨b, off, x, rfl, -, -, htk, hok, h0, h1, h2⟩ := (HR.out.kept HBW.out).round hlt
      have hxe : x = L.getD k pk0 := by
        have h := HR.out.len
        rw [List.take_succ_eq_append_getElem (by omega)] at htk
        have h2 := List.append_cancel_left htk
        injection h2 with h2 _
        rw [← h2, getD_eq pk0 (by omega)]
      have HXE := Lib.hid hxe
      have HTK := Lib.hid htk
      have HCL := Lib.hid (clo_any wr pb lo hi x (HC.out.kept HBW.out))
      obtain ⟨r, hr⟩ : ∃ r, r = btw lo hi x := ⟨_, rfl⟩
      rw [← hr] at HCL
      have HRE := Lib.hid hr
      have hk0 : (0 : Int) ≤ (k : Int) := by omega
      have hk1 : (k : Int) < (n : Int) := by omega
      clear hxe htk hok hr
      go_wp2_with fail
      refine HCL.out.mono ?_
      rintro e w5 ⟨rfl, hb5⟩
      have HB5 := Lib.hid (HBW.out.trans (hb5.mono HBW.out.size))
      clear hb5 h0 h1 h2
      cases r with
      | true =>
        have HE : Hid (IxPost w L lo hi (.returned (.int .i64 (k : Int))) w5) := Lib.hid ⟨_, rfl, .inr ⟨k, rfl, by rw [HL.out]; exact hlt, by rw [← HXE.out]; exact HRE.out.symm, HNO.out⟩, HB5.out⟩
        go_wp2_with fail
        go_ret
        exact HE.out
      | false =>
        go_wp2_with fail
        go_round
        case rel => exact ⟨k + 1, by omega, by go_num, fun y hy => by
          rw [HTK.out] at hy
          rcases List.mem_append.1 hy with hy | hy
          · exact HNO.out y hy
          · rcases List.mem_singleton.1 hy with rfl; exact HRE.out.symm, HB5.out⟩
        case measure => simp [intOf]; omega
    · obtain rfl : k = n := by omega
      have hk1 : ¬ (k : Int) < (k : Int) := by omega
      have HE : Hid (IxPost w L lo hi (.returned (.int .i64 (-1))) wr) := Lib.hid ⟨_, rfl, .inl ⟨rfl, fun x hx => HNO.out x (by rw [List.take_of_length_le (by rw [HL.out]; exact Nat.le_refl _)]; exact hx)⟩, HBW.out⟩
      go_wp2_with fail
      go_ret
      exact HE.out
end Go.Proofs.Ytdlhjpcofldfnaa
