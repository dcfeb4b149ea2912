/-
  A script in memory; what the laws' few returns. No condition.
-/
import Derived.Test.YtdbpnfceabklkaaLife
namespace Go.Proofs.Ytdbpnfceabklkaa
set_option maxRecDepth 100000
open Go.ChangeShapes Go.WideShapes Go.ChangeAt Go.RowKit

/-- A call of a script. -/
structure Ov where
  k : Int
  S : ByteArray
  A : Option Addr
  len : Nat
  cap : Nat
  all : List (List Int)
def ov0 : Ov := ⟨0, ⟨#[]⟩, none, 0, 0, []⟩
structure OvOk (w : World) (o : Ov) : Prop where
  size : o.S.size ≤ 9223372036854775807
  reads : SReads w o.A o.len o.all
  long : ∀ s ∈ o.all, s.length ≤ 9223372036854775807
  len : o.len ≤ 9223372036854775807
/-- Memory holds a script. -/
structure OReads (w : World) (A : Option Addr) (n : Nat) (l : List Ov) : Prop where
  len : l.length = n
  cells : 0 < n → ∃ b off, A = some ⟨b, off, none⟩ ∧ ∀ i, i < n → w.cell? ⟨b, off + i * 3, none⟩ = some (.int .i64 (l.getD i ov0).k) ∧ w.cell? ⟨b, off + i * 3 + 1, none⟩ = some (.string (l.getD i ov0).S) ∧
    w.cell? ⟨b, off + i * 3 + 2, none⟩ = some (.slice (l.getD i ov0).A (l.getD i ov0).len (l.getD i ov0).cap)
  ok : ∀ o ∈ l, OvOk w o
theorem OvOk.kept {w w' : World} {o : Ov} (h : OvOk w o) (hb : Below w.heap.size w w') : OvOk w' o := ⟨h.size, h.reads.kept hb, h.long, h.len⟩
theorem OReads.kept {w w' : World} {A : Option Addr} {n : Nat} {l : List Ov} (h : OReads w A n l) (hb : Below w.heap.size w w') : OReads w' A n l := by
  refine ⟨h.len, fun hn => ?_, fun o ho => (h.ok o ho).kept hb⟩
  obtain ⟨b, off, e, hc⟩ := h.cells hn
  refine ⟨b, off, e, fun i hi => ?_⟩
  obtain ⟨h1, h2, h3⟩ := hc i hi
  exact ⟨(hb.cell (p := ⟨b, off + i * 3, none⟩) (cell_lt h1)).trans h1, (hb.cell (p := ⟨b, off + i * 3 + 1, none⟩) (cell_lt h2)).trans h2, (hb.cell (p := ⟨b, off + i * 3 + 2, none⟩) (cell_lt h3)).trans h3⟩
theorem sreads_str {w : World} {A : Option Addr} {n : Nat} {l : List (List Int)} (h : SReads w A n l) : STr w.heap.size w A n l := by
  refine ⟨h, fun hn => ?_⟩
  obtain ⟨b, off, e, hc⟩ := h.2.1 hn
  exact ⟨b, off, e, .inl (cell_lt (hc 0 hn))⟩
def fewL (l : List Ov) : Bool := decide (l.length ≤ 120 ∧ ∀ o ∈ l, o.len ≤ 60)
set_option maxHeartbeats 1000000 in
theorem few_any (A : Option Addr) (n c : Nat) (l : List Ov) (w : World) (hR : OReads w A n l) :
    Calls Try.prog 10 #[.slice A n c] w fun e w' => e = .returned (.bool (fewL l)) ∧ Below w.heap.size w w' := by
  have HR := Lib.hid hR
  have HL := Lib.hid hR.len
  obtain ⟨r, hr⟩ : ∃ r, r = fewL l := ⟨_, rfl⟩
  rw [← hr]
  have HF := Lib.hid hr
  clear hR hr
  by_cases hn : 120 < n
  · have hn' : (120 : Int) < (n : Int) := by omega
    have HRR : Hid (r = false) := Lib.hid (by rw [HF.out]; exact decide_eq_false (fun h => by have := h.1; rw [HL.out] at this; omega))
    go_enter Try.func10, Try.ntmps10
    go_wp2_with fail
    go_ret
    exact ⟨ret_b HRR.out.symm, Below.refl _ _⟩
  · have hn' : ¬ (120 : Int) < (n : Int) := by omega
    go_enter Try.func10, Try.ntmps10
    go_wp2_with fail
    go_loopw [10] (fun vk wr => ∃ k : Nat, k ≤ n ∧ vk = .int .i64 k ∧ (∀ o ∈ l.take k, o.len ≤ 60) ∧ Below w.heap.size w wr) (fun vk _ => n - (intOf vk).toNat)
    case atStart => exact ⟨0, Nat.zero_le _, rfl, fun s hs => by simp at hs, Below.refl _ _⟩
    case round =>
      obtain ⟨k, hk, rfl, hsm, hb⟩ := hrel
      have HSM := Lib.hid hsm
      have HB := Lib.hid hb
      clear hsm
      by_cases hlt : k < n
      · obtain ⟨b, off, rfl, hc⟩ := (HR.out.kept hb).cells (by omega)
        obtain ⟨h0, h1, h2⟩ := hc k hlt
        obtain ⟨o, ho⟩ : ∃ o, o = l.getD k ov0 := ⟨_, rfl⟩
        rw [← ho] at h0 h1 h2
        have hmem : o ∈ l := by rw [ho, List.getD_eq_getElem?_getD, List.getElem?_eq_getElem (by rw [HL.out]; exact hlt)]; exact List.getElem_mem _
        have hlen := (HR.out.ok o hmem).len
        have HTK : Hid (l.take (k + 1) = l.take k ++ [o]) := Lib.hid (by rw [List.take_succ_eq_append_getElem (by rw [HL.out]; exact hlt), ho, List.getD_eq_getElem?_getD, List.getElem?_eq_getElem (by rw [HL.out]; exact hlt)]; rfl)
        have HME := Lib.hid hmem
        have hk0 : (0 : Int) ≤ (k : Int) := by omega
        have hk1 : (k : Int) < (n : Int) := by omega
        obtain ⟨kk, S, A', len, cap, all⟩ := o
        simp only at h0 h1 h2 hlen
        have hx : ((len : Nat) : Int) ≤ 9223372036854775807 := by omega
        clear hc ho hmem hb
        by_cases hlong : (60 : Int) < (len : Int)
        · have HRR : Hid (r = false) := Lib.hid (by rw [HF.out]; exact decide_eq_false (fun h => by have := h.2 _ HME.out; simp only at this; omega))
          go_wp2_with fail
          go_ret
          exact ⟨ret_b HRR.out.symm, HB.out.trans ((box_below wr _).mono HB.out.size)⟩
        · go_wp2_with fail
          go_round
          case rel => exact ⟨k + 1, by omega, by go_num, fun s hs => by
            rw [HTK.out] at hs
            rcases List.mem_append.1 hs with hs | hs
            · exact HSM.out s hs
            · rcases List.mem_singleton.1 hs with rfl; simp only; omega, HB.out.trans ((box_below wr _).mono HB.out.size)⟩
          case measure => simp [intOf]; omega
      · obtain rfl : k = n := by omega
        have hk1 : ¬ (k : Int) < (k : Int) := by omega
        have HRR : Hid (r = true) := Lib.hid (by
          rw [HF.out]
          refine decide_eq_true ⟨by rw [HL.out]; omega, fun o ho => ?_⟩
          exact HSM.out o (by rw [List.take_of_length_le (by rw [HL.out]; exact Nat.le_refl _)]; exact ho))
        go_wp2_with fail
        go_ret
        exact ⟨ret_b HRR.out.symm, HB.out⟩
end Go.Proofs.Ytdbpnfceabklkaa
