/-
  Scripts in memory; what few returns. Condition: the script is small enough to be counted.
-/
import Derived.Test.YtfkhnnmibecbeaaGreatDoorSmall
namespace Go.Proofs.YtfkhnnmibecbeaaGreatDoor
set_option maxRecDepth 100000
open Go.ChangeShapes Go.WideShapes Go.ChangeAt Go.RowKit Go.Proofs.Zn Go.Proofs.Zt

/-- A step of a script, with the place of its changes. -/
structure Opv where
  k : Int
  zx : Int
  se : Int
  A : Option Addr
  m : Nat
  c : Nat
  l : List Chg
def ocell (o : Opv) : List Value := [.int .i64 o.k, .int .i64 o.zx, .int .i64 o.se, .slice o.A o.m o.c]
def ChOk' (c : Chg) : Prop := c.path.length ≤ 140737488355328
structure OpOk (w : World) (o : Opv) : Prop where
  rd : Rd ccell 6 w o.A o.m o.l
  ok : ∀ c ∈ o.l, c.path.length ≤ 140737488355328
/-- Memory holds a script. -/
structure Scr (w : World) (A : Option Addr) (n : Nat) (l : List Opv) : Prop where
  rd : Rd ocell 4 w A n l
  ok : ∀ o ∈ l, OpOk w o
theorem OpOk.below {w w' : World} {o : Opv} (h : OpOk w o) (hb : Below w.heap.size w w') : OpOk w' o := ⟨h.rd.below hb, h.ok⟩
theorem Scr.below {w w' : World} {A : Option Addr} {n : Nat} {l : List Opv} (h : Scr w A n l) (hb : Below w.heap.size w w') : Scr w' A n l := ⟨h.rd.below hb, fun o ho => (h.ok o ho).below hb⟩
def tot (l : List Opv) : Nat := (l.map fun o => o.m + 1).sum
theorem tot_take (l : List Opv) (k : Nat) : tot (l.take k) ≤ tot l := by
  unfold tot
  conv => rhs; rw [← List.take_append_drop k l]
  rw [List.map_append, List.sum_append]
  omega
theorem tot_step {l : List Opv} {k : Nat} {o : Opv} (h : l[k]? = some o) : tot (l.take (k + 1)) = tot (l.take k) + (o.m + 1) := by
  obtain ⟨hk, rfl⟩ := List.getElem?_eq_some_iff.1 h
  unfold tot
  rw [List.take_succ_eq_append_getElem hk]
  simp only [List.map_append, List.sum_append, List.map_cons, List.map_nil, List.sum_cons, List.sum_nil]
  omega
theorem tot_len (l : List Opv) : l.length ≤ tot l := by
  unfold tot
  induction l with
  | nil => simp
  | cons o r ih => simp only [List.map_cons, List.sum_cons, List.length_cons]; omega
set_option maxHeartbeats 2000000 in
theorem few_any {w : World} {A : Option Addr} {n c : Nat} {l : List Opv} (h : Scr w A n l) (hs : tot l ≤ 1000000000) :
    Calls Tryz.prog 10 #[.slice A n c] w fun e w' => e = .returned (.bool (decide (tot l ≤ 300))) ∧ Below w.heap.size w w' := by
  have hnl : n ≤ tot l := by rw [← h.rd.len]; exact tot_len l
  have HR := Lib.hid h.rd
  have HS := Lib.hid hs
  have hn : n ≤ 1000000000 := by omega
  obtain ⟨r, hr⟩ : ∃ r, decide (tot l ≤ 300) = r := ⟨_, rfl⟩
  have HRR := Lib.hid hr
  rw [hr]
  clear h hs hnl hr
  go_enter Tryz.func10, Tryz.ntmps10
  go_wp2_with fail
  go_loopw [3, 8] (fun s i wr => ∃ (k : Nat) (t : Nat), k ≤ n ∧ i = .int .i64 k ∧ s = .int .i64 t ∧ t ≤ 1000000000 ∧ Hid (t = tot (l.take k)) ∧ Hid (Below w.heap.size w wr)) (fun _ i _ => n - (intOf i).toNat)
  case atStart => exact ⟨0, 0, Nat.zero_le _, rfl, rfl, by omega, Lib.hid rfl, Lib.hid (Below.refl _ _)⟩
  case round =>
    obtain ⟨k, t, hk, rfl, rfl, ht, HT, HX⟩ := hrel
    by_cases hlt : k < n
    · obtain ⟨b, off, o, rfl, ho, hc⟩ := (HR.out.below HX.out).at hlt
      have c0 : wr.cell? ⟨b, off + k * 4, none⟩ = some (.int .i64 o.k) := hc 0 _ rfl
      have c1 : wr.cell? ⟨b, off + k * 4 + 1, none⟩ = some (.int .i64 o.zx) := hc 1 _ rfl
      have c2 : wr.cell? ⟨b, off + k * 4 + 2, none⟩ = some (.int .i64 o.se) := hc 2 _ rfl
      have c3 : wr.cell? ⟨b, off + k * 4 + 3, none⟩ = some (.slice o.A o.m o.c) := hc 3 _ rfl
      have hts := tot_step ho
      have htl := tot_take l (k + 1)
      have hm : t + (o.m + 1) ≤ 1000000000 := by have := HT.out; have := HS.out; omega
      have HT2 : Hid (t + (o.m + 1) = tot (l.take (k + 1))) := Lib.hid (by rw [hts, ← HT.out])
      have HX2 : Hid (Below w.heap.size w (wr.alloc (.cells #[.int .i64 o.k, .int .i64 o.zx, .int .i64 o.se, .slice o.A o.m o.c] 68))) := Lib.hid (HX.out.trans ((box_below wr _).mono HX.out.size))
      obtain ⟨m, hm'⟩ : ∃ m, o.m = m := ⟨_, rfl⟩
      rw [hm'] at hm HT2 HX2 c3
      clear hc ho hts htl hm'
      go_wp2_with fail
      go_roundw
      case rel => exact ⟨k + 1, t + (m + 1), hlt, by go_num, by go_num, hm, HT2, HX2⟩
      case measure => simp [intOf]; omega
    · have hkn : k = n := by omega
      have HE : Hid (decide ((t : Int) ≤ 300) = r) := Lib.hid (by
        rw [← HRR.out, HT.out, hkn, List.take_of_length_le (by rw [HR.out.len]; exact Nat.le_refl _)]
        apply decide_eq_decide.2; omega)
      have he := HE.out
      clear hkn
      go_wp2_with fail
      go_ret
      exact ⟨rfl, HX.out⟩
end Go.Proofs.YtfkhnnmibecbeaaGreatDoor
