/-
  What pack.Encode returns of a slice of fields: their bytes, or the error of the first field with which something is amiss. Condition: the slice holds no more than 2^32 fields.
-/
import Derived.Test.YtkoikoegeagkoaaWrite
import Derived.Test.YtkoikoegeagkoaaAmiss
namespace Go.Proofs.Ytkoikoegeagkoaa
open Go.ChangeShapes Go.WideShapes Go.ChangeAt Go.RowKit

/-- The bytes that Encode tells. -/
def encB (fs : List Fld) : List Int := if errL fs = 0 then bytL fs else []
/-- What Encode leaves, the program's and the document's. -/
def EncPost (w : World) (fs : List Fld) (e : Ending) (w' : World) : Prop :=
  ∃ (A : Option Addr) (n c : Nat), e = .returned (.tuple #[.slice A n c, .int .i64 (errL fs)]) ∧ n = (encB fs).length ∧ Reads .u8 w' A n (encB fs) ∧ n ≤ c ∧ c ≤ maxLen ∧ Below w.heap.size w w'
theorem own_below {w w' : World} {base e size n : Nat} {v : Value} {xs : List Value} (h : w.ownsRow base e size v n xs) (hb : Below w.heap.size w w') : w'.ownsRow base e size v n xs := by
  refine ⟨h.1, ?_⟩
  rcases h.2 with hn | ⟨g, cap, cur, rfl, hbg, hg, rest⟩
  · exact .inl hn
  · exact .inr ⟨g, cap, cur, rfl, hbg, (hb.block g (Array.getElem?_eq_some_iff.1 hg).1).trans hg, rest⟩
theorem own_reads {w : World} {base n : Nat} {e : TypeId} {K : IntKind} {v : Value} {zs : List Int} (h : w.ownsRow base e 1 v n (zs.map (Value.int K))) : ∃ A c, v = .slice A n c ∧ Reads K w A n zs ∧ n ≤ c ∧ c ≤ maxLen := by
  have hl : zs.length = n := by have := h.1; rw [List.length_map] at this; omega
  rcases h.2 with ⟨rfl, rfl⟩ | ⟨g, cap, cur, rfl, hbg, hg, hn, hc, hs, ht⟩
  · exact ⟨none, 0, rfl, ⟨hl, fun h => absurd h (by omega)⟩, by omega, by unfold maxLen; omega⟩
  · refine ⟨_, cap, rfl, ⟨hl, fun _ => ⟨g, 0, rfl, fun i hi => ?_⟩⟩, hn, hc⟩
    have hc : w.cell? ⟨g, 0 + i, none⟩ = (zs.map (Value.int K))[i]? := by
      rw [Nat.zero_add]
      have := h.cells (g := g) rfl i
      rw [Go.WideShapes.add_plain, Nat.zero_add] at this
      have hlt : i < (zs.map (Value.int K)).length := by rw [List.length_map]; omega
      rw [List.getElem?_eq_getElem hlt] at this ⊢
      exact this _ rfl
    rw [hc, List.getElem?_map, List.getD_eq_getElem?_getD, List.getElem?_eq_getElem (by omega)]
    rfl
theorem errL_take {fs : List Fld} {k : Nat} (hk : k < fs.length) (h : errL (fs.take k) = 0) : errL (fs.take (k + 1)) = ams (fs.getD k z0) := by
  rw [List.take_succ_eq_append_getElem hk, errL_append, if_pos h, List.getD_eq_getElem?_getD, List.getElem?_eq_getElem hk]
  simp only [errL, Option.getD_some]
  split
  · rename_i h; exact h.symm
  · rfl
theorem errL_bad {fs : List Fld} {k : Nat} (h : errL (fs.take k) ≠ 0) : errL fs = errL (fs.take k) := by
  conv => lhs; rw [← List.take_append_drop k fs]
  rw [errL_append, if_neg h]
theorem bytL_take {fs : List Fld} {k : Nat} (hk : k < fs.length) : bytL (fs.take (k + 1)) = bytL (fs.take k) ++ byts (fs.getD k z0) := by
  rw [List.take_succ_eq_append_getElem hk, bytL_append, List.getD_eq_getElem?_getD, List.getElem?_eq_getElem hk]
  simp [bytL]
/-- What the loop keeps. -/
def ERel (w : World) (len : Nat) (fs : List Fld) (v i : Value) (wr : World) : Prop :=
  ∃ k n : Nat, k ≤ len ∧ i = .int .i64 k ∧ errL (fs.take k) = 0 ∧ n = (bytL (fs.take k)).length ∧ wr.ownsRow w.heap.size 5 1 v n ((bytL (fs.take k)).map (Value.int .u8)) ∧ Below w.heap.size w wr
theorem enc_bad {w w' : World} {len k : Nat} {fs : List Fld} {a : Int} (hl : fs.length = len) (hk : k < len) (he : errL (fs.take k) = 0) (ha : a = ams (fs.getD k z0)) (hne : a ≠ 0) (hb : Below w.heap.size w w') :
    EncPost w fs (.returned (.tuple #[.slice none 0 0, .int .i64 a])) w' := by
  have h1 : errL (fs.take (k + 1)) = a := by rw [errL_take (by omega) he, ha]
  have h2 : errL fs = a := by rw [errL_bad (k := k + 1) (by rw [h1]; exact hne), h1]
  have h3 : encB fs = [] := by unfold encB; rw [if_neg (by rw [h2]; exact hne)]
  refine ⟨none, 0, 0, by rw [h2], by rw [h3]; rfl, ?_, by omega, by unfold maxLen; omega, hb⟩
  rw [h3]; exact ⟨rfl, fun h => absurd h (by omega)⟩
theorem enc_end {w wr : World} {len n : Nat} {fs : List Fld} {v : Value} (hl : fs.length = len) (he : errL (fs.take len) = 0) (hn : n = (bytL (fs.take len)).length) (ho : wr.ownsRow w.heap.size 5 1 v n ((bytL (fs.take len)).map (Value.int .u8))) (hb : Below w.heap.size w wr) :
    EncPost w fs (.returned (.tuple #[v, .int .i64 0])) wr := by
  rw [List.take_of_length_le (by omega)] at he hn ho
  obtain ⟨A, c, rfl, h1, h2, h3⟩ := own_reads ho
  have e : encB fs = bytL fs := by unfold encB; rw [if_pos he]
  exact ⟨A, n, c, by rw [he], by rw [e]; exact hn, by rw [e]; exact h1, h2, h3, hb⟩
theorem enc_round {w wr w2 : World} {len k n : Nat} {fs : List Fld} {f : Fld} {v : Value} (hl : fs.length = len) (hk : k < len) (he : errL (fs.take k) = 0) (hf : f = fs.getD k z0) (ha : ams f = 0) (hn : n = (bytL (fs.take k)).length)
    (ho : w2.ownsRow w.heap.size 5 1 v (n + (byts f).length) ((bytL (fs.take k) ++ byts f).map (Value.int .u8))) (hb : Below w.heap.size w wr) (hb2 : Below w.heap.size wr w2) : ERel w len fs v (.int .i64 ((k : Int) + 1)) w2 := by
  refine ⟨k + 1, _, by omega, by go_num, by rw [errL_take (by omega) he, ← hf, ha], rfl, ?_, hb.trans hb2⟩
  rw [bytL_take (by omega), ← hf, List.length_append, ← hn]
  exact ho
set_option maxHeartbeats 1000000 in
theorem encode_any (ad : Option Addr) (len cap : Nat) (fs : List Fld) (w : World) (hR : FReads w ad len fs) (hm : len ≤ 4294967296) :
    Calls Try.prog 11 #[.slice ad len cap] w (EncPost w fs) := by
  have hl := hR.1
  have HL := Lib.hid hl
  have HR := Lib.hid hR
  clear hR hl
  go_enter Try.func11, Try.ntmps11
  go_wp2
  go_loopw [4, 10] (fun v i wr => ERel w len fs v i wr) (fun _ i _ => len - (intOf i).toNat)
  case atStart => exact ⟨0, 0, by omega, rfl, rfl, rfl, World.ownsRow_nil _ _ _ _, Below.refl _ _⟩
  case round =>
    obtain ⟨k, n, hk, rfl, he, hn, hown, hb⟩ := hrel
    have HE := Lib.hid he
    have HN := Lib.hid hn
    have HO := Lib.hid hown
    have HB := Lib.hid hb
    have hbase := hb.size
    clear he hn hown hb
    by_cases hlt : k < len
    · obtain ⟨b, off, rfl, hc⟩ := (HR.out.kept HB.out).2 (by omega)
      obtain ⟨h1, h2, h3⟩ := hc k hlt
      obtain ⟨f, hf⟩ : ∃ f, f = fs.getD k z0 := ⟨_, rfl⟩
      rw [← hf] at h1 h2 h3
      have HF := Lib.hid hf
      clear hc hf
      go_wp2_with fail
      refine (amiss_any f _).mono ?_
      rintro e w1 ⟨rfl, hb1⟩
      obtain ⟨a, ha⟩ : ∃ a, a = ams f := ⟨_, rfl⟩
      rw [← ha]
      have hB := Lib.hid hb1
      have g1 : w1.cell? ⟨wr.heap.size, 0, none⟩ = some (.int .i64 f.k) := (hb1.cell (p := ⟨wr.heap.size, 0, none⟩) (by simp)).trans (by rw [World.cell?_alloc_at (hn := rfl)]; rfl)
      have g2 : w1.cell? ⟨wr.heap.size, 1, none⟩ = some (.int .i64 f.n) := (hb1.cell (p := ⟨wr.heap.size, 1, none⟩) (by simp)).trans (by rw [World.cell?_alloc_at (hn := rfl)]; rfl)
      have g3 : w1.cell? ⟨wr.heap.size, 2, none⟩ = some (.string f.s) := (hb1.cell (p := ⟨wr.heap.size, 2, none⟩) (by simp)).trans (by rw [World.cell?_alloc_at (hn := rfl)]; rfl)
      have HA := Lib.hid ha
      clear hb1 ha
      have hb1 : Hid (Below w.heap.size wr w1) := Lib.hid (((Below.refl _ _).alloc hbase _).trans (hB.out.mono (by simp; omega)))
      have HO1 : Hid (w1.ownsRow w.heap.size 5 1 u4 n ((bytL (fs.take k)).map (Value.int .u8))) := Lib.hid (own_below (HO.out.alloc _) hB.out)
      have hb1s := hb1.out.size
      have hnb : n ≤ 1026 * len := by
        have h1 := bytL_len HE.out
        have h2 : (fs.take k).length ≤ len := by rw [List.length_take]; omega
        have h3 : 1026 * (fs.take k).length ≤ 1026 * len := Nat.mul_le_mul_left _ h2
        rw [HN.out]; omega
      by_cases hz : a = 0
      · have hz' : (a != 0) = false := by simpa using hz
        have HZ : Hid (ams f = 0) := Lib.hid (by rw [← HA.out]; exact hz)
        clear hz
        go_wp2_with fail
        refine (write_any w.heap.size n u4 (bytL (fs.take k)) f w1 HO1.out (by omega) (by omega) HZ.out).mono ?_
        rintro e w2 ⟨v2, rfl, h4, h5⟩
        have H4 := Lib.hid h4
        have H5 := Lib.hid h5
        clear h4 h5
        go_wp2
        go_roundw
        case rel => exact enc_round HL.out hlt HE.out HF.out HZ.out HN.out H4.out HB.out (hb1.out.trans H5.out)
        case measure => simp [intOf]; omega
      · have hz' : (a != 0) = true := by simpa using hz
        have HZ := Lib.hid hz
        clear hz
        go_wp2
        go_ret2
        exact enc_bad HL.out hlt HE.out (by rw [← HF.out]; exact HA.out) HZ.out (HB.out.trans hb1.out)
    · obtain rfl : len = k := by omega
      go_wp2
      go_ret2
      exact enc_end HL.out HE.out HN.out HO.out HB.out
end Go.Proofs.Ytkoikoegeagkoaa
