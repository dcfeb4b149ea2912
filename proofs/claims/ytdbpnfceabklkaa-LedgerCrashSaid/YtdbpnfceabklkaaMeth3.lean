/-
  What the ledger's Append leaves. Condition: the record is no longer than an int tells.
-/
import Derived.Test.YtdbpnfceabklkaaMeth2
namespace Go.Proofs.Ytdbpnfceabklkaa
set_option maxRecDepth 100000
open Go.ChangeShapes Go.WideShapes Go.ChangeAt Go.RowKit

/-- What Append leaves. -/
def ApPost (B q p : Nat) (G : Lg) (bv : Value) (D : Dk) (s : List Int) (w : World) (e : Ending) (w' : World) : Prop :=
  e = .returned (.int .i64 (amissL D.dead G.bs.length [s] G.sz)) ∧ Kl B w w' ∧
  ((amissL D.dead G.bs.length [s] G.sz ≠ 0 ∧ PL w' B q p G bv D) ∨
   (amissL D.dead G.bs.length [s] G.sz = 0 ∧ ∃ bv', PL w' B q p { G with bs := G.bs ++ le4 s.length ++ s } bv' D))
theorem PL.lk {w w' : World} {B q p : Nat} {G : Lg} {bv : Value} {D : Dk} (h : PL w B q p G bv D) (hk : Lk w w') : w'.heap[q]? = some (.cells (lcells p G bv).toArray 74 (0, 0)) ∧ PDisk w' B p D :=
  ⟨hk.tag _ _ _ _ h.here (by decide), h.disk.tags fun k cs t fr hx ht => hk.tag _ _ _ _ hx (by rcases ht with rfl | rfl | rfl <;> decide)⟩
theorem ap_done {w w' : World} {B q p : Nat} {G : Lg} {bv bv' : Value} {D : Dk} {S : ByteArray} (h : PL w B q p G bv D) (hf : G.bs.length + 4 + S.size ≤ G.sz * 64) (hr : w'.ownsRow B 5 1 bv' (G.bs.length + 4 + S.size) (ints (G.bs ++ le4 S.size ++ sb S))) (hb : Below B w w') (hk : Lk w w') :
    PL (w'.setCell ⟨q, 14, none⟩ bv') B q p { G with bs := G.bs ++ le4 (sb S).length ++ sb S } bv' D ∧ Kl B w (w'.setCell ⟨q, 14, none⟩ bv') := by
  obtain ⟨h1, h2⟩ := h.lk hk
  have hN := h.gok.num
  have hlen : (G.bs ++ le4 S.size ++ sb S).length = G.bs.length + 4 + S.size := by rw [List.length_append, List.length_append, le4_len, sb_len]
  refine ⟨⟨set_bytes hN h1, h.base, ?_, h2.setCell h1 (by decide) (by decide) (by decide) _, ⟨h.gok.fit, h.gok.n, h.gok.slot, hN, h.gok.half, ?_, ?_, ?_⟩⟩, ⟨hb.trans ((Kl.of_grown h1 h.base (setCells_grown [bv'] 14 w')).below), fun k o ho ht => ?_⟩⟩
  · show World.ownsRow _ B 5 1 bv' (G.bs ++ le4 (sb S).length ++ sb S).length (ints (G.bs ++ le4 (sb S).length ++ sb S))
    rw [sb_len, hlen]
    exact ownsRow_setCell_other hr (own_ne hr h1 (by decide)) _
  · show G.m.used ≤ (G.bs ++ le4 (sb S).length ++ sb S).length
    have := h.gok.used
    rw [sb_len, hlen]; omega
  · show (G.bs ++ le4 (sb S).length ++ sb S).length ≤ G.sz * 64
    rw [sb_len, hlen]; exact hf
  · show Bys (G.bs ++ le4 (sb S).length ++ sb S)
    exact bys_append (bys_append h.gok.bys (le4_bys _)) (sb_bys S)
  · have h3 := hk k o ho (fun cs t fr e => (ht cs t fr e).2.2.2.1)
    rw [heap_setCell_other w' _ _ _ (fun e => ?_)]
    · exact h3
    · simp only at e
      rw [e, h1] at h3
      injection h3 with h3
      exact (ht _ _ _ h3.symm).2.2.2.2 rfl
theorem need_one (s : List Int) : need [s] = s.length + 4 := by simp [need]
set_option maxHeartbeats 1000000 in
theorem append_led (B q p : Nat) (G : Lg) (bv : Value) (D : Dk) (S : ByteArray) (w : World) (h : PL w B q p G bv D) (hz : S.size ≤ 9223372036854775807) :
    Calls Try.prog 23 #[.pointer (some ⟨q, 0, none⟩), .string S] w (ApPost B q p G bv D (sb S) w) := by
  have hsm := h.gok.small
  obtain ⟨A, c, rfl, hnc, -, -⟩ := own_form h.row
  obtain ⟨wa, hwa⟩ : ∃ wa, wa = w.alloc (.cells #[.string S] 9) := ⟨_, rfl⟩
  have hbw : Below w.heap.size w wa := by rw [hwa]; exact box_below w _
  have hS : SReads wa (some ⟨w.heap.size, 0, none⟩) 1 [sb S] := ⟨rfl, fun _ => ⟨_, _, rfl, fun i hi => by
    obtain rfl : i = 0 := by omega
    show wa.cell? ⟨w.heap.size, 0 + 0, none⟩ = some (.string (strOfNums (sb S)))
    rw [str_sb, hwa]
    exact cell_of_row _ _ 0 _ 9 _ (new_block w _)⟩, fun s hs => by rcases List.mem_singleton.1 hs with rfl; exact sb_bys S⟩
  have HA := Lib.hid (amissl_any B q p G.bs.length G _ D _ 1 1 [sb S] wa (h.kept hbw).disk (h.kept hbw).cells hS hsm.2.1 hsm.2.2.1 (by decide) (fun s hs => by rcases List.mem_singleton.1 hs with rfl; rw [sb_len]; exact hz))
  have HPL := Lib.hid h
  have HPA := Lib.hid (h.kept hbw)
  have HWA := Lib.hid hwa
  have HBW := Lib.hid hbw
  have HSM := Lib.hid hsm
  have hlc := h.cells
  have HLC : Hid (∀ W : World, W.heap[q]? = w.heap[q]? → W.cell? ⟨q, 14, none⟩ = some (Value.slice A G.bs.length c)) := Lib.hid (fun W e => (LCells.of (e.trans h.here) h.gok.num).c14)
  have HQ : Hid (wa.heap[q]? = w.heap[q]?) := Lib.hid (hbw.block q h.lt)
  have hbl : (G.bs.length : Int) ≤ 4194304 := by omega
  obtain ⟨a, ha⟩ : ∃ a, a = amissL D.dead G.bs.length [sb S] G.sz := ⟨_, rfl⟩
  rw [← ha] at HA
  have HAM := Lib.hid ha
  obtain ⟨n, hn⟩ : ∃ n, n = G.bs.length := ⟨_, rfl⟩
  rw [← hn] at HA HLC hbl hnc HPL HPA HAM
  have HN := Lib.hid hn
  clear h hS hz ha hsm hwa hbw hlc hn
  go_enter Try.func23, Try.ntmps23
  have hc14 := HLC.out w rfl
  go_wp2_with fail
  rw [← HWA.out]
  refine HA.out.mono ?_
  rintro e w2 ⟨rfl, rfl⟩
  by_cases h0 : a = 0
  · subst h0
    obtain ⟨-, hlo, hne⟩ := amissL_ok HAM.out.symm
    have hs4 : S.size ≤ 4096 := by rw [← sb_len]; exact hlo _ (List.mem_singleton.2 rfl)
    rw [need_one, sb_len] at hne
    clear hlo hc14
    have hd14 := HLC.out wa HQ.out
    have HLY := Lib.hid (lay_k B n (.slice A n c) G.bs S wa (by rw [HN.out]; have := HPA.out.row; rw [← HN.out] at this ⊢; exact this) hs4 HPA.out.size (by have := HSM.out; have := HN.out; omega))
    go_wp2_with fail
    refine HLY.out.mono ?_
    rintro e w3 ⟨v3, rfl, ho3, hb3, hk3⟩
    obtain ⟨A3, c3, rfl, -, -, -⟩ := own_form ho3
    have hdn := ap_done (S := S) HPA.out (by have := HN.out; omega) (by rw [← HN.out]; exact ho3) hb3 hk3
    have h3 := (HPA.out.lk hk3).1
    have e14 := (LCells.of h3 HPA.out.gok.num).c14
    have f14 := frozen_of_row w3 q 14 _ _ h3
    have HDN := Lib.hid hdn
    clear hdn h3 ho3 hb3 hk3 hd14
    go_wp2_with fail
    go_ret
    have hn := HN.out
    subst hn
    exact ⟨ret_i HAM.out, (Kl.of_below HBW.out HPL.out.size).trans HDN.out.2, .inr ⟨HAM.out.symm, _, HDN.out.1⟩⟩
  · have hne : (a != 0) = true := by simpa using h0
    clear hc14
    go_wp2_with fail
    go_ret
    have hn := HN.out
    subst hn
    exact ⟨ret_i HAM.out, Kl.of_below HBW.out HPL.out.size, .inl ⟨by rw [← HAM.out]; exact h0, HPA.out⟩⟩
end Go.Proofs.Ytdbpnfceabklkaa
