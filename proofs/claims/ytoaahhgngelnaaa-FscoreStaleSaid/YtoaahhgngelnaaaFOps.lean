/-
  Scripts in memory; what the law's few returns. Condition: how much may be in them.
-/
import Derived.Test.YtoaahhgngelnaaaFDoes
import Derived.Lib.SlBytesConst
namespace Go.Proofs.Ytoaahhgngelnaaa
set_option maxRecDepth 100000
open Go.ChangeShapes Go.WideShapes Go.ChangeAt Go.RowKit Go.Proofs.Sg Go.Proofs.Fz

def of0 : Opf := ⟨0, hd0, hd0, [], [], ⟨0, 0, 0, []⟩, false, 0, 0, 0, []⟩
def Under (B : Nat) (ad : Option Addr) (len : Nat) : Prop := 0 < len → ∀ a, ad = some a → a.block < B
theorem rd_at {w w' : World} {B : Nat} {A : Option Addr} {n : Nat} {l : List UInt8} (h : Rd bcell 1 w A n l) (hu : Under B A n) (hb : Below B w w') : Rd bcell 1 w' A n l := by
  refine ⟨h.len, fun hn => ?_⟩
  obtain ⟨b, off, e, hc⟩ := h.cells hn
  have hlt := hu hn _ e
  exact ⟨b, off, e, fun i hi j v hv => (hb.cell (p := ⟨b, off + i * 1 + j, none⟩) hlt).trans (hc i hi j v hv)⟩
structure OkC (x : Opf) : Prop where
  h : HdOk x.h
  g : HdOk x.g
  nm : x.nm.length ≤ maxLen
  ot : x.ot.length ≤ maxLen
  p : x.p ≤ 9223372036854775807
theorem OkC.ok {x : Opf} (h : OkC x) (hb : x.b.length ≤ 2000) : OpOk x := ⟨h.h, h.g, h.nm, h.ot, h.p, by omega⟩
/-- A call lies there. -/
def OpAt (w : World) (bs b o : Nat) (x : Opf) : Prop := w.cell? ⟨b, o, none⟩ = some (.int .i64 x.kind) ∧ w.cell? ⟨b, o + 1, none⟩ = some (.int .i64 x.h.id) ∧ w.cell? ⟨b, o + 2, none⟩ = some (.int .i64 x.h.gen) ∧ w.cell? ⟨b, o + 3, none⟩ = some (.int .i64 x.g.id) ∧ w.cell? ⟨b, o + 4, none⟩ = some (.int .i64 x.g.gen) ∧ w.cell? ⟨b, o + 5, none⟩ = some (.string (B x.nm)) ∧ w.cell? ⟨b, o + 6, none⟩ = some (.string (B x.ot)) ∧ w.cell? ⟨b, o + 7, none⟩ = some (.int .i64 x.m.kind) ∧ w.cell? ⟨b, o + 8, none⟩ = some (.int .i64 x.m.mode) ∧ w.cell? ⟨b, o + 9, none⟩ = some (.int .i64 x.m.time) ∧ w.cell? ⟨b, o + 10, none⟩ = some (.string (B x.m.tg)) ∧ w.cell? ⟨b, o + 11, none⟩ = some (.bool x.fd) ∧ w.cell? ⟨b, o + 12, none⟩ = some (.int .i64 x.p) ∧ w.cell? ⟨b, o + 13, none⟩ = some (.int .i64 x.n) ∧ w.cell? ⟨b, o + 14, none⟩ = some (.int .i64 x.t) ∧ (∃ A l c, w.cell? ⟨b, o + 15, none⟩ = some (.slice A l c) ∧ Rd bcell 1 w A l x.b ∧ Under bs A l ∧ l ≤ c) ∧ OkC x
/-- Memory below a block holds a script. -/
def OReads (w : World) (bs : Nat) (ad : Option Addr) (len : Nat) (os : List Opf) : Prop :=
  os.length = len ∧ (0 < len → ∃ b off, ad = some ⟨b, off, none⟩ ∧ b < bs ∧ ∀ i, i < len → OpAt w bs b (off + i * 16) (os.getD i of0))
theorem OReads.kept {w w' : World} {bs : Nat} {ad : Option Addr} {len : Nat} {os : List Opf} (h : OReads w bs ad len os) (hb : Below bs w w') : OReads w' bs ad len os := by
  refine ⟨h.1, fun hl => ?_⟩
  obtain ⟨b, off, e, hlt, hc⟩ := h.2 hl
  refine ⟨b, off, e, hlt, fun i hi => ?_⟩
  obtain ⟨s0, s1, s2, s3, s4, s5, s6, s7, s8, s9, s10, s11, s12, s13, s14, ⟨A, l, c, h3, h4, h5, h6⟩, h7⟩ := hc i hi
  have k : ∀ o u, w.cell? ⟨b, o, none⟩ = some u → w'.cell? ⟨b, o, none⟩ = some u := fun o u hx => (hb.cell (p := ⟨b, o, none⟩) hlt).trans hx
  exact ⟨k _ _ s0, k _ _ s1, k _ _ s2, k _ _ s3, k _ _ s4, k _ _ s5, k _ _ s6, k _ _ s7, k _ _ s8, k _ _ s9, k _ _ s10, k _ _ s11, k _ _ s12, k _ _ s13, k _ _ s14, ⟨A, l, c, k _ _ h3, rd_at h4 h5 hb, h5, h6⟩, h7⟩
theorem getD_at {os : List Opf} {i : Nat} (h : i < os.length) : os.getD i of0 = os[i] := by
  rw [List.getD_eq_getElem?_getD, List.getElem?_eq_getElem h]; rfl
theorem run_app (f : Fst) (a b : List Opf) : runF f (a ++ b) = runF (runF f a) b := by
  induction a generalizing f with
  | nil => rfl
  | cons x a ih => exact ih _
theorem run_next {f : Fst} {os : List Opf} {i : Nat} (h : i < os.length) : runF f (os.take (i + 1)) = (stepF (runF f (os.take i)) (os.getD i of0)).1 := by
  rw [List.take_succ_eq_append_getElem h, getD_at h, run_app]
  rfl
def FwPost (w : World) (os : List Opf) (e : Ending) (w' : World) : Prop := ∃ r, e = .returned (.bool r) ∧ (r = true → (∀ o ∈ os, o.b.length ≤ 2000) ∧ os.length ≤ 250) ∧ Below w.heap.size w w'
set_option maxHeartbeats 16000000 in
theorem few_any {w : World} {bs : Nat} {ad : Option Addr} {len cap : Nat} {os : List Opf} (h : OReads w bs ad len os) (hB : bs ≤ w.heap.size) : Calls Try.prog 8 #[.slice ad len cap] w (FwPost w os) := by
  have HO := Lib.hid h
  have HBB := Lib.hid hB
  have HL := Lib.hid h.1
  have HFAL : Hid (∀ w', Below w.heap.size w w' → FwPost w os (.returned (.bool false)) w') := Lib.hid (fun w' hb => ⟨false, rfl, fun h => (by cases h), hb⟩)
  clear h hB
  by_cases h60 : 250 < len
  · have h60' : decide ((250 : Int) < (len : Int)) = true := by simp only [decide_eq_true_eq]; omega
    have h60'' : (250 : Int) < (len : Int) := by omega
    clear h60
    go_enter Try.func8, Try.ntmps8
    go_wp2_with fail
    go_ret
    exact HFAL.out _ (Below.refl _ _)
  · have h60' : decide ((250 : Int) < (len : Int)) = false := by simp only [decide_eq_false_iff_not]; omega
    have h60'' : ¬ (250 : Int) < (len : Int) := by omega
    go_enter Try.func8, Try.ntmps8
    go_wp2_with fail
    go_loopw [10] (fun i wr => ∃ j : Nat, j ≤ len ∧ i = .int .i64 (j : Int) ∧ Hid (∀ i, i < j → (os.getD i of0).b.length ≤ 2000) ∧ Hid (Below w.heap.size w wr)) (fun i _ => len - (intOf i).toNat)
    case atStart => exact ⟨0, Nat.zero_le _, rfl, Lib.hid (fun i hi => by omega), Lib.hid (Below.refl _ _)⟩
    case round =>
      obtain ⟨j, hj, rfl, HS, HX⟩ := hrel
      by_cases hlt : j < len
      · obtain ⟨b, off, rfl, -, hc⟩ := (HO.out.kept (HX.out.mono HBB.out)).2 (by omega)
        obtain ⟨e0, e1, e2, e3, e4, e5, e6, e7, e8, e9, e10, e11, e12, e13, e14, ⟨A, l, c, e15, hr, -⟩, -⟩ := hc j hlt
        have hlen := hr.len
        obtain ⟨o, ho⟩ : ∃ o, os.getD j of0 = o := ⟨_, rfl⟩
        rw [ho] at e0 e1 e2 e3 e4 e5 e6 e7 e8 e9 e10 e11 e12 e13 e14 hlen
        obtain ⟨p, hp⟩ : ∃ z, o.p = z := ⟨_, rfl⟩
        obtain ⟨n, hn⟩ : ∃ z, o.n = z := ⟨_, rfl⟩
        rw [hp] at e12
        rw [hn] at e13
        have hj0 : (0 : Int) ≤ (j : Int) := by omega
        have hji : (j : Int) < (len : Int) := by omega
        obtain ⟨j1, hj1⟩ : ∃ j1, j + 1 = j1 := ⟨_, rfl⟩
        have hwj : IntKind.i64.wrap ((j : Int) + 1) = (j1 : Int) := by rw [IntKind.wrap_i64]; omega
        have HJ1 : Hid (j < len ∧ j + 1 = j1) := Lib.hid ⟨hlt, hj1⟩
        have hb2 := HX.out.trans ((box_below wr (.cells #[.int .i64 o.kind, .int .i64 o.h.id, .int .i64 o.h.gen, .int .i64 o.g.id, .int .i64 o.g.gen, .string (B o.nm), .string (B o.ot), .int .i64 o.m.kind, .int .i64 o.m.mode, .int .i64 o.m.time, .string (B o.m.tg), .bool o.fd, .int .i64 p, .int .i64 n, .int .i64 o.t, .slice A l c] 33)).mono HX.out.size)
        have HX2 := Lib.hid hb2
        have HNX : Hid (l ≤ 2000 → ∀ i, i < j1 → (os.getD i of0).b.length ≤ 2000) := Lib.hid (fun hl i hi => by
          by_cases h : i = j
          · subst h; rw [ho, hlen]; exact hl
          · exact HS.out i (by omega))
        by_cases c0 : 2000 < l
        · have c0' : decide ((2000 : Int) < (l : Int)) = true := by simp only [decide_eq_true_eq]; omega
          have c0'' : (2000 : Int) < (l : Int) := by omega
          clear hlt hj h60 hj1 hb2 hr hc ho hp hn hlen
          go_wp2_with fail
          go_ret
          exact HFAL.out _ HX2.out
        · have c0' : decide ((2000 : Int) < (l : Int)) = false := by simp only [decide_eq_false_iff_not]; omega
          have c0'' : ¬ (2000 : Int) < (l : Int) := by omega
          by_cases c1 : 5000 < p
          · have c1' : decide (5000 < p) = true := by simp only [decide_eq_true_eq]; exact c1
            by_cases c2 : p < 1048576
            · have c2' : decide (p < 1048576) = true := by simp only [decide_eq_true_eq]; exact c2
              clear hlt hj h60 hj1 hb2 hr hc ho hp hn hlen
              go_wp2_with fail
              go_ret
              exact HFAL.out _ HX2.out
            · have c2' : decide (p < 1048576) = false := by simp only [decide_eq_false_iff_not]; exact c2
              by_cases c3 : 5000 < n
              · have c3' : decide (5000 < n) = true := by simp only [decide_eq_true_eq]; exact c3
                by_cases c4 : n ≤ 1048576
                · have c4' : decide (n ≤ 1048576) = true := by simp only [decide_eq_true_eq]; exact c4
                  clear hlt hj h60 hj1 hb2 hr hc ho hp hn hlen
                  go_wp2_with fail
                  go_ret
                  exact HFAL.out _ HX2.out
                · have c4' : decide (n ≤ 1048576) = false := by simp only [decide_eq_false_iff_not]; exact c4
                  have HN := Lib.hid (HNX.out (by omega))
                  clear hlt hj h60 hj1 hb2 hr hc ho hp hn hlen
                  go_wp2_with fail
                  go_roundw
                  case rel => exact ⟨j1, by have := HJ1.out; omega, rfl, HN, HX2⟩
                  case measure => simp [intOf]; have := HJ1.out; omega
              · have c3' : decide (5000 < n) = false := by simp only [decide_eq_false_iff_not]; exact c3
                have HN := Lib.hid (HNX.out (by omega))
                clear hlt hj h60 hj1 hb2 hr hc ho hp hn hlen
                go_wp2_with fail
                go_roundw
                case rel => exact ⟨j1, by have := HJ1.out; omega, rfl, HN, HX2⟩
                case measure => simp [intOf]; have := HJ1.out; omega
          · have c1' : decide (5000 < p) = false := by simp only [decide_eq_false_iff_not]; exact c1
            by_cases c3 : 5000 < n
            · have c3' : decide (5000 < n) = true := by simp only [decide_eq_true_eq]; exact c3
              by_cases c4 : n ≤ 1048576
              · have c4' : decide (n ≤ 1048576) = true := by simp only [decide_eq_true_eq]; exact c4
                clear hlt hj h60 hj1 hb2 hr hc ho hp hn hlen
                go_wp2_with fail
                go_ret
                exact HFAL.out _ HX2.out
              · have c4' : decide (n ≤ 1048576) = false := by simp only [decide_eq_false_iff_not]; exact c4
                have HN := Lib.hid (HNX.out (by omega))
                clear hlt hj h60 hj1 hb2 hr hc ho hp hn hlen
                go_wp2_with fail
                go_roundw
                case rel => exact ⟨j1, by have := HJ1.out; omega, rfl, HN, HX2⟩
                case measure => simp [intOf]; have := HJ1.out; omega
            · have c3' : decide (5000 < n) = false := by simp only [decide_eq_false_iff_not]; exact c3
              have HN := Lib.hid (HNX.out (by omega))
              clear hlt hj h60 hj1 hb2 hr hc ho hp hn hlen
              go_wp2_with fail
              go_roundw
              case rel => exact ⟨j1, by have := HJ1.out; omega, rfl, HN, HX2⟩
              case measure => simp [intOf]; have := HJ1.out; omega
      · obtain rfl : j = len := by omega
        have hji : ¬ (j : Int) < (j : Int) := by omega
        have HE : Hid (FwPost w os (.returned (.bool true)) wr) := Lib.hid ⟨true, rfl, fun _ => ⟨fun o ho => by
          obtain ⟨i, hi, rfl⟩ := List.getElem_of_mem ho
          have := HS.out i (by rw [HL.out] at hi; exact hi)
          rwa [getD_at hi] at this, by have := HL.out; omega⟩, HX.out⟩
        clear hlt hj h60
        go_wp2_with fail
        go_ret
        exact HE.out
end Go.Proofs.Ytoaahhgngelnaaa
