/-
  What the laws CratePuts and CrateGets return of a slice of bytes that reads: true, and older memory is as it was. Condition: the table's cells hold what its initialiser lays.
-/
import Derived.Test.YtkellgofdfpjpaaDoorAlive
namespace Go.Proofs.YtkellgofdfpjpaaDoor
open Go.ChangeShapes Go.WideShapes Go.ChangeAt Go.RowKit Go.Proofs.Crc

set_option maxHeartbeats 400000 in
theorem law_puts (ad : Option Addr) (len cap : Nat) (zs : List Int) (w : World) (hR : Reads w ad len zs) (hT : Table w) (hm : len ≤ 9223372036854775807) :
    Calls Tryd.prog 3 #[.slice ad len cap] w fun e w' => e = .returned (.bool true) ∧ Below w.heap.size w w' := by
  have HR := Lib.hid hR
  have HT := Lib.hid hT
  clear hR hT
  go_enter Tryd.func3, Tryd.ntmps3
  go_wp2_with fail
  refine (put_any ad len cap zs w HR.out HT.out).mono ?_
  rintro e w1 ⟨A, n, c, rfl, h1, -, -, hb1⟩
  have HB1 := Lib.hid hb1
  have H1 := Lib.hid h1
  clear h1 hb1
  go_wp2_with fail
  refine (rput_any ad len cap zs w1 (HR.out.kept HB1.out) hm).mono ?_
  rintro e w2 ⟨A2, n2, c2, rfl, h2, -, -, hb2⟩
  have HB2 := Lib.hid (HB1.out.trans (hb2.mono HB1.out.size))
  have H12 := Lib.hid (H1.out.kept hb2)
  have H2 := Lib.hid h2
  clear h2 hb2
  go_wp2_with fail
  refine (alive_any w2 (HT.out.kept HB2.out)).mono ?_
  rintro e w3 ⟨rfl, hb3⟩
  have HB3 := Lib.hid (HB2.out.trans (hb3.mono HB2.out.size))
  have d1 := conv_reads (c := c) (H12.out.kept hb3)
  have d2 := conv_reads (c := c2) (H2.out.kept hb3)
  obtain ⟨S, hS⟩ : ∃ S, S = strOfNums (putB zs) := ⟨_, rfl⟩
  obtain ⟨er, hE⟩ : ∃ er, er = putE zs := ⟨_, rfl⟩
  rw [← hS] at d1 d2
  rw [← hE]
  clear hS hE hb3
  go_wp2
  go_ret
  exact ⟨rfl, HB3.out⟩
/-- What either Get leaves: a slice that reads, two numbers. -/
def gB (zs : List Int) : List Int := match gt zs with | .bad _ => [] | .good m => bod zs m
def gN (zs : List Int) : Int := match gt zs with | .bad _ => 0 | .good m => (m : Int) + 12
def gE (zs : List Int) : Int := match gt zs with | .bad e => e | .good _ => 0
theorem got_any {w w' : World} {zs : List Int} {e : Ending} (hB : Bys zs) (h : GotPost w zs e w') : ∃ (A : Option Addr) (n c : Nat), e = .returned (.tuple #[.slice A n c, .int .i64 (gN zs), .int .i64 (gE zs)]) ∧ Reads w' A n (gB zs) ∧ Below w.heap.size w w' := by
  cases hg : gt zs with
  | bad er =>
    obtain ⟨rfl, hb⟩ := h.1 er hg
    exact ⟨none, 0, 0, by simp [gN, gE, hg], by simp only [gB, hg]; exact reads_none _, hb⟩
  | good m =>
    obtain ⟨v, rfl, ho, hb⟩ := h.2 m hg
    obtain ⟨A, c, rfl, h1, -, -⟩ := own_reads ho (bod_bys m hB)
    exact ⟨A, m, c, by simp [gN, gE, hg], by simp only [gB, hg]; exact h1, hb⟩
theorem rgot_any {w w' : World} {zs : List Int} {e : Ending} (h : RGotPost w zs e w') : ∃ (A : Option Addr) (n c : Nat), e = .returned (.tuple #[.slice A n c, .int .i64 (gN zs), .int .i64 (gE zs)]) ∧ Reads w' A n (gB zs) ∧ Below w.heap.size w w' := by
  cases hg : gt zs with
  | bad er =>
    obtain ⟨rfl, hb⟩ := h.1 er hg
    exact ⟨none, 0, 0, by simp [gN, gE, hg], by simp only [gB, hg]; exact reads_none _, hb⟩
  | good m =>
    obtain ⟨A, c, rfl, h1, hb⟩ := h.2 m hg
    exact ⟨A, m, c, by simp [gN, gE, hg], by simp only [gB, hg]; exact h1, hb⟩
set_option maxHeartbeats 400000 in
theorem law_gets (ad : Option Addr) (len cap : Nat) (zs : List Int) (w : World) (hR : Reads w ad len zs) (hT : Table w) (hc : len ≤ cap) (hm : cap ≤ 9223372036854775807) :
    Calls Tryd.prog 4 #[.slice ad len cap] w fun e w' => e = .returned (.bool true) ∧ Below w.heap.size w w' := by
  have HR := Lib.hid hR
  have HT := Lib.hid hT
  clear hR hT
  go_enter Tryd.func4, Tryd.ntmps4
  go_wp2_with fail
  refine (get_any ad len cap zs w HR.out HT.out hc hm).mono ?_
  intro e w1 hg1
  obtain ⟨A, n, c, rfl, h1, hb1⟩ := got_any HR.out.bys hg1
  have HB1 := Lib.hid hb1
  have H1 := Lib.hid h1
  clear h1 hb1 hg1
  go_wp2_with fail
  refine (rget_any ad len cap zs w1 (HR.out.kept HB1.out) hc).mono ?_
  intro e w2 hg2
  obtain ⟨A2, n2, c2, rfl, h2, hb2⟩ := rgot_any hg2
  have HB2 := Lib.hid (HB1.out.trans (hb2.mono HB1.out.size))
  have H12 := Lib.hid (H1.out.kept hb2)
  have H2 := Lib.hid h2
  clear h2 hb2 hg2
  go_wp2_with fail
  refine (alive_any w2 (HT.out.kept HB2.out)).mono ?_
  rintro e w3 ⟨rfl, hb3⟩
  have HB3 := Lib.hid (HB2.out.trans (hb3.mono HB2.out.size))
  have d1 := conv_reads (c := c) (H12.out.kept hb3)
  have d2 := conv_reads (c := c2) (H2.out.kept hb3)
  obtain ⟨S, hS⟩ : ∃ S, S = strOfNums (gB zs) := ⟨_, rfl⟩
  obtain ⟨er, hE⟩ : ∃ er, er = gE zs := ⟨_, rfl⟩
  obtain ⟨nn, hN⟩ : ∃ nn, nn = gN zs := ⟨_, rfl⟩
  rw [← hS] at d1 d2
  rw [← hE, ← hN]
  clear hS hE hN hb3
  go_wp2
  go_ret
  exact ⟨rfl, HB3.out⟩
end Go.Proofs.YtkellgofdfpjpaaDoor
