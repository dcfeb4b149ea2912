/-
  What the law's plays returns of a script: all answers are the document's; the disk, and the document's, behind it. Condition: no more than 60 sectors, no more than 200 calls.
-/
import Derived.Test.YtogofgfdkkjnlaaRDo
import Derived.Test.YtogofgfdkkjnlaaDoes
import Derived.BigQuiet
import Derived.Laws.StructEq
namespace Go.Proofs.Ytogofgfdkkjnlaa
open Go.ChangeShapes Go.WideShapes Go.ChangeAt Go.RowKit

/-- A call of a script. -/
structure Opr where
  k : Int
  n : Int
  t : Int
  b : List Int
def op0 : Opr := ⟨0, 0, 0, []⟩
/-- Memory below a block holds a script. -/
def OReads (w : World) (B : Nat) (ad : Option Addr) (len : Nat) (os : List Opr) : Prop :=
  os.length = len ∧ (0 < len → ∃ b off, ad = some ⟨b, off, none⟩ ∧ b < B ∧ ∀ i, i < len →
    w.cell? ⟨b, off + i * 4, none⟩ = some (.int .i64 (os.getD i op0).k) ∧ w.cell? ⟨b, off + i * 4 + 1, none⟩ = some (.int .i64 (os.getD i op0).n) ∧ w.cell? ⟨b, off + i * 4 + 2, none⟩ = some (.int .i64 (os.getD i op0).t) ∧
    (∃ A l c, w.cell? ⟨b, off + i * 4 + 3, none⟩ = some (.slice A l c) ∧ Reads w A l (os.getD i op0).b ∧ Under B A l) ∧ (os.getD i op0).n ≤ 9223372036854775807)
theorem OReads.kept {w w' : World} {B : Nat} {ad : Option Addr} {len : Nat} {os : List Opr} (h : OReads w B ad len os) (hb : Below B w w') : OReads w' B ad len os := by
  refine ⟨h.1, fun hl => ?_⟩
  obtain ⟨b, off, e, hlt, hc⟩ := h.2 hl
  refine ⟨b, off, e, hlt, fun i hi => ?_⟩
  obtain ⟨h0, h1, h2, ⟨A, l, c, h3, h4, h5⟩, h6⟩ := hc i hi
  have k : ∀ o u, w.cell? ⟨b, o, none⟩ = some u → w'.cell? ⟨b, o, none⟩ = some u := fun o u hx => (hb.cell (p := ⟨b, o, none⟩) hlt).trans hx
  exact ⟨k _ _ h0, k _ _ h1, k _ _ h2, ⟨A, l, c, k _ _ h3, h4.keptAt h5 hb, h5⟩, h6⟩
def stepD (D : Dk) (o : Opr) : Dk := (doD D o.k o.n o.t o.b).1
def runD (D : Dk) (os : List Opr) : Dk := os.foldl stepD D
theorem run_next {D : Dk} {os : List Opr} {i : Nat} (h : i < os.length) : runD D (os.take (i + 1)) = stepD (runD D (os.take i)) (os.getD i op0) := by
  rw [List.take_succ_eq_append_getElem h, getD_eq _ h, runD, List.foldl_append]; rfl
/-- What the loop keeps. -/
structure PlIn (w : World) (n : Nat) (os : List Opr) (b8 k p : Nat) (fv wv : Value) (D : Dk) (wr : World) : Prop where
  b5 : wr.heap[w.heap.size]? = some (.cells #[.slice none 0 0, .slice none 0 0, .int .i64 0, .bool false] 28 (0, 0))
  b8 : wr.heap[b8]? = some (.cells #[fv, wv, .int .i64 D.armed, .bool D.dead] 28 (0, 0))
  pd : PDisk wr w.heap.size p D
  rd : RDisk wr w.heap.size fv wv D
  run : D = runD (newD n) (os.take k)
  ok : Dok D
  firm : D.firm.length = n
  wait : D.wait.length ≤ k
  below : Below w.heap.size w wr
def PRel (w : World) (n len : Nat) (os : List Opr) (b8 : Nat) (vd vi : Value) (wr : World) : Prop :=
  ∃ k p fv wv D, k ≤ len ∧ vi = .int .i64 (k : Int) ∧ vd = .pointer (some ⟨p, 0, none⟩) ∧ PlIn w n os b8 k p fv wv D wr
/-- What plays leaves. -/
def PlPost (w : World) (n : Nat) (os : List Opr) (e : Ending) (w' : World) : Prop :=
  ∃ p Af cf Aw cw D, e = .returned (.tuple #[.pointer (some ⟨p, 0, none⟩), .agg #[.slice Af D.firm.length cf, .slice Aw D.wait.length cw, .int .i64 D.armed, .bool D.dead], .bool true]) ∧ D = runD (newD n) os ∧ PDisk w' w.heap.size p D ∧ RDisk w' w.heap.size (.slice Af D.firm.length cf) (.slice Aw D.wait.length cw) D ∧ Dok D ∧ D.firm.length = n ∧ D.wait.length ≤ os.length ∧ Below w.heap.size w w'
theorem PlIn.size {w wr : World} {n : Nat} {os : List Opr} {b8 k p : Nat} {fv wv : Value} {D : Dk} (h : PlIn w n os b8 k p fv wv D wr) : w.heap.size ≤ wr.heap.size := h.below.size
theorem start_in {w w2 w3 : World} {n p : Nat} {Af : Option Addr} {cf : Nat} (os : List Opr) (hp : PDisk w2 (w.alloc (.cells #[.slice none 0 0, .slice none 0 0, .int .i64 0, .bool false] 28)).heap.size p (newD n)) (hb2 : Below (w.alloc (.cells #[.slice none 0 0, .slice none 0 0, .int .i64 0, .bool false] 28)).heap.size (w.alloc (.cells #[.slice none 0 0, .slice none 0 0, .int .i64 0, .bool false] 28)) w2)
    (hr : RDisk w3 w2.heap.size (.slice Af n cf) (.slice none 0 0) (newD n)) (hb3 : Below w2.heap.size w2 w3) :
    PlIn w n os w3.heap.size 0 p (.slice Af n cf) (.slice none 0 0) (newD n) (w3.alloc (.cells #[.slice Af n cf, .slice none 0 0, .int .i64 0, .bool false] 28)) := by
  have hs : (w.alloc (.cells #[.slice none 0 0, .slice none 0 0, .int .i64 0, .bool false] 28)).heap.size = w.heap.size + 1 := by simp
  rw [hs] at hp hb2
  have h2 := hb2.size
  simp at h2
  have hb4 : Below w3.heap.size w3 (w3.alloc (.cells #[.slice Af n cf, .slice none 0 0, .int .i64 0, .bool false] 28)) := box_below _ _
  have h3 := hb3.size
  have e5 : w3.heap[w.heap.size]? = some (.cells #[.slice none 0 0, .slice none 0 0, .int .i64 0, .bool false] 28 (0, 0)) := (hb3.block _ (by omega)).trans ((hb2.block _ (by omega)).trans (new_block w _))
  exact ⟨(hb4.block _ (by omega)).trans e5, new_block _ _, ((hp.kept hb3).kept hb4).mono (by omega), ⟨own_base (hr.kept hb4).firm (by omega), own_base (hr.kept hb4).wait (by omega)⟩, rfl, new_ok n, by simp [newD], by simp [newD],
    (((box_below w _).trans (hb2.mono (by omega))).trans (hb3.mono (by omega))).trans (hb4.mono (by omega))⟩
theorem results_tct {fn : Func} {p q r : Tmp} (h : fn.results = #[.tmp p, .cell q 28, .tmp r]) (tmps : Array Value) (w : World) (g2 : Nat) (v u : Value) (c2 : Array Value)
    (hp : tmps.getD p undef = v) (hq : tmps.getD q undef = .pointer (some ⟨g2, 0, none⟩)) (hr : tmps.getD r undef = u) (h2 : w.heap[g2]? = some (.cells c2 28 (0, 0))) (hc2 : c2.size = 4) :
    (results fn tmps).run Try.prog w = .ok (.tuple #[v, .agg c2, u]) w := by
  have hp' : tmps[p]?.getD undef = v := by simpa using hp
  have hq' : tmps[q]?.getD undef = .pointer (some ⟨g2, 0, none⟩) := by simpa using hq
  have hr' : tmps[r]?.getD undef = u := by simpa using hr
  have r2 := run_loadVar_row (P := Try.prog) w g2 28 28 c2 (0, 0) _ h2 Try.underlying28 rfl (by rw [hc2]; kernel_rfl)
  simp [results, h, hp', hq', hr', asAddr, r2]
theorem pl_end {w wr ws : World} {n b8 k p len : Nat} {os : List Opr} {Af Aw : Option Addr} {cf cw : Nat} {D : Dk} {C : Array Value} (hin : PlIn w n os b8 k p (.slice Af D.firm.length cf) (.slice Aw D.wait.length cw) D wr) (hL : os.length = len) (hk : k ≤ len) (hlt : ¬ k < len)
    (hs : ws.heap[w.heap.size]? = some (.cells C 28 (0, 0)) ∧ (∀ j, j ≠ w.heap.size → ws.heap[j]? = wr.heap[j]?) ∧ ∀ B, B ≤ w.heap.size → Below B wr ws) :
    PlPost w n os (.returned (.tuple #[.pointer (some ⟨p, 0, none⟩), .agg #[.slice Af D.firm.length cf, .slice Aw D.wait.length cw, .int .i64 D.armed, .bool D.dead], .bool true])) ws.drew := by
  have htag : ∀ (j : Nat) (cs : Array Value) (t : TypeId) (fr : Nat × Nat), wr.heap[j]? = some (.cells cs t fr) → t ≠ 28 → ws.heap[j]? = some (.cells cs t fr) := fun j cs t fr hj ht => by
    rw [hs.2.1 j (fun e => ?_)]
    · exact hj
    · subst e; rw [hin.b5] at hj; injection hj with hj; injection hj with _ e _; exact ht e.symm
  have hb : Below ws.heap.size ws ws.drew := (Below.refl _ _).drew
  refine ⟨p, Af, cf, Aw, cw, D, rfl, ?_, ?_, ?_, hin.ok, hin.firm, ?_, (hin.below.trans (hs.2.2 _ (Nat.le_refl _))).drew⟩
  · rw [hin.run, List.take_of_length_le (by omega)]
  · exact ((hin.pd.tags fun j cs t fr hj ht => htag j cs t fr hj (by rcases ht with rfl | rfl | rfl <;> decide))).kept hb
  · exact (hin.rd.tags fun j cs t fr hj ht => htag j cs t fr hj (by rcases ht with rfl | rfl <;> decide)).kept hb
  · have := hin.wait; omega
/-- Between the document's call and the program's. -/
structure PlMid (w wr : World) (b8 bo bt p : Nat) (D D4 : Dk) (fv wv : Value) (C : Array Value) (S : ByteArray) (er : Int) (w5 : World) : Prop where
  b5 : w5.heap[w.heap.size]? = some (.cells #[.slice none 0 0, .slice none 0 0, .int .i64 0, .bool false] 28 (0, 0))
  b8 : w5.heap[b8]? = some (.cells #[fv, wv, .int .i64 D4.armed, .bool D4.dead] 28 (0, 0))
  bo : w5.heap[bo]? = some (.cells C 46 (0, 0))
  bt : w5.heap[bt]? = some (.cells #[.string S, .int .i64 er] 48 (0, 0))
  pd : PDisk w5 w.heap.size p D
  rd : RDisk w5 w.heap.size fv wv D4
  below : Below w.heap.size w w5
  bwr : Below w.heap.size wr w5
theorem pl_mid {w wr w4 : World} {n k p b8 : Nat} {os : List Opr} {fv wv fv4 wv4 : Value} {D D4 : Dk} {C : Array Value} {S : ByteArray} {er : Int} (hin : PlIn w n os b8 k p fv wv D wr) (hle : w.heap.size < b8) (hr4 : RDisk w4 w.heap.size fv4 wv4 D4) (hb4 : Below (wr.alloc (.cells C 46)).heap.size (wr.alloc (.cells C 46)) w4)
    (hx8 : w4.heap[b8]? = some (.cells #[fv, wv, .int .i64 D.armed, .bool D.dead] 28 (0, 0))) :
    PlMid w wr b8 wr.heap.size (w4.heap.size + 1) p D D4 fv4 wv4 C S er ((((((w4.setCell ⟨b8, 0, none⟩ fv4).setCell ⟨b8, 1, none⟩ wv4).setCell ⟨b8, 2, none⟩ (.int .i64 D4.armed)).setCell ⟨b8, 3, none⟩ (.bool D4.dead)).alloc (.cells #[fv4, wv4, .int .i64 D4.armed, .bool D4.dead] 28)).alloc (.cells #[.string S, .int .i64 er] 48)) := by
  have s := set4 hx8 fv4 wv4 (.int .i64 D4.armed) (.bool D4.dead)
  obtain ⟨ws, hws⟩ : ∃ ws, ws = (((w4.setCell ⟨b8, 0, none⟩ fv4).setCell ⟨b8, 1, none⟩ wv4).setCell ⟨b8, 2, none⟩ (.int .i64 D4.armed)).setCell ⟨b8, 3, none⟩ (.bool D4.dead) := ⟨_, rfl⟩
  rw [← hws] at s ⊢
  have hsz : ws.heap.size = w4.heap.size := by rw [hws]; simp
  have hba : Below wr.heap.size wr (wr.alloc (.cells C 46)) := box_below _ _
  have hs1 : (wr.alloc (.cells C 46)).heap.size = wr.heap.size + 1 := by simp
  rw [hs1] at hb4
  have hbw : Below wr.heap.size wr w4 := hba.trans (hb4.mono (by omega))
  have h8 := lt_of_block hin.b8
  have h5 := lt_of_block hin.b5
  have e5 : w4.heap[w.heap.size]? = _ := (hbw.block _ h5).trans hin.b5
  have eo : w4.heap[wr.heap.size]? = some (.cells C 46 (0, 0)) := (hb4.block _ (by omega)).trans (new_block wr _)
  have l4 := hb4.size
  have hbb : Below ws.heap.size ws ((ws.alloc (.cells #[fv4, wv4, .int .i64 D4.armed, .bool D4.dead] 28)).alloc (.cells #[.string S, .int .i64 er] 48)) := (box_below _ _).alloc (by simp) _
  have ht : ((ws.alloc (.cells #[fv4, wv4, .int .i64 D4.armed, .bool D4.dead] 28)).alloc (.cells #[.string S, .int .i64 er] 48)).heap[w4.heap.size + 1]? = some (.cells #[.string S, .int .i64 er] 48 (0, 0)) := by
    rw [← hsz]; exact (two_boxes' ws _ _ 28 48).2
  have htag : ∀ (j : Nat) (cs : Array Value) (t : TypeId) (fr : Nat × Nat), w4.heap[j]? = some (.cells cs t fr) → t ≠ 28 → ws.heap[j]? = some (.cells cs t fr) := fun j cs t fr hj ht => by
    rw [s.2.1 j (fun e => ?_)]
    · exact hj
    · subst e; rw [hx8] at hj; injection hj with hj; injection hj with _ e _; exact ht e.symm
  have hwr : Below w.heap.size wr ((ws.alloc (.cells #[fv4, wv4, .int .i64 D4.armed, .bool D4.dead] 28)).alloc (.cells #[.string S, .int .i64 er] 48)) := (hbw.mono hin.size).trans ((s.2.2 _ (by omega)).trans (hbb.mono (by have := hin.size; omega)))
  refine ⟨(hbb.block _ (by omega)).trans ((s.2.1 _ (by omega)).trans e5), (hbb.block _ (by omega)).trans s.1, (hbb.block _ (by omega)).trans (htag _ _ _ _ eo (by decide)), ht, ?_, ?_, hin.below.trans hwr, hwr⟩
  · exact (((hin.pd.kept hbw).tags fun j cs t fr hj ht => htag j cs t fr hj (by rcases ht with rfl | rfl | rfl <;> decide))).kept hbb
  · exact (hr4.tags fun j cs t fr hj ht => htag j cs t fr hj (by rcases ht with rfl | rfl <;> decide)).kept hbb
set_option maxRecDepth 100000 in
set_option maxHeartbeats 4000000 in
theorem plays_any (many : Int) (n : Nat) (ad : Option Addr) (len cap : Nat) (os : List Opr) (w : World) (hO : OReads w w.heap.size ad len os) (hn : n ≤ 60) (h : (many < 0 ∧ n = 0) ∨ many = (n : Int)) (hl : len ≤ 200) :
    Calls Try.prog 10 #[.int .i64 many, .slice ad len cap] w (PlPost w n os) := by
  have HO := Lib.hid hO
  have HM := Lib.hid h
  have HL : Hid (os.length = len) := Lib.hid hO.1
  clear hO h
  go_enter Try.func10, Try.ntmps10
  go_wp2_with fail
  refine (new_any many n _ hn HM.out).mono ?_
  rintro e w2 ⟨p, rfl, hp2, hb2⟩
  have HP2 := Lib.hid hp2
  have HB2 := Lib.hid hb2
  clear hp2 hb2
  go_wp2_with fail
  refine (rnew_any many n _ hn HM.out).mono ?_
  rintro e w3 ⟨Af, cf, rfl, hr3, hb3⟩
  have HST := Lib.hid (start_in os HP2.out HB2.out hr3 hb3)
  have hgt : w.heap.size < w3.heap.size := by have h1 := HB2.out.size; have h2 := hb3.size; simp at h1; omega
  clear hr3 hb3
  go_wp2
  go_loopw [7, 24] (fun vd vi wr => PRel w n len os w3.heap.size vd vi wr) (fun _ vi _ => len - (intOf vi).toNat)
  case atStart => exact ⟨0, p, _, _, newD n, Nat.zero_le _, rfl, rfl, HST.out⟩
  case round =>
    obtain ⟨k, p, fv, wv, D, hk, rfl, rfl, hin⟩ := hrel
    have HIN := Lib.hid hin
    obtain ⟨Af, cf, rfl, -, -, -⟩ := own_form hin.rd.firm
    obtain ⟨Aw, cw, rfl, -, -, -⟩ := own_form hin.rd.wait
    by_cases hlt : k < len
    · obtain ⟨b, off, rfl, hbB, hc⟩ := (HO.out.kept hin.below).2 (by omega)
      obtain ⟨o, ho⟩ : ∃ o, o = os.getD k op0 := ⟨_, rfl⟩
      have hck := hc k hlt
      rw [← ho] at hck
      obtain ⟨s0, s1, s2, ⟨A, l, c, s3, hrd, hun⟩, hnb⟩ := hck
      have HRD := Lib.hid hrd
      have HUN := Lib.hid hun
      have HNB := Lib.hid hnb
      have HOE := Lib.hid ho
      obtain ⟨ok, on, ot, ob⟩ := o
      simp only at s0 s1 s2 HRD HNB
      have hba : Below wr.heap.size wr (wr.alloc (.cells #[.int .i64 ok, .int .i64 on, .int .i64 ot, .slice A l c] 46)) := box_below _ _
      have hb8 := lt_of_block hin.b8
      have e8 := (hba.block _ hb8).trans hin.b8
      have e0 := cell_of e8 (j := 0) rfl
      have e1 := cell_of e8 (j := 1) rfl
      have e2 := cell_of e8 (j := 2) rfl
      have e3 := cell_of e8 (j := 3) rfl
      have HDO := Lib.hid (rdo_any w.heap.size _ _ D ok on ot A l c ob _ (hin.rd.kept hba) (by have := hin.size; simp; omega) hin.ok (by rw [hin.firm]; omega) (by have := hin.wait; omega) (hrd.kept hba))
      have hk0 : (0 : Int) ≤ (k : Int) := by omega
      have hk1 : (k : Int) < (len : Int) := by omega
      clear hin hc ho hrd hun hnb hba e8 hbB
      go_wp2_with fail
      refine HDO.out.mono ?_
      rintro e w4 ⟨Af4, cf4, Aw4, cw4, rfl, hr4, hb4⟩
      obtain ⟨D4, hD4⟩ : ∃ D4, D4 = (doD D ok on ot ob).1 := ⟨_, rfl⟩
      obtain ⟨S, hS⟩ : ∃ S, S = strOfNums (doD D ok on ot ob).2.1 := ⟨_, rfl⟩
      obtain ⟨er, her⟩ : ∃ er, er = (doD D ok on ot ob).2.2 := ⟨_, rfl⟩
      rw [← hD4] at hr4
      rw [← hD4, ← hS, ← her]
      have HD4 := Lib.hid hD4
      have HS := Lib.hid hS
      have HER := Lib.hid her
      have HR4 := Lib.hid hr4
      have HB4 := Lib.hid hb4
      have hx8 : w4.heap[w3.heap.size]? = some (.cells #[.slice Af D.firm.length cf, .slice Aw D.wait.length cw, .int .i64 D.armed, .bool D.dead] 28 (0, 0)) := (hb4.block _ (by have := lt_of_block HIN.out.b8; simp; omega)).trans ((Below.heap_alloc _ _ _ (lt_of_block HIN.out.b8)).trans HIN.out.b8)
      have HX8 := Lib.hid hx8
      have x0 := cell_of hx8 (j := 0) rfl
      have x1 := cell_of hx8 (j := 1) rfl
      have x2 := cell_of hx8 (j := 2) rfl
      have x3 := cell_of hx8 (j := 3) rfl
      have xf0 := frozen_of_row _ w3.heap.size 0 _ _ hx8
      have xf1 := frozen_of_row _ w3.heap.size 1 _ _ hx8
      have xf2 := frozen_of_row _ w3.heap.size 2 _ _ hx8
      have xf3 := frozen_of_row _ w3.heap.size 3 _ _ hx8
      have hxl := lt_of_block hx8
      clear hD4 hS her hr4 hb4 hx8 e0 e1 e2 e3
      go_upto_region 9 with fail
      have HMID := Lib.hid (pl_mid (S := S) (er := er) HIN.out hgt HR4.out HB4.out HX8.out)
      obtain ⟨w5, hw5⟩ : ∃ w5, w5 = ((((((w4.setCell ⟨w3.heap.size, 0, none⟩ (.slice Af4 D4.firm.length cf4)).setCell ⟨w3.heap.size, 1, none⟩ (.slice Aw4 D4.wait.length cw4)).setCell ⟨w3.heap.size, 2, none⟩ (.int .i64 D4.armed)).setCell ⟨w3.heap.size, 3, none⟩ (.bool D4.dead)).alloc (.cells #[.slice Af4 D4.firm.length cf4, .slice Aw4 D4.wait.length cw4, .int .i64 D4.armed, .bool D4.dead] 28)).alloc (.cells #[.string S, .int .i64 er] 48)) := ⟨_, rfl⟩
      rw [← hw5] at HMID ⊢
      clear hw5 x0 x1 x2 x3 xf0 xf1 xf2 xf3 hxl s0 s1 s2 s3
      have m0 := cell_of HMID.out.bo (j := 0) rfl
      have m1 := cell_of HMID.out.bo (j := 1) rfl
      have m2 := cell_of HMID.out.bo (j := 2) rfl
      have m3 := cell_of HMID.out.bo (j := 3) rfl
      have HDS := Lib.hid (does_any w.heap.size p D ok on ot A l c ob w5 HMID.out.pd HMID.out.below.size (by rw [HIN.out.firm]; omega) (by have := HIN.out.wait; omega) HNB.out (fun w' hk => HRD.out.keptAt HUN.out (HMID.out.bwr.trans hk.below)))
      go_wp2_with fail
      refine HDS.out.mono ?_
      rintro e w6 ⟨p2, rfl, hp6, hk6⟩
      rw [← HD4.out] at hp6
      rw [← HS.out, ← HER.out]
      have HP7 := Lib.hid (hp6.kept (box_below w6 (.cells #[.string S, .int .i64 er] 48)))
      have hb67 := box_below w6 (.cells #[.string S, .int .i64 er] 48)
      have hT7 := (hb67.block _ (lt_of_block (hk6.tag _ _ _ _ HMID.out.bt (by decide) (by decide) (by decide)))).trans (hk6.tag _ _ _ _ HMID.out.bt (by decide) (by decide) (by decide))
      have h87 := (hb67.block _ (lt_of_block (hk6.tag _ _ _ _ HMID.out.b8 (by decide) (by decide) (by decide)))).trans (hk6.tag _ _ _ _ HMID.out.b8 (by decide) (by decide) (by decide))
      have h57 := (hb67.block _ (lt_of_block (hk6.tag _ _ _ _ HMID.out.b5 (by decide) (by decide) (by decide)))).trans (hk6.tag _ _ _ _ HMID.out.b5 (by decide) (by decide) (by decide))
      have HNX : Hid (∀ q : Nat, PRel w n len os w3.heap.size (.pointer (some ⟨p2, 0, none⟩)) (.int .i64 ((k : Int) + 1)) ((w6.alloc (.cells #[.string S, .int .i64 er] 48)).drewN q)) := Lib.hid (fun q =>
        ⟨k + 1, p2, _, _, D4, by omega, by go_num, rfl, h57, h87, HP7.out.kept (below_drewN (Below.refl _ _) q), ((HMID.out.rd.kp hk6).kept hb67).kept (below_drewN (Below.refl _ _) q),
          by rw [run_next (by rw [HL.out]; exact hlt), ← HOE.out, ← HIN.out.run]; exact HD4.out,
          by rw [HD4.out]; exact do_ok HIN.out.ok HRD.out.bys HNB.out, by rw [HD4.out, do_len]; exact HIN.out.firm, by rw [HD4.out]; exact Nat.le_trans (do_wait _ _ _ _ _) (by have := HIN.out.wait; omega),
          below_drewN ((HMID.out.below.trans hk6.below).trans (hb67.mono (Nat.le_trans HMID.out.below.size hk6.below.size))) q⟩)
      have t0 := cell_of hT7 (j := 0) rfl
      have t1 := cell_of hT7 (j := 1) rfl
      have v0 := cell_of h87 (j := 0) rfl
      have v1 := cell_of h87 (j := 1) rfl
      have v3 := cell_of h87 (j := 3) rfl
      have n0 := cell_of (new_block w6 (.cells #[.string S, .int .i64 er] 48)) (j := 0) rfl
      have n1 := cell_of (new_block w6 (.cells #[.string S, .int .i64 er] 48)) (j := 1) rfl
      obtain ⟨d4, hd4⟩ : ∃ d4, d4 = D4.dead := ⟨_, rfl⟩
      have HQ1 : Hid (∀ q : Nat, Calls Try.prog 12 #[.pointer (some ⟨p2, 0, none⟩)] ((w6.alloc (.cells #[.string S, .int .i64 er] 48)).drewN q) fun e w' => e = .returned (.bool d4) ∧ w' = (w6.alloc (.cells #[.string S, .int .i64 er] 48)).drewN q) := Lib.hid (fun q => by
        rw [hd4]; exact (dead_any w.heap.size p2 D4 _ (HP7.out.kept (below_drewN (Below.refl _ _) q))).mono fun _ _ ⟨h1, h2⟩ => ⟨h1, h2.symm⟩)
      have HQ2 : Hid (∀ q : Nat, Calls Try.prog 13 #[.pointer (some ⟨p2, 0, none⟩)] ((w6.alloc (.cells #[.string S, .int .i64 er] 48)).drewN q) fun e w' => e = .returned (.int .i64 (D4.wait.length : Int)) ∧ w' = (w6.alloc (.cells #[.string S, .int .i64 er] 48)).drewN q) := Lib.hid (fun q =>
        (pending_any w.heap.size p2 D4 _ (HP7.out.kept (below_drewN (Below.refl _ _) q))).mono fun _ _ ⟨h1, h2⟩ => ⟨h1, h2.symm⟩)
      have HQ3 : Hid (∀ q : Nat, Calls Try.prog 25 #[.pointer (some ⟨p2, 0, none⟩)] ((w6.alloc (.cells #[.string S, .int .i64 er] 48)).drewN q) fun e w' => e = .returned (.int .i64 (D4.firm.length : Int)) ∧ w' = (w6.alloc (.cells #[.string S, .int .i64 er] 48)).drewN q) := Lib.hid (fun q =>
        (many_any w.heap.size p2 D4 _ (HP7.out.kept (below_drewN (Below.refl _ _) q))).mono fun _ _ ⟨h1, h2⟩ => ⟨h1, h2.symm⟩)
      rw [← hd4] at v3
      clear hp6 hk6 hb67 hT7 h87 h57 m0 m1 m2 m3 hd4
      go_wp2
      go_quiet ((first | (go_at_call 12; exact Calls.quiet_of_same (HQ1.out _)) | (go_at_call 13; exact Calls.quiet_of_same (HQ2.out _)) | (go_at_call 25; exact Calls.quiet_of_same (HQ3.out _))))
      go_wp2
      go_roundw
      case rel => exact HNX.out _
      case measure => simp [intOf] <;> omega
    · have hk1 : ¬ (k : Int) < (len : Int) := by omega
      have hb8 := lt_of_block hin.b8
      have hb5 := lt_of_block hin.b5
      have e0 := cell_of hin.b8 (j := 0) rfl
      have e1 := cell_of hin.b8 (j := 1) rfl
      have e2 := cell_of hin.b8 (j := 2) rfl
      have e3 := cell_of hin.b8 (j := 3) rfl
      have y0 := cell_of hin.b5 (j := 0) rfl
      have y1 := cell_of hin.b5 (j := 1) rfl
      have y2 := cell_of hin.b5 (j := 2) rfl
      have y3 := cell_of hin.b5 (j := 3) rfl
      have yf0 := frozen_of_row _ w.heap.size 0 _ _ hin.b5
      have yf1 := frozen_of_row _ w.heap.size 1 _ _ hin.b5
      have yf2 := frozen_of_row _ w.heap.size 2 _ _ hin.b5
      have yf3 := frozen_of_row _ w.heap.size 3 _ _ hin.b5
      have S := set4 hin.b5 (.slice Af D.firm.length cf) (.slice Aw D.wait.length cw) (.int .i64 D.armed) (.bool D.dead)
      have HS5 := Lib.hid S
      clear hin S
      go_wp2
      go_region
      simp only [Exit.then]
      rename_i hKK
      refine hKK _ _ ?_
      clear hKK
      go_wp2
      (try simp only [Exit.inBlock, Exit.then])
      refine bodyPost_ret (v := .tuple #[.pointer (some ⟨p, 0, none⟩), .agg #[.slice Af D.firm.length cf, .slice Aw D.wait.length cw, .int .i64 D.armed, .bool D.dead], .bool true]) (results_tct rfl _ _ w.heap.size _ _ _ rfl rfl rfl (by exact HS5.out.1) rfl) rfl ?_
      exact pl_end HIN.out HL.out hk hlt HS5.out
end Go.Proofs.Ytogofgfdkkjnlaa
