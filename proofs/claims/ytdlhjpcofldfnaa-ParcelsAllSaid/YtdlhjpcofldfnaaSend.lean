/-
  What At and Send return and leave. Condition of Send: the message's ends are ints.
-/
import Derived.Test.YtdlhjpcofldfnaaSmall
import Derived.Deep.AppendLies
namespace Go.Proofs.Ytdlhjpcofldfnaa
set_option maxRecDepth 100000
open Go.ChangeShapes Go.WideShapes Go.ChangeAt Go.RowKit

/-- A message of the row. -/
theorem row_cells {w : World} {B g c : Nat} {L : List Pk} (h : w.ownsRow B 31 3 (.slice (some ⟨g, 0, none⟩) L.length c) L.length (pcells L)) (k : Nat) (hk : k < L.length) :
    w.cell? ⟨g, k * 3, none⟩ = some (.int .i64 (L.getD k pk0).f) ∧ w.cell? ⟨g, k * 3 + 1, none⟩ = some (.int .i64 (L.getD k pk0).t) ∧ w.cell? ⟨g, k * 3 + 2, none⟩ = some (.string (L.getD k pk0).b) := by
  have e : ∀ j, j < 3 → w.cell? ⟨g, k * 3 + j, none⟩ = (pcell (L.getD k pk0))[j]? := fun j hj => by
    have h1 := part_get pcell 3 L k hk (fun _ _ => rfl) j hj
    rw [getD_eq pk0 hk, ← h1]
    have hlt : k * 3 + j < (L.flatMap pcell).length := by rw [parts_length pcell 3 L (fun _ _ => rfl)]; omega
    rw [List.getElem?_eq_getElem hlt]
    exact own_cell h _ _ (List.getElem?_eq_getElem hlt)
  exact ⟨e 0 (by omega), e 1 (by omega), e 2 (by omega)⟩
def atL (L : List Pk) (k : Int) : Pk × Bool := if 0 ≤ k ∧ k < (L.length : Int) then (L.getD k.toNat pk0, true) else (pk0, false)
def AtPost (w : World) (L : List Pk) (k : Int) (e : Ending) (w' : World) : Prop := e = .returned (.tuple #[pv (atL L k).1, .bool (atL L k).2]) ∧ Below w.heap.size w w'
set_option maxHeartbeats 1000000 in
theorem at_any {w : World} {B np mb : Nat} {rv : Value} {L : List Pk} {ap : List (Int × Int)} (h : NetW w B np mb rv L ap) (k : Int) :
    Calls Try.prog 15 #[.pointer (some ⟨np, 0, none⟩), .int .i64 k] w (AtPost w L k) := by
  obtain ⟨A, c, rfl, -, -, hA⟩ := own_form h.row
  have c0 := cell_of h.here (j := 0) rfl
  have s1 : np < w.heap.size := h.lt.1
  by_cases hk : 0 ≤ k ∧ k < (L.length : Int)
  · obtain ⟨k, rfl⟩ : ∃ n : Nat, k = (n : Int) := ⟨k.toNat, by omega⟩
    have hkl : k < L.length := by omega
    obtain ⟨g, rfl⟩ := hA (by omega)
    have hrow := own_below h.row (box_below w (.cells #[.int .i64 0, .int .i64 0, .string ⟨#[]⟩] 31))
    obtain ⟨r0, r1, r2⟩ := row_cells hrow k hkl
    obtain ⟨x, hx⟩ : ∃ x, x = L.getD k pk0 := ⟨_, rfl⟩
    rw [← hx] at r0 r1 r2
    have d0 := (box_below w (.cells #[.int .i64 0, .int .i64 0, .string ⟨#[]⟩] 31)).cell (p := ⟨np, 0, none⟩) s1
    rw [c0] at d0
    have HP : Hid (pv (atL L (k : Int)).1 = .agg #[.int .i64 x.f, .int .i64 x.t, .string x.b] ∧ (atL L (k : Int)).2 = true) := Lib.hid (by
      unfold atL
      rw [if_pos hk, Int.toNat_natCast, ← hx]
      exact ⟨rfl, rfl⟩)
    have hk0 : (0 : Int) ≤ (k : Int) := by omega
    have hk1 : (k : Int) < (L.length : Int) := by omega
    clear h hk hA hrow hx c0
    go_enter Try.func15, Try.ntmps15
    go_wp2_with fail
    exact bodyPost_ret (v := .tuple #[.agg #[.int .i64 x.f, .int .i64 x.t, .string x.b], .bool true]) (by simp [results, Try.results15, go_sem]) rfl ⟨by rw [HP.out.1, HP.out.2], box_below w _⟩
  · have HP : Hid (pv (atL L k).1 = .agg #[.int .i64 0, .int .i64 0, .string ⟨#[]⟩] ∧ (atL L k).2 = false) := Lib.hid (by
      unfold atL
      rw [if_neg hk]
      exact ⟨rfl, rfl⟩)
    by_cases h0 : k < 0
    · clear h hk hA
      go_enter Try.func15, Try.ntmps15
      go_wp2_with fail
      exact bodyPost_ret (v := .tuple #[.agg #[.int .i64 0, .int .i64 0, .string ⟨#[]⟩], .bool false]) (by simp [results, Try.results15, go_sem]) rfl ⟨by rw [HP.out.1, HP.out.2], box_below w _⟩
    · have h1 : (L.length : Int) ≤ k := by omega
      have d0 := (box_below w (.cells #[.int .i64 0, .int .i64 0, .string ⟨#[]⟩] 31)).cell (p := ⟨np, 0, none⟩) s1
      rw [c0] at d0
      clear h hk hA c0
      go_enter Try.func15, Try.ntmps15
      go_wp2_with fail
      exact bodyPost_ret (v := .tuple #[.agg #[.int .i64 0, .int .i64 0, .string ⟨#[]⟩], .bool false]) (by simp [results, Try.results15, go_sem]) rfl ⟨by rw [HP.out.1, HP.out.2], box_below w _⟩
/-- A row is laid into the net. -/
theorem net_row {w w2 : World} {B np mb : Nat} {rv rv' : Value} {L L' : List Pk} {ap : List (Int × Int)} (h : NetW w B np mb rv L ap) (hr : w2.ownsRow B 31 3 rv' L'.length (pcells L')) (hg : w.grownBy w2 rv.ownBlock) (hn : ∀ k, rv'.ownBlock = some k → rv.ownBlock = some k ∨ w.heap.size ≤ k)
    (hok : ∀ x ∈ L', POk x) (hs : L'.length ≤ 2000) : NetW (w2.setCell ⟨np, 0, none⟩ rv') B np mb rv' L' ap ∧ Kn B np mb rv rv' w (w2.setCell ⟨np, 0, none⟩ rv') := by
  have h1 : w2.heap[np]? = some (.cells #[rv, .map (some mb)] 51 (0, 0)) := (hg.block np h.lt.1 (fun e => own_ne h.row h.here (by decide) e.symm)).trans h.here
  obtain ⟨n, D, m1, m2, m3⟩ := h.map
  obtain ⟨es, clock, hb, m4⟩ := m2
  have hne : rv.ownBlock ≠ some mb := fun e => by
    rcases h.row.2 with ⟨rfl, _⟩ | ⟨g, cap, cur, rfl, _, hg', _⟩
    · simp [Value.ownBlock] at e
    · simp only [Value.ownBlock, Option.some.injEq] at e
      subst e
      rw [hb] at hg'
      cases hg'
  have hnm : np ≠ mb := fun e => by
    have := h.here
    rw [e, hb] at this
    cases this
  have hmb : w2.heap[mb]? = some (.map es clock) := (hg.block mb h.lt.2 (fun e => hne e.symm)).trans hb
  have hs1 : (w2.setCell ⟨np, 0, none⟩ rv').heap[np]? = some (.cells #[rv', .map (some mb)] 51 (0, 0)) := heap_setCell_same w2 np 0 _ 51 _ h1
  have hso : ∀ k, k ≠ np → (w2.setCell ⟨np, 0, none⟩ rv').heap[k]? = w2.heap[k]? := fun k hk => Go.Deep.blk_setCell_other w2 _ _ k hk
  refine ⟨⟨hs1, h.baseN, h.baseM, ?_, ⟨n, D, m1, ⟨es, clock, (hso mb (Ne.symm hnm)).trans hmb, m4⟩, m3⟩, hok, hs, h.small.2⟩, ?_, fun k hk k1 k2 k3 => ?_, hn⟩
  · exact ownsRow_setCell_other hr (own_ne hr h1 (by decide)) _
  · have b1 : Below B w w2 := (Below.refl _ _).grown hg h.size (own_ge h.row)
    exact b1.setCell h.baseN _
  · exact (hso k k1).trans (hg.block k hk (fun e => k3 e.symm))
def canSend (L : List Pk) (ap : List (Int × Int)) (x : Pk) : Bool := decide (L.length < 2000 ∧ (min x.f x.t, max x.f x.t) ∉ ap)
def SdPost (B np mb : Nat) (rv : Value) (L : List Pk) (ap : List (Int × Int)) (x : Pk) (w : World) (e : Ending) (w' : World) : Prop :=
  e = .returned (.bool (canSend L ap x)) ∧ ∃ rv', NetW w' B np mb rv' (if canSend L ap x = true then L ++ [x] else L) ap ∧ Kn B np mb rv rv' w w'
theorem sd_no {B np mb : Nat} {rv : Value} {L : List Pk} {ap : List (Int × Int)} {x : Pk} {w w' : World} (h : NetW w B np mb rv L ap) (hc : canSend L ap x = false) (hb : Below w.heap.size w w') : SdPost B np mb rv L ap x w (.returned (.bool false)) w' :=
  ⟨by rw [hc], rv, by rw [hc]; exact h.kept hb, Kn.of_below hb h.size⟩
theorem send_end {w w2 w3 : World} {B np mb g cap c : Nat} {A : Option Addr} {L : List Pk} {ap : List (Int × Int)} {x : Pk} {X : Obj} (h : NetW w B np mb (.slice A L.length c) L ap) (hb : Below w.heap.size w w2) (hr : NetW (w2.drew.alloc X) B np mb (.slice A L.length c) L ap)
    (ho : w3.ownsRow B 31 3 (.slice (some ⟨g, 0, none⟩) (L.length + 1) cap) (L.length + 1) (pcells L ++ pcell x)) (hg : (w2.drew.alloc X).grownBy w3 (Value.slice A L.length c).ownBlock) (hat : (Value.slice A L.length c).ownBlock = some g ∨ g = w2.heap.size + 1)
    (hc : canSend L ap x = true) (hx : POk x) (hl : L.length < 2000) : SdPost B np mb (.slice A L.length c) L ap x w (.returned (.bool true)) (w3.setCell ⟨np, 0, none⟩ (.slice (some ⟨g, 0, none⟩) (L.length + 1) cap)) := by
  have s1 : (w2.drew.alloc X).heap.size = w2.heap.size + 1 := by simp
  obtain ⟨h1, h2⟩ := net_row (L' := L ++ [x]) hr (by rw [List.length_append, pcells_append]; exact ho) hg (fun k hk => by
    simp only [Value.ownBlock, Option.some.injEq] at hk
    subst hk
    rcases hat with e | e
    · exact .inl e
    · exact .inr (by rw [s1, e]; exact Nat.le_refl _)) (fun y hy => by
    rcases List.mem_append.1 hy with hy | hy
    · exact h.ok y hy
    · rcases List.mem_singleton.1 hy with rfl; exact hx) (by rw [List.length_append]; simp; omega)
  refine ⟨by rw [hc], _, by rw [if_pos hc]; exact h1, (Kn.of_below (hb.trans (((Below.refl _ _).drew.alloc (Nat.le_refl _) X).mono hb.size)) h.size).trans h2⟩
set_option maxHeartbeats 2000000 in
theorem send_any {w : World} {B np mb : Nat} {rv : Value} {L : List Pk} {ap : List (Int × Int)} (h : NetW w B np mb rv L ap) (x : Pk) (hx : POk x) :
    Calls Try.prog 14 #[.pointer (some ⟨np, 0, none⟩), .agg #[.int .i64 x.f, .int .i64 x.t, .string x.b]] w (SdPost B np mb rv L ap x w) := by
  obtain ⟨A, c, rfl, -, -, -⟩ := own_form h.row
  obtain ⟨w1, hw1⟩ : ∃ w1, w1 = w.alloc (.cells #[.int .i64 x.f, .int .i64 x.t, .string x.b] 31) := ⟨_, rfl⟩
  have hb1 : Below w.heap.size w w1 := by rw [hw1]; exact box_below w _
  have hbx : w1.heap[w.heap.size]? = some (.cells #[.int .i64 x.f, .int .i64 x.t, .string x.b] 31 (0, 0)) := by rw [hw1]; exact new_block w _
  have h1 := h.kept hb1
  have HW1 := Lib.hid hw1
  have HB1 := Lib.hid hb1
  have HN := Lib.hid h
  have HX := Lib.hid hx
  have HN1 := Lib.hid h1
  have HBX := Lib.hid hbx
  have d0 := cell_of h1.here (j := 0) rfl
  by_cases hl : 2000 ≤ L.length
  · have HC : Hid (canSend L ap x = false) := Lib.hid (decide_eq_false (fun hh => by omega))
    have hl' : (2000 : Int) ≤ (L.length : Int) := by omega
    have HE : Hid (SdPost B np mb (.slice A L.length c) L ap x w (.returned (.bool false)) w1) := Lib.hid (sd_no h HC.out hb1)
    clear h h1 hx hb1 hbx hw1
    go_enter Try.func14, Try.ntmps14
    go_upto_region 1 with fail
    rw [← HW1.out]
    go_wp2_with fail
    go_ret
    exact HE.out
  · have hl' : ¬ (2000 : Int) ≤ (L.length : Int) := by omega
    have HL : Hid (L.length < 2000) := Lib.hid (by omega)
    have HAP := Lib.hid (apart_any h1 hx.1 hx.2)
    obtain ⟨r, hr⟩ : ∃ r, r = decide ((min x.f x.t, max x.f x.t) ∈ ap) := ⟨_, rfl⟩
    rw [← hr] at HAP
    have HR := Lib.hid hr
    have b0 := cell_of hbx (j := 0) rfl
    have b1 := cell_of hbx (j := 1) rfl
    have b2 := cell_of hbx (j := 2) rfl
    clear h h1 hx hb1 hbx hw1 hr
    cases r with
    | true =>
      have HC : Hid (canSend L ap x = false) := Lib.hid (decide_eq_false (fun hh => hh.2 (of_decide_eq_true HR.out.symm)))
      go_enter Try.func14, Try.ntmps14
      go_upto_region 1 with fail
      rw [← HW1.out]
      go_wp2_with fail
      refine HAP.out.mono ?_
      rintro e w2 ⟨rfl, hb2⟩
      have HE : Hid (SdPost B np mb (.slice A L.length c) L ap x w (.returned (.bool false)) w2) := Lib.hid (sd_no HN.out HC.out (HB1.out.trans (hb2.mono HB1.out.size)))
      clear hb2
      go_wp2_with fail
      go_ret
      exact HE.out
    | false =>
      have HC : Hid (canSend L ap x = true) := Lib.hid (decide_eq_true ⟨HL.out, fun hh => by have := HR.out; rw [decide_eq_true hh] at this; cases this⟩)
      obtain ⟨i0, hi, hz0, hz1, hz2⟩ := info_parts info31
      go_enter Try.func14, Try.ntmps14
      go_upto_region 1 with fail
      rw [← HW1.out]
      go_wp2_with fail
      refine HAP.out.mono ?_
      rintro e w2 ⟨rfl, hb2⟩
      have HN2 := Lib.hid (HN1.out.kept hb2)
      have hbx2 := (hb2.block _ (Array.getElem?_eq_some_iff.1 HBX.out).1).trans HBX.out
      have HBX2 := Lib.hid hbx2
      have HB2 := Lib.hid hb2
      have e0 := cell_of HN2.out.here (j := 0) rfl
      have ef := frozen_of_row w2 np 0 _ _ HN2.out.here
      have x0 := cell_of hbx2 (j := 0) rfl
      have x1 := cell_of hbx2 (j := 1) rfl
      have x2 := cell_of hbx2 (j := 2) rfl
      have HX2 : Hid ((w2.drew.alloc (.cells #[.int .i64 x.f, .int .i64 x.t, .string x.b] 31)).heap[w2.heap.size]? = some (.cells #[.int .i64 x.f, .int .i64 x.t, .string x.b] 31 (0, 0))) := Lib.hid (new_block w2.drew _)
      have HO2 : Hid ((w2.drew.alloc (.cells #[.int .i64 x.f, .int .i64 x.t, .string x.b] 31)).ownsRow B 31 3 (.slice A L.length c) L.length (pcells L)) := Lib.hid (own_below HN2.out.row ((Below.refl _ _).drew.alloc (Nat.le_refl _) _))
      have HNR : Hid (NetW (w2.drew.alloc (.cells #[.int .i64 x.f, .int .i64 x.t, .string x.b] 31)) B np mb (.slice A L.length c) L ap) := Lib.hid (HN2.out.kept ((Below.refl _ _).drew.alloc (Nat.le_refl _) _))
      have HNS : Hid (B ≤ (w2.drew.alloc (.cells #[.int .i64 x.f, .int .i64 x.t, .string x.b] 31)).heap.size) := Lib.hid HNR.out.size
      clear hb2 hbx2 d0 b0 b1 b2
      have HBH : Hid ((w2.drew.alloc (.cells #[.int .i64 x.f, .int .i64 x.t, .string x.b] 31)).heap.size = w2.heap.size + 1) := Lib.hid (by simp)
      have e1 := cell_of (HN2.out.kept (box_below w2 (.cells #[.int .i64 x.f, .int .i64 x.t, .string x.b] 31))).here (j := 0) rfl
      go_upto_region 3 with fail
      go_region_law (first
        | (refine step_append_lies _ rfl (.tmp 23) (.tmp 25) 26 rfl B 31 i0 _ 3 32 Try.underlying26 hi hz0 hz1 hz2 rfl (by decide) (.slice A L.length c) L.length (pcells L) (by simp [Act.eval]) HO2.out ⟨w2.heap.size, 0, none⟩ 1 1 (pcell x) (by simp [Act.eval]) rfl (World.news_of_block HX2.out) (by intro u hu; simp [pcell] at hu; rcases hu with rfl | rfl | rfl <;> rfl) (by decide) (by unfold maxLen; have := HL.out; omega) (by have := HL.out; omega) HNS.out (w2.heap.size + 1) HBH.out ?_; intro g cap w3 hown hgrow hat hlt; have HOW := Lib.hid hown; have HGR := Lib.hid hgrow; have HAT := Lib.hid hat; have y0 := cell_of ((hgrow.block np HNR.out.lt.1 (fun e => own_ne HNR.out.row HNR.out.here (by decide) e.symm)).trans HNR.out.here) (j := 0) rfl; have yf := frozen_of_row w3 np 0 _ _ ((hgrow.block np HNR.out.lt.1 (fun e => own_ne HNR.out.row HNR.out.here (by decide) e.symm)).trans HNR.out.here); clear hown hgrow hat hlt)
        | fail)
      all_goals
        have HE := Lib.hid (send_end (x := x) HN.out (HB1.out.trans (HB2.out.mono HB1.out.size)) HNR.out HOW.out HGR.out HAT.out HC.out HX.out HL.out)
        clear e0 ef e1 x0 x1 x2 y0 yf
        go_wp2_with fail
        go_ret
        exact HE.out
end Go.Proofs.Ytdlhjpcofldfnaa
