/-
  What Crash returns: a disk of its own, as the document says; the disk itself stays as it is. Condition: no more than 65536 sectors, not too many writes that wait.
-/
import Derived.Test.YtdbpnfceabklkaaBack
import Derived.Test.YtdbpnfceabklkaaNew
import Derived.Lib.MinMax
namespace Go.Proofs.Ytdbpnfceabklkaa
set_option maxRecDepth 100000
open Go.ChangeShapes Go.WideShapes Go.ChangeAt Go.RowKit

/-- Nothing waits: nothing is taken back. -/
theorem back_none (p : Nat) (sv : Value) (Aw : Option Addr) (cw : Nat) (left : Int) (dd : Bool) (K t : Nat) (w : World) (h : w.heap[p]? = some (.cells #[sv, .slice Aw 0 cw, .int .i64 left, .bool dd] 84 (0, 0))) :
    Calls Try.prog 42 #[.pointer (some ⟨p, 0, none⟩), .int .i64 (K : Int), .int .i64 (t : Int)] w fun e w' => e = .returned (.tuple #[]) ∧ w = w' := by
  have c1 : w.cell? ⟨p, 1, none⟩ = some (.slice Aw 0 cw) := cell_block h rfl
  have h9 : ¬ (K : Int) ≤ -1 := by omega
  clear h
  go_enter Try.func42, Try.ntmps42
  go_wp2
  go_loopw [6] (fun va wr => va = .int .i64 (-1) ∧ w = wr) (fun va _ => (intOf va + 1).toNat)
  case atStart => exact ⟨rfl, rfl⟩
  case round =>
    obtain ⟨rfl, rfl⟩ := hrel
    go_wp2
    go_end0
    exact ⟨rfl, rfl⟩
/-- What takeBack leaves, whatever waits. -/
def BxPost (w : World) (B2 p : Nat) (sv wv : Value) (left : Int) (dd : Bool) (D : Dk) (K t : Nat) (e : Ending) (w' : World) : Prop :=
  e = .returned (.tuple #[]) ∧ w'.ownsRow B2 87 64 sv D.firm.length (flat (crashL D.firm D.wait K t)) ∧ w'.heap[p]? = some (.cells #[sv, wv, .int .i64 left, .bool dd] 84 (0, 0)) ∧ w.grownBy w' sv.ownBlock
theorem back_all (B B2 p : Nat) (sv wv : Value) (left : Int) (dd : Bool) (D : Dk) (K t : Nat) (w : World) (hok : Dok D) (ht : t ≤ 64) (hlen : D.wait.length ≤ 100000)
    (h1 : w.heap[p]? = some (.cells #[sv, wv, .int .i64 left, .bool dd] 84 (0, 0))) (h2 : w.ownsRow B 91 65 wv D.wait.length (wcells (was D.firm D.wait))) (h3 : w.ownsRow B2 87 64 sv D.firm.length (flat (cur D))) :
    Calls Try.prog 42 #[.pointer (some ⟨p, 0, none⟩), .int .i64 (K : Int), .int .i64 (t : Int)] w (BxPost w B2 p sv wv left dd D K t) := by
  rcases Nat.eq_zero_or_pos D.wait.length with h0 | h0
  · obtain ⟨Aw, cw, rfl, -, -, -⟩ := own_form h2
    rw [h0] at h1
    refine (back_none p sv Aw cw left dd K t w h1).mono fun e w' ⟨he, hw⟩ => ?_
    subst hw
    have e0 : D.wait = [] := List.eq_nil_of_length_eq_zero h0
    have e1 : crashL D.firm D.wait K t = cur D := by unfold crashL cur; rw [if_neg (by omega)]
    exact ⟨he, by rw [e1]; exact h3, by rw [h0]; exact h1, World.grownBy.refl _ _⟩
  · have hx := hok.2.1 _ (List.getElem_mem h0)
    obtain ⟨S, c, rfl, -, -, hg⟩ := own_form h3
    obtain ⟨g, rfl⟩ := hg (by omega)
    have hM : BkMem w B B2 p g c wv left dd D.firm D.wait K t := ⟨h1, h2, h3⟩
    refine (back_any B B2 p g c wv left dd D.firm D.wait K t w hM hok.1 hok.2.1 ht hlen).mono fun e w' ⟨he, hr, hgr⟩ => ⟨he, hr, (hM.at hgr).1, hgr⟩
/-- What Crash leaves. -/
def CrPost (w : World) (D : Dk) (keep tear : Int) (e : Ending) (w' : World) : Prop :=
  ∃ q, e = .returned (.pointer (some ⟨q, 0, none⟩)) ∧ PDisk w' w.heap.size q (crash D keep tear) ∧ Below w.heap.size w w'
/-- Between Clone and takeBack. -/
structure CrMid (w : World) (B : Nat) (D : Dk) (wv v2 : Value) (left : Int) (w3 : World) : Prop where
  here : w3.heap[w.heap.size]? = some (.cells #[v2, wv, .int .i64 left, .bool D.dead] 84 (0, 0))
  wrs : w3.ownsRow B 91 65 wv D.wait.length (wcells (was D.firm D.wait))
  secs : w3.ownsRow (w.heap.size + 1) 87 64 v2 D.firm.length (flat (cur D))
  below : Below w.heap.size w w3
theorem crash_mid {w w2 : World} {B p : Nat} {D : Dk} {sv wv v2 : Value} {left : Int} {X : Obj} (h : PD w B p D sv wv left) (hX : X = .cells #[sv, wv, .int .i64 left, .bool D.dead] 84)
    (h2 : w2.ownsRow (w.alloc X).heap.size 87 64 v2 D.firm.length (flat (cur D))) (hb : Below (w.alloc X).heap.size (w.alloc X) w2) : CrMid w B D wv v2 left (w2.setCell ⟨w.heap.size, 0, none⟩ v2) := by
  subst hX
  have hs : (w.alloc (.cells #[sv, wv, .int .i64 left, .bool D.dead] 84)).heap.size = w.heap.size + 1 := by simp
  rw [hs] at h2 hb
  have h3 : w2.heap[w.heap.size]? = some (.cells #[sv, wv, .int .i64 left, .bool D.dead] 84 (0, 0)) := (hb.block _ (by omega)).trans (new_block w _)
  have hw : Below w.heap.size w w2 := (box_below w _).trans (hb.mono (by omega))
  have h4 := (h.kept hw).wrs
  exact ⟨struct_secs h3 v2, struct_row h4 h3 (by decide) rfl _ _, struct_row h2 h3 (by decide) rfl _ _, hw.setCell (Nat.le_refl _) _⟩
theorem crash_end {w w3 w4 w7 : World} {B : Nat} {D : Dk} {wv v2 : Value} {left keep tear : Int} (hok : Dok D) (hm : CrMid w B D wv v2 left w3) {e : Ending} (h : BxPost w3 (w.heap.size + 1) w.heap.size v2 wv left D.dead D (kp keep) (tr tear) e w4)
    (h7 : w7 = ((w4.setCell ⟨w.heap.size, 1, none⟩ (.slice none 0 0)).setCell ⟨w.heap.size, 2, none⟩ (.int .i64 0)).setCell ⟨w.heap.size, 3, none⟩ (.bool false)) : CrPost w D keep tear (.returned (.pointer (some ⟨w.heap.size, 0, none⟩))) w7 := by
  obtain ⟨_, hr, hst, hgr⟩ := h
  subst h7
  have s1 := struct_wait hst (.slice none 0 0)
  have s2 := struct_set s1 0
  have s3 := struct_dead s2 false
  have hb4 : Below w.heap.size w w4 := hm.below.grown hgr (by have := hm.below.size; exact this) (fun k hk => by have := own_ge hr k hk; omega)
  refine ⟨_, rfl, ⟨v2, .slice none 0 0, 0, crash_dok hok keep tear, Nat.le_refl _, s3, ?_, World.ownsRow_nil _ _ _ _, by decide, fun _ => rfl⟩, ((hb4.setCell (Nat.le_refl _) _).setCell (Nat.le_refl _) _).setCell (Nat.le_refl _) _⟩
  show World.ownsRow _ _ 87 64 v2 (crashL D.firm D.wait (kp keep) (tr tear)).length (flat (ups (crashL D.firm D.wait (kp keep) (tr tear)) []))
  rw [crash_length]
  exact own_base (struct_row (struct_row (struct_row hr hst (by decide) rfl _ _) s1 (by decide) rfl _ _) s2 (by decide) rfl _ _) (Nat.le_succ _)
set_option maxHeartbeats 1000000 in
theorem crash_any (B p : Nat) (D : Dk) (keep tear : Int) (w : World) (h : PDisk w B p D) (hn : D.firm.length ≤ 65536) (hlen : D.wait.length ≤ 100000) :
    Calls Try.prog 25 #[.pointer (some ⟨p, 0, none⟩), .int .i64 keep, .int .i64 tear] w (CrPost w D keep tear) := by
  obtain ⟨sv, wv, left, h⟩ := h
  have H := Lib.hid h
  obtain ⟨c0, c1, c2, c3⟩ := h.cell
  obtain ⟨X, hX⟩ : ∃ X : Obj, X = .cells #[sv, wv, .int .i64 left, .bool D.dead] 84 := ⟨_, rfl⟩
  have HX := Lib.hid hX
  obtain ⟨K, hK⟩ : ∃ K, K = kp keep := ⟨_, rfl⟩
  obtain ⟨T, hT⟩ : ∃ T, T = tr tear := ⟨_, rfl⟩
  have hmx : max keep 0 = (K : Int) := by rw [hK]; unfold kp; omega
  have hmn : min (max tear 0) 64 = (T : Int) := by rw [hT]; unfold tr; omega
  have HK := Lib.hid hK
  have HT := Lib.hid hT
  have HT64 : Hid (T ≤ 64) := Lib.hid (by rw [hT]; unfold tr; omega)
  have HF1 : Hid (∀ u ∈ flat (cur D), u.oneCell' = true) := Lib.hid (fun u hu => by
    obtain ⟨s, _, hs⟩ := List.mem_flatMap.1 hu
    exact ints_one s u hs)
  obtain ⟨A, c, rfl, -, -, -⟩ := own_form h.secs
  obtain ⟨Aw, cw, rfl, -, -, -⟩ := own_form h.wrs
  have HCL := Lib.hid (clone_any B D.firm.length (.slice A D.firm.length c) (flat (cur D)) (w.alloc (.cells #[.slice A D.firm.length c, .slice Aw D.wait.length cw, .int .i64 left, .bool D.dead] 84)) (h.secs.alloc _) HF1.out hn)
  have d0 : (w.alloc (.cells #[.slice A D.firm.length c, .slice Aw D.wait.length cw, .int .i64 left, .bool D.dead] 84)).cell? ⟨p, 0, none⟩ = some (.slice A D.firm.length c) := (h.kept (box_below w _)).cell.1
  clear h hX hK hT
  go_enter Try.func25, Try.ntmps25
  go_wp2_with fail
  refine HCL.out.mono ?_
  rintro e w2 ⟨v2, rfl, hv2, hb2⟩
  obtain ⟨A2, k2, rfl, -, -, -⟩ := own_form hv2
  have HM := Lib.hid (crash_mid H.out rfl hv2 hb2)
  have e1 : w2.cell? ⟨w.heap.size, 0, none⟩ = some (.slice A D.firm.length c) := (hb2.cell (p := ⟨w.heap.size, 0, none⟩) (by simp)).trans (cell_block (new_block w _) rfl)
  have e2 : w2.frozen? ⟨w.heap.size, 0, none⟩ = false := (hb2.frozen (p := ⟨w.heap.size, 0, none⟩) (by simp)).trans (frozen_of_row _ _ _ _ _ (new_block w _))
  have HB3 := Lib.hid (back_all B (w.heap.size + 1) w.heap.size _ _ left D.dead D K T _ H.out.ok HT64.out hlen HM.out.here HM.out.wrs HM.out.secs)
  clear hv2 hb2
  go_wp2_with fail
  refine HB3.out.mono ?_
  rintro e w4 h4
  have H4 := Lib.hid h4
  obtain ⟨rfl, -⟩ := h4
  have s1 := H4.out.2.2.1
  have q1 := cell_block s1 (j := 1) rfl
  have q2 := cell_block s1 (j := 2) rfl
  have q3 := cell_block s1 (j := 3) rfl
  have f1 := frozen_of_row w4 w.heap.size 1 _ _ s1
  have f2 := frozen_of_row w4 w.heap.size 2 _ _ s1
  have f3 := frozen_of_row w4 w.heap.size 3 _ _ s1
  clear s1 e1 e2
  go_wp2
  go_ret
  have H5 := H4.out
  rw [HK.out, HT.out] at H5
  exact crash_end H.out.ok HM.out H5 rfl
end Go.Proofs.Ytdbpnfceabklkaa
