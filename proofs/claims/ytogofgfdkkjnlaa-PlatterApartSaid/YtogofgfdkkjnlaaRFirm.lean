/-
  What the document's firm returns: the sectors with writes on them, in a row of its own. Condition: not too many sectors and writes.
-/
import Derived.Test.YtogofgfdkkjnlaaRMem
import Derived.Deep.RegionHeld3
namespace Go.Proofs.Ytogofgfdkkjnlaa
open Go.ChangeShapes Go.WideShapes Go.ChangeAt Go.RowKit

/-- What firm leaves. -/
def FiPost (w : World) (l : List (List Int)) (ws : List Wr) (e : Ending) (w' : World) : Prop := ∃ v, e = .returned v ∧ w'.ownsRow w.heap.size 9 1 v l.length (strs (ups l ws)) ∧ Below w.heap.size w w'
def FRel (w : World) (l : List (List Int)) (ws : List Wr) (v : Value) (vi : Value) (wr : World) : Prop :=
  ∃ k : Nat, k ≤ ws.length ∧ vi = .int .i64 k ∧ wr.ownsRow w.heap.size 9 1 v l.length (strs (ups l (ws.take k))) ∧ Below w.heap.size w wr
theorem firm_round {w wr : World} {l : List (List Int)} {ws : List Wr} {k m go co : Nat} (hk : k < ws.length) (hr : wr.ownsRow w.heap.size 9 1 (.slice (some ⟨go, 0, none⟩) l.length co) l.length (strs (ups l (ws.take k)))) (hb : Below w.heap.size w wr) (hm : m = ws[k].1) (S : ByteArray) (hS : S = strOfNums ws[k].2) :
    FRel w l ws (.slice (some ⟨go, 0, none⟩) l.length co) (.int .i64 ((k : Int) + 1)) (wr.drew.setCell ⟨go, m, none⟩ (.string S)) := by
  refine ⟨k + 1, by omega, by go_num, ?_, (hb.drew).setCell (own_ge hr go rfl) _⟩
  have h := (hr.drew.stored m (.string S)).1
  rw [ups_succ l ws k hk, put1, ← strs_set, ← hm, ← hS]
  exact h
set_option maxHeartbeats 1000000 in
theorem rfirm_any (b1 b2 : Nat) (fv wv : Value) (l : List (List Int)) (ws : List Wr) (w : World) (h1 : w.ownsRow b1 9 1 fv l.length (strs l)) (h2 : w.ownsRow b2 71 2 wv ws.length (rcells ws)) (hw : ∀ x ∈ ws, x.1 < l.length) (hl : l.length ≤ 65536) :
    Calls Try.prog 29 #[fv, wv] w (FiPost w l ws) := by
  obtain ⟨Aw, cw, rfl, hlw, hcw, hgw⟩ := own_form h2
  have hb0 := box_below w (.cells #[] 9)
  have HO : Hid ((w.alloc (.cells #[] 9)).ownsRow w.heap.size 9 1 (.slice (some ⟨w.heap.size, 0, none⟩) 0 0) 0 []) := Lib.hid (World.ownsRow_made w #[] 0 (Nat.le_refl _) (by unfold maxLen; omega) rfl)
  have HS := Lib.hid (own_below h1 hb0)
  have HW := Lib.hid h2
  have HGW := Lib.hid hgw
  have HWL := Lib.hid hw
  have HM : Hid (0 + l.length ≤ 1000000) := Lib.hid (by omega)
  have HZ : Hid (w.heap.size ≤ (w.alloc (.cells #[] 9)).heap.size) := Lib.hid (by simp)
  have hcw' : ws.length ≤ 9223372036854775807 := by unfold maxLen at hcw; omega
  clear h1 h2 hb0 hgw hw hlw hcw
  go_enter Try.func29, Try.ntmps29
  go_wp2_with (first
    | (at_builtin; refine wpList_append_src rfl (.tmp 7) (.tmp 8) 25 rfl 9 1 16 (.string ⟨#[]⟩) Try.underlying25 info9 rfl (by decide) w.heap.size b1 (.slice (some ⟨w.heap.size, 0, none⟩) 0 0) 0 [] rfl HO.out fv l.length (strs l) rfl HS.out (strs_one _) HM.out (by decide) HZ.out ?_; intro v2 w2 h2 h3; rw [Nat.zero_add, List.nil_append] at h2; have HX := Lib.hid h2; have HY : Hid (Below w.heap.size w w2) := Lib.hid ((box_below w _).grown h3 (by simp) (fun k hk => by simp [Value.ownBlock] at hk; omega)); clear h3; obtain ⟨A2, c2, rfl, -, -, hg2⟩ := own_form h2; have HG2 := Lib.hid hg2; clear h2 hg2)
    | fail)
  go_loopw [6] (fun vi wr => FRel w l ws (.slice A2 l.length c2) vi wr) (fun vi _ => ws.length - (intOf vi).toNat)
  case atStart => exact ⟨0, Nat.zero_le _, rfl, HX.out, HY.out⟩
  case round =>
    obtain ⟨k, hk, rfl, hr, hb⟩ := hrel
    by_cases hlt : k < ws.length
    · obtain ⟨gw, rfl⟩ := HGW.out (by omega)
      have hx := HWL.out _ (List.getElem_mem hlt)
      obtain ⟨go, rfl⟩ := HG2.out (by omega)
      have hwr := own_below HW.out hb
      obtain ⟨m, hm⟩ : ∃ m, m = ws[k].1 := ⟨_, rfl⟩
      obtain ⟨S, hS⟩ : ∃ S, S = strOfNums ws[k].2 := ⟨_, rfl⟩
      have q1 : wr.cell? ⟨gw, k * 2, none⟩ = some (.int .i64 (m : Int)) := by rw [hm]; exact own_cell hwr _ _ (rcells_at hlt).1
      have q2 : wr.cell? ⟨gw, k * 2 + 1, none⟩ = some (.string S) := by rw [hS]; exact own_cell hwr _ _ (rcells_at hlt).2
      have hml : m < l.length := by rw [hm]; exact hx
      obtain ⟨S0, hS0⟩ : ∃ S0, wr.cell? ⟨go, m, none⟩ = some (.string S0) := ⟨_, own_cell hr _ _ (strs_at (by rw [ups_length]; exact hml))⟩
      have f0 : wr.frozen? ⟨go, m, none⟩ = false := hr.frozenAt m
      have hne : go ≠ gw := by
        rcases own_apart hr hwr (by decide) with h | h
        · cases h
        · exact fun e => h (by rw [e]; rfl)
      have HE := Lib.hid (firm_round hlt hr hb hm S hS)
      have hk0 : (0 : Int) ≤ (k : Int) := by omega
      have hk1 : (k : Int) < (ws.length : Int) := by omega
      have hm0 : (0 : Int) ≤ (m : Int) := by omega
      have hm1 : (m : Int) < (l.length : Int) := by omega
      clear hr hb hwr hx hm hS hk hlt
      go_wp2
      go_region_held3 (fun w' => w'.cell? ⟨gw, k * 2, none⟩ = some (.int .i64 (m : Int)) ∧ w'.cell? ⟨gw, k * 2 + 1, none⟩ = some (.string S)) (first | go_keep | assumption) (fail)
      go_wp2
      go_roundw
      case rel => exact HE.out
      case measure => simp [intOf] <;> omega
    · obtain rfl : ws.length = k := by omega
      rw [List.take_of_length_le (Nat.le_refl _)] at hr
      have HR := Lib.hid hr
      have HB := Lib.hid hb
      clear hr hb
      go_wp2
      go_ret
      exact ⟨_, rfl, HR.out, HB.out⟩
end Go.Proofs.Ytogofgfdkkjnlaa
