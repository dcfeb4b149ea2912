/-
  A ledger and the document's state on a disk that may die (plain mathematics): a call goes on as the document says, or is cut off, and what any crash leaves holds the elder or the newer records.
-/
import Derived.Test.YtdbpnfceabklkaaLife
namespace Go.Proofs.Ytdbpnfceabklkaa
set_option maxRecDepth 100000

structure Cr (G : Lg) (D : Dk) (now firm : List (List Int)) : Prop where
  inv : Inv G D now firm
  dead : D.dead = false
  wait : D.wait = []
/-- What a crash leaves of a call that was cut off. -/
def Cut (G : Lg) (D : Dk) (a b : List (List Int)) : Prop :=
  D.dead = true ∧ D.wait.length ≤ 100000 ∧ ∀ K t : Int, ∃ (l : List (List Int)) (m : Mk), (l = a ∨ l = b) ∧ Rok l ∧ Holds (cur (crash D K t)) G.fr G.sz m (enc l)
theorem cur_idle {D : Dk} (h : D.wait = []) : cur D = D.firm := by unfold cur; rw [h]; rfl
theorem dies_lo {D : Dk} (h : 0 ≤ D.armed) : 0 ≤ (dies D).armed := by
  unfold dies
  by_cases h0 : 0 < D.armed
  · rw [if_pos h0]; show 0 ≤ D.armed - 1; omega
  · rw [if_neg h0]; exact h
theorem do_lo {D : Dk} (h : 0 ≤ D.armed) (k n : Int) (b : List Int) (hk : k = 0 ∨ k = 2) : 0 ≤ (doD D k n 0 b).1.armed := by
  have hd := dies_lo h
  have hp : 0 ≤ (dies (putD D n.toNat b)).armed := dies_lo (D := putD D n.toNat b) h
  unfold doD
  rcases hk with rfl | rfl
  · rw [if_neg (by decide), if_neg (by decide), if_neg (by decide)]
    repeat' split
    all_goals first | exact h | exact hd | exact hp
  · rw [if_neg (by decide), if_neg (by decide), if_neg (by decide)]
    repeat' split
    all_goals first | exact h | exact hd | exact hp
theorem run_arm (ws : List Wr) : ∀ D : Dk, 0 ≤ D.armed → 0 ≤ (runW D ws).1.armed := by
  induction ws with
  | nil => exact fun D h => do_lo h 2 0 [] (.inr rfl)
  | cons x ws ih =>
    intro D h
    rw [runW_cons]
    have h1 := do_lo h 0 (x.1 : Int) x.2 (.inl rfl)
    split
    · exact ih _ h1
    · exact h1
theorem put_cut {G : Lg} {D : Dk} {now firm l : List (List Int)} {half there : Nat} (h : Cr G D now firm) (hF : Fits G.fr G.sz G.m (enc firm) half there (enc l)) (hl : Rok l) :
    ((putL G D half there (enc l)).2.2 = 0 ∧ Cr (putL G D half there (enc l)).1 (putL G D half there (enc l)).2.1 l l ∧ (putL G D half there (enc l)).1.fr = G.fr ∧ (putL G D half there (enc l)).1.sz = G.sz ∧ (putL G D half there (enc l)).2.1.firm.length = D.firm.length) ∨
    ((putL G D half there (enc l)).2.2 = 40 ∧ (putL G D half there (enc l)).1 = G ∧ (putL G D half there (enc l)).2.1.firm.length = D.firm.length ∧ Cut G (putL G D half there (enc l)).2.1 firm l) := by
  have hc := cur_idle h.wait
  have hb : (enc l).length < 4294967296 := by have := hF.rm; have := h.inv.small; omega
  rcases run_ends _ D h.inv.arm (inv_writes h.inv hF) with hr | hr
  · refine .inl ?_
    obtain ⟨he, -, hf, hw, hdd, -⟩ := hr
    have e1 : (putL G D half there (enc l)).1 = { G with m := nextMk G.m half (enc l).length, bs := enc l } := by unfold putL; exact if_pos he
    have e2 : (putL G D half there (enc l)).2.1 = (runW D (setW G.fr G.sz G.m half there (enc l))).1 := rfl
    refine ⟨he, ?_, by rw [e1], by rw [e1], by rw [e2, hf, ups_length, cur_len]⟩
    rw [e1, e2]
    exact ⟨put_inv h.inv hF hl hf hw (run_arm _ D h.inv.arm), hdd, hw⟩
  · refine .inr ?_
    obtain ⟨he, hd', -, hf, j, hw⟩ := hr
    have e1 : (putL G D half there (enc l)).1 = G := by unfold putL; exact if_neg (by rw [he]; decide)
    have e2 : (putL G D half there (enc l)).2.1 = (runW D (setW G.fr G.sz G.m half there (enc l))).1 := rfl
    rw [h.wait, List.nil_append] at hw
    refine ⟨he, e1, by rw [e2, hf], hd', ?_, fun K t => ?_⟩
    · rw [e2, hw]
      have h1 := setW_length G.fr G.sz G.m half there (enc l)
      have h2 : ((pw (setW G.fr G.sz G.m half there (enc l))).take j).length ≤ (pw (setW G.fr G.sz G.m half there (enc l))).length := List.length_take_le' _ _
      rw [pw_length, h1] at h2
      have h3 := hF.rm
      have h4 := h.inv.small
      omega
    · have hcr : cur (crash (putL G D half there (enc l)).2.1 K t) = crashL D.firm ((pw (setW G.fr G.sz G.m half there (enc l))).take j) (kp K) (tr t) := by
        show crashL _ _ (kp K) (tr t) = _
        rw [e2, hf, hw]
      have hh := h.inv.hold
      rw [hc] at hh
      rw [hcr]
      rcases set_crash hh hF hb j (kp K) (tr t) (by unfold tr; omega) with h5 | h5
      · exact ⟨firm, _, .inl rfl, h.inv.rf, h5⟩
      · exact ⟨l, _, .inr rfl, hl, h5⟩
end Go.Proofs.Ytdbpnfceabklkaa
