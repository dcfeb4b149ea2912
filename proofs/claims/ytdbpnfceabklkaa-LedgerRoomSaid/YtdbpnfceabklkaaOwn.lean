/-
  A row of texts that is written into; what it leaves of a ledger. What Replace leaves, where nothing dies. No condition.
-/
import Derived.Test.YtdbpnfceabklkaaRun
import Derived.Test.YtdbpnfceabklkaaRDo2
namespace Go.Proofs.Ytdbpnfceabklkaa
set_option maxRecDepth 100000
open Go.ChangeShapes Go.WideShapes Go.ChangeAt Go.RowKit

/-- One row of texts was written into. -/
structure Mn (g n : Nat) (w0 w : World) : Prop where
  below : Below g w0 w
  rest : ∀ k, k ≠ g → w.heap[k]? = w0.heap[k]?
  was : ∃ cur, w0.heap[g]? = some (.cells cur 9 (0, 0))
  here : ∃ cur, w.heap[g]? = some (.cells cur 9 (0, 0)) ∧ n ≤ cur.size
theorem Mn.set {g n : Nat} {w0 w : World} (h : Mn g n w0 w) (off : Nat) (v : Value) : Mn g n w0 (w.setCell ⟨g, off, none⟩ v) := by
  refine ⟨?_, fun k hk => (Go.Deep.blk_setCell_other w _ _ k hk).trans (h.rest k hk), h.was, ?_⟩
  · exact h.below.trans ⟨rfl, rfl, rfl, by rw [Go.Deep.nblk_setCell]; exact Nat.le_refl _, fun k hk => Go.Deep.blk_setCell_other w _ _ k (by show k ≠ g; omega)⟩
  · obtain ⟨cur, hc, hn⟩ := h.here
    refine ⟨cur.setIfInBounds off v, ?_, by rw [Array.size_setIfInBounds]; exact hn⟩
    simp only [World.setCell, Array.getElem?_modify, hc]
    simp
theorem Mn.cell {g n : Nat} {w0 w : World} (h : Mn g n w0 w) (k : Nat) (hk : k < n) : (∃ v, w.cell? ⟨g, k, none⟩ = some v) ∧ w.frozen? ⟨g, k, none⟩ = false := by
  obtain ⟨cur, hc, hn⟩ := h.here
  refine ⟨⟨cur[k]'(by omega), ?_⟩, frozen_of_row w g k _ _ hc⟩
  rw [cell_of_row w g k cur 9 _ hc]
  exact Array.getElem?_eq_getElem _
theorem Mn.ne {g n : Nat} {w0 w : World} (h : Mn g n w0 w) {k t : Nat} {cs : Array Value} {fr : Nat × Nat} (hk : w0.heap[k]? = some (.cells cs t fr)) (ht : t ≠ 9) : w.heap[k]? = some (.cells cs t fr) := by
  obtain ⟨cur, hc⟩ := h.was
  refine (h.rest k (fun e => ?_)).trans hk
  subst e
  rw [hk] at hc
  injection hc with hc
  injection hc with _ h2 _
  exact ht h2
theorem Mn.pl {g n : Nat} {w0 w : World} (h : Mn g n w0 w) {B q p : Nat} {G : Lg} {bv : Value} {D : Dk} (hp : PL w0 B q p G bv D) : PL w B q p G bv D := by
  obtain ⟨h1, h2, h3, ⟨sv, wv, left, hd⟩, h5⟩ := hp
  exact ⟨h.ne h1 (by decide), h2, own_tag h3 (fun k cs hk => h.ne hk (by decide)), ⟨sv, wv, left, ⟨hd.ok, hd.base, h.ne hd.here (by decide), own_tag hd.secs (fun k cs hk => h.ne hk (by decide)), own_tag hd.wrs (fun k cs hk => h.ne hk (by decide)), hd.left_hi, hd.life⟩⟩, h5⟩
theorem Mn.run {g m : Nat} {wr wr' : World} (h : Mn g m wr wr') {w : World} {q p sz n : Nat} {G : Lg} {bv : Value} {D : Dk} {now firm : List (List Int)} (hr : Run w q p sz n G bv D now firm wr) (hg : w.heap.size ≤ g) : Run w q p sz n G bv D now firm wr' :=
  ⟨h.pl hr.pl, hr.al, hr.fr, hr.size, hr.len, hr.wait, hr.kl.below.trans (h.below.mono hg), fun k o hk ht => by
    have hlt : k < w.heap.size := (Array.getElem?_eq_some_iff.1 hk).1
    exact (h.rest k (by omega)).trans (hr.kl.kept k o hk ht)⟩
/-- A slice of the call's own was written into, or is empty. -/
def Mine (B T : Nat) (A : Option Addr) (n : Nat) (w0 w : World) : Prop := (n = 0 ∧ w = w0) ∨ ∃ g, A = some ⟨g, 0, none⟩ ∧ B ≤ g ∧ g < T ∧ Mn g n w0 w
theorem own_mine {w : World} {B T n c : Nat} {A : Option Addr} {xs : List Value} (h : w.ownsRow B 9 1 (.slice A n c) n xs) (hT : ∀ k, (Value.slice A n c).ownBlock = some k → k < T) : Mine B T A n w w := by
  rcases h.2 with ⟨e, e2⟩ | ⟨g, cap, cur, e, hbg, hg, hn, hc, hs, -⟩
  · exact .inl ⟨e2, rfl⟩
  · injection e with e1 e2 e3
    subst e1
    exact .inr ⟨g, rfl, hbg, hT g rfl, ⟨Below.refl _ _, fun _ _ => rfl, ⟨cur, hg⟩, ⟨cur, hg, by omega⟩⟩⟩
theorem Mine.run {B T : Nat} {A : Option Addr} {m : Nat} {wr wr' : World} (h : Mine B T A m wr wr') {w : World} {q p sz n : Nat} {G : Lg} {bv : Value} {D : Dk} {now firm : List (List Int)} (hr : Run w q p sz n G bv D now firm wr) (hB : w.heap.size ≤ B) : Run w q p sz n G bv D now firm wr' := by
  rcases h with ⟨-, rfl⟩ | ⟨g, -, h1, -, h2⟩
  · exact hr
  · exact h2.run hr (by omega)
theorem Mine.below {B T : Nat} {A : Option Addr} {m : Nat} {w w' : World} (h : Mine B T A m w w') : Below B w w' := by
  rcases h with ⟨-, rfl⟩ | ⟨g, -, h1, -, h2⟩
  · exact Below.refl _ _
  · exact h2.below.mono h1
theorem Mine.own {B T : Nat} {A : Option Addr} {m n : Nat} {w w' : World} (h : Mine B T A m w w') {v : Value} {xs : List Value} (ho : w.ownsRow T 9 1 v n xs) : w'.ownsRow T 9 1 v n xs := by
  rcases h with ⟨-, rfl⟩ | ⟨g, -, -, h1, h2⟩
  · exact ho
  · refine ⟨ho.1, ?_⟩
    rcases ho.2 with hn | ⟨k, cap, cur, rfl, hbg, hg, rest⟩
    · exact .inl hn
    · exact .inr ⟨k, cap, cur, rfl, hbg, (h2.rest k (by omega)).trans hg, rest⟩
/-- A round of such a loop. -/
theorem Mine.round {B T : Nat} {A : Option Addr} {n k : Nat} {w0 w : World} (h : Mine B T A n w0 w) (hk : k < n) : ∃ g, A = some ⟨g, 0, none⟩ ∧ (∃ v, w.cell? ⟨g, 0 + k, none⟩ = some v) ∧ w.frozen? ⟨g, 0 + k, none⟩ = false ∧ ∀ v, Mine B T (some ⟨g, 0, none⟩) n w0 (w.setCell ⟨g, 0 + k, none⟩ v) := by
  rcases h with ⟨h, -⟩ | ⟨g, rfl, h1, h2, h3⟩
  · omega
  · rw [Nat.zero_add]
    exact ⟨g, rfl, (h3.cell k hk).1, (h3.cell k hk).2, fun v => .inr ⟨g, rfl, h1, h2, h3.set _ _⟩⟩
/-- Replace, where nothing dies. -/
theorem run_replace {w wr : World} {q p sz n : Nat} {G : Lg} {bv : Value} {D : Dk} {now firm : List (List Int)} (h : Run w q p sz n G bv D now firm wr) {A : Option Addr} {m c : Nat} {all : List (List Int)} (hS : SReads wr A m all) (hm : m ≤ 100000) (hz : ∀ s ∈ all, s.length ≤ 9223372036854775807) :
    Calls Try.prog 29 #[.pointer (some ⟨q, 0, none⟩), .slice A m c] wr fun e w' => e = .returned (.int .i64 (amissL false 0 all sz)) ∧
      ∃ G' bv' D', Run w q p sz n G' bv' D' (if amissL false 0 all sz = 0 then all else now) (if amissL false 0 all sz = 0 then all else firm) w' ∧ Kl w.heap.size wr w' := by
  refine (replace_any w.heap.size q p G bv D A m c all wr h.pl hS hm hz h.wait).mono ?_
  intro e w' hrp
  have hd := h.al.dead
  obtain ⟨s1, s2, s3, s4, s5⟩ := step_alive h.al 2 [] all (fun _ h => by cases h) hS.2.2
  have s6 := step_len h.al 2 [] all hS.2.2
  have hE : stepL G D 2 [] all = if amissL D.dead 0 all G.sz = 0 then putL G D (1 - G.m.half) 0 (enc all) else (G, D, amissL D.dead 0 all G.sz) := by unfold stepL; rw [if_neg (by decide), if_neg (by decide), if_pos rfl]
  rw [if_neg (by decide), if_pos rfl, h.size] at s5
  rw [s5] at s1
  have hx : DsPost w.heap.size q p wr (stepL G D 2 [] all) e w' := by
    rw [hE]
    rcases hrp with ⟨h0, he, hw⟩ | ⟨h0, bb, hse⟩
    · subst hw
      rw [if_neg h0]
      exact ⟨bv, he, h.pl, Kl.refl _ _⟩
    · rw [if_pos h0]
      exact se_ds hse
  obtain ⟨bv', he, hpl, hkl⟩ := hx
  rw [s5] at he
  refine ⟨he, _, bv', _, ⟨hpl, ?_, by rw [s2]; exact h.fr, by rw [s3]; exact h.size, by rw [s6]; exact h.len, Nat.le_trans s4 h.wait, h.kl.trans hkl⟩, hkl⟩
  by_cases h0 : amissL false 0 all sz = 0
  · rw [if_pos h0, if_pos h0]
    rw [h0] at s1
    exact s1
  · rw [if_neg h0, if_neg h0]
    unfold doNow doFirm at s1
    rw [if_pos h0, if_pos h0] at s1
    exact s1
end Go.Proofs.Ytdbpnfceabklkaa
