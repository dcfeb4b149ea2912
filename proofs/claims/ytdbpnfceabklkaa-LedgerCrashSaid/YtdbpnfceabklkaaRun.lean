/-
  What a loop of calls keeps, where nothing dies. No condition.
-/
import Derived.Test.YtdbpnfceabklkaaFew
namespace Go.Proofs.Ytdbpnfceabklkaa
set_option maxRecDepth 100000
open Go.ChangeShapes Go.WideShapes Go.ChangeAt Go.RowKit

theorem step_len {G : Lg} {D : Dk} {now firm : List (List Int)} (h : Alive G D now firm) (k : Int) (s : List Int) (all : List (List Int)) (hall : ∀ x ∈ all, Bys x) : (stepL G D k s all).2.1.firm.length = D.firm.length := by
  unfold stepL
  by_cases k0 : k = 0
  · rw [if_pos k0]
  · rw [if_neg k0]
    by_cases k1 : k = 1
    · rw [if_pos k1]; exact (sync_alive h).2.2.2.2
    · rw [if_neg k1]
      by_cases k2 : k = 2
      · rw [if_pos k2]
        by_cases h0 : amissL D.dead 0 all G.sz = 0
        · rw [if_pos h0]
          obtain ⟨-, ha4, har⟩ := amissL_ok h0
          have hra : Rok all := fun x hx => ⟨ha4 x hx, hall x hx⟩
          have hp := (put_alive h.inv h.dead h.arm (inv_fits_replace h.inv hra (by omega)) hra).2.2.2.2.2.2.2
          show (putL G D (1 - G.m.half) 0 (enc all)).2.1.firm.length = D.firm.length
          rw [hp, ups_length, cur_len]
        · rw [if_neg h0]
      · rw [if_neg k2]
structure Run (w : World) (q p sz n : Nat) (G : Lg) (bv : Value) (D : Dk) (now firm : List (List Int)) (wr : World) : Prop where
  pl : PL wr w.heap.size q p G bv D
  al : Alive G D now firm
  fr : G.fr = 2
  size : G.sz = sz
  len : D.firm.length = n
  wait : D.wait.length ≤ 30000
  kl : Kl w.heap.size w wr
theorem ov_str {w wr : World} {o : Ov} (h : OvOk w o) (hk : Kl w.heap.size w wr) : STr w.heap.size wr o.A o.len o.all := (sreads_str h.reads).kl hk
theorem run_does {w wr : World} {q p sz n : Nat} {G : Lg} {bv : Value} {D : Dk} {now firm : List (List Int)} (h : Run w q p sz n G bv D now firm wr) {o : Ov} (ho : OvOk w o) (hl : o.len ≤ 100000) :
    Calls Try.prog 14 #[.pointer (some ⟨q, 0, none⟩), .agg #[.int .i64 o.k, .string o.S, .slice o.A o.len o.cap]] wr fun e w' => e = .returned (.int .i64 (stepL G D o.k (sb o.S) o.all).2.2) ∧
      ∃ G' bv' D', Run w q p sz n G' bv' D' (doNow o.k (stepL G D o.k (sb o.S) o.all).2.2 (sb o.S) o.all now) (doFirm o.k (stepL G D o.k (sb o.S) o.all).2.2 o.all now firm) w' ∧ Kl w.heap.size wr w' := by
  refine (does_any w.heap.size q p G bv D o.k o.S o.A o.len o.cap o.all wr h.pl (by have := ho.size; omega) (ov_str ho h.kl) hl (fun s hs => by have := ho.long s hs; omega) h.wait).mono ?_
  rintro e w' ⟨bv', rfl, hpl, hkl⟩
  obtain ⟨s1, s2, s3, s4, s5⟩ := step_alive h.al o.k (sb o.S) o.all (sb_bys _) ho.reads.2.2
  exact ⟨rfl, _, bv', _, ⟨hpl, s1, by rw [s2]; exact h.fr, by rw [s3]; exact h.size, by rw [step_len h.al _ _ _ ho.reads.2.2]; exact h.len, Nat.le_trans s4 h.wait, h.kl.trans hkl⟩, hkl⟩
theorem Run.below {w wr w' : World} {q p sz n : Nat} {G : Lg} {bv : Value} {D : Dk} {now firm : List (List Int)} (h : Run w q p sz n G bv D now firm wr) (hb : Below wr.heap.size wr w') : Run w q p sz n G bv D now firm w' :=
  ⟨h.pl.kept hb, h.al, h.fr, h.size, h.len, h.wait, h.kl.trans (Kl.of_below hb h.kl.below.size)⟩
theorem run_open {w w' : World} {many q p : Nat} {bv : Value} {wo : World} (hm : many ≤ 60000) (h4 : 4 ≤ many) (hb0 : Below w.heap.size w wo) (h : PL w' wo.heap.size q p ⟨2, (many - 2) / 2, mk0, []⟩ bv (newD (many + 4))) (hb : Below wo.heap.size wo w') :
    Run w q p ((many - 2) / 2) (many + 4) ⟨2, (many - 2) / 2, mk0, []⟩ bv (newD (many + 4)) [] [] w' :=
  ⟨h.mono hb0.size, alive_new _ _ _ (by omega) (by omega), rfl, rfl, newD_len _, Nat.zero_le _, Kl.of_below (hb0.trans (hb.mono hb0.size)) (Nat.le_refl _)⟩
theorem few_ok {l : List Ov} (h : fewL l = true) : l.length ≤ 120 ∧ ∀ o ∈ l, o.len ≤ 60 := of_decide_eq_true h
/-- A round of a loop over a script. -/
theorem ov_round {w wr : World} {A : Option Addr} {n k : Nat} {l : List Ov} (hR : OReads w A n l) (hk : k < n) (hb : Below w.heap.size w wr) : ∃ b off o, A = some ⟨b, off, none⟩ ∧ o ∈ l ∧ l.take (k + 1) = l.take k ++ [o] ∧ OvOk w o ∧
    wr.cell? ⟨b, off + k * 3, none⟩ = some (.int .i64 o.k) ∧ wr.cell? ⟨b, off + k * 3 + 1, none⟩ = some (.string o.S) ∧ wr.cell? ⟨b, off + k * 3 + 2, none⟩ = some (.slice o.A o.len o.cap) := by
  obtain ⟨b, off, rfl, hc⟩ := (hR.kept hb).cells (by omega)
  obtain ⟨h0, h1, h2⟩ := hc k hk
  have e : l.getD k ov0 = l[k]'(by rw [hR.len]; exact hk) := by rw [List.getD_eq_getElem?_getD, List.getElem?_eq_getElem (by rw [hR.len]; exact hk)]; rfl
  rw [e] at h0 h1 h2
  exact ⟨b, off, _, rfl, List.getElem_mem _, List.take_succ_eq_append_getElem (by rw [hR.len]; exact hk), hR.ok _ (List.getElem_mem _), h0, h1, h2⟩
end Go.Proofs.Ytdbpnfceabklkaa
