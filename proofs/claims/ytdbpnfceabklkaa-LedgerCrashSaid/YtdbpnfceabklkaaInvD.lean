/-
  A call on a disk that may die: it goes on as the document says, or is cut off; an armed disk under a ledger. No condition.
-/
import Derived.Test.YtdbpnfceabklkaaInvC
import Derived.Test.YtdbpnfceabklkaaNextR
import Derived.Test.YtdbpnfceabklkaaOth
namespace Go.Proofs.Ytdbpnfceabklkaa
set_option maxRecDepth 100000
open Go.ChangeShapes Go.WideShapes Go.ChangeAt Go.RowKit

/-- What would last. -/
def nextL (k : Int) (now firm all : List (List Int)) : List (List Int) := if k = 1 then now else if k = 2 then all else firm
theorem amiss_not40 (used : Nat) (l : List (List Int)) (sz : Nat) : amissL false used l sz ≠ 40 := by
  unfold amissL
  rw [if_neg (by decide)]
  split
  · decide
  · split <;> decide
/-- How a call ends. -/
def CutOr (G : Lg) (D : Dk) (k : Int) (s : List Int) (all now firm : List (List Int)) (r : Lg × Dk × Int) : Prop :=
  r.1.fr = G.fr ∧ r.1.sz = G.sz ∧ r.2.1.firm.length = D.firm.length ∧
  ((r.2.2 ≠ 40 ∧ Cr r.1 r.2.1 (doNow k r.2.2 s all now) (doFirm k r.2.2 all now firm)) ∨ (r.2.2 = 40 ∧ Cut G r.2.1 firm (nextL k now firm all)))
theorem step_cut {G : Lg} {D : Dk} {now firm : List (List Int)} (h : Cr G D now firm) (k : Int) (s : List Int) (all : List (List Int)) (hs : Bys s) (hall : ∀ x ∈ all, Bys x) : CutOr G D k s all now firm (stepL G D k s all) := by
  have hd := h.dead
  unfold stepL
  rw [hd]
  by_cases k0 : k = 0
  · rw [if_pos k0]
    by_cases h0 : amissL false G.bs.length [s] G.sz = 0
    · obtain ⟨-, hs4, hr⟩ := amiss_append G false now s h0 h.inv.bs
      rw [h0, if_pos rfl]
      have e1 : doNow k 0 s all now = now ++ [s] := by unfold doNow; rw [if_neg (by simp), if_pos k0]
      have e2 : doFirm k 0 all now firm = firm := by unfold doFirm; rw [if_neg (by simp), if_neg (by omega), if_neg (by omega)]
      refine ⟨rfl, rfl, rfl, .inl ⟨by show (0 : Int) ≠ 40; decide, ?_⟩⟩
      show Cr _ D (doNow k 0 s all now) (doFirm k 0 all now firm)
      rw [e1, e2]
      have hb : G.bs ++ le4 s.length ++ s = enc (now ++ [s]) := by rw [enc_snoc, h.inv.bs]
      refine ⟨⟨rok_snoc h.inv.rn hs4 hs, h.inv.rf, hb, h.inv.hold, ⟨?_, ?_⟩, ?_, h.inv.small, h.inv.arm⟩, hd, h.wait⟩
      · rw [enc_snoc, List.append_assoc]; exact take_append_le h.inv.pre.1 h.inv.pre.2
      · rw [enc_snoc, List.append_assoc, List.length_append]; have := h.inv.pre.2; omega
      · show (enc (now ++ [s])).length ≤ G.sz * 64
        rw [enc_length, need_snoc, ← enc_length]; exact hr
    · rw [if_neg h0]
      have e1 : doNow k (amissL false G.bs.length [s] G.sz) s all now = now := by unfold doNow; rw [if_pos h0]
      have e2 : doFirm k (amissL false G.bs.length [s] G.sz) all now firm = firm := by unfold doFirm; rw [if_pos h0]
      refine ⟨rfl, rfl, rfl, .inl ⟨amiss_not40 _ _ _, ?_⟩⟩
      show Cr G D (doNow k (amissL false G.bs.length [s] G.sz) s all now) (doFirm k (amissL false G.bs.length [s] G.sz) all now firm)
      rw [e1, e2]; exact h
  · rw [if_neg k0]
    by_cases k1 : k = 1
    · rw [if_pos k1]
      have hF := inv_fits_sync h.inv
      have hbs := h.inv.bs
      rw [hbs] at hF ⊢
      rcases put_cut h hF h.inv.rn with ⟨p1, p2, p3, p4, p5⟩ | ⟨p1, p2, p3, p4⟩
      · refine ⟨p3, p4, p5, .inl ⟨by rw [p1]; decide, ?_⟩⟩
        rw [p1]
        have e1 : doNow k 0 s all now = now := by unfold doNow; rw [if_neg (by simp), if_neg k0, if_neg (by omega)]
        have e2 : doFirm k 0 all now firm = now := by unfold doFirm; rw [if_neg (by simp), if_pos k1]
        rw [e1, e2]; exact p2
      · refine ⟨by rw [p2], by rw [p2], p3, .inr ⟨p1, ?_⟩⟩
        unfold nextL; rw [if_pos k1]; exact p4
    · rw [if_neg k1]
      by_cases k2 : k = 2
      · rw [if_pos k2]
        by_cases h0 : amissL false 0 all G.sz = 0
        · rw [if_pos h0]
          obtain ⟨-, ha4, har⟩ := amissL_ok h0
          have hra : Rok all := fun x hx => ⟨ha4 x hx, hall x hx⟩
          rcases put_cut h (inv_fits_replace h.inv hra (by omega)) hra with ⟨p1, p2, p3, p4, p5⟩ | ⟨p1, p2, p3, p4⟩
          · refine ⟨p3, p4, p5, .inl ⟨by rw [p1]; decide, ?_⟩⟩
            rw [p1]
            have e1 : doNow k 0 s all now = all := by unfold doNow; rw [if_neg (by simp), if_neg k0, if_pos k2]
            have e2 : doFirm k 0 all now firm = all := by unfold doFirm; rw [if_neg (by simp), if_neg k1, if_pos k2]
            rw [e1, e2]; exact p2
          · refine ⟨by rw [p2], by rw [p2], p3, .inr ⟨p1, ?_⟩⟩
            unfold nextL; rw [if_neg k1, if_pos k2]; exact p4
        · rw [if_neg h0]
          have e1 : doNow k (amissL false 0 all G.sz) s all now = now := by unfold doNow; rw [if_pos h0]
          have e2 : doFirm k (amissL false 0 all G.sz) all now firm = firm := by unfold doFirm; rw [if_pos h0]
          refine ⟨rfl, rfl, rfl, .inl ⟨amiss_not40 _ _ _, ?_⟩⟩
          show Cr G D (doNow k (amissL false 0 all G.sz) s all now) (doFirm k (amissL false 0 all G.sz) all now firm)
          rw [e1, e2]; exact h
      · rw [if_neg k2]
        have e1 : doNow k 0 s all now = now := by unfold doNow; rw [if_neg (by simp), if_neg k0, if_neg k2]
        have e2 : doFirm k 0 all now firm = firm := by unfold doFirm; rw [if_neg (by simp), if_neg k1, if_neg k2]
        refine ⟨rfl, rfl, rfl, .inl ⟨by show (0 : Int) ≠ 40; decide, ?_⟩⟩
        show Cr G D (doNow k 0 s all now) (doFirm k 0 all now firm)
        rw [e1, e2]; exact h
/-- What any crash leaves. -/
def Leaves (D : Dk) (e : Int) (firm next : List (List Int)) : Prop :=
  D.wait.length ≤ 100000 ∧ D.firm.length = 64 ∧ ∀ K t : Int, ∃ (l : List (List Int)) (m : Mk), (l = firm ∨ (e = 40 ∧ l = next)) ∧ Rok l ∧ Holds (cur (crash D K t)) 2 29 m (enc l)
theorem idle_leaves {G : Lg} {D : Dk} {now firm : List (List Int)} (h : Cr G D now firm) (hf : G.fr = 2) (hs : G.sz = 29) (hl : D.firm.length = 64) (e : Int) (next : List (List Int)) : Leaves D e firm next := by
  refine ⟨by rw [h.wait]; decide, hl, fun K t => ⟨firm, G.m, .inl rfl, h.inv.rf, ?_⟩⟩
  have hh := h.inv.hold
  rw [hf, hs, cur_idle h.wait] at hh
  have hc : cur (crash D K t) = D.firm := by
    show crashL D.firm D.wait (kp K) (tr t) = D.firm
    unfold crashL
    rw [h.wait, if_neg (by simp)]; rfl
  rw [hc]; exact hh
theorem cut_leaves {G : Lg} {D : Dk} {firm next : List (List Int)} (h : Cut G D firm next) (hf : G.fr = 2) (hs : G.sz = 29) (hl : D.firm.length = 64) : Leaves D 40 firm next := by
  refine ⟨h.2.1, hl, fun K t => ?_⟩
  obtain ⟨l, m, h1, h2, h3⟩ := h.2.2 K t
  rw [hf, hs] at h3
  exact ⟨l, m, h1.elim .inl (fun e => .inr ⟨rfl, e⟩), h2, h3⟩
/-- An armed disk under a ledger. -/
theorem PL.arm {w w' : World} {B q p : Nat} {G : Lg} {bv : Value} {D D' : Dk} (h : PL w B q p G bv D) (hd : PDisk w' B p D') (hk : Kp B w w') (hl : D'.firm.length = D.firm.length) : PL w' B q p G bv D' :=
  ⟨hk.tag _ _ _ _ h.here (by decide) (by decide) (by decide), h.base, own_tag h.row (fun _ _ hc => hk.tag _ _ _ _ hc (by decide) (by decide) (by decide)), hd, by rw [hl]; exact h.gok⟩
theorem cr_arm {G : Lg} {D : Dk} {now firm : List (List Int)} (h : Cr G D now firm) (x : Int) : Cr G { D with armed := max x 0 } now firm :=
  ⟨⟨h.inv.rn, h.inv.rf, h.inv.bs, h.inv.hold, h.inv.pre, h.inv.room, h.inv.small, by show 0 ≤ max x 0; omega⟩, h.dead, h.wait⟩
/-- A ledger behind a crash. -/
theorem cr_crash {D : Dk} {K t : Int} {l : List (List Int)} {m : Mk} (hr : Rok l) (hh : Holds (cur (crash D K t)) 2 29 m (enc l)) : Cr ⟨2, 29, m, enc l⟩ (crash D K t) l l :=
  ⟨⟨hr, hr, rfl, hh, ⟨List.take_length, Nat.le_refl _⟩, hh.room, by show (29 : Nat) ≤ 65536; decide, Int.le_refl 0⟩, rfl, rfl⟩
theorem crash_flen (D : Dk) (K t : Int) : (crash D K t).firm.length = D.firm.length := crash_length _ _ _ _
/-- The ledger of a round. -/
structure CRun (w : World) (q p : Nat) (G : Lg) (bv : Value) (D : Dk) (now firm : List (List Int)) (wr : World) : Prop where
  pl : PL wr w.heap.size q p G bv D
  cr : Cr G D now firm
  fr : G.fr = 2
  size : G.sz = 29
  len : D.firm.length = 64
  kl : Kl w.heap.size w wr
theorem CRun.below {w wr wr' : World} {q p : Nat} {G : Lg} {bv : Value} {D : Dk} {now firm : List (List Int)} (h : CRun w q p G bv D now firm wr) (hb : Below wr.heap.size wr wr') : CRun w q p G bv D now firm wr' :=
  ⟨h.pl.kept hb, h.cr, h.fr, h.size, h.len, h.kl.trans (Kl.of_below hb h.kl.below.size)⟩
theorem crun_len {w wr : World} {q p : Nat} {G : Lg} {bv : Value} {D : Dk} {now firm : List (List Int)} (h : CRun w q p G bv D now firm wr) : now.length ≤ 2000 ∧ firm.length ≤ 2000 := by
  have h1 := need_len now
  have h2 := h.cr.inv.room
  have h3 := h.size
  have h4 := need_len firm
  have h5 := h.cr.inv.pre.2
  rw [enc_length, h3] at h2
  rw [enc_length, enc_length] at h5
  omega
theorem cut_does {w wr : World} {q p : Nat} {G : Lg} {bv : Value} {D : Dk} {now firm : List (List Int)} (h : CRun w q p G bv D now firm wr) {o : Ov} (ho : OvOk w o) (hl : o.len ≤ 60) :
    Calls Try.prog 14 #[.pointer (some ⟨q, 0, none⟩), .agg #[.int .i64 o.k, .string o.S, .slice o.A o.len o.cap]] wr fun e w' => ∃ G' D' e' bv', e = .returned (.int .i64 e') ∧ PL w' w.heap.size q p G' bv' D' ∧ CutOr G D o.k (sb o.S) o.all now firm (G', D', e') ∧ Kl w.heap.size wr w' := by
  refine (does_any w.heap.size q p G bv D o.k o.S o.A o.len o.cap o.all wr h.pl (by have := ho.size; omega) (ov_str ho h.kl) (by omega) (fun s hs => by have := ho.long s hs; omega) (by rw [h.cr.wait]; decide)).mono ?_
  rintro e w' ⟨bv', rfl, hpl, hkl⟩
  exact ⟨_, _, _, bv', rfl, hpl, step_cut h.cr o.k (sb o.S) o.all (sb_bys _) ho.reads.2.2, hkl⟩
theorem next_str {B : Nat} {w : World} {A1 A2 A3 : Option Addr} {n1 c1 n2 c2 n3 c3 : Nat} {k : Int} {now firm all : List (List Int)} (h1 : STr B w A1 n1 now) (h2 : STr B w A2 n2 firm) (h3 : STr B w A3 n3 all) :
    ∃ A n c, nextV k (.slice A1 n1 c1) (.slice A2 n2 c2) (.slice A3 n3 c3) = .slice A n c ∧ STr B w A n (nextL k now firm all) := by
  unfold nextV nextL
  by_cases k1 : k = 1
  · rw [if_pos k1, if_pos k1]; exact ⟨_, _, _, rfl, h1⟩
  · rw [if_neg k1, if_neg k1]
    by_cases k2 : k = 2
    · rw [if_pos k2, if_pos k2]; exact ⟨_, _, _, rfl, h3⟩
    · rw [if_neg k2, if_neg k2]; exact ⟨_, _, _, rfl, h2⟩
end Go.Proofs.Ytdbpnfceabklkaa
