/-
  A ledger and the document's state, call by call (plain mathematics): on a disk that does not die; and on one that may.
-/
import Derived.Test.YtdbpnfceabklkaaDoes
namespace Go.Proofs.Ytdbpnfceabklkaa
set_option maxRecDepth 100000

/-- Records that are there, and those that last. -/
structure Inv (G : Lg) (D : Dk) (now firm : List (List Int)) : Prop where
  rn : Rok now
  rf : Rok firm
  bs : G.bs = enc now
  hold : Holds (cur D) G.fr G.sz G.m (enc firm)
  pre : (enc now).take (enc firm).length = enc firm ∧ (enc firm).length ≤ (enc now).length
  room : (enc now).length ≤ G.sz * 64
  small : G.sz ≤ 65536
  arm : 0 ≤ D.armed
theorem amiss_append (G : Lg) (d : Bool) (now : List (List Int)) (s : List Int) (h : amissL d G.bs.length [s] G.sz = 0) (hb : G.bs = enc now) : d = false ∧ s.length ≤ 4096 ∧ (enc now).length + (s.length + 4) ≤ G.sz * 64 := by
  obtain ⟨h1, h2, h3⟩ := amissL_ok h
  have h4 : need [s] = s.length + 4 := need_one s
  refine ⟨h1, h2 s (List.mem_singleton.2 rfl), ?_⟩
  rw [h4, hb] at h3; exact h3
theorem take_append_le {a b c : List Int} (h : a.take c.length = c) (hl : c.length ≤ a.length) : (a ++ b).take c.length = c := by
  rw [List.take_append_of_le_length hl]; exact h
/-- Where a Sync or a Replace may write. -/
theorem inv_fits_sync {G : Lg} {D : Dk} {now firm : List (List Int)} (h : Inv G D now firm) : Fits G.fr G.sz G.m (enc firm) G.m.half G.m.used G.bs := by
  have hu := h.hold.used
  exact ⟨h.hold.half, by rw [h.bs]; exact enc_bys h.rn, by rw [h.bs]; exact h.room, by rw [hu, h.bs]; exact h.pre.2, .inr ⟨rfl, rfl, by rw [hu, h.bs]; exact h.pre.1⟩⟩
theorem inv_fits_replace {G : Lg} {D : Dk} {now firm all : List (List Int)} (h : Inv G D now firm) (ha : Rok all) (hr : need all ≤ G.sz * 64) : Fits G.fr G.sz G.m (enc firm) (1 - G.m.half) 0 (enc all) := by
  have hh := h.hold.half
  exact ⟨by omega, enc_bys ha, by rw [enc_length]; exact hr, Nat.zero_le _, .inl ⟨by omega, rfl⟩⟩
/-- A Sync or a Replace that is done. -/
theorem put_inv {G : Lg} {D D' : Dk} {now firm l : List (List Int)} {half there : Nat} (h : Inv G D now firm) (hF : Fits G.fr G.sz G.m (enc firm) half there (enc l)) (hl : Rok l) (hf : D'.firm = ups (cur D) (pw (setW G.fr G.sz G.m half there (enc l)))) (hw : D'.wait = []) (ha : 0 ≤ D'.armed) :
    Inv { G with m := nextMk G.m half (enc l).length, bs := enc l } D' l l := by
  have hc : cur D' = D'.firm := by unfold cur; rw [hw]; rfl
  have hb : (enc l).length < 4294967296 := by have := hF.rm; have := h.small; omega
  refine ⟨hl, hl, rfl, ?_, ⟨List.take_length, Nat.le_refl _⟩, hF.rm, h.small, ha⟩
  rw [hc, hf]
  exact set_done h.hold hF hb
theorem inv_writes {G : Lg} {D : Dk} {now firm : List (List Int)} {half there : Nat} {b : List Int} (h : Inv G D now firm) (hF : Fits G.fr G.sz G.m (enc firm) half there b) : ∀ x ∈ setW G.fr G.sz G.m half there b, x.1 < D.firm.length ∧ x.2.length ≤ 64 := by
  have hfit := h.hold.fit
  rw [cur_len] at hfit
  exact setW_fits hF.hf h.hold.slot h.hold.num hF.rm hfit
theorem run_armed {D D' : Dk} {ws : List Wr} {e : Int} (h : RunOk D ws D' e) (ha : D.armed = 0) : D'.armed = 0 := h.2.2.2.2.2 ha
/-- A disk that is alive and not armed does what it is asked. -/
theorem put_alive {G : Lg} {D : Dk} {now firm l : List (List Int)} {half there : Nat} (h : Inv G D now firm) (hd : D.dead = false) (ha : D.armed = 0) (hF : Fits G.fr G.sz G.m (enc firm) half there (enc l)) (hl : Rok l) :
    (putL G D half there (enc l)).2.2 = 0 ∧ Inv (putL G D half there (enc l)).1 (putL G D half there (enc l)).2.1 l l ∧ (putL G D half there (enc l)).2.1.dead = false ∧ (putL G D half there (enc l)).2.1.armed = 0 ∧
      (putL G D half there (enc l)).2.1.wait = [] ∧ (putL G D half there (enc l)).1.fr = G.fr ∧ (putL G D half there (enc l)).1.sz = G.sz ∧ (putL G D half there (enc l)).2.1.firm = ups (cur D) (pw (setW G.fr G.sz G.m half there (enc l))) := by
  rcases run_ends _ D h.arm (inv_writes h hF) with hr | hr
  · obtain ⟨he, -, hf, hw, hdd, haa⟩ := hr
    have ha' := haa ha
    have e1 : (putL G D half there (enc l)).1 = { G with m := nextMk G.m half (enc l).length, bs := enc l } := by unfold putL; exact if_pos he
    refine ⟨he, ?_, hdd, ha', hw, by rw [e1], by rw [e1], hf⟩
    rw [e1]
    exact put_inv h hF hl hf hw (by show 0 ≤ (runW D _).1.armed; rw [ha']; exact Int.le_refl 0)
  · obtain ⟨-, -, hx, -⟩ := hr
    rcases hx with hx | hx
    · rw [hd] at hx; cases hx
    · exact absurd ha hx
/-- All calls, where nothing dies. -/
structure Alive (G : Lg) (D : Dk) (now firm : List (List Int)) : Prop where
  inv : Inv G D now firm
  dead : D.dead = false
  arm : D.armed = 0
theorem step_alive {G : Lg} {D : Dk} {now firm : List (List Int)} (h : Alive G D now firm) (k : Int) (s : List Int) (all : List (List Int)) (hs : Bys s) (hall : ∀ x ∈ all, Bys x) :
    Alive (stepL G D k s all).1 (stepL G D k s all).2.1 (doNow k (stepL G D k s all).2.2 s all now) (doFirm k (stepL G D k s all).2.2 all now firm) ∧ (stepL G D k s all).1.fr = G.fr ∧ (stepL G D k s all).1.sz = G.sz ∧ (stepL G D k s all).2.1.wait.length ≤ D.wait.length ∧
      (stepL G D k s all).2.2 = (if k = 0 then amissL false G.bs.length [s] G.sz else if k = 2 then amissL false 0 all G.sz else 0) := by
  have hd := h.dead
  unfold stepL
  rw [hd]
  by_cases k0 : k = 0
  · rw [if_pos k0, if_pos k0]
    refine ⟨?_, ?_, ?_, Nat.le_refl _, rfl⟩
    · by_cases h0 : amissL false G.bs.length [s] G.sz = 0
      · obtain ⟨-, hs4, hr⟩ := amiss_append G false now s h0 h.inv.bs
        show Alive (if _ then _ else _) D (doNow k (amissL false G.bs.length [s] G.sz) s all now) (doFirm k (amissL false G.bs.length [s] G.sz) all now firm)
        rw [if_pos h0, h0]
        have e1 : doNow k 0 s all now = now ++ [s] := by unfold doNow; rw [if_neg (by simp), if_pos k0]
        have e2 : doFirm k 0 all now firm = firm := by unfold doFirm; rw [if_neg (by simp), if_neg (by omega), if_neg (by omega)]
        rw [e1, e2]
        have hb : G.bs ++ le4 s.length ++ s = enc (now ++ [s]) := by rw [enc_snoc, h.inv.bs]
        refine ⟨⟨rok_snoc h.inv.rn hs4 hs, h.inv.rf, hb, h.inv.hold, ⟨?_, ?_⟩, ?_, h.inv.small, h.inv.arm⟩, hd, h.arm⟩
        · rw [enc_snoc, List.append_assoc]; exact take_append_le h.inv.pre.1 h.inv.pre.2
        · rw [enc_snoc, List.append_assoc, List.length_append]; have := h.inv.pre.2; omega
        · show (enc (now ++ [s])).length ≤ G.sz * 64
          rw [enc_length, need_snoc, ← enc_length]; exact hr
      · show Alive (if _ then _ else _) D (doNow k (amissL false G.bs.length [s] G.sz) s all now) (doFirm k (amissL false G.bs.length [s] G.sz) all now firm)
        rw [if_neg h0]
        have e1 : doNow k (amissL false G.bs.length [s] G.sz) s all now = now := by unfold doNow; rw [if_pos h0]
        have e2 : doFirm k (amissL false G.bs.length [s] G.sz) all now firm = firm := by unfold doFirm; rw [if_pos h0]
        rw [e1, e2]; exact h
    · show (if _ then _ else G).fr = G.fr
      split <;> rfl
    · show (if _ then _ else G).sz = G.sz
      split <;> rfl
  · by_cases k1 : k = 1
    · rw [if_neg k0, if_pos k1, if_neg k0, if_neg (by omega)]
      have hF := inv_fits_sync h.inv
      have hbs := h.inv.bs
      rw [hbs] at hF ⊢
      obtain ⟨p1, p2, p3, p4, p5, p6, p7, -⟩ := put_alive h.inv hd h.arm hF h.inv.rn
      refine ⟨?_, p6, p7, by rw [p5]; exact Nat.zero_le _, p1⟩
      rw [p1]
      have e1 : doNow k 0 s all now = now := by unfold doNow; rw [if_neg (by simp), if_neg k0, if_neg (by omega)]
      have e2 : doFirm k 0 all now firm = now := by unfold doFirm; rw [if_neg (by simp), if_pos k1]
      rw [e1, e2]
      exact ⟨p2, p3, p4⟩
    · by_cases k2 : k = 2
      · rw [if_neg k0, if_neg k1, if_pos k2, if_neg k0, if_pos k2]
        by_cases h0 : amissL false 0 all G.sz = 0
        · rw [if_pos h0, h0]
          obtain ⟨-, ha4, har⟩ := amissL_ok h0
          have hra : Rok all := fun x hx => ⟨ha4 x hx, hall x hx⟩
          obtain ⟨p1, p2, p3, p4, p5, p6, p7, -⟩ := put_alive h.inv hd h.arm (inv_fits_replace h.inv hra (by omega)) hra
          refine ⟨?_, p6, p7, by rw [p5]; exact Nat.zero_le _, p1⟩
          rw [p1]
          have e1 : doNow k 0 s all now = all := by unfold doNow; rw [if_neg (by simp), if_neg k0, if_pos k2]
          have e2 : doFirm k 0 all now firm = all := by unfold doFirm; rw [if_neg (by simp), if_neg k1, if_pos k2]
          rw [e1, e2]
          exact ⟨p2, p3, p4⟩
        · rw [if_neg h0]
          have e1 : doNow k (amissL false 0 all G.sz) s all now = now := by unfold doNow; rw [if_pos h0]
          have e2 : doFirm k (amissL false 0 all G.sz) all now firm = firm := by unfold doFirm; rw [if_pos h0]
          refine ⟨?_, rfl, rfl, Nat.le_refl _, rfl⟩
          show Alive G D (doNow k (amissL false 0 all G.sz) s all now) (doFirm k (amissL false 0 all G.sz) all now firm)
          rw [e1, e2]; exact h
      · rw [if_neg k0, if_neg k1, if_neg k2, if_neg k0, if_neg k2]
        have e1 : doNow k 0 s all now = now := by unfold doNow; rw [if_neg (by simp), if_neg k0, if_neg k2]
        have e2 : doFirm k 0 all now firm = firm := by unfold doFirm; rw [if_neg (by simp), if_neg k1, if_neg k2]
        refine ⟨?_, rfl, rfl, Nat.le_refl _, rfl⟩
        show Alive G D (doNow k 0 s all now) (doFirm k 0 all now firm)
        rw [e1, e2]; exact h
end Go.Proofs.Ytdbpnfceabklkaa
