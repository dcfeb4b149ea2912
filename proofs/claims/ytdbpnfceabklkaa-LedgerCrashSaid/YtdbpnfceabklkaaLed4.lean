/-
  Plain mathematics of ledgers on disks: the writes and the Sync of a call, one by one, and how they end; what is found on sectors; a ledger in memory. No condition.
-/
import Derived.Test.YtdbpnfceabklkaaLed3
namespace Go.Proofs.Ytdbpnfceabklkaa

/-- Writes, and a Sync behind them, till one is refused. -/
def runW : Dk → List Wr → Dk × Int
  | D, [] => ((doD D 2 0 0 []).1, (doD D 2 0 0 []).2.2)
  | D, x :: ws => if (doD D 0 (x.1 : Int) 0 x.2).2.2 = 0 then runW (doD D 0 (x.1 : Int) 0 x.2).1 ws else ((doD D 0 (x.1 : Int) 0 x.2).1, (doD D 0 (x.1 : Int) 0 x.2).2.2)
/-- How they end. -/
def RunOk (D : Dk) (ws : List Wr) (D' : Dk) (e : Int) : Prop := e = 0 ∧ D.dead = false ∧ D'.firm = ups (cur D) (pw ws) ∧ D'.wait = [] ∧ D'.dead = false ∧ (D.armed = 0 → D'.armed = 0)
def RunDead (D : Dk) (ws : List Wr) (D' : Dk) (e : Int) : Prop := e = 40 ∧ D'.dead = true ∧ (D.dead = true ∨ D.armed ≠ 0) ∧ D'.firm = D.firm ∧ ∃ j, D'.wait = D.wait ++ (pw ws).take j
theorem d_sync_dead {D : Dk} (hd : D.dead = true) : doD D 2 0 0 [] = (D, [], 40) := by
  unfold doD
  rw [if_neg (by decide), if_neg (by decide), if_neg (by decide), if_pos hd]
theorem d_sync {D : Dk} (hd : D.dead = false) : doD D 2 0 0 [] = if (dies D).dead = true then (dies D, [], 40) else (syncD (dies D), [], 0) := by
  unfold doD
  rw [if_neg (by decide), if_neg (by decide), if_neg (by decide), if_neg (by simp [hd]), if_pos rfl]
theorem d_write_dead {D : Dk} (hd : D.dead = true) (n : Int) (b : List Int) : doD D 0 n 0 b = (D, [], 40) := by
  unfold doD
  rw [if_neg (by decide), if_neg (by decide), if_neg (by decide), if_pos hd]
theorem d_write {D : Dk} {n : Nat} {zs : List Int} (hd : D.dead = false) (hn : n < D.firm.length) (hz : zs.length ≤ 64) :
    doD D 0 (n : Int) 0 zs = (dies (putD D n zs), [], if (dies (putD D n zs)).dead = true then 40 else 0) := by
  unfold doD
  rw [if_neg (by decide), if_neg (by decide), if_neg (by decide), if_neg (by simp [hd]), if_neg (by decide), if_neg (by omega), if_neg (by decide)]
  rfl
theorem dies_armed {D : Dk} (_ : 0 ≤ D.armed) : (D.armed = 0 → (dies D).armed = 0 ∧ (dies D).dead = D.dead) ∧ ((dies D).armed ≠ 0 → D.armed ≠ 0) ∧ ((dies D).dead = true → D.dead = false → D.armed ≠ 0) := by
  unfold dies
  refine ⟨fun h0 => by rw [if_neg (by omega)]; exact ⟨h0, rfl⟩, fun h1 => ?_, fun h1 h2 => ?_⟩
  · split at h1
    · omega
    · exact h1
  · split at h1
    · omega
    · rw [h2] at h1; cases h1
theorem run_ends (ws : List Wr) : ∀ (D : Dk), 0 ≤ D.armed → (∀ x ∈ ws, x.1 < D.firm.length ∧ x.2.length ≤ 64) → RunOk D ws (runW D ws).1 (runW D ws).2 ∨ RunDead D ws (runW D ws).1 (runW D ws).2 := by
  induction ws with
  | nil =>
    intro D ha _
    cases hd : D.dead with
    | true =>
      right
      simp only [runW, d_sync_dead hd]
      exact ⟨rfl, hd, .inl hd, rfl, 0, by simp⟩
    | false =>
      simp only [runW, d_sync hd]
      by_cases h : (dies D).dead = true
      · right
        rw [if_pos h]
        exact ⟨rfl, h, .inr ((dies_armed ha).2.2 h hd), dies_firm D, 0, by rw [dies_wait]; simp⟩
      · left
        rw [if_neg h]
        refine ⟨rfl, hd, ?_, rfl, by show (dies D).dead = false; simpa using h, fun h0 => ((dies_armed ha).1 h0).1⟩
        show cur (dies D) = ups (cur D) []
        unfold cur; rw [dies_firm, dies_wait]; rfl
  | cons x ws ih =>
    intro D ha hw
    obtain ⟨hx, hl⟩ := hw x (by simp)
    cases hd : D.dead with
    | true =>
      right
      simp only [runW, d_write_dead hd, if_neg (show ¬ (40 : Int) = 0 by decide)]
      exact ⟨rfl, hd, .inl hd, rfl, 0, by simp⟩
    | false =>
      have hput : (putD D x.1 x.2).armed = D.armed ∧ (putD D x.1 x.2).dead = false := ⟨rfl, hd⟩
      have hda := dies_armed (D := putD D x.1 x.2) ha
      by_cases h : (dies (putD D x.1 x.2)).dead = true
      · right
        simp only [runW, d_write hd hx hl, if_pos h, if_neg (show ¬ (40 : Int) = 0 by decide)]
        refine ⟨rfl, h, .inr (hda.2.2 h hd), dies_firm _, 1, ?_⟩
        rw [dies_wait]; simp [putD, pw]
      · simp only [runW, d_write hd hx hl, if_neg h, if_true]
        have hf : (dies (putD D x.1 x.2)).firm = D.firm := dies_firm _
        have hwt : (dies (putD D x.1 x.2)).wait = D.wait ++ [(x.1, pad x.2)] := dies_wait _
        have h0 : 0 ≤ (dies (putD D x.1 x.2)).armed := by
          unfold dies; split
          · rename_i hp; simp only; omega
          · exact ha
        rcases ih (dies (putD D x.1 x.2)) h0 (fun y hy => by rw [hf]; exact hw y (by simp [hy])) with ⟨h1, h2, h3, h4, h5, h6⟩ | ⟨h1, h2, h3, h4, j, h5⟩
        · left
          refine ⟨h1, hd, ?_, h4, h5, fun e => h6 ((hda.1 e).1)⟩
          rw [h3]
          unfold cur
          rw [hf, hwt, ups_snoc]; rfl
        · right
          refine ⟨h1, h2, .inr ?_, by rw [h4, hf], j + 1, ?_⟩
          · rcases h3 with h3 | h3
            · exact absurd h3 h
            · exact hda.2.1 h3
          · rw [h5, hwt, List.append_assoc]; rfl
theorem setW_fits {fr sz n : Nat} {m : Mk} {half there : Nat} {b : List Int} (hf : half ≤ 1) (hs : m.slot ≤ 1) (hN : Nok m.num) (hb : b.length ≤ sz * 64) (hn : fr + 2 + 2 * sz ≤ n) : ∀ x ∈ setW fr sz m half there b, x.1 < n ∧ x.2.length ≤ 64 := by
  intro x hx
  have hh := half_le (sz := sz) hf
  rcases List.mem_append.1 hx with hx | hx
  · obtain ⟨i, hi, rfl⟩ := List.mem_map.1 hx
    rw [List.mem_range, List.length_drop] at hi
    exact ⟨by show fr + 2 + half * sz + there / 64 + i < n; omega, List.length_take_le _ _⟩
  · rcases List.mem_singleton.1 hx with rfl
    have hN' : Nok (nextMk m half b.length).num := nok_nxt hN
    exact ⟨by show fr + (1 - m.slot) < n; omega, by rw [sec_len' hN']; exact Nat.le_refl _⟩

/-- The mark that counts on sectors. -/
def rdMk (L : List (List Int)) (fr : Nat) : Mk × Bool := pick (mkOf (L.getD fr []) 0) (mkOf (L.getD (fr + 1) []) 1)
/-- What is found there. -/
structure Found (L : List (List Int)) (fr sz : Nat) (m : Mk) (bs : List Int) : Prop where
  pk : rdMk L fr = (m, true)
  half : m.half ≤ 1
  used : m.used ≤ sz * 64
  data : rd L (fr + 2 + m.half * sz) m.used = bs
  whole : ∃ l, Rc bs l []
theorem Holds.found {L : List (List Int)} {fr sz : Nat} {m : Mk} {bs : List Int} {l : List (List Int)} (h : Holds L fr sz m bs) (he : bs = enc l) (hl : Rok l) : Found L fr sz m bs := by
  have hs := h.slot
  have hfit := h.fit
  refine ⟨?_, h.half, by rw [h.used]; exact h.room, h.data, l, by rw [he]; exact rc_enc hl⟩
  have h0 := (lok_getD h.lok (k := fr) (by omega)).1
  have h1 := (lok_getD h.lok (k := fr + 1) (by omega)).1
  have hm := h.mine
  have ho := h.other
  refine pick_counts hs h0 h1 ?_ ?_
  · have : m.slot = 0 ∨ m.slot = 1 := by omega
    rcases this with e | e
    · rw [if_pos e]; rw [e] at hm ⊢; exact hm
    · rw [if_neg (by omega)]; rw [e] at hm ⊢; exact hm
  · have : m.slot = 0 ∨ m.slot = 1 := by omega
    rcases this with e | e
    · rw [if_pos e]; rw [e] at ho; exact ho
    · rw [if_neg (by omega)]; rw [e] at ho; exact ho
theorem Found.same {L : List (List Int)} {fr sz : Nat} {m m' : Mk} {bs bs' : List Int} (h : Found L fr sz m bs) (h' : Found L fr sz m' bs') : m' = m ∧ bs' = bs := by
  have e := h.pk.symm.trans h'.pk
  injection e with e _
  subst e
  exact ⟨rfl, h'.data.symm.trans h.data⟩
/-- A ledger in memory. -/
structure Lg where
  fr : Nat
  sz : Nat
  m : Mk
  bs : List Int
structure Gok (G : Lg) (n : Nat) : Prop where
  fit : G.fr + 2 + 2 * G.sz ≤ n
  n : n ≤ 65536
  slot : G.m.slot ≤ 1
  num : Nok G.m.num
  half : G.m.half ≤ 1
  used : G.m.used ≤ G.bs.length
  room : G.bs.length ≤ G.sz * 64
  bys : Bys G.bs
theorem mkOf_ok {S : List Int} (h : Sok S) (slot : Nat) : (mkOf S slot).1.slot = slot ∧ Nok (mkOf S slot).1.num :=
  ⟨rfl, by show (S.take 8).length = 8; rw [List.length_take, h.1]; rfl, bys_take 8 h.2⟩
theorem pick_or (a b : Mk × Bool) : (pick a b = (b.1, true)) ∨ pick a b = a := by
  unfold pick; split
  · exact .inl rfl
  · exact .inr rfl
theorem rdMk_ok {L : List (List Int)} {fr : Nat} (hL : Lok L) (h : fr + 1 < L.length) : (rdMk L fr).1.slot ≤ 1 ∧ Nok (rdMk L fr).1.num := by
  have h0 := lok_getD hL (k := fr) (by omega)
  have h1 := lok_getD hL (k := fr + 1) h
  unfold rdMk
  rcases pick_or (mkOf (L.getD fr []) 0) (mkOf (L.getD (fr + 1) []) 1) with e | e
  · rw [e]; exact ⟨Nat.le_refl _, (mkOf_ok h1 1).2⟩
  · rw [e]; exact ⟨Nat.zero_le _, (mkOf_ok h0 0).2⟩
theorem Found.gok {L : List (List Int)} {fr sz : Nat} {m : Mk} {bs : List Int} (h : Found L fr sz m bs) (hL : Lok L) (hf : fr + 2 + 2 * sz ≤ L.length) (hn : L.length ≤ 65536) : Gok ⟨fr, sz, m, bs⟩ L.length := by
  have hm := rdMk_ok hL (fr := fr) (by omega)
  rw [h.pk] at hm
  have hb : bs.length = m.used := by rw [← h.data, rd_len]
  exact ⟨hf, hn, hm.1, hm.2, h.half, by show m.used ≤ bs.length; omega, by show bs.length ≤ sz * 64; have := h.used; omega, by show Bys bs; rw [← h.data]; exact rd_bys hL _ _⟩
end Go.Proofs.Ytdbpnfceabklkaa
