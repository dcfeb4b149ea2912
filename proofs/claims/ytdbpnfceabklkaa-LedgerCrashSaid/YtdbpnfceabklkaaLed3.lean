/-
  Plain mathematics of ledgers on sectors: what is held; the writes that lay bytes behind those that are there, or into the other half, and the mark behind them; what a crash leaves of them. No condition.
-/
import Derived.Test.YtdbpnfceabklkaaLed2
namespace Go.Proofs.Ytdbpnfceabklkaa

/-- The first bytes of a half. -/
def rd (L : List (List Int)) (b u : Nat) : List Int := (List.range u).map fun p => (L.getD (b + p / 64) []).getD (p % 64) 0
theorem rd_len (L : List (List Int)) (b u : Nat) : (rd L b u).length = u := by simp [rd]
theorem rd_getD (L : List (List Int)) (b u p : Nat) (h : p < u) : (rd L b u).getD p 0 = (L.getD (b + p / 64) []).getD (p % 64) 0 := by
  unfold rd; rw [List.getD_eq_getElem?_getD, List.getElem?_map, List.getElem?_range h]; rfl
theorem rd_ext {L L' : List (List Int)} {b u : Nat} (h : ∀ p, p < u → (L'.getD (b + p / 64) []).getD (p % 64) 0 = (L.getD (b + p / 64) []).getD (p % 64) 0) : rd L' b u = rd L b u :=
  ext_getD (by rw [rd_len, rd_len]) fun i hi => by
    rw [rd_len] at hi
    rw [rd_getD _ _ _ _ hi, rd_getD _ _ _ _ hi, h i hi]
theorem rd_take (L : List (List Int)) (b u v : Nat) (h : u ≤ v) : (rd L b v).take u = rd L b u :=
  ext_getD (by rw [List.length_take, rd_len, rd_len]; omega) fun i hi => by
    rw [List.length_take, rd_len] at hi
    rw [take_getD _ _ _ (by omega), rd_getD _ _ _ _ (by omega), rd_getD _ _ _ _ (by omega)]
theorem rd_more (L : List (List Int)) (b i c : Nat) (hc : c ≤ 64) (hs : (L.getD (b + i) []).length = 64) : rd L b (64 * i + c) = rd L b (64 * i) ++ (L.getD (b + i) []).take c := by
  refine ext_getD (by rw [List.length_append, rd_len, rd_len, List.length_take]; omega) fun p hp => ?_
  rw [rd_len] at hp
  rw [rd_getD _ _ _ _ hp]
  by_cases h : p < 64 * i
  · rw [append_getD_left _ _ _ (by rw [rd_len]; exact h), rd_getD _ _ _ _ h]
  · rw [append_getD_right _ _ _ (by rw [rd_len]; omega), rd_len, take_getD _ _ _ (by omega), show p / 64 = i by omega, show p % 64 = p - 64 * i by omega]
theorem rd_bys {L : List (List Int)} (h : Lok L) (b u : Nat) : Bys (rd L b u) := fun z hz => by
  obtain ⟨p, _, rfl⟩ := List.mem_map.1 hz
  by_cases hk : b + p / 64 < L.length
  · exact bys_getD (lok_getD h hk).2 _
  · have : L.getD (b + p / 64) [] = [] := by rw [List.getD_eq_getElem?_getD, List.getElem?_eq_none (by omega)]; rfl
    rw [this]; simp

/-- A ledger is held: its mark counts, and these bytes stand where it says. -/
structure Holds (L : List (List Int)) (fr sz : Nat) (m : Mk) (bs : List Int) : Prop where
  lok : Lok L
  fit : fr + 2 + 2 * sz ≤ L.length
  slot : m.slot ≤ 1
  num : Nok m.num
  half : m.half ≤ 1
  used : m.used = bs.length
  room : bs.length ≤ sz * 64
  mine : mkOf (L.getD (fr + m.slot) []) m.slot = (m, true)
  other : Good (L.getD (fr + (1 - m.slot)) []) m
  data : rd L (fr + 2 + m.half * sz) m.used = bs
theorem holds_new {n fr sz : Nat} (h : fr + 2 + 2 * sz ≤ n) : Holds (List.replicate n (List.replicate 64 0)) fr sz mk0 [] := by
  have e : ∀ k, k < n → (List.replicate n (List.replicate 64 (0 : Int))).getD k [] = List.replicate 64 0 := fun k hk => by
    rw [List.getD_eq_getElem?_getD, List.getElem?_replicate, if_pos hk]; rfl
  refine ⟨fun s hs => by rw [List.eq_of_mem_replicate hs]; exact sok_zero, by rw [List.length_replicate]; exact h, by decide, nok0, by decide, rfl, Nat.zero_le _, ?_, ?_, rfl⟩
  · rw [e _ (by show fr + 0 < n; omega)]; exact mk_zero
  · rw [e _ (by show fr + (1 - 0) < n; omega)]; exact good_zero
/-- A write of one sector, torn. -/
theorem tear_other {L : List (List Int)} {x : Wr} {t k : Nat} (h : x.1 ≠ k) : (tearL L x t).getD k [] = L.getD k [] := getD_set_other h _
theorem tear_same {L : List (List Int)} {x : Wr} {t : Nat} (h : x.1 < L.length) : (tearL L x t).getD x.1 [] = x.2.take t ++ (L.getD x.1 []).drop t := getD_set_same h _
theorem tear_length (L : List (List Int)) (x : Wr) (t : Nat) : (tearL L x t).length = L.length := by simp [tearL]
theorem put_tear {L : List (List Int)} {x : Wr} (hL : Lok L) (hx : x.1 < L.length) (hs : Sok x.2) : put1 L x = tearL L x 64 := by
  unfold put1 tearL
  rw [List.take_of_length_le (by rw [hs.1]; exact Nat.le_refl _), List.drop_eq_nil_of_le (by rw [(lok_getD hL hx).1]; exact Nat.le_refl _), List.append_nil]

/-- What the call writes: the sectors of bytes from one on; the mark. -/
def chunkW (n : Nat) (b : List Int) : List Wr := (List.range ((b.length + 63) / 64)).map fun i => (n + i, (b.drop (64 * i)).take 64)
def nextMk (m : Mk) (half used : Nat) : Mk := ⟨1 - m.slot, nxt m.num, half, used⟩
def setW (fr sz : Nat) (m : Mk) (half there : Nat) (b : List Int) : List Wr :=
  chunkW (fr + 2 + half * sz + there / 64) (b.drop (there / 64 * 64)) ++ [(fr + (1 - m.slot), secOf (nextMk m half b.length))]
def pw (ws : List Wr) : List Wr := ws.map fun x => (x.1, pad x.2)
theorem chunkW_length (n : Nat) (b : List Int) : (chunkW n b).length = (b.length + 63) / 64 := by simp [chunkW]
theorem chunkW_at (n : Nat) (b : List Int) (i : Nat) (h : i < (b.length + 63) / 64) : (chunkW n b)[i]'(by rw [chunkW_length]; exact h) = (n + i, (b.drop (64 * i)).take 64) := by
  simp [chunkW]
theorem setW_length (fr sz : Nat) (m : Mk) (half there : Nat) (b : List Int) : (setW fr sz m half there b).length = (b.length - there / 64 * 64 + 63) / 64 + 1 := by
  simp [setW, chunkW_length]
theorem pad_getD (s : List Int) (i : Nat) : (pad s).getD i 0 = s.getD i 0 := by
  unfold pad
  by_cases h : i < s.length
  · rw [append_getD_left _ _ _ h]
  · rw [append_getD_right _ _ _ (by omega), List.getD_eq_getElem?_getD, List.getD_eq_getElem?_getD, List.getElem?_eq_none (l := s) (by omega), List.getElem?_replicate]
    split <;> rfl
/-- Where the new bytes may go. -/
structure Fits (fr sz : Nat) (m : Mk) (bs : List Int) (half there : Nat) (b : List Int) : Prop where
  hf : half ≤ 1
  bys : Bys b
  rm : b.length ≤ sz * 64
  th : there ≤ b.length
  safe : (half ≠ m.half ∧ there = 0) ∨ (half = m.half ∧ there = m.used ∧ b.take there = bs)
theorem sector_far {fr sz h h' k j : Nat} (h1 : h ≤ 1) (h2 : h' ≤ 1) (hk : k < sz) (hj : j < sz) (hne : h ≠ h') : fr + 2 + h * sz + k ≠ fr + 2 + h' * sz + j := by
  have : (h = 0 ∧ h' = 1) ∨ (h = 1 ∧ h' = 0) := by omega
  rcases this with ⟨rfl, rfl⟩ | ⟨rfl, rfl⟩ <;> omega
theorem half_le {h sz : Nat} (h1 : h ≤ 1) : h * sz ≤ sz := by
  have : h = 0 ∨ h = 1 := by omega
  rcases this with rfl | rfl <;> omega
/-- A sector of bytes, torn: what was held is held. -/
theorem chunk_tear {L : List (List Int)} {fr sz : Nat} {m : Mk} {bs b : List Int} {half there i t : Nat} (hH : Holds L fr sz m bs) (hF : Fits fr sz m bs half there b) (hi : there / 64 * 64 + 64 * i < b.length) (ht : t ≤ 64) :
    Holds (tearL L (fr + 2 + half * sz + there / 64 + i, pad ((b.drop (there / 64 * 64 + 64 * i)).take 64)) t) fr sz m bs := by
  obtain ⟨k, hk⟩ : ∃ k, k = there / 64 + i := ⟨_, rfl⟩
  have e1 : fr + 2 + half * sz + there / 64 + i = fr + 2 + half * sz + k := by omega
  have e2 : there / 64 * 64 + 64 * i = 64 * k := by omega
  rw [e1, e2]
  rw [e2] at hi
  have hksz : k < sz := by have := hF.rm; omega
  have hh := half_le (sz := sz) hF.hf
  have hfit := hH.fit
  have hmine := hH.slot
  have hin : fr + 2 + half * sz + k < L.length := by omega
  have hsok : Sok (pad ((b.drop (64 * k)).take 64)) := pad_ok (bys_take _ (bys_drop _ hF.bys)) (List.length_take_le _ _)
  have hlok : Lok (tearL L (fr + 2 + half * sz + k, pad ((b.drop (64 * k)).take 64)) t) := tear_ok hH.lok hin hsok ht
  refine ⟨hlok, by rw [tear_length]; exact hfit, hH.slot, hH.num, hH.half, hH.used, hH.room, ?_, ?_, ?_⟩
  · rw [tear_other (by show fr + 2 + half * sz + k ≠ fr + m.slot; omega)]; exact hH.mine
  · rw [tear_other (by show fr + 2 + half * sz + k ≠ fr + (1 - m.slot); omega)]; exact hH.other
  · have hd := hH.data
    have hu := hH.used
    have hr := hH.room
    refine (rd_ext fun p hp => ?_).trans hd
    have hpz : p / 64 < sz := by omega
    by_cases hhalf : half = m.half
    · by_cases hpk : p / 64 = k
      · rcases hF.safe with ⟨h1, _⟩ | ⟨_, h2, h3⟩
        · exact absurd hhalf h1
        · have e3 : fr + 2 + m.half * sz + p / 64 = fr + 2 + half * sz + k := by rw [hhalf, hpk]
          rw [e3]
          have e4 := tear_same (L := L) (x := (fr + 2 + half * sz + k, pad ((b.drop (64 * k)).take 64))) (t := t) hin
          simp only at e4
          rw [e4, tear_getD hsok.1 ht]
          split
          · rw [pad_getD, take_getD _ _ _ (by omega), drop_getD]
            have : (rd L (fr + 2 + m.half * sz) m.used).getD p 0 = b.getD p 0 := by
              rw [hd, ← h3, take_getD _ _ _ (by omega)]
            rw [rd_getD _ _ _ _ hp, e3] at this
            rw [this]; congr 1; omega
          · rfl
      · rw [tear_other (by show fr + 2 + half * sz + k ≠ fr + 2 + m.half * sz + p / 64; rw [hhalf]; omega)]
    · rw [tear_other (by exact sector_far hF.hf hH.half hksz hpz hhalf)]
theorem ups_take_succ {L : List (List Int)} {ws : List Wr} {k : Nat} (h : k < ws.length) : ups L (ws.take (k + 1)) = put1 (ups L (ws.take k)) ws[k] := ups_succ L ws k h
/-- Behind the first sectors. -/
structure Laid (L : List (List Int)) (fr sz : Nat) (m : Mk) (bs : List Int) (half there : Nat) (b : List Int) (i : Nat) : Prop where
  holds : Holds L fr sz m bs
  laid : ∀ p, p < b.length → p < there / 64 * 64 + 64 * i → (L.getD (fr + 2 + half * sz + p / 64) []).getD (p % 64) 0 = b.getD p 0
theorem laid_next {L : List (List Int)} {fr sz : Nat} {m : Mk} {bs b : List Int} {half there i : Nat} (h : Laid L fr sz m bs half there b i) (hF : Fits fr sz m bs half there b) (hi : there / 64 * 64 + 64 * i < b.length) :
    Laid (put1 L (fr + 2 + half * sz + there / 64 + i, pad ((b.drop (there / 64 * 64 + 64 * i)).take 64))) fr sz m bs half there b (i + 1) := by
  have hh := half_le (sz := sz) hF.hf
  have hfit := h.holds.fit
  have hr := hF.rm
  have hin : fr + 2 + half * sz + there / 64 + i < L.length := by omega
  have hsok : Sok (pad ((b.drop (there / 64 * 64 + 64 * i)).take 64)) := pad_ok (bys_take _ (bys_drop _ hF.bys)) (List.length_take_le _ _)
  have hp := put_tear (x := (fr + 2 + half * sz + there / 64 + i, pad ((b.drop (there / 64 * 64 + 64 * i)).take 64))) h.holds.lok hin hsok
  refine ⟨by rw [hp]; exact chunk_tear h.holds hF hi (Nat.le_refl _), fun p hpb hpi => ?_⟩
  by_cases hpk : p / 64 = there / 64 + i
  · have e : fr + 2 + half * sz + p / 64 = fr + 2 + half * sz + there / 64 + i := by omega
    rw [e]
    show ((L.set _ _).getD _ []).getD _ 0 = _
    rw [getD_set_same hin, pad_getD, take_getD _ _ _ (by omega), drop_getD]
    congr 1; omega
  · show ((L.set _ _).getD _ []).getD _ 0 = _
    rw [getD_set_other (by omega)]
    exact h.laid p hpb (by omega)
theorem laid_start {L : List (List Int)} {fr sz : Nat} {m : Mk} {bs b : List Int} {half there : Nat} (h : Holds L fr sz m bs) (hF : Fits fr sz m bs half there b) : Laid L fr sz m bs half there b 0 := by
  refine ⟨h, fun p hpb hp => ?_⟩
  rcases hF.safe with ⟨_, h2⟩ | ⟨h1, h2, h3⟩
  · omega
  · have hpu : p < m.used := by omega
    have := rd_getD L (fr + 2 + m.half * sz) m.used p hpu
    rw [h.data, ← h3, take_getD _ _ _ (by omega)] at this
    rw [h1]; exact this.symm
theorem pw_length (ws : List Wr) : (pw ws).length = ws.length := by simp [pw]
theorem pw_at (ws : List Wr) (i : Nat) (h : i < ws.length) : (pw ws)[i]'(by rw [pw_length]; exact h) = (ws[i].1, pad ws[i].2) := by simp [pw]
theorem setW_chunk (fr sz : Nat) (m : Mk) (half there : Nat) (b : List Int) (i : Nat) (h : there / 64 * 64 + 64 * i < b.length) :
    ∃ hi : i < (pw (setW fr sz m half there b)).length, (pw (setW fr sz m half there b))[i] = (fr + 2 + half * sz + there / 64 + i, pad ((b.drop (there / 64 * 64 + 64 * i)).take 64)) := by
  have hc : i < (chunkW (fr + 2 + half * sz + there / 64) (b.drop (there / 64 * 64))).length := by rw [chunkW_length, List.length_drop]; omega
  have hl : i < (setW fr sz m half there b).length := by rw [setW_length]; omega
  refine ⟨by rw [pw_length]; exact hl, ?_⟩
  rw [pw_at _ _ hl]
  have e : (setW fr sz m half there b)[i] = (fr + 2 + half * sz + there / 64 + i, ((b.drop (there / 64 * 64)).drop (64 * i)).take 64) := by
    unfold setW
    exact (List.getElem_append_left hc).trans (chunkW_at _ _ _ (by rw [List.length_drop]; omega))
  rw [e, List.drop_drop]
theorem setW_last (fr sz : Nat) (m : Mk) (half there : Nat) (b : List Int) (c : Nat) (hc : c = (b.length - there / 64 * 64 + 63) / 64) :
    ∃ hi : c < (pw (setW fr sz m half there b)).length, (pw (setW fr sz m half there b))[c] = (fr + (1 - m.slot), pad (secOf (nextMk m half b.length))) := by
  have hl : c < (setW fr sz m half there b).length := by rw [setW_length]; omega
  refine ⟨by rw [pw_length]; exact hl, ?_⟩
  rw [pw_at _ _ hl]
  have e : (setW fr sz m half there b)[c] = (fr + (1 - m.slot), secOf (nextMk m half b.length)) := by
    unfold setW
    refine (List.getElem_append_right (by rw [chunkW_length, List.length_drop]; omega)).trans ?_
    simp
  rw [e]
theorem laid_all {L : List (List Int)} {fr sz : Nat} {m : Mk} {bs b : List Int} {half there : Nat} (h : Holds L fr sz m bs) (hF : Fits fr sz m bs half there b) :
    ∀ i, there / 64 * 64 + 64 * i < b.length + 64 → i ≤ (b.length - there / 64 * 64 + 63) / 64 → Laid (ups L ((pw (setW fr sz m half there b)).take i)) fr sz m bs half there b i
  | 0, _, _ => by rw [List.take_zero]; exact laid_start h hF
  | i + 1, h1, h2 => by
    have ih := laid_all h hF i (by omega) (by omega)
    have hi : there / 64 * 64 + 64 * i < b.length := by omega
    obtain ⟨hl, e⟩ := setW_chunk fr sz m half there b i hi
    rw [ups_take_succ hl, e]
    exact laid_next ih hF hi
theorem pad_full {s : List Int} (h : s.length = 64) : pad s = s := by simp [pad, h]
/-- The mark, torn. -/
theorem mark_tear {L : List (List Int)} {fr sz : Nat} {m : Mk} {bs b : List Int} {half there c t : Nat} (h : Laid L fr sz m bs half there b c) (hF : Fits fr sz m bs half there b) (hc : b.length ≤ there / 64 * 64 + 64 * c) (hb : b.length < 4294967296) (ht : t ≤ 64) :
    Holds (tearL L (fr + (1 - m.slot), pad (secOf (nextMk m half b.length))) t) fr sz m bs ∨ Holds (tearL L (fr + (1 - m.slot), pad (secOf (nextMk m half b.length))) t) fr sz (nextMk m half b.length) b := by
  have hH := h.holds
  have hslot := hH.slot
  have hfit := hH.fit
  have hN : Nok (nextMk m half b.length).num := nok_nxt hH.num
  have hsl := sec_len' hN
  rw [pad_full hsl]
  have hin : fr + (1 - m.slot) < L.length := by omega
  have hin2 : fr + m.slot < L.length := by omega
  have hsok : Sok (secOf (nextMk m half b.length)) := ⟨hsl, sec_bys hN hF.hf⟩
  have hlok : Lok (tearL L (fr + (1 - m.slot), secOf (nextMk m half b.length)) t) := tear_ok hH.lok hin hsok ht
  have hdata : ∀ hh : Nat, hh ≤ 1 → ∀ u, u ≤ sz * 64 → rd (tearL L (fr + (1 - m.slot), secOf (nextMk m half b.length)) t) (fr + 2 + hh * sz) u = rd L (fr + 2 + hh * sz) u := fun hh _ u _ =>
    rd_ext fun p _ => by rw [tear_other (by show fr + (1 - m.slot) ≠ fr + 2 + hh * sz + p / 64; omega)]
  have hS := (lok_getD hH.lok hin).1
  have e := tear_same (L := L) (x := (fr + (1 - m.slot), secOf (nextMk m half b.length))) (t := t) hin
  simp only at e
  have eo : (tearL L (fr + (1 - m.slot), secOf (nextMk m half b.length)) t).getD (fr + m.slot) [] = L.getD (fr + m.slot) [] := tear_other (by show fr + (1 - m.slot) ≠ fr + m.slot; omega)
  rcases tear_good (m' := nextMk m half b.length) hS hH.num rfl hH.other ht with hw | hg
  · refine .inr ⟨hlok, by rw [tear_length]; exact hfit, by show 1 - m.slot ≤ 1; omega, hN, hF.hf, rfl, hF.rm, ?_, ?_, ?_⟩
    · show mkOf ((tearL L _ t).getD (fr + (1 - m.slot)) []) (1 - m.slot) = _
      rw [e, hw]
      exact mk_sec (m := nextMk m half b.length) hN hb
    · show Good ((tearL L _ t).getD (fr + (1 - (1 - m.slot))) []) _
      rw [show 1 - (1 - m.slot) = m.slot by omega, eo]
      exact good_elder hH.num rfl hH.mine
    · show rd _ (fr + 2 + half * sz) b.length = b
      rw [hdata half hF.hf _ hF.rm]
      refine ext_getD (rd_len _ _ _) fun p hp => ?_
      rw [rd_len] at hp
      rw [rd_getD _ _ _ _ hp]
      exact h.laid p hp (by omega)
  · refine .inl ⟨hlok, by rw [tear_length]; exact hfit, hH.slot, hH.num, hH.half, hH.used, hH.room, ?_, ?_, ?_⟩
    · rw [eo]; exact hH.mine
    · rw [e]; exact hg
    · rw [hdata m.half hH.half _ (by rw [hH.used]; exact hH.room)]; exact hH.data
/-- All is written. -/
theorem set_done {L : List (List Int)} {fr sz : Nat} {m : Mk} {bs b : List Int} {half there : Nat} (h : Holds L fr sz m bs) (hF : Fits fr sz m bs half there b) (hb : b.length < 4294967296) :
    Holds (ups L (pw (setW fr sz m half there b))) fr sz (nextMk m half b.length) b := by
  obtain ⟨c, hc⟩ : ∃ c, c = (b.length - there / 64 * 64 + 63) / 64 := ⟨_, rfl⟩
  have hth := hF.th
  have hl := laid_all h hF c (by omega) (by omega)
  obtain ⟨hi, e⟩ := setW_last fr sz m half there b c hc
  have hfull : (pw (setW fr sz m half there b)).take (c + 1) = pw (setW fr sz m half there b) := List.take_of_length_le (by rw [pw_length, setW_length]; omega)
  rw [← hfull, ups_take_succ hi, e]
  have hH := hl.holds
  have hslot := hH.slot
  have hfit := hH.fit
  have hN : Nok (nextMk m half b.length).num := nok_nxt hH.num
  have hsl := sec_len' hN
  have hin : fr + (1 - m.slot) < (ups L ((pw (setW fr sz m half there b)).take c)).length := by omega
  have hsok : Sok (pad (secOf (nextMk m half b.length))) := pad_ok (sec_bys hN hF.hf) (by omega)
  rw [put_tear hH.lok hin hsok]
  rcases mark_tear (t := 64) hl hF (by omega) hb (Nat.le_refl _) with hx | hx
  · exfalso
    -- the whole mark can't leave the old one counting
    have h1 := hx.other
    have e1 := tear_same (L := ups L ((pw (setW fr sz m half there b)).take c)) (x := (fr + (1 - m.slot), pad (secOf (nextMk m half b.length)))) (t := 64) hin
    simp only at e1
    rw [e1, pad_full hsl, List.take_of_length_le (by omega), List.drop_eq_nil_of_le (by rw [(lok_getD hH.lok hin).1]; exact Nat.le_refl _), List.append_nil] at h1
    have hf : (secOf (nextMk m half b.length)).take 8 = nxt m.num := sec_front hN
    have ht : (secOf (nextMk m half b.length)).drop 56 = nxt m.num := sec_tail hN
    have h0 : (secOf (nextMk m half b.length)).getD 0 0 = (nxt m.num).getD 0 0 := by rw [← take_getD _ 8 0 (by omega), hf]
    have h5 : (secOf (nextMk m half b.length)).getD 56 0 = (nxt m.num).getD 0 0 := by
      have := drop_getD (secOf (nextMk m half b.length)) 56 0
      rw [ht] at this; exact this.symm
    rcases h1 with ⟨_, h2, _⟩ | ⟨_, h2⟩ | ⟨_, h2⟩
    · exact h2 h0
    · exact h2 h5
    · exact h2 ht
  · exact hx
/-- Cut off anywhere, and torn. -/
theorem set_crash {L : List (List Int)} {fr sz : Nat} {m : Mk} {bs b : List Int} {half there : Nat} (h : Holds L fr sz m bs) (hF : Fits fr sz m bs half there b) (hb : b.length < 4294967296) (j K t : Nat) (ht : t ≤ 64) :
    Holds (crashL L ((pw (setW fr sz m half there b)).take j) K t) fr sz m bs ∨ Holds (crashL L ((pw (setW fr sz m half there b)).take j) K t) fr sz (nextMk m half b.length) b := by
  obtain ⟨c, hc⟩ : ∃ c, c = (b.length - there / 64 * 64 + 63) / 64 := ⟨_, rfl⟩
  have hth := hF.th
  have hlen : (pw (setW fr sz m half there b)).length = c + 1 := by rw [pw_length, setW_length, hc]
  have hall : ∀ i, i ≤ c + 1 → Holds (ups L ((pw (setW fr sz m half there b)).take i)) fr sz m bs ∨ Holds (ups L ((pw (setW fr sz m half there b)).take i)) fr sz (nextMk m half b.length) b := fun i hi => by
    by_cases hic : i ≤ c
    · exact .inl (laid_all h hF i (by omega) (by omega)).holds
    · obtain rfl : i = c + 1 := by omega
      rw [List.take_of_length_le (by omega)]
      exact .inr (set_done h hF hb)
  unfold crashL
  split
  · rename_i hK
    rw [List.length_take] at hK
    have hKl : K < (pw (setW fr sz m half there b)).length := by omega
    have e1 : ((pw (setW fr sz m half there b)).take j).take K = (pw (setW fr sz m half there b)).take K := by rw [List.take_take]; congr 1; omega
    have e2 : ((pw (setW fr sz m half there b)).take j).getD K (0, []) = (pw (setW fr sz m half there b))[K] := by
      rw [List.getD_eq_getElem?_getD, List.getElem?_take, if_pos (by omega), List.getElem?_eq_getElem hKl]; rfl
    rw [e1, e2]
    by_cases hKc : K < c
    · have hi : there / 64 * 64 + 64 * K < b.length := by omega
      obtain ⟨_, e⟩ := setW_chunk fr sz m half there b K hi
      rw [e]
      exact .inl (chunk_tear (laid_all h hF K (by omega) (by omega)).holds hF hi ht)
    · obtain rfl : K = c := by omega
      obtain ⟨_, e⟩ := setW_last fr sz m half there b K hc
      rw [e]
      exact mark_tear (laid_all h hF K (by omega) (by omega)) hF (by omega) hb ht
  · rcases Nat.le_total j (c + 1) with hj | hj
    · exact hall j hj
    · have := hall (c + 1) (Nat.le_refl _)
      rw [List.take_of_length_le (by omega)] at this ⊢
      exact this
end Go.Proofs.Ytdbpnfceabklkaa
