/-
  Plain mathematics of marks: the number that follows, which of two slots counts, what a torn mark is. No condition.
-/
import Derived.Test.YtdbpnfceabklkaaLed1
namespace Go.Proofs.Ytdbpnfceabklkaa

/-- The number that follows. -/
def nxt : List Int → List Int
  | [] => []
  | x :: l => if x = 255 then 0 :: nxt l else (x + 1) :: l
theorem nxt_len (l : List Int) : (nxt l).length = l.length := by
  induction l with
  | nil => rfl
  | cons x l ih => unfold nxt; split <;> simp [ih]
theorem nxt_bys {l : List Int} (h : Bys l) : Bys (nxt l) := by
  induction l with
  | nil => exact bys_nil
  | cons x l ih =>
    have hx := h x (by simp)
    have hl : Bys l := fun z hz => h z (by simp [hz])
    unfold nxt; split
    · intro z hz
      rcases List.mem_cons.1 hz with rfl | hz
      · decide
      · exact ih hl z hz
    · intro z hz
      rcases List.mem_cons.1 hz with rfl | hz
      · omega
      · exact hl z hz
theorem nxt_head {l : List Int} (h : l ≠ []) (hB : Bys l) : (nxt l).getD 0 0 = (l.getD 0 0 + 1) % 256 := by
  cases l with
  | nil => exact absurd rfl h
  | cons x l =>
    have hx := hB x (by simp)
    unfold nxt; split
    · rename_i e; subst e; rfl
    · show x + 1 = (x + 1) % 256
      omega

/-- What a mark says. -/
structure Mk where
  slot : Nat
  num : List Int
  half : Nat
  used : Nat
/-- A sector as a mark. -/
def mkOf (S : List Int) (slot : Nat) : Mk × Bool := (⟨slot, S.take 8, (S.getD 8 0).toNat, (le ((S.drop 9).take 4)).toNat⟩, decide (S.take 8 = S.drop 56))
/-- A mark as a sector. -/
def secOf (m : Mk) : List Int := m.num ++ ((m.half : Int) :: (le4 m.used ++ (List.replicate 43 0 ++ m.num)))
/-- The mark that counts. -/
def pick (a b : Mk × Bool) : Mk × Bool := if b.2 = true ∧ (a.2 = false ∨ b.1.num = nxt a.1.num) then (b.1, true) else a
/-- The other slot, where m counts. -/
def Good (S : List Int) (m : Mk) : Prop :=
  (S.take 8 = S.drop 56 ∧ S.getD 0 0 ≠ (nxt m.num).getD 0 0 ∧ (m.slot = 1 → nxt (S.take 8) = m.num)) ∨
  (S.getD 0 0 = (nxt m.num).getD 0 0 ∧ S.getD 56 0 ≠ (nxt m.num).getD 0 0) ∨ (S.take 8 = nxt m.num ∧ S.drop 56 ≠ nxt m.num)
def Nok (l : List Int) : Prop := l.length = 8 ∧ Bys l
theorem nok_nxt {l : List Int} (h : Nok l) : Nok (nxt l) := ⟨by rw [nxt_len]; exact h.1, nxt_bys h.2⟩

theorem ext_getD {a b : List Int} (hl : a.length = b.length) (h : ∀ i, i < a.length → a.getD i 0 = b.getD i 0) : a = b := by
  refine List.ext_getElem hl fun i h1 h2 => ?_
  have := h i h1
  rwa [getD_eq _ h1, getD_eq _ h2] at this
theorem take_getD (l : List Int) (n i : Nat) (h : i < n) : (l.take n).getD i 0 = l.getD i 0 := by
  rw [List.getD_eq_getElem?_getD, List.getD_eq_getElem?_getD, List.getElem?_take, if_pos h]
theorem drop_getD (l : List Int) (n i : Nat) : (l.drop n).getD i 0 = l.getD (n + i) 0 := by
  rw [List.getD_eq_getElem?_getD, List.getD_eq_getElem?_getD, List.getElem?_drop]
theorem append_getD_left (a b : List Int) (i : Nat) (h : i < a.length) : (a ++ b).getD i 0 = a.getD i 0 := by
  rw [List.getD_eq_getElem?_getD, List.getD_eq_getElem?_getD, List.getElem?_append_left h]
theorem append_getD_right (a b : List Int) (i : Nat) (h : a.length ≤ i) : (a ++ b).getD i 0 = b.getD (i - a.length) 0 := by
  rw [List.getD_eq_getElem?_getD, List.getD_eq_getElem?_getD, List.getElem?_append_right h]
theorem tear_len {X S : List Int} (hX : X.length = 64) (hS : S.length = 64) {t : Nat} (ht : t ≤ 64) : (X.take t ++ S.drop t).length = 64 := by
  rw [List.length_append, List.length_take, List.length_drop]; omega
theorem tear_getD {X S : List Int} (hX : X.length = 64) {t : Nat} (ht : t ≤ 64) (i : Nat) : (X.take t ++ S.drop t).getD i 0 = if i < t then X.getD i 0 else S.getD i 0 := by
  have h1 : (X.take t).length = t := by rw [List.length_take]; omega
  by_cases h : i < t
  · rw [if_pos h, append_getD_left _ _ _ (by omega), take_getD _ _ _ h]
  · rw [if_neg h, append_getD_right _ _ _ (by omega), drop_getD, h1]
    congr 1; omega
theorem sec_len' {m : Mk} (h : Nok m.num) : (secOf m).length = 64 := by
  simp [secOf, le4_len, h.1]
theorem sec_bys {m : Mk} (h : Nok m.num) (hh : m.half ≤ 1) : Bys (secOf m) := by
  refine bys_append h.2 fun z hz => ?_
  rcases List.mem_cons.1 hz with rfl | hz
  · omega
  · exact bys_append (le4_bys _) (bys_append (bys_zero 43) h.2) z hz
theorem sec_front {m : Mk} (h : Nok m.num) : (secOf m).take 8 = m.num := by
  unfold secOf
  rw [List.take_append_of_le_length (by rw [h.1]; exact Nat.le_refl _), List.take_of_length_le (by rw [h.1]; exact Nat.le_refl _)]
theorem sec_drop9 {m : Mk} (h : Nok m.num) : (secOf m).drop 9 = le4 m.used ++ (List.replicate 43 0 ++ m.num) := by
  unfold secOf
  rw [List.drop_append, List.drop_eq_nil_of_le (by rw [h.1]; omega), List.nil_append, h.1]
  rfl
theorem sec_tail {m : Mk} (h : Nok m.num) : (secOf m).drop 56 = m.num := by
  have : (secOf m).drop 56 = ((secOf m).drop 9).drop 47 := by rw [List.drop_drop]
  rw [this, sec_drop9 h, ← List.append_assoc, List.drop_append, List.drop_eq_nil_of_le (by simp [le4_len]), List.nil_append]
  simp [le4_len]
theorem sec_8 {m : Mk} (h : Nok m.num) : (secOf m).getD 8 0 = (m.half : Int) := by
  unfold secOf
  rw [append_getD_right _ _ _ (by rw [h.1]; exact Nat.le_refl _), h.1]; rfl
theorem mk_sec {m : Mk} (h : Nok m.num) (hu : m.used < 4294967296) : mkOf (secOf m) m.slot = (m, true) := by
  unfold mkOf
  rw [sec_front h, sec_tail h, sec_8 h, sec_drop9 h, List.take_append_of_le_length (by rw [le4_len]; exact Nat.le_refl _), List.take_of_length_le (by rw [le4_len]; exact Nat.le_refl _), le_le4 _ hu]
  simp
/-- The torn mark: it is the whole new one, or the old one counts as before. -/
theorem tear_good {S : List Int} {m m' : Mk} (hS : S.length = 64) (hm : Nok m.num) (hn : m'.num = nxt m.num) (hg : Good S m) {t : Nat} (ht : t ≤ 64) :
    (secOf m').take t ++ S.drop t = secOf m' ∨ Good ((secOf m').take t ++ S.drop t) m := by
  have hN : Nok m'.num := by rw [hn]; exact nok_nxt hm
  obtain ⟨X, hX⟩ : ∃ X, X = secOf m' := ⟨_, rfl⟩
  have hXl : X.length = 64 := by rw [hX]; exact sec_len' hN
  have hXf : X.take 8 = nxt m.num := by rw [hX, sec_front hN, hn]
  have hXt : X.drop 56 = nxt m.num := by rw [hX, sec_tail hN, hn]
  obtain ⟨M, hM⟩ : ∃ M, M = nxt m.num := ⟨_, rfl⟩
  have hMl : M.length = 8 := by rw [hM, nxt_len]; exact hm.1
  have hX0 : ∀ i, i < 8 → X.getD i 0 = M.getD i 0 := fun i hi => by rw [← take_getD X 8 i hi, hXf, hM]
  have hX5 : ∀ i, X.getD (56 + i) 0 = M.getD i 0 := fun i => by rw [← drop_getD, hXt, hM]
  unfold Good at hg ⊢
  rw [← hX]
  rw [← hM] at hg ⊢
  have hg' := tear_getD (S := S) hXl ht
  obtain ⟨Y, hY⟩ : ∃ Y, Y = X.take t ++ S.drop t := ⟨_, rfl⟩
  have hYl : Y.length = 64 := by rw [hY]; exact tear_len hXl hS ht
  rw [← hY] at hg' ⊢
  rcases Nat.eq_zero_or_pos t with h0 | h0
  · subst h0
    have : Y = S := ext_getD (by omega) fun i hi => by rw [hg', if_neg (by omega)]
    rw [this]; exact .inr hg
  · have y0 : Y.getD 0 0 = M.getD 0 0 := by rw [hg', if_pos h0, hX0 0 (by omega)]
    by_cases h56 : t ≤ 56
    · have y5 : ∀ i, Y.getD (56 + i) 0 = S.getD (56 + i) 0 := fun i => by rw [hg', if_neg (by omega)]
      have yt : Y.drop 56 = S.drop 56 := ext_getD (by rw [List.length_drop, List.length_drop]; omega) fun i hi => by rw [drop_getD, drop_getD, y5]
      rcases hg with ⟨h1, h2, _⟩ | ⟨_, h2⟩ | ⟨h1, h2⟩
      · refine .inr (.inr (.inl ⟨y0, ?_⟩))
        have : S.getD 0 0 = S.getD 56 0 := by
          rw [← take_getD S 8 0 (by omega), h1, drop_getD]
        rw [show (56 : Nat) = 56 + 0 from rfl, y5]
        rw [← this]; exact h2
      · exact .inr (.inr (.inl ⟨y0, by rw [show (56 : Nat) = 56 + 0 from rfl, y5]; exact h2⟩))
      · refine .inr (.inr (.inr ⟨?_, by rw [yt]; exact h2⟩))
        refine ext_getD (by rw [List.length_take, hMl]; omega) fun i hi => ?_
        rw [List.length_take] at hi
        rw [take_getD _ _ _ (by omega), hg']
        split
        · exact hX0 i (by omega)
        · rw [← h1, take_getD _ _ _ (by omega)]
    · have yf : Y.take 8 = M := ext_getD (by rw [List.length_take, hMl]; omega) fun i hi => by
        rw [List.length_take] at hi
        rw [take_getD _ _ _ (by omega), hg', if_pos (by omega)]; exact hX0 i (by omega)
      by_cases hw : Y.drop 56 = M
      · refine .inl (ext_getD (by omega) fun i hi => ?_)
        by_cases h : i < t
        · rw [hg', if_pos h]
        · have e1 : Y.getD i 0 = M.getD (i - 56) 0 := by rw [← hw, drop_getD]; congr 1; omega
          have e2 : X.getD i 0 = M.getD (i - 56) 0 := by rw [← hX5]; congr 1; omega
          rw [e1, e2]
      · exact .inr (.inr (.inr ⟨yf, hw⟩))
/-- The mark that counts is found. -/
theorem pick_counts {S0 S1 : List Int} {m : Mk} (hs : m.slot ≤ 1) (h0 : S0.length = 64) (h1 : S1.length = 64) (hm : mkOf (if m.slot = 0 then S0 else S1) m.slot = (m, true)) (hg : Good (if m.slot = 0 then S1 else S0) m) : pick (mkOf S0 0) (mkOf S1 1) = (m, true) := by
  have notwhole : ∀ S : List Int, S.length = 64 → ((S.getD 0 0 = (nxt m.num).getD 0 0 ∧ S.getD 56 0 ≠ (nxt m.num).getD 0 0) ∨ (S.take 8 = nxt m.num ∧ S.drop 56 ≠ nxt m.num)) → S.take 8 ≠ S.drop 56 := fun S _ h e => by
    rcases h with ⟨h1, h2⟩ | ⟨h1, h2⟩
    · have : S.getD 0 0 = S.getD 56 0 := by rw [← take_getD S 8 0 (by omega), e, drop_getD]
      rw [this] at h1; exact h2 h1
    · rw [e] at h1; exact h2 h1
  have : m.slot = 0 ∨ m.slot = 1 := by omega
  rcases this with e | e
  · rw [if_pos e, e] at hm
    rw [if_pos e] at hg
    unfold pick
    rw [hm]
    rw [if_neg]
    rintro ⟨hb, hc⟩
    have hb' : S1.take 8 = S1.drop 56 := of_decide_eq_true hb
    rcases hg with ⟨_, h2, _⟩ | h2 | h2
    · rcases hc with hc | hc
      · cases hc
      · apply h2
        have hc' : S1.take 8 = nxt m.num := hc
        rw [← take_getD S1 8 0 (by omega), hc']
    · exact notwhole S1 h1 (.inl h2) hb'
    · exact notwhole S1 h1 (.inr h2) hb'
  · rw [if_neg (by omega), e] at hm
    rw [if_neg (by omega)] at hg
    unfold pick
    rw [hm, if_pos]
    refine ⟨rfl, ?_⟩
    rcases hg with ⟨_, _, h3⟩ | h2 | h2
    · exact .inr (h3 e).symm
    · exact .inl (decide_eq_false (notwhole S0 h0 (.inl h2)))
    · exact .inl (decide_eq_false (notwhole S0 h0 (.inr h2)))
/-- The elder mark, where the new one counts. -/
theorem good_elder {S : List Int} {m m' : Mk} (hm : Nok m.num) (hn : m'.num = nxt m.num) (hS : mkOf S m.slot = (m, true)) : Good S m' := by
  have h1 : S.take 8 = m.num := by have := congrArg (fun x => x.1.num) hS; exact this
  have h2 : S.take 8 = S.drop 56 := of_decide_eq_true (congrArg (fun x => x.2) hS)
  refine .inl ⟨h2, ?_, fun _ => by rw [h1, hn]⟩
  have hne : m.num ≠ [] := fun e => by have := hm.1; rw [e] at this; simp at this
  have hN := nok_nxt hm
  have hne' : nxt m.num ≠ [] := fun e => by have := hN.1; rw [e] at this; simp at this
  rw [hn, nxt_head hne' hN.2, nxt_head hne hm.2, ← take_getD S 8 0 (by omega), h1]
  have := bys_getD hm.2 0
  omega
/-- A new disk's slots. -/
def mk0 : Mk := ⟨0, List.replicate 8 0, 0, 0⟩
theorem nok0 : Nok mk0.num := ⟨rfl, bys_zero 8⟩
theorem mk_zero : mkOf (List.replicate 64 0) 0 = (mk0, true) := by rfl
theorem good_zero : Good (List.replicate 64 0) mk0 := .inl ⟨by decide, by decide, fun h => by cases h⟩
end Go.Proofs.Ytdbpnfceabklkaa
