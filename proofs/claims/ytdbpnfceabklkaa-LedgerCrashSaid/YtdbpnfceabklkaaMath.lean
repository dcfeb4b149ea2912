/-
  Plain mathematics of disks: sectors, writes that wait, what a crash leaves; taking writes back. No condition.
-/
import Derived.Carry
namespace Go.Proofs.Ytdbpnfceabklkaa

/-- All are bytes. -/
def Bys (l : List Int) : Prop := ∀ z ∈ l, 0 ≤ z ∧ z ≤ 255
theorem bys_nil : Bys [] := fun _ h => by cases h
theorem bys_append {a b : List Int} (ha : Bys a) (hb : Bys b) : Bys (a ++ b) := fun z h => (List.mem_append.1 h).elim (ha z) (hb z)
theorem bys_take {a : List Int} (n : Nat) (ha : Bys a) : Bys (a.take n) := fun z h => ha z (List.mem_of_mem_take h)
theorem bys_drop {a : List Int} (n : Nat) (ha : Bys a) : Bys (a.drop n) := fun z h => ha z (List.mem_of_mem_drop h)
theorem bys_zero (n : Nat) : Bys (List.replicate n 0) := fun z h => by rw [List.eq_of_mem_replicate h]; decide
theorem bys_getD {zs : List Int} (h : Bys zs) (k : Nat) : 0 ≤ zs.getD k 0 ∧ zs.getD k 0 ≤ 255 := by
  rw [List.getD_eq_getElem?_getD]
  by_cases hk : k < zs.length
  · rw [List.getElem?_eq_getElem hk]; exact h _ (List.getElem_mem hk)
  · rw [List.getElem?_eq_none (by omega)]; decide
theorem getD_bys {zs : List Int} (h : ∀ k, 0 ≤ zs.getD k 0 ∧ zs.getD k 0 ≤ 255) : Bys zs := fun z hz => by
  obtain ⟨i, hi, rfl⟩ := List.mem_iff_getElem.1 hz
  have := h i
  rwa [List.getD_eq_getElem?_getD, List.getElem?_eq_getElem hi] at this

/-- A sector's bytes. -/
def Sok (s : List Int) : Prop := s.length = 64 ∧ Bys s
theorem sok_zero : Sok (List.replicate 64 0) := ⟨List.length_replicate, bys_zero 64⟩
/-- A write that waits: its sector, its bytes. -/
abbrev Wr := Nat × List Int
/-- A disk, as the document has it. -/
structure Dk where
  firm : List (List Int)
  wait : List Wr
  armed : Int
  dead : Bool

def put1 (l : List (List Int)) (x : Wr) : List (List Int) := l.set x.1 x.2
def ups (l : List (List Int)) (ws : List Wr) : List (List Int) := ws.foldl put1 l
/-- What stood in the sectors ahead of each write. -/
def was : List (List Int) → List Wr → List Wr
  | _, [] => []
  | l, x :: ws => (x.1, l.getD x.1 []) :: was (put1 l x) ws

theorem put1_length (l : List (List Int)) (x : Wr) : (put1 l x).length = l.length := by simp [put1]
theorem ups_length (l : List (List Int)) (ws : List Wr) : (ups l ws).length = l.length := by
  induction ws generalizing l with
  | nil => rfl
  | cons x ws ih => exact (ih (put1 l x)).trans (put1_length l x)
theorem ups_append (l : List (List Int)) (a b : List Wr) : ups l (a ++ b) = ups (ups l a) b := by simp [ups]
theorem ups_snoc (l : List (List Int)) (a : List Wr) (x : Wr) : ups l (a ++ [x]) = put1 (ups l a) x := by simp [ups]
theorem ups_succ (l : List (List Int)) (ws : List Wr) (k : Nat) (hk : k < ws.length) : ups l (ws.take (k + 1)) = put1 (ups l (ws.take k)) ws[k] := by
  rw [List.take_succ_eq_append_getElem hk, ups_snoc]
theorem was_length (l : List (List Int)) (ws : List Wr) : (was l ws).length = ws.length := by
  induction ws generalizing l with
  | nil => rfl
  | cons x ws ih => simp [was, ih]
theorem was_snoc (l : List (List Int)) (a : List Wr) (x : Wr) : was l (a ++ [x]) = was l a ++ [(x.1, (ups l a).getD x.1 [])] := by
  induction a generalizing l with
  | nil => rfl
  | cons y a ih => simp only [List.cons_append, was, ih]; rfl
theorem was_at (l : List (List Int)) (ws : List Wr) (k : Nat) (hk : k < ws.length) : (was l ws)[k]'(by rw [was_length]; exact hk) = (ws[k].1, (ups l (ws.take k)).getD ws[k].1 []) := by
  induction ws generalizing l k with
  | nil => simp at hk
  | cons x ws ih =>
    cases k with
    | zero => rfl
    | succ k =>
      simp only [was, List.getElem_cons_succ, List.take_succ_cons]
      exact ih (put1 l x) k (by simpa using hk)

/-- Well-formed: sectors are sectors, writes have a place. -/
def Lok (l : List (List Int)) : Prop := ∀ s ∈ l, Sok s
def Wok (n : Nat) (ws : List Wr) : Prop := ∀ x ∈ ws, x.1 < n ∧ Sok x.2
theorem lok_put1 {l : List (List Int)} {x : Wr} (hl : Lok l) (hx : Sok x.2) : Lok (put1 l x) := fun s hs => by
  rcases List.mem_or_eq_of_mem_set hs with h | h
  · exact hl s h
  · rw [h]; exact hx
theorem lok_ups {l : List (List Int)} {ws : List Wr} (hl : Lok l) (hw : Wok l.length ws) : Lok (ups l ws) := by
  induction ws generalizing l with
  | nil => exact hl
  | cons x ws ih =>
    refine ih (l := put1 l x) (lok_put1 hl (hw x (by simp)).2) fun y hy => ?_
    rw [put1_length]; exact hw y (by simp [hy])
theorem wok_take {n : Nat} {ws : List Wr} (k : Nat) (h : Wok n ws) : Wok n (ws.take k) := fun x hx => h x (List.mem_of_mem_take hx)
theorem wok_snoc {n : Nat} {ws : List Wr} {x : Wr} (h : Wok n ws) (h1 : x.1 < n) (h2 : Sok x.2) : Wok n (ws ++ [x]) := fun y hy => by
  rcases List.mem_append.1 hy with hy | hy
  · exact h y hy
  · rcases List.mem_singleton.1 hy with rfl; exact ⟨h1, h2⟩
theorem lok_getD {l : List (List Int)} (h : Lok l) {k : Nat} (hk : k < l.length) : Sok (l.getD k []) := by
  rw [List.getD_eq_getElem?_getD, List.getElem?_eq_getElem hk]; exact h _ (List.getElem_mem hk)
theorem getD_eq {α : Type} {l : List α} {k : Nat} (d : α) (h : k < l.length) : l.getD k d = l[k] := by
  rw [List.getD_eq_getElem?_getD, List.getElem?_eq_getElem h]; rfl
theorem getD_set_same {l : List (List Int)} {k : Nat} (h : k < l.length) (s : List Int) : (l.set k s).getD k [] = s := by
  rw [getD_eq _ (by simpa using h)]; simp
theorem getD_set_other {l : List (List Int)} {k j : Nat} (h : k ≠ j) (s : List Int) : (l.set k s).getD j [] = l.getD j [] := by
  simp [List.getD_eq_getElem?_getD, h]
theorem set_getD_self (l : List (List Int)) (k : Nat) : l.set k (l.getD k []) = l := by
  by_cases h : k < l.length
  · rw [getD_eq _ h]; simp
  · rw [List.set_eq_of_length_le (by omega)]
theorem was_ok {l : List (List Int)} {ws : List Wr} (hl : Lok l) (hw : Wok l.length ws) : Wok l.length (was l ws) := by
  induction ws generalizing l with
  | nil => exact fun x h => by cases h
  | cons x ws ih =>
    intro y hy
    rcases List.mem_cons.1 hy with rfl | hy
    · exact ⟨(hw x (by simp)).1, lok_getD hl (hw x (by simp)).1⟩
    · have := ih (l := put1 l x) (lok_put1 hl (hw x (by simp)).2) (fun z hz => by rw [put1_length]; exact hw z (by simp [hz])) y hy
      rwa [put1_length] at this

/-- What a torn write leaves. -/
def tearL (l : List (List Int)) (x : Wr) (t : Nat) : List (List Int) := l.set x.1 (x.2.take t ++ (l.getD x.1 []).drop t)
def crashL (l : List (List Int)) (ws : List Wr) (K t : Nat) : List (List Int) :=
  if K < ws.length then tearL (ups l (ws.take K)) (ws.getD K (0, [])) t else ups l ws
theorem tear_ok {l : List (List Int)} {x : Wr} {t : Nat} (hl : Lok l) (hx : x.1 < l.length) (hs : Sok x.2) (ht : t ≤ 64) : Lok (tearL l x t) := fun s h => by
  rcases List.mem_or_eq_of_mem_set h with h | h
  · exact hl s h
  · have h2 := lok_getD hl hx
    rw [h]
    refine ⟨?_, bys_append (bys_take t hs.2) (bys_drop t h2.2)⟩
    rw [List.length_append, List.length_take, List.length_drop, hs.1, h2.1]; omega
theorem crash_length (l : List (List Int)) (ws : List Wr) (K t : Nat) : (crashL l ws K t).length = l.length := by
  unfold crashL; split
  · simp [tearL, ups_length]
  · exact ups_length l ws
theorem crash_ok {l : List (List Int)} {ws : List Wr} {K t : Nat} (hl : Lok l) (hw : Wok l.length ws) (ht : t ≤ 64) : Lok (crashL l ws K t) := by
  unfold crashL; split
  · rename_i h
    rw [getD_eq _ h]
    have := hw _ (List.getElem_mem h)
    exact tear_ok (lok_ups hl (wok_take K hw)) (by rw [ups_length]; exact this.1) this.2 ht
  · exact lok_ups hl hw

/-- What taking back has left of the sectors when 'a' writes stand. -/
def tb (l : List (List Int)) (ws : List Wr) (K t a : Nat) : List (List Int) := if K < ws.length ∧ a ≤ K then crashL l ws K t else ups l (ws.take a)
theorem tb_start (l : List (List Int)) (ws : List Wr) (K t : Nat) : tb l ws K t ws.length = ups l ws := by
  unfold tb
  rw [if_neg (by omega), List.take_of_length_le (Nat.le_refl _)]
theorem tb_end {l : List (List Int)} {ws : List Wr} {K t a : Nat} (h : a ≤ K) (h2 : K ≤ a ∨ a = ws.length) : tb l ws K t a = crashL l ws K t := by
  unfold tb
  by_cases hk : K < ws.length
  · rw [if_pos ⟨hk, h⟩]
  · rw [if_neg (by omega)]
    unfold crashL
    rw [if_neg hk]
    rcases h2 with h2 | h2
    · rw [List.take_of_length_le (by omega)]
    · subst h2; rw [List.take_of_length_le (Nat.le_refl _)]
/-- One write is taken back. -/
theorem tb_step {l : List (List Int)} {ws : List Wr} {K t a : Nat} (hw : Wok l.length ws) (ha : a < ws.length) (hK : K ≤ a) (b : Nat) (hb : b = if a = K then t else 0) :
    (tb l ws K t (a + 1)).set ws[a].1 (((tb l ws K t (a + 1)).getD ws[a].1 []).take b ++ ((ups l (ws.take a)).getD ws[a].1 []).drop b) = tb l ws K t a := by
  have hx := hw _ (List.getElem_mem ha)
  have hlen : ws[a].1 < (ups l (ws.take a)).length := by rw [ups_length]; exact hx.1
  have e1 : tb l ws K t (a + 1) = put1 (ups l (ws.take a)) ws[a] := by unfold tb; rw [if_neg (by omega), ups_succ l ws a ha]
  rw [e1]
  have e2 : (put1 (ups l (ws.take a)) ws[a]).getD ws[a].1 [] = ws[a].2 := getD_set_same hlen _
  rw [e2]
  unfold put1
  rw [List.set_set]
  by_cases h : a = K
  · subst h
    rw [if_pos rfl] at hb
    subst hb
    have : tb l ws a b a = crashL l ws a b := by unfold tb; rw [if_pos ⟨ha, Nat.le_refl _⟩]
    rw [this]
    unfold crashL
    rw [if_pos ha, getD_eq _ ha]; rfl
  · rw [if_neg h] at hb
    subst hb
    have : tb l ws K t a = ups l (ws.take a) := by unfold tb; rw [if_neg (by omega)]
    rw [this, List.take_zero, List.drop_zero, List.nil_append, set_getD_self]

/-- The disk's own words. -/
def cur (D : Dk) : List (List Int) := ups D.firm D.wait
def Dok (D : Dk) : Prop := Lok D.firm ∧ Wok D.firm.length D.wait ∧ 0 ≤ D.armed ∧ D.armed ≤ 9223372036854775807
def kp (keep : Int) : Nat := keep.toNat
def tr (tear : Int) : Nat := min tear.toNat 64
def crash (D : Dk) (keep tear : Int) : Dk := ⟨crashL D.firm D.wait (kp keep) (tr tear), [], 0, false⟩
def dies (D : Dk) : Dk := if 0 < D.armed then { D with armed := D.armed - 1, dead := decide (D.armed - 1 = 0) } else D
def pad (b : List Int) : List Int := b ++ List.replicate (64 - b.length) 0
theorem pad_ok {b : List Int} (h : Bys b) (hl : b.length ≤ 64) : Sok (pad b) := ⟨by rw [pad, List.length_append, List.length_replicate]; omega, bys_append h (bys_zero _)⟩
def putD (D : Dk) (n : Nat) (b : List Int) : Dk := { D with wait := D.wait ++ [(n, pad b)] }
def syncD (D : Dk) : Dk := { D with firm := cur D, wait := [] }
theorem dies_firm (D : Dk) : (dies D).firm = D.firm := by unfold dies; split <;> rfl
theorem dies_wait (D : Dk) : (dies D).wait = D.wait := by unfold dies; split <;> rfl
theorem crash_dok {D : Dk} (h : Dok D) (keep tear : Int) : Dok (crash D keep tear) :=
  ⟨crash_ok h.1 h.2.1 (by unfold tr; omega), fun x hx => by simp [crash] at hx, by simp [crash], by simp [crash]⟩
theorem dies_dok {D : Dk} (h : Dok D) : Dok (dies D) := by
  unfold dies; split
  · obtain ⟨h1, h2, h3, h4⟩ := h
    exact ⟨h1, h2, by simp only; omega, by simp only; omega⟩
  · exact h
theorem put_dok {D : Dk} (h : Dok D) {n : Nat} {b : List Int} (hn : n < D.firm.length) (hb : Bys b) (hl : b.length ≤ 64) : Dok (putD D n b) :=
  ⟨h.1, wok_snoc h.2.1 hn (pad_ok hb hl), h.2.2⟩
theorem sync_dok {D : Dk} (h : Dok D) : Dok (syncD D) := ⟨lok_ups h.1 h.2.1, fun x hx => by simp [syncD] at hx, h.2.2⟩
theorem cur_len (D : Dk) : (cur D).length = D.firm.length := ups_length _ _
theorem cur_ok {D : Dk} (h : Dok D) : Lok (cur D) := lok_ups h.1 h.2.1

/-- A call: what the document's disk becomes, and what is told. -/
def doD (D : Dk) (k n t : Int) (b : List Int) : Dk × List Int × Int :=
  if k = 3 then ({ D with armed := max n 0 }, [], 0)
  else if k = 4 then (crash D n t, [], 0)
  else if k < 0 ∨ 4 < k then (D, [], 0)
  else if D.dead = true then (D, [], 40)
  else if k = 2 then (if (dies D).dead = true then (dies D, [], 40) else (syncD (dies D), [], 0))
  else if n < 0 ∨ (D.firm.length : Int) ≤ n ∨ (k = 0 ∧ 64 < b.length) then (D, [], 41)
  else if k = 1 then (D, (cur D).getD n.toNat [], 0)
  else (dies (putD D n.toNat b), [], if (dies (putD D n.toNat b)).dead = true then 40 else 0)
theorem do_len (D : Dk) (k n t : Int) (b : List Int) : (doD D k n t b).1.firm.length = D.firm.length := by
  unfold doD
  repeat' split
  all_goals first
    | rfl
    | exact crash_length _ _ _ _
    | rw [dies_firm]; rfl
    | (show (cur (dies D)).length = _; rw [cur_len, dies_firm])
    | rw [dies_firm]
theorem do_wait (D : Dk) (k n t : Int) (b : List Int) : (doD D k n t b).1.wait.length ≤ D.wait.length + 1 := by
  unfold doD
  repeat' split
  all_goals first
    | exact Nat.le_succ _
    | exact Nat.zero_le _
    | (rw [dies_wait]; simp [putD])
    | (rw [dies_wait]; omega)
theorem do_ok {D : Dk} (h : Dok D) {k n t : Int} {b : List Int} (hb : Bys b) (hn : n ≤ 9223372036854775807) : Dok (doD D k n t b).1 := by
  unfold doD
  by_cases h3 : k = 3
  · rw [if_pos h3]; exact ⟨h.1, h.2.1, by simp only; omega, by simp only; omega⟩
  rw [if_neg h3]
  by_cases h4 : k = 4
  · rw [if_pos h4]; exact crash_dok h n t
  rw [if_neg h4]
  split
  · exact h
  split
  · exact h
  split
  · split
    · exact dies_dok h
    · exact sync_dok (dies_dok h)
  split
  · exact h
  split
  · exact h
  · rename_i hx _
    refine dies_dok (put_dok h (by omega) hb ?_)
    omega
end Go.Proofs.Ytdbpnfceabklkaa
