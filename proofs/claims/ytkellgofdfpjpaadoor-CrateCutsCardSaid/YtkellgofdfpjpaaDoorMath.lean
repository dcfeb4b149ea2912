/-
  The plain mathematics of CRC-32C on 32-bit numbers: steps, what bytes do to a state. No condition.
-/
import Derived.Laws.BitsLemmas
namespace Go.Proofs.Crc

/-- What a step xors in. -/
def G : BitVec 32 := 2197175160#32
/-- One step. -/
def stp (c : BitVec 32) : BitVec 32 := (c >>> 1) ^^^ (bif c.getLsbD 0 then G else 0#32)
/-- Many steps. -/
def stpN : Nat → BitVec 32 → BitVec 32
  | 0, c => c
  | n + 1, c => stpN n (stp c)

theorem xor4 (a b c d : BitVec 32) : (a ^^^ b) ^^^ (c ^^^ d) = (a ^^^ c) ^^^ (b ^^^ d) := by
  ext i; simp only [BitVec.getElem_xor]; cases a[i] <;> cases b[i] <;> cases c[i] <;> cases d[i] <;> rfl
theorem pick_xor (p q : Bool) (g : BitVec 32) : (bif (p ^^ q) then g else 0#32) = (bif p then g else 0#32) ^^^ (bif q then g else 0#32) := by
  cases p <;> cases q <;> simp
theorem stp_xor (a b : BitVec 32) : stp (a ^^^ b) = stp a ^^^ stp b := by
  unfold stp
  rw [BitVec.getLsbD_xor, pick_xor, xor4, BitVec.ushiftRight_xor_distrib]
theorem stpN_xor (n : Nat) (a b : BitVec 32) : stpN n (a ^^^ b) = stpN n a ^^^ stpN n b := by
  induction n generalizing a b with
  | zero => rfl
  | succ n ih => simp only [stpN, stp_xor, ih]
theorem stpN_add (m n : Nat) (a : BitVec 32) : stpN (m + n) a = stpN n (stpN m a) := by
  induction m generalizing a with
  | zero => simp [stpN]
  | succ m ih => rw [Nat.succ_add]; simp only [stpN, ih]
theorem stpN_stp (n : Nat) (a : BitVec 32) : stpN n (stp a) = stp (stpN n a) := by
  have h1 : stpN (1 + n) a = stpN n (stp a) := stpN_add 1 n a
  have h2 : stpN (n + 1) a = stp (stpN n a) := stpN_add n 1 a
  rw [← h1, ← h2, Nat.add_comm]

/-- Two linear functions that agree on the 32 powers of two agree. -/
theorem lin_ext (f g : BitVec 32 → BitVec 32) (hf : ∀ a b, f (a ^^^ b) = f a ^^^ f b) (hg : ∀ a b, g (a ^^^ b) = g a ^^^ g b)
    (h : ∀ k, k < 32 → f (BitVec.twoPow 32 k) = g (BitVec.twoPow 32 k)) (c : BitVec 32) : f c = g c := by
  have key : ∀ n, n ≤ 32 → ∀ c : BitVec 32, (∀ i, n ≤ i → c.getLsbD i = false) → f c = g c := by
    intro n
    induction n with
    | zero =>
      intro _ c hc
      have : c = 0#32 := by
        apply BitVec.eq_of_getLsbD_eq
        intro i _
        rw [hc i (Nat.zero_le _)]; simp
      subst this
      have z1 := hf 0#32 0#32
      have z2 := hg 0#32 0#32
      rw [BitVec.xor_self] at z1 z2
      rw [BitVec.xor_self] at z1 z2
      rw [z1, z2]
    | succ n ih =>
      intro hn c hc
      by_cases hb : c.getLsbD n = true
      · have e : c = (c ^^^ BitVec.twoPow 32 n) ^^^ BitVec.twoPow 32 n := by rw [BitVec.xor_assoc, BitVec.xor_self, BitVec.xor_zero]
        have e2 : f (c ^^^ BitVec.twoPow 32 n) = g (c ^^^ BitVec.twoPow 32 n) := by
          apply ih (by omega)
          intro i hi
          rw [BitVec.getLsbD_xor, BitVec.getLsbD_twoPow]
          by_cases hin : i = n
          · subst hin; rw [hb]; simp; omega
          · rw [hc i (by omega)]; simp; omega
        rw [e, hf, hg, e2, h n (by omega)]
      · apply ih (by omega)
        intro i hi
        by_cases hin : i = n
        · subst hin; simpa using hb
        · exact hc i (by omega)
  exact key 32 (Nat.le_refl _) c (fun i hi => BitVec.getLsbD_of_ge c i hi)

/-- The way back of a step. -/
def bck (c : BitVec 32) : BitVec 32 := (c <<< 1) ^^^ (bif c.getLsbD 31 then (G <<< 1) ^^^ 1#32 else 0#32)
theorem bck_xor (a b : BitVec 32) : bck (a ^^^ b) = bck a ^^^ bck b := by
  unfold bck
  rw [BitVec.getLsbD_xor, pick_xor, xor4, BitVec.shiftLeft_xor_distrib]
theorem bck_stp (c : BitVec 32) : bck (stp c) = c :=
  lin_ext (fun c => bck (stp c)) id (fun a b => by simp only [stp_xor, bck_xor]) (fun _ _ => rfl) (by decide +kernel) c
theorem stp_inj {a b : BitVec 32} (h : stp a = stp b) : a = b := by rw [← bck_stp a, h, bck_stp]
theorem stpN_inj (n : Nat) {a b : BitVec 32} (h : stpN n a = stpN n b) : a = b := by
  induction n generalizing a b with
  | zero => exact h
  | succ n ih => exact stp_inj (ih h)
theorem stp_zero : stp 0#32 = 0#32 := by decide +kernel
theorem stpN_zero (n : Nat) : stpN n 0#32 = 0#32 := by
  induction n with
  | zero => rfl
  | succ n ih => simp only [stpN, stp_zero, ih]

/-- The table of four steps. -/
def T4 : Array (BitVec 32) := #[0#32, 274646895#32, 549293790#32, 820201905#32, 1098587580#32, 1361435347#32, 1640403810#32, 1905808397#32, 2197175160#32, 2460548119#32, 2722870694#32, 2987750089#32, 3280807620#32, 3553878443#32, 3811616794#32, 4084100981#32]
def t4 (k : Nat) : BitVec 32 := T4.getD k 0#32
def nib (c : BitVec 32) : BitVec 32 := t4 (c &&& 15#32).toNat ^^^ (c >>> 4)
theorem t4_xor : ∀ a, a < 16 → ∀ b, b < 16 → t4 (a ^^^ b) = t4 a ^^^ t4 b := by decide +kernel
theorem and15_lt (c : BitVec 32) : (c &&& 15#32).toNat < 16 := by
  rw [BitVec.toNat_and]
  exact Nat.lt_of_le_of_lt Nat.and_le_right (by decide)
theorem and_x (a b m : BitVec 32) : (a ^^^ b) &&& m = (a &&& m) ^^^ (b &&& m) := by
  ext i; simp only [BitVec.getElem_xor, BitVec.getElem_and]; cases a[i] <;> cases b[i] <;> cases m[i] <;> rfl
theorem nib_xor (a b : BitVec 32) : nib (a ^^^ b) = nib a ^^^ nib b := by
  unfold nib
  rw [and_x, BitVec.toNat_xor, t4_xor _ (and15_lt a) _ (and15_lt b), BitVec.ushiftRight_xor_distrib, xor4]
theorem nib_eq (c : BitVec 32) : nib c = stpN 4 c :=
  lin_ext nib (stpN 4) nib_xor (stpN_xor 4) (by decide +kernel) c
theorem nib_nib (c : BitVec 32) : nib (nib c) = stpN 8 c := by rw [nib_eq, nib_eq, ← stpN_add]

/-- A byte as a number of 32 bits. -/
def B (z : Int) : BitVec 32 := BitVec.ofInt 32 z
/-- What bytes make of a state. -/
def fd (s : BitVec 32) (l : List Int) : BitVec 32 := l.foldl (fun c z => stpN 8 (c ^^^ B z)) s
/-- The sum that goes on. -/
def more (c : BitVec 32) (l : List Int) : BitVec 32 := ~~~ (fd (~~~ c) l)
theorem fd_append (s : BitVec 32) (a b : List Int) : fd s (a ++ b) = fd (fd s a) b := by simp [fd]
theorem more_append (c : BitVec 32) (a b : List Int) : more c (a ++ b) = more (more c a) b := by simp [more, fd_append]
theorem fd_snoc (s : BitVec 32) (a : List Int) (z : Int) : fd s (a ++ [z]) = stpN 8 (fd s a ^^^ B z) := by simp [fd]
theorem fd_zeros (s : BitVec 32) (n : Nat) : fd s (List.replicate n 0) = stpN (8 * n) s := by
  induction n generalizing s with
  | zero => rfl
  | succ n ih =>
    have e : fd s (List.replicate (n + 1) 0) = fd (stpN 8 (s ^^^ B 0)) (List.replicate n 0) := rfl
    have z : B 0 = 0#32 := rfl
    rw [e, ih, z, BitVec.xor_zero, ← stpN_add]
    congr 1; omega
theorem fd_inj (l : List Int) {s t : BitVec 32} (h : fd s l = fd t l) : s = t := by
  induction l generalizing s t with
  | nil => exact h
  | cons z l ih =>
    have h' : fd (stpN 8 (s ^^^ B z)) l = fd (stpN 8 (t ^^^ B z)) l := h
    have := stpN_inj 8 (ih h')
    have e : (s ^^^ B z) ^^^ B z = (t ^^^ B z) ^^^ B z := by rw [this]
    simpa [BitVec.xor_assoc] using e
end Go.Proofs.Crc
