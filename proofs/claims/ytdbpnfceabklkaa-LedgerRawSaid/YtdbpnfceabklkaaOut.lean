/-
  What a ledger leaves of the sectors that are not its own (plain mathematics); four sectors that were written ahead of it. No condition.
-/
import Derived.Test.YtdbpnfceabklkaaRun
namespace Go.Proofs.Ytdbpnfceabklkaa
set_option maxRecDepth 100000
open Go.ChangeShapes Go.WideShapes Go.ChangeAt Go.RowKit

theorem setW_in {fr sz : Nat} {m : Mk} {half there : Nat} {b : List Int} (hf : half ≤ 1) (hs : m.slot ≤ 1) (hN : Nok m.num) (hb : b.length ≤ sz * 64) : ∀ x ∈ setW fr sz m half there b, fr ≤ x.1 ∧ x.1 < fr + 2 + 2 * sz := by
  intro x hx
  refine ⟨?_, (setW_fits hf hs hN hb (Nat.le_refl _) x hx).1⟩
  rcases List.mem_append.1 hx with hx | hx
  · obtain ⟨i, hi, rfl⟩ := List.mem_map.1 hx
    show fr ≤ fr + 2 + half * sz + there / 64 + i
    omega
  · rcases List.mem_singleton.1 hx with rfl
    show fr ≤ fr + (1 - m.slot)
    omega
theorem ups_out (ws : List Wr) : ∀ (L : List (List Int)) (i : Nat), (∀ x ∈ ws, x.1 ≠ i) → (ups L ws).getD i [] = L.getD i [] := by
  induction ws with
  | nil => intro L i _; rfl
  | cons x ws ih =>
    intro L i h
    show (ups (put1 L x) ws).getD i [] = L.getD i []
    rw [ih _ _ (fun y hy => h y (by simp [hy]))]
    exact getD_set_other (h x (by simp)) _
theorem put_outside {G : Lg} {D : Dk} {now firm l : List (List Int)} {half there : Nat} (h : Inv G D now firm) (hd : D.dead = false) (ha : D.armed = 0) (hF : Fits G.fr G.sz G.m (enc firm) half there (enc l)) (hl : Rok l) (i : Nat) (hi : i < G.fr ∨ G.fr + 2 + 2 * G.sz ≤ i) :
    (cur (putL G D half there (enc l)).2.1).getD i [] = (cur D).getD i [] := by
  obtain ⟨-, -, -, -, hw, -, -, hf⟩ := put_alive h hd ha hF hl
  unfold cur
  rw [hw, hf]
  show (ups (cur D) _).getD i [] = (cur D).getD i []
  refine ups_out _ _ _ fun x hx => ?_
  obtain ⟨y, hy, rfl⟩ := List.mem_map.1 hx
  have := setW_in (fr := G.fr) (sz := G.sz) (m := G.m) hF.hf h.hold.slot h.hold.num hF.rm y hy
  show y.1 ≠ i
  omega
/-- A call, where nothing dies, and the sectors outside. -/
theorem step_outside {G : Lg} {D : Dk} {now firm : List (List Int)} (h : Alive G D now firm) (k : Int) (s : List Int) (all : List (List Int)) (hall : ∀ x ∈ all, Bys x) (i : Nat) (hi : i < G.fr ∨ G.fr + 2 + 2 * G.sz ≤ i) :
    (cur (stepL G D k s all).2.1).getD i [] = (cur D).getD i [] := by
  unfold stepL
  by_cases k0 : k = 0
  · rw [if_pos k0]
  · rw [if_neg k0]
    by_cases k1 : k = 1
    · rw [if_pos k1]
      have hF := inv_fits_sync h.inv
      have hbs := h.inv.bs
      rw [hbs] at hF ⊢
      exact put_outside h.inv h.dead h.arm hF h.inv.rn i hi
    · rw [if_neg k1]
      by_cases k2 : k = 2
      · rw [if_pos k2]
        by_cases h0 : amissL D.dead 0 all G.sz = 0
        · rw [if_pos h0]
          obtain ⟨-, ha4, har⟩ := amissL_ok h0
          have hra : Rok all := fun x hx => ⟨ha4 x hx, hall x hx⟩
          exact put_outside h.inv h.dead h.arm (inv_fits_replace h.inv hra (by omega)) hra i hi
        · rw [if_neg h0]
      · rw [if_neg k2]
theorem holds_zero {L : List (List Int)} {fr sz : Nat} (hL : Lok L) (h : fr + 2 + 2 * sz ≤ L.length) (hz : ∀ i, fr ≤ i → i < fr + 2 + 2 * sz → L.getD i [] = List.replicate 64 0) : Holds L fr sz mk0 [] := by
  refine ⟨hL, h, by decide, nok0, by decide, rfl, Nat.zero_le _, ?_, ?_, rfl⟩
  · rw [hz _ (by show fr ≤ fr + 0; omega) (by show fr + 0 < _; omega)]; exact mk_zero
  · rw [hz _ (by show fr ≤ fr + (1 - 0); omega) (by show fr + (1 - 0) < _; omega)]; exact good_zero
/-- The four sectors. -/
def nsAt (many k : Nat) : Nat := if k = 0 then 0 else if k = 1 then 1 else if k = 2 then many + 2 else many + 3
theorem ns_lt {many k : Nat} : nsAt many k < many + 4 := by unfold nsAt; split <;> (try split) <;> (try split) <;> omega
theorem ns_out {many k : Nat} (h4 : 4 ≤ many) : nsAt many k < 2 ∨ 2 + 2 + 2 * ((many - 2) / 2) ≤ nsAt many k := by unfold nsAt; split <;> (try split) <;> (try split) <;> omega
theorem ns_far {many k : Nat} {i : Nat} (h1 : 2 ≤ i) (h2 : i < many + 2) : nsAt many k ≠ i := by unfold nsAt; split <;> (try split) <;> (try split) <;> omega
theorem ns_ne {many k j : Nat} (hk : k < 4) (hj : j < k) : nsAt many k ≠ nsAt many j := by
  unfold nsAt
  have h1 : k = 1 ∨ k = 2 ∨ k = 3 := by omega
  have h2 : j = 0 ∨ j = 1 ∨ j = 2 := by omega
  rcases h1 with h1 | h1 | h1 <;> rcases h2 with h2 | h2 | h2 <;> subst h1 <;> subst h2 <;> simp <;> omega
theorem ns_cell {many k : Nat} (hk : k < 4) : (#[Value.int .i64 0, .int .i64 1, .int .i64 ((many : Int) + 2), .int .i64 ((many : Int) + 3)] : Array Value)[k]? = some (.int .i64 ((nsAt many k : Nat) : Int)) := by
  have : k = 0 ∨ k = 1 ∨ k = 2 ∨ k = 3 := by omega
  rcases this with rfl | rfl | rfl | rfl
  · rfl
  · rfl
  · show some (Value.int .i64 ((many : Int) + 2)) = some (.int .i64 ((many + 2 : Nat) : Int)); rw [Int.natCast_add]; rfl
  · show some (Value.int .i64 ((many : Int) + 3)) = some (.int .i64 ((many + 3 : Nat) : Int)); rw [Int.natCast_add]; rfl
def mineL : List Int := [109, 105, 110, 101]
theorem mine_bys : Bys mineL := fun z h => by simp [mineL] at h; omega
structure Four (many k : Nat) (D : Dk) : Prop where
  dead : D.dead = false
  arm : D.armed = 0
  len : D.firm.length = many + 4
  wait : D.wait.length ≤ k
  mine : ∀ j, j < k → (cur D).getD (nsAt many j) [] = pad mineL
  rest : ∀ i, 2 ≤ i → i < many + 2 → (cur D).getD i [] = List.replicate 64 0
theorem four_start (many : Nat) : Four many 0 (newD (many + 4)) := by
  refine ⟨rfl, rfl, newD_len _, Nat.zero_le _, fun j h => absurd h (by omega), fun i h1 h2 => ?_⟩
  show (List.replicate (many + 4) (List.replicate 64 (0 : Int))).getD i [] = _
  rw [List.getD_eq_getElem?_getD, List.getElem?_replicate, if_pos (by omega)]; rfl
theorem four_next {many k : Nat} {D : Dk} (h : Four many k D) (hk : k < 4) : (doD D 0 ((nsAt many k : Nat) : Int) 0 mineL).2.2 = 0 ∧ Four many (k + 1) (doD D 0 ((nsAt many k : Nat) : Int) 0 mineL).1 := by
  have e1 : dies (putD D (nsAt many k) mineL) = putD D (nsAt many k) mineL := by
    have ha : (putD D (nsAt many k) mineL).armed = 0 := h.arm
    unfold dies; rw [if_neg (by rw [ha]; decide)]
  have e := d_write (D := D) (n := nsAt many k) (zs := mineL) h.dead (by rw [h.len]; exact ns_lt) (by decide)
  rw [e1] at e
  have hd : (putD D (nsAt many k) mineL).dead = false := h.dead
  rw [hd, if_neg (by decide)] at e
  rw [e]
  have hc : cur (putD D (nsAt many k) mineL) = put1 (cur D) (nsAt many k, pad mineL) := by
    unfold cur putD
    exact ups_snoc _ _ _
  refine ⟨rfl, h.dead, h.arm, h.len, ?_, fun j hj => ?_, fun i h1 h2 => ?_⟩
  · show (D.wait ++ [_]).length ≤ k + 1
    rw [List.length_append]; have := h.wait; simp; omega
  · show (cur (putD D (nsAt many k) mineL)).getD _ [] = _
    rw [hc]
    by_cases hjk : j = k
    · subst hjk
      exact getD_set_same (by rw [cur_len, h.len]; exact ns_lt) _
    · exact (getD_set_other (ns_ne hk (by omega)) _).trans (h.mine j (by omega))
  · show (cur (putD D (nsAt many k) mineL)).getD _ [] = _
    rw [hc]
    exact (getD_set_other (ns_far h1 h2) _).trans (h.rest i h1 h2)
theorem four_alive {many : Nat} {D : Dk} (h : Four many 4 D) (h4 : 4 ≤ many) (hs : many ≤ 60000) (hok : Dok D) : Alive ⟨2, (many - 2) / 2, mk0, enc []⟩ D [] [] := by
  refine ⟨⟨rok_nil, rok_nil, rfl, ?_, ⟨rfl, Nat.le_refl _⟩, Nat.zero_le _, by show (many - 2) / 2 ≤ 65536; omega, by rw [h.arm]; exact Int.le_refl 0⟩, h.dead, h.arm⟩
  exact holds_zero (fr := 2) (sz := (many - 2) / 2) (cur_ok hok) (by rw [cur_len, h.len]; omega) (fun i h1 h2 => h.rest i h1 (by omega))
theorem run_does_at {w wr : World} {q p sz n : Nat} {G : Lg} {bv : Value} {D : Dk} {now firm : List (List Int)} (h : Run w q p sz n G bv D now firm wr) {o : Ov} (ho : OvOk w o) (hl : o.len ≤ 100000) :
    Calls Try.prog 14 #[.pointer (some ⟨q, 0, none⟩), .agg #[.int .i64 o.k, .string o.S, .slice o.A o.len o.cap]] wr fun e w' => e = .returned (.int .i64 (stepL G D o.k (sb o.S) o.all).2.2) ∧
      ∃ bv', Run w q p sz n (stepL G D o.k (sb o.S) o.all).1 bv' (stepL G D o.k (sb o.S) o.all).2.1 (doNow o.k (stepL G D o.k (sb o.S) o.all).2.2 (sb o.S) o.all now) (doFirm o.k (stepL G D o.k (sb o.S) o.all).2.2 o.all now firm) w' ∧ Kl w.heap.size wr w' := by
  refine (does_any w.heap.size q p G bv D o.k o.S o.A o.len o.cap o.all wr h.pl (by have := ho.size; omega) (ov_str ho h.kl) hl (fun s hs => by have := ho.long s hs; omega) h.wait).mono ?_
  rintro e w' ⟨bv', rfl, hpl, hkl⟩
  obtain ⟨s1, s2, s3, s4, s5⟩ := step_alive h.al o.k (sb o.S) o.all (sb_bys _) ho.reads.2.2
  exact ⟨rfl, bv', ⟨hpl, s1, by rw [s2]; exact h.fr, by rw [s3]; exact h.size, by rw [step_len h.al _ _ _ ho.reads.2.2]; exact h.len, Nat.le_trans s4 h.wait, h.kl.trans hkl⟩, hkl⟩
def mineZ : ByteArray := { data := #[109, 105, 110, 101, 0] }
theorem mine_five : strOfNums ((pad mineL).take 5) = mineZ := by decide
end Go.Proofs.Ytdbpnfceabklkaa
