/-
  Plain mathematics of files: which blocks are there, rising, and each byte; writing, laying bytes to 0, cutting; runs. No condition.
-/
namespace Go.Proofs.Sg

abbrev Byt := Nat → UInt8
/-- A file: its length, the blocks that are there, its bytes. -/
structure Sh where
  n : Nat
  K : List Nat
  f : Byt
abbrev Srt (K : List Nat) : Prop := K.Pairwise (· < ·)
structure GoodS (S : Sh) : Prop where
  srt : Srt S.K
  lim : S.n ≤ 1048576
  key : ∀ k ∈ S.K, 16 * k < S.n
  hole : ∀ i, S.f i ≠ 0 → i / 16 ∈ S.K
  far : ∀ i, S.n ≤ i → S.f i = 0

theorem srt_nodup {K : List Nat} (h : Srt K) : K.Nodup := h.imp (fun h => Nat.ne_of_lt h)
theorem srt_perm {a b : List Nat} (ha : Srt a) (hb : Srt b) (h : a.Perm b) : a = b :=
  List.Perm.eq_of_pairwise (le := fun a b => a < b) (fun a b _ _ h1 h2 => by omega) ha hb h
theorem srt_ext {a b : List Nat} (ha : Srt a) (hb : Srt b) (h : ∀ x, x ∈ a ↔ x ∈ b) : a = b :=
  srt_perm ha hb ((List.perm_ext_iff_of_nodup (srt_nodup ha) (srt_nodup hb)).2 h)

/-- One block more. -/
def ins (k : Nat) (K : List Nat) : List Nat := K.filter (fun x => decide (x < k)) ++ k :: K.filter (fun x => decide (k < x))
theorem mem_ins {k x : Nat} {K : List Nat} : x ∈ ins k K ↔ x = k ∨ x ∈ K := by
  unfold ins
  rw [List.mem_append, List.mem_cons, List.mem_filter, List.mem_filter]
  simp only [decide_eq_true_eq]
  rcases Nat.lt_trichotomy x k with h | h | h
  · have : ¬ k < x := by omega
    have h2 : x ≠ k := by omega
    simp [h, this, h2]
  · subst h; simp
  · have : ¬ x < k := by omega
    have h2 : x ≠ k := by omega
    simp [h, this, h2]
theorem srt_filter {K : List Nat} (h : Srt K) (p : Nat → Bool) : Srt (K.filter p) := List.Pairwise.filter p h
theorem srt_ins {K : List Nat} (h : Srt K) (k : Nat) : Srt (ins k K) := by
  unfold ins
  refine List.pairwise_append.2 ⟨srt_filter h _, List.pairwise_cons.2 ⟨fun y hy => ?_, srt_filter h _⟩, fun a ha b hb => ?_⟩
  · have := (List.mem_filter.1 hy).2; simpa using this
  · have h1 : a < k := by have := (List.mem_filter.1 ha).2; simpa using this
    rcases List.mem_cons.1 hb with rfl | hb
    · exact h1
    · have h2 : k < b := by have := (List.mem_filter.1 hb).2; simpa using this
      omega
theorem ins_of_mem {K : List Nat} (h : Srt K) {k : Nat} (hk : k ∈ K) : ins k K = K :=
  srt_ext (srt_ins h k) h (fun x => by rw [mem_ins]; exact ⟨fun h => h.elim (fun e => e ▸ hk) id, .inr⟩)
theorem len_ins_new {K : List Nat} (h : Srt K) {k : Nat} (hk : k ∉ K) : (ins k K).length = K.length + 1 := by
  have : (ins k K).Perm (k :: K) := (List.perm_ext_iff_of_nodup (srt_nodup (srt_ins h k)) (List.nodup_cons.2 ⟨hk, srt_nodup h⟩)).2 (fun x => by rw [mem_ins, List.mem_cons])
  rw [this.length_eq, List.length_cons]
theorem len_ins {K : List Nat} (h : Srt K) (k : Nat) : (ins k K).length = if k ∈ K then K.length else K.length + 1 := by
  by_cases hk : k ∈ K
  · rw [if_pos hk, ins_of_mem h hk]
  · rw [if_neg hk, len_ins_new h hk]
theorem len_ins_le {K : List Nat} (h : Srt K) (k : Nat) : K.length ≤ (ins k K).length ∧ (ins k K).length ≤ K.length + 1 := by
  rw [len_ins h]; split <;> omega
/-- How the document lays one among them. -/
theorem ins_end {K : List Nat} {k : Nat} (h : ∀ x ∈ K, x < k) : ins k K = K ++ [k] := by
  unfold ins
  rw [List.filter_eq_self.2 (fun x hx => by simpa using h x hx), List.filter_eq_nil_iff.2 (fun x hx => by have := h x hx; simp; omega)]
theorem ins_snoc {K : List Nat} {k x : Nat} (h : k < x) : ins k (K ++ [x]) = ins k K ++ [x] := by
  unfold ins
  have h2 : ¬ x < k := by omega
  rw [List.filter_append, List.filter_append, List.filter_cons_of_neg (by simpa using h2), List.filter_cons_of_pos (by simpa using h)]
  simp
theorem ins_snoc_same {K : List Nat} {k : Nat} : ins k (K ++ [k]) = ins k K := by
  unfold ins
  rw [List.filter_append, List.filter_append, List.filter_cons_of_neg (by simp), List.filter_cons_of_neg (by simp)]
  simp
theorem srt_len : ∀ {m : Nat} {K : List Nat}, Srt K → (∀ k ∈ K, k < m) → K.length ≤ m
  | 0, K, _, hm => by
    cases K with
    | nil => simp
    | cons x l => have := hm x (by simp); omega
  | m + 1, K, h, hm => by
    have h1 := srt_filter h (fun x => !decide (x = m))
    have h2 := srt_len h1 (m := m) (fun k hk => by
      have h3 := List.mem_filter.1 hk
      have h4 := hm k h3.1
      have h5 : k ≠ m := by simpa using h3.2
      omega)
    by_cases hx : m ∈ K
    · have h3 : ins m (K.filter (fun x => !decide (x = m))) = K := srt_ext (srt_ins h1 m) h (fun x => by
        rw [mem_ins, List.mem_filter]
        by_cases e : x = m
        · subst e; simp [hx]
        · simp [e])
      have h4 := len_ins_new h1 (k := m) (by simp)
      rw [h3] at h4
      omega
    · have h3 : K.filter (fun x => !decide (x = m)) = K := List.filter_eq_self.2 (fun x hx' => by
        have : x ≠ m := fun e => hx (e ▸ hx')
        simp [this])
      rw [h3] at h2
      omega

/-- Blocks in a row. -/
def qK (K : List Nat) (a : Nat) : Nat → List Nat
  | 0 => K
  | n + 1 => ins (a + n) (qK K a n)
theorem srt_qK {K : List Nat} (h : Srt K) (a : Nat) : ∀ n, Srt (qK K a n)
  | 0 => h
  | n + 1 => srt_ins (srt_qK h a n) _
theorem mem_qK {K : List Nat} {a x : Nat} : ∀ {n}, x ∈ qK K a n ↔ x ∈ K ∨ (a ≤ x ∧ x < a + n)
  | 0 => by unfold qK; constructor
            · exact .inl
            · rintro (h | h)
              · exact h
              · omega
  | n + 1 => by
    show x ∈ ins (a + n) (qK K a n) ↔ _
    rw [mem_ins, mem_qK (n := n)]
    constructor
    · rintro (h | h | h)
      · exact .inr (by omega)
      · exact .inl h
      · exact .inr (by omega)
    · rintro (h | h)
      · exact .inr (.inl h)
      · rcases Nat.lt_or_ge x (a + n) with h2 | h2
        · exact .inr (.inr ⟨h.1, h2⟩)
        · exact .inl (by omega)
/-- The blocks of bytes in a row. -/
def wK (K : List Nat) (p : Nat) : Nat → List Nat
  | 0 => K
  | n + 1 => ins ((p + n) / 16) (wK K p n)
theorem srt_wK {K : List Nat} (h : Srt K) (p : Nat) : ∀ n, Srt (wK K p n)
  | 0 => h
  | n + 1 => srt_ins (srt_wK h p n) _
theorem mem_wK {K : List Nat} {p x : Nat} : ∀ {n}, x ∈ wK K p n ↔ x ∈ K ∨ ∃ j, j < n ∧ x = (p + j) / 16
  | 0 => by unfold wK; constructor
            · exact .inl
            · rintro (h | ⟨j, hj, _⟩)
              · exact h
              · omega
  | n + 1 => by
    show x ∈ ins ((p + n) / 16) (wK K p n) ↔ _
    rw [mem_ins, mem_wK (n := n)]
    constructor
    · rintro (h | h | ⟨j, hj, h⟩)
      · exact .inr ⟨n, by omega, h⟩
      · exact .inl h
      · exact .inr ⟨j, by omega, h⟩
    · rintro (h | ⟨j, hj, h⟩)
      · exact .inr (.inl h)
      · rcases Nat.lt_or_ge j n with h2 | h2
        · exact .inr (.inr ⟨j, h2, h⟩)
        · have : j = n := by omega
          subst this
          exact .inl h
theorem wK_q {K : List Nat} (h : Srt K) (p : Nat) {n : Nat} (hn : 0 < n) : wK K p n = qK K (p / 16) ((p + n - 1) / 16 + 1 - p / 16) :=
  srt_ext (srt_wK h p n) (srt_qK h _ _) (fun x => by
    rw [mem_wK, mem_qK]
    constructor
    · rintro (h | ⟨j, hj, h⟩)
      · exact .inl h
      · exact .inr (by omega)
    · rintro (h | h)
      · exact .inl h
      · by_cases h0 : x = p / 16
        · exact .inr ⟨0, hn, by simpa using h0⟩
        · exact .inr ⟨16 * x - p, by omega, by omega⟩)
theorem wK_part {K : List Nat} (h : Srt K) (p d : Nat) {m : Nat} (hm : 0 < m) (hb : (p + d) % 16 + m ≤ 16) : wK K p (d + m) = ins ((p + d) / 16) (wK K p d) :=
  srt_ext (srt_wK h p _) (srt_ins (srt_wK h p d) _) (fun x => by
    rw [mem_ins, mem_wK, mem_wK]
    constructor
    · rintro (h | ⟨j, hj, h⟩)
      · exact .inr (.inl h)
      · rcases Nat.lt_or_ge j d with h2 | h2
        · exact .inr (.inr ⟨j, h2, h⟩)
        · exact .inl (by omega)
    · rintro (h | h | ⟨j, hj, h⟩)
      · exact .inr ⟨d, by omega, h⟩
      · exact .inl h
      · exact .inr ⟨j, by omega, h⟩)
theorem wK_skip {K : List Nat} (h : Srt K) {p d : Nat} (hd : d ≠ 0) (hp : (p + d) % 16 ≠ 0) : wK K p (d + 1) = wK K p d :=
  ins_of_mem (srt_wK h p d) (mem_wK.2 (.inr ⟨d - 1, by omega, by omega⟩))
theorem wK_len_le {K : List Nat} (h : Srt K) (p : Nat) : ∀ n, K.length ≤ (wK K p n).length
  | 0 => Nat.le_refl _
  | n + 1 => Nat.le_trans (wK_len_le h p n) (len_ins_le (srt_wK h p n) _).1
/-- How many blocks more. -/
theorem len_qK {K : List Nat} (h : Srt K) (a j : Nat) : (qK K a (j + 1)).length = (qK K a j).length + if a + j ∈ K then 0 else 1 := by
  show (ins (a + j) (qK K a j)).length = _
  rw [len_ins (srt_qK h a j)]
  by_cases hx : a + j ∈ K
  · rw [if_pos (mem_qK.2 (.inl hx)), if_pos hx, Nat.add_zero]
  · rw [if_neg (fun h1 => (mem_qK.1 h1).elim hx (fun h2 => by omega)), if_neg hx]
theorem qK_len_le {K : List Nat} (h : Srt K) (a : Nat) : ∀ n, K.length ≤ (qK K a n).length ∧ (qK K a n).length ≤ K.length + n
  | 0 => ⟨Nat.le_refl _, Nat.le_refl _⟩
  | n + 1 => by have h1 := len_ins_le (srt_qK h a n) (a + n); have h2 := qK_len_le h a n; show K.length ≤ (ins (a + n) (qK K a n)).length ∧ (ins (a + n) (qK K a n)).length ≤ _; omega
theorem len_wK {K : List Nat} (h : Srt K) {p d : Nat} (hc : d = 0 ∨ (p + d) % 16 = 0) : (wK K p (d + 1)).length = (wK K p d).length + if (p + d) / 16 ∈ K then 0 else 1 := by
  show (ins ((p + d) / 16) (wK K p d)).length = _
  rw [len_ins (srt_wK h p d)]
  by_cases hx : (p + d) / 16 ∈ K
  · rw [if_pos (mem_wK.2 (.inl hx)), if_pos hx, Nat.add_zero]
  · rw [if_neg (fun h1 => by
      rcases mem_wK.1 h1 with h2 | ⟨j, hj, h2⟩
      · exact hx h2
      · omega), if_neg hx]
/-- What a write needs. -/
def nd (S : Sh) (p : Nat) (n : Nat) : Nat := (wK S.K p n).length - S.K.length
/-- Bytes are written. -/
def wF (f : Byt) (p : Nat) (b : List UInt8) : Byt := fun i => if p ≤ i ∧ i < p + b.length then b.getD (i - p) 0 else f i
def wr (S : Sh) (p : Nat) (b : List UInt8) : Sh := if b.length = 0 then S else ⟨max S.n (p + b.length), wK S.K p b.length, wF S.f p b⟩
theorem good_wr {S : Sh} (h : GoodS S) {p : Nat} {b : List UInt8} (hp : p + b.length ≤ 1048576) : GoodS (wr S p b) := by
  unfold wr
  split
  · exact h
  · refine ⟨srt_wK h.srt _ _, ?_, fun k hk => ?_, fun i hi => ?_, fun i hi => ?_⟩
    · have := h.lim
      show max S.n (p + b.length) ≤ 1048576
      omega
    · show 16 * k < max S.n (p + b.length)
      rcases mem_wK.1 hk with hk | ⟨j, hj, rfl⟩
      · have := h.key k hk; omega
      · omega
    · show i / 16 ∈ wK S.K p b.length
      replace hi : (if p ≤ i ∧ i < p + b.length then b.getD (i - p) 0 else S.f i) ≠ 0 := hi
      split at hi
      · exact mem_wK.2 (.inr ⟨i - p, by omega, by congr 1; omega⟩)
      · exact mem_wK.2 (.inl (h.hole i hi))
    · replace hi : max S.n (p + b.length) ≤ i := hi
      show (if p ≤ i ∧ i < p + b.length then b.getD (i - p) 0 else S.f i) = 0
      rw [if_neg (by omega)]
      exact h.far i (by omega)
/-- Bytes are laid to 0. -/
def zF (f : Byt) (a t : Nat) : Byt := fun i => if a ≤ i ∧ i < t then 0 else f i
def zK (K : List Nat) (n a t : Nat) : List Nat := K.filter fun k => !(decide (a ≤ 16 * k) && decide (min (16 * k + 16) n ≤ t))
theorem mem_zK {K : List Nat} {n a t k : Nat} : k ∈ zK K n a t ↔ k ∈ K ∧ ¬ (a ≤ 16 * k ∧ min (16 * k + 16) n ≤ t) := by
  unfold zK
  rw [List.mem_filter]
  simp only [Bool.not_eq_true', Bool.and_eq_false_iff, decide_eq_false_iff_not]
  constructor
  · rintro ⟨h1, h2⟩; exact ⟨h1, by omega⟩
  · rintro ⟨h1, h2⟩; exact ⟨h1, by omega⟩
def bl (S : Sh) (a t : Nat) : Sh := ⟨S.n, zK S.K S.n a t, zF S.f a t⟩
theorem good_bl {S : Sh} (h : GoodS S) (a t : Nat) : GoodS (bl S a t) := by
  refine ⟨srt_filter h.srt _, h.lim, fun k hk => h.key k (mem_zK.1 hk).1, fun i hi => ?_, fun i hi => ?_⟩
  · replace hi : (if a ≤ i ∧ i < t then 0 else S.f i) ≠ 0 := hi
    split at hi
    · exact absurd rfl hi
    · have h1 := h.hole i hi
      have h2 : i < S.n := by
        rcases Nat.lt_or_ge i S.n with h2 | h2
        · exact h2
        · exact absurd (h.far i h2) hi
      exact mem_zK.2 ⟨h1, by omega⟩
  · show (if a ≤ i ∧ i < t then 0 else S.f i) = 0
    rw [h.far i hi]; simp
theorem zK_start {S : Sh} (h : GoodS S) (a : Nat) : zK S.K S.n a a = S.K := List.filter_eq_self.2 (fun k hk => by
  have := h.key k hk
  simp only [Bool.not_eq_true', Bool.and_eq_false_iff, decide_eq_false_iff_not]
  omega)
theorem zK_none {S : Sh} (h : GoodS S) {a t : Nat} (ht : t ≤ a) : zK S.K S.n a t = S.K := List.filter_eq_self.2 (fun k hk => by
  have := h.key k hk
  simp only [Bool.not_eq_true', Bool.and_eq_false_iff, decide_eq_false_iff_not]
  omega)
theorem zF_none (f : Byt) {a t : Nat} (ht : t ≤ a) : zF f a t = f := by
  funext i; unfold zF; rw [if_neg (by omega)]
theorem bl_none {S : Sh} (h : GoodS S) {a t : Nat} (ht : t ≤ a) : bl S a t = S := by
  unfold bl; rw [zK_none h ht, zF_none _ ht]
/-- A block goes. -/
theorem zK_drop {S : Sh} (h : GoodS S) {a t p e : Nat} (ha : a ≤ p) (hp : p % 16 = 0) (hpt : p < t) (ht : t ≤ S.n) (he : e = min (p + 16) t) (hk : e % 16 = 0 ∨ e = S.n) :
    zK S.K S.n a e = (zK S.K S.n a p).filter (fun k => !decide (k = p / 16)) := by
  unfold zK
  rw [List.filter_filter]
  refine List.filter_congr (fun k hk' => ?_)
  have h1 := h.key k hk'
  rw [Bool.eq_iff_iff]
  simp only [Bool.not_eq_true', Bool.and_eq_false_iff, decide_eq_false_iff_not, Bool.and_eq_true]
  omega
theorem zK_keep {S : Sh} (h : GoodS S) {a t p e : Nat} (ha : a ≤ p) (hp : p = a ∨ p % 16 = 0) (hpt : p < t) (ht : t ≤ S.n) (he : e = min (p - p % 16 + 16) t) (hk : ¬ (p % 16 = 0 ∧ (e % 16 = 0 ∨ e = S.n))) :
    zK S.K S.n a e = zK S.K S.n a p := by
  unfold zK
  refine List.filter_congr (fun k hk' => ?_)
  have h1 := h.key k hk'
  rw [Bool.eq_iff_iff]
  simp only [Bool.not_eq_true', Bool.and_eq_false_iff, decide_eq_false_iff_not]
  omega
def cutS (S : Sh) (n : Nat) : Sh := ⟨n, (bl S n S.n).K, (bl S n S.n).f⟩
theorem good_cut {S : Sh} (h : GoodS S) {n : Nat} (hn : n ≤ 1048576) : GoodS (cutS S n) := by
  have hb := good_bl h n S.n
  refine ⟨hb.srt, hn, fun k hk => ?_, hb.hole, fun i hi => ?_⟩
  · have h1 := mem_zK.1 hk
    have h2 := h.key k h1.1
    show 16 * k < n
    omega
  · replace hi : n ≤ i := hi
    show (if n ≤ i ∧ i < S.n then 0 else S.f i) = 0
    split
    · rfl
    · exact h.far i (by omega)
def punchS (S : Sh) (p m : Nat) : Sh := bl S p (min (p + m) S.n)
theorem good_punch {S : Sh} (h : GoodS S) (p m : Nat) : GoodS (punchS S p m) := good_bl h _ _
/-- What the document keeps of the blocks. -/
theorem cut_K {S : Sh} (h : GoodS S) (n : Nat) : (cutS S n).K = S.K.filter (fun k => decide (16 * k < n) || decide (S.n ≤ n)) := by
  show zK S.K S.n n S.n = _
  unfold zK
  refine List.filter_congr (fun k hk => ?_)
  have := h.key k hk
  rw [Bool.eq_iff_iff]
  simp only [Bool.not_eq_true', Bool.and_eq_false_iff, decide_eq_false_iff_not, Bool.or_eq_true, decide_eq_true_eq]
  omega
theorem punch_K {S : Sh} (h : GoodS S) (p m : Nat) : (punchS S p m).K = S.K.filter (fun k => decide (m = 0) || decide (16 * k < p) || decide (p + m < min (16 * k + 16) S.n)) := by
  show zK S.K S.n p (min (p + m) S.n) = _
  unfold zK
  refine List.filter_congr (fun k hk => ?_)
  have := h.key k hk
  rw [Bool.eq_iff_iff]
  simp only [Bool.not_eq_true', Bool.and_eq_false_iff, decide_eq_false_iff_not, Bool.or_eq_true, decide_eq_true_eq]
  omega

/-! ### Bytes -/
/-- The bytes of a block. -/
def bk (f : Byt) (k : Nat) : List UInt8 := (List.range 16).map fun j => f (16 * k + j)
theorem bk_len (f : Byt) (k : Nat) : (bk f k).length = 16 := by simp [bk]
theorem bk_get (f : Byt) (k : Nat) {j : Nat} (h : j < 16) : (bk f k)[j]? = some (f (16 * k + j)) := by
  unfold bk
  rw [List.getElem?_map, List.getElem?_range h]; rfl
theorem bk_congr {f g : Byt} {k : Nat} (h : ∀ j, j < 16 → f (16 * k + j) = g (16 * k + j)) : bk f k = bk g k :=
  List.map_congr_left (fun j hj => h j (List.mem_range.1 hj))
theorem bk_zero {f : Byt} {k : Nat} (h : ∀ j, j < 16 → f (16 * k + j) = 0) : bk f k = List.replicate 16 0 := by
  unfold bk
  rw [List.map_congr_left (g := fun _ => (0 : UInt8)) (fun j hj => h j (List.mem_range.1 hj)), List.map_const', List.length_range]
/-- A part of a row is another. -/
def spl {α : Type} (l : List α) (o : Nat) (v : List α) : List α := l.take o ++ (v ++ l.drop (o + v.length))
theorem spl_get {α : Type} {l : List α} {o : Nat} {v : List α} (h : o + v.length ≤ l.length) (j : Nat) : (spl l o v)[j]? = if o ≤ j ∧ j < o + v.length then v[j - o]? else l[j]? := by
  unfold spl
  rcases Nat.lt_or_ge j o with h1 | h1
  · rw [if_neg (by omega), List.getElem?_append_left (by rw [List.length_take]; omega), List.getElem?_take_of_lt h1]
  · rw [List.getElem?_append_right (by rw [List.length_take]; omega), List.length_take, Nat.min_eq_left (by omega)]
    rcases Nat.lt_or_ge j (o + v.length) with h2 | h2
    · rw [if_pos ⟨h1, h2⟩, List.getElem?_append_left (by omega)]
    · rw [if_neg (by omega), List.getElem?_append_right (by omega), List.getElem?_drop]
      congr 1; omega
theorem spl_len {α : Type} {l : List α} {o : Nat} {v : List α} (h : o + v.length ≤ l.length) : (spl l o v).length = l.length := by
  unfold spl
  rw [List.length_append, List.length_append, List.length_take, List.length_drop]; omega
theorem bk_write {f : Byt} {p d m : Nat} {b : List UInt8} (hm : d + m ≤ b.length) (hb : (p + d) % 16 + m ≤ 16) :
    bk (wF f p (b.take (d + m))) ((p + d) / 16) = spl (bk (wF f p (b.take d)) ((p + d) / 16)) ((p + d) % 16) ((b.drop d).take m) := by
  have hl : ((b.drop d).take m).length = m := by rw [List.length_take, List.length_drop]; omega
  have hs : (p + d) % 16 + ((b.drop d).take m).length ≤ (bk (wF f p (b.take d)) ((p + d) / 16)).length := by rw [hl, bk_len]; exact hb
  apply List.ext_getElem?
  intro j
  rw [spl_get hs, hl]
  rcases Nat.lt_or_ge j 16 with h | h
  · rw [bk_get _ _ h, bk_get _ _ h]
    unfold wF
    rw [List.length_take, List.length_take, Nat.min_eq_left hm, Nat.min_eq_left (by omega)]
    by_cases h1 : (p + d) % 16 ≤ j ∧ j < (p + d) % 16 + m
    · rw [if_pos h1, if_pos (by omega)]
      have e : 16 * ((p + d) / 16) + j - p = d + (j - (p + d) % 16) := by omega
      rw [e, List.getD_eq_getElem?_getD, List.getElem?_take_of_lt (by omega), List.getElem?_take_of_lt (by omega), List.getElem?_drop, List.getElem?_eq_getElem (by omega)]
      rfl
    · rw [if_neg h1]
      by_cases h2 : p ≤ 16 * ((p + d) / 16) + j ∧ 16 * ((p + d) / 16) + j < p + d
      · rw [if_pos h2, if_pos (by omega), List.getD_eq_getElem?_getD, List.getD_eq_getElem?_getD, List.getElem?_take_of_lt (by omega), List.getElem?_take_of_lt (by omega)]
      · rw [if_neg h2, if_neg (by omega)]
  · rw [if_neg (by omega), List.getElem?_eq_none (by rw [bk_len]; exact h), List.getElem?_eq_none (by rw [bk_len]; exact h)]
theorem bk_write_other {f : Byt} {p d m k : Nat} {b : List UInt8} (hm : d + m ≤ b.length) (hb : (p + d) % 16 + m ≤ 16) (hk : k ≠ (p + d) / 16) :
    bk (wF f p (b.take (d + m))) k = bk (wF f p (b.take d)) k := bk_congr (fun j hj => by
  unfold wF
  rw [List.length_take, List.length_take, Nat.min_eq_left hm, Nat.min_eq_left (by omega)]
  by_cases h2 : p ≤ 16 * k + j ∧ 16 * k + j < p + d
  · rw [if_pos h2, if_pos (by omega), List.getD_eq_getElem?_getD, List.getD_eq_getElem?_getD, List.getElem?_take_of_lt (by omega), List.getElem?_take_of_lt (by omega)]
  · rw [if_neg h2, if_neg (by omega)])
theorem wF_zero (f : Byt) (p : Nat) (b : List UInt8) : wF f p (b.take 0) = f := by
  funext i; unfold wF; rw [if_neg (by simp)]
theorem bk_blank {f : Byt} {a p e : Nat} (ha : a ≤ p) (hpe : p ≤ e) (hp : e ≤ p - p % 16 + 16) :
    bk (zF f a e) (p / 16) = spl (bk (zF f a p) (p / 16)) (p % 16) (List.replicate (e - p) 0) := by
  have hs : p % 16 + (List.replicate (e - p) (0 : UInt8)).length ≤ (bk (zF f a p) (p / 16)).length := by rw [List.length_replicate, bk_len]; omega
  apply List.ext_getElem?
  intro j
  rw [spl_get hs, List.length_replicate]
  rcases Nat.lt_or_ge j 16 with h | h
  · rw [bk_get _ _ h, bk_get _ _ h]
    unfold zF
    by_cases h1 : p % 16 ≤ j ∧ j < p % 16 + (e - p)
    · rw [if_pos h1, if_pos (by omega), List.getElem?_replicate, if_pos (by omega)]
    · rw [if_neg h1]
      by_cases h2 : a ≤ 16 * (p / 16) + j ∧ 16 * (p / 16) + j < p
      · rw [if_pos h2, if_pos (by omega)]
      · rw [if_neg h2, if_neg (by omega)]
  · rw [if_neg (by omega), List.getElem?_eq_none (by rw [bk_len]; exact h), List.getElem?_eq_none (by rw [bk_len]; exact h)]
theorem bk_blank_other {f : Byt} {a p e k : Nat} (ha : a ≤ p) (hpe : p ≤ e) (hp : e ≤ p - p % 16 + 16) (hk : k ≠ p / 16) : bk (zF f a e) k = bk (zF f a p) k := bk_congr (fun j hj => by
  unfold zF
  by_cases h2 : a ≤ 16 * k + j ∧ 16 * k + j < p
  · rw [if_pos h2, if_pos (by omega)]
  · rw [if_neg h2, if_neg (by omega)])
theorem bk_gone {S : Sh} (h : GoodS S) {a p e : Nat} (ha : a ≤ p) (hp : p % 16 = 0) (hk : e = p + 16 ∨ e = S.n) : bk (zF S.f a e) (p / 16) = List.replicate 16 0 := bk_zero (fun j hj => by
  unfold zF
  by_cases h1 : a ≤ 16 * (p / 16) + j ∧ 16 * (p / 16) + j < e
  · rw [if_pos h1]
  · rw [if_neg h1]
    exact h.far _ (by omega))
theorem bk_hole {S : Sh} (h : GoodS S) {k : Nat} (hk : k ∉ S.K) : bk S.f k = List.replicate 16 0 := bk_zero (fun j hj => by
  by_cases h1 : S.f (16 * k + j) = 0
  · exact h1
  · exact absurd (h.hole _ h1) (by rw [show (16 * k + j) / 16 = k by omega]; exact hk))
/-- All bytes. -/
def bs (f : Byt) (n : Nat) : List UInt8 := (List.range n).map f
theorem bs_len (f : Byt) (n : Nat) : (bs f n).length = n := by simp [bs]
theorem bs_get (f : Byt) {n i : Nat} (h : i < n) : (bs f n)[i]? = some (f i) := by
  unfold bs
  rw [List.getElem?_map, List.getElem?_range h]; rfl
theorem bs_congr {f g : Byt} {n : Nat} (h : ∀ i, i < n → f i = g i) : bs f n = bs g n := List.map_congr_left (fun j hj => h j (List.mem_range.1 hj))
theorem bs_long {f : Byt} {n m : Nat} (h : ∀ i, n ≤ i → f i = 0) (hm : n ≤ m) : bs f m = bs f n ++ List.replicate (m - n) 0 := by
  apply List.ext_getElem?
  intro j
  rcases Nat.lt_or_ge j n with h1 | h1
  · rw [bs_get f (by omega), List.getElem?_append_left (by rw [bs_len]; exact h1), bs_get f h1]
  · rw [List.getElem?_append_right (by rw [bs_len]; exact h1), bs_len, List.getElem?_replicate]
    rcases Nat.lt_or_ge j m with h2 | h2
    · rw [bs_get f h2, if_pos (by omega), h j h1]
    · rw [if_neg (by omega), List.getElem?_eq_none (by rw [bs_len]; exact h2)]
theorem bs_short (f : Byt) {n m : Nat} (h : n ≤ m) : (bs f m).take n = bs f n := by
  unfold bs
  rw [← List.map_take, List.take_range, Nat.min_eq_left h]
theorem bs_write {f : Byt} {p N : Nat} {b : List UInt8} (h : p + b.length ≤ N) : bs (wF f p b) N = spl (bs f N) p b := by
  apply List.ext_getElem?
  intro j
  rw [spl_get (by rw [bs_len]; exact h)]
  rcases Nat.lt_or_ge j N with h1 | h1
  · rw [bs_get _ h1, bs_get _ h1]
    unfold wF
    by_cases h2 : p ≤ j ∧ j < p + b.length
    · rw [if_pos h2, if_pos h2, List.getD_eq_getElem?_getD, List.getElem?_eq_getElem (by omega)]; rfl
    · rw [if_neg h2, if_neg h2]
  · rw [if_neg (by omega), List.getElem?_eq_none (by rw [bs_len]; exact h1), List.getElem?_eq_none (by rw [bs_len]; exact h1)]
theorem zF_step (f : Byt) {a t : Nat} (h : a ≤ t) : zF f a (t + 1) = fun i => if i = t then 0 else zF f a t i := by
  funext i
  unfold zF
  by_cases h1 : i = t
  · rw [if_pos h1, if_pos (by omega)]
  · rw [if_neg h1]
    by_cases h2 : a ≤ i ∧ i < t
    · rw [if_pos h2, if_pos (by omega)]
    · rw [if_neg h2, if_neg (by omega)]
theorem bs_set {f : Byt} {t n : Nat} (h : t < n) : bs (fun i => if i = t then 0 else f i) n = (bs f n).set t 0 := by
  apply List.ext_getElem?
  intro j
  rw [List.getElem?_set]
  rcases Nat.lt_or_ge j n with h1 | h1
  · rw [bs_get _ h1, bs_get _ h1, bs_len]
    by_cases h2 : j = t
    · rw [if_pos h2, if_pos h2.symm, if_pos h]
    · rw [if_neg h2, if_neg (Ne.symm h2)]
  · rw [if_neg (by omega), List.getElem?_eq_none (by rw [bs_len]; exact h1), List.getElem?_eq_none (by rw [bs_len]; exact h1)]
/-- What is read. -/
def rd (S : Sh) (p m : Int) : List UInt8 := if p < 0 ∨ m < 0 ∨ (S.n : Int) ≤ p then [] else ((bs S.f S.n).drop p.toNat).take m.toNat

/-! ### Runs -/
def rn (K : List Nat) : Nat → List (Nat × Nat)
  | 0 => []
  | i + 1 => if 0 < i ∧ K.getD i 0 = K.getD (i - 1) 0 + 1 then (rn K i).dropLast ++ [(((rn K i).getLast?.getD (0, 0)).1, K.getD i 0)] else rn K i ++ [(K.getD i 0, K.getD i 0)]
theorem rn_new {K : List Nat} {i : Nat} (h : ¬ (0 < i ∧ K.getD i 0 = K.getD (i - 1) 0 + 1)) : rn K (i + 1) = rn K i ++ [(K.getD i 0, K.getD i 0)] := by
  conv => lhs; unfold rn
  rw [if_neg h]
theorem rn_on {K : List Nat} {i : Nat} {R : List (Nat × Nat)} {a b : Nat} (hi : 0 < i) (h : K.getD i 0 = K.getD (i - 1) 0 + 1) (hR : rn K i = R ++ [(a, b)]) : rn K (i + 1) = R ++ [(a, K.getD i 0)] := by
  conv => lhs; unfold rn
  rw [if_pos ⟨hi, h⟩, hR]
  simp
theorem rn_some {K : List Nat} : ∀ {i : Nat}, 0 < i → ∃ R a b, rn K i = R ++ [(a, b)]
  | i + 1, _ => by
    by_cases h : 0 < i ∧ K.getD i 0 = K.getD (i - 1) 0 + 1
    · obtain ⟨R, a, b, hR⟩ := rn_some (K := K) h.1
      exact ⟨R, a, _, rn_on h.1 h.2 hR⟩
    · exact ⟨_, _, _, rn_new h⟩
theorem rn_len {K : List Nat} : ∀ i, (rn K i).length ≤ i
  | 0 => Nat.le_refl _
  | i + 1 => by
    have ih := rn_len (K := K) i
    by_cases h : 0 < i ∧ K.getD i 0 = K.getD (i - 1) 0 + 1
    · obtain ⟨R, a, b, hR⟩ := rn_some (K := K) h.1
      rw [rn_on h.1 h.2 hR]
      rw [hR] at ih
      simp at ih ⊢
      omega
    · rw [rn_new h]; simp; omega
end Go.Proofs.Sg
