/-
  What pack.Some returns of kinds and bytes that read: the fields that the bytes begin with, and how many bytes they have; or the error of the first one that is amiss. Condition: no more than 2^32 kinds; the slice's length fits its capacity.
  What pack.Decode returns of kinds and bytes that read: the fields that have all of the bytes, or what is amiss first. Condition: no more than 2^32 kinds; the slice's length fits its capacity.
-/
import Derived.Test.YtflgemlhocjipaaGreatDoorQReadAll
namespace Go.Proofs.YtflgemlhocjipaaGreatDoor.Pq
set_option maxRecDepth 100000
open Go.ChangeShapes Go.WideShapes Go.ChangeAt Go.RowKit

theorem info40 : (Tryz.prog.info? 112).map (fun i => (i.zero, i.size, i.bytes)) = some (some (.agg #[.int .i64 0, .int .i64 0, .string ⟨#[]⟩]), 3, 32) := by kernel_rfl
/-- The cells of fields. -/
def fcs (l : List Fld) : List Value := l.flatMap fun f => [.int .i64 f.k, .int .i64 f.n, .string f.s]
theorem fcs_length (l : List Fld) : (fcs l).length = l.length * 3 := by
  induction l with
  | nil => rfl
  | cons f l ih => simp only [fcs, List.flatMap_cons, List.length_append, List.length_cons, List.length_nil] at ih ⊢; omega
theorem fcs_snoc (l : List Fld) (f : Fld) : fcs (l ++ [f]) = fcs l ++ [.int .i64 f.k, .int .i64 f.n, .string f.s] := by simp [fcs]
theorem fcs_at (l : List Fld) (i : Nat) (hi : i < l.length) : (fcs l)[i * 3]? = some (.int .i64 (l.getD i z0).k) ∧ (fcs l)[i * 3 + 1]? = some (.int .i64 (l.getD i z0).n) ∧ (fcs l)[i * 3 + 2]? = some (.string (l.getD i z0).s) := by
  induction l generalizing i with
  | nil => simp at hi
  | cons f l ih =>
    have e : fcs (f :: l) = .int .i64 f.k :: .int .i64 f.n :: .string f.s :: fcs l := by simp [fcs]
    rw [e]
    cases i with
    | zero => exact ⟨rfl, rfl, rfl⟩
    | succ i =>
      have h := ih i (by simpa using hi)
      have e1 : (i + 1) * 3 = i * 3 + 1 + 1 + 1 := by omega
      have e2 : (i + 1) * 3 + 1 = i * 3 + 1 + 1 + 1 + 1 := by omega
      have e3 : (i + 1) * 3 + 2 = i * 3 + 2 + 1 + 1 + 1 := by omega
      rw [e2, e3, e1]
      simpa using h
theorem fields_own {w : World} {base n : Nat} {v : Value} {l : List Fld} (h : w.ownsRow base 112 3 v n (fcs l)) : ∃ A c, v = .slice A n c ∧ FReads w A n l := by
  have hl : l.length = n := by have := h.1; rw [fcs_length] at this; omega
  rcases h.2 with ⟨rfl, rfl⟩ | ⟨g, cap, cur, rfl, hbg, hg, hn, hc, hs, ht⟩
  · exact ⟨none, 0, rfl, hl, fun h => absurd h (by omega)⟩
  · refine ⟨_, cap, rfl, hl, fun _ => ⟨g, 0, rfl, fun i hi => ?_⟩⟩
    have hcell : ∀ j u, (fcs l)[j]? = some u → w.cell? ⟨g, j, none⟩ = some u := fun j u hu => by
      have := h.cells (g := g) rfl j u hu
      rw [Go.WideShapes.add_plain, Nat.zero_add] at this
      exact this
    obtain ⟨h1, h2, h3⟩ := fcs_at l i (by omega)
    rw [Nat.zero_add]
    exact ⟨hcell _ _ h1, hcell _ _ h2, hcell _ _ h3⟩
theorem fields_own_c {w : World} {base n : Nat} {v : Value} {l : List Fld} (h : w.ownsRow base 112 3 v n (fcs l)) : ∃ A c, v = .slice A n c ∧ FReads w A n l ∧ n ≤ c ∧ (∀ b off, A = some ⟨b, off, none⟩ → base ≤ b) := by
  obtain ⟨A, c, e, hf⟩ := fields_own h
  refine ⟨A, c, e, hf, ?_⟩
  rcases h.2 with ⟨e2, rfl⟩ | ⟨g, cap, cur, e2, hbg, hg, hn, hc, hs, ht⟩
  · rw [e2] at e
    injection e with e3 e4 e5
    exact ⟨Nat.zero_le _, fun b off e6 => by rw [← e3] at e6; cases e6⟩
  · rw [e2] at e
    injection e with e3 e4 e5
    refine ⟨by omega, fun b off e6 => ?_⟩
    rw [← e3] at e6
    injection e6 with e6
    injection e6 with e6 _ _
    omega
def Sm.e : Sm → Int
  | .bad e => e
  | .good _ _ => 0
def Sm.l : Sm → List Fld
  | .bad _ => []
  | .good l _ => l
def Sm.n : Sm → Nat
  | .bad _ => 0
  | .good _ n => n
def SomePost (w : World) (s : Sm) (e : Ending) (w' : World) : Prop :=
  ∃ (A : Option Addr) (c : Nat), e = .returned (.tuple #[.slice A s.l.length c, .int .i64 (s.n : Int), .int .i64 s.e]) ∧ (FReads w' A s.l.length s.l ∧ s.l.length ≤ c ∧ ∀ b off, A = some ⟨b, off, none⟩ → w.heap.size ≤ b) ∧ Below w.heap.size w w'
theorem freads_none (w : World) : FReads w none 0 [] := ⟨rfl, fun h => absurd h (by omega)⟩
/-- A part of bytes that read reads as the part. -/
theorem sub_any {w : World} {A : Option Addr} {len cap : Nat} {zs : List Int} (hR : Reads .u8 w A len zs) (hc : len ≤ cap) (l h : Nat) (hlh : l ≤ h) (hh : h ≤ len) :
    ∃ A' c', (∀ W : World, (Instr.slice 54 (.slice A len cap) (some (.int .i64 (l : Int))) (some (.int .i64 (h : Int))) none).run Tryz.prog W = .ok (.slice A' (h - l) c') W) ∧
      Reads .u8 w A' (h - l) ((zs.drop l).take (h - l)) ∧ h - l ≤ c' ∧ c' ≤ cap := by
  obtain ⟨i0, hi, hz0, hz1, hz2⟩ := info_parts info5
  refine ⟨if cap = l then A else A.map (·.add (l * 1)), cap - l, fun W => ?_, ?_, by omega, by omega⟩
  · rw [run_slice_lh (P := Tryz.prog) (w := W) 54 A len cap Tryz.underlying54 .i64 .i64 (l : Int) (h : Int) (by omega) (by omega) (by omega)]
    have e : Tryz.prog.elem 54 = 5 := by kernel_rfl
    simp [e, sizeOf, typeInfo, hi, hz1, sliced]
  · obtain ⟨h1, h2⟩ := hR
    refine ⟨by rw [List.length_take, List.length_drop]; omega, fun hp => ?_⟩
    obtain ⟨b, off, rfl, hcell⟩ := h2 (by omega)
    rw [if_neg (by omega)]
    refine ⟨b, off + l, by simp [Go.WideShapes.add_plain], fun i hi => ?_⟩
    rw [Nat.add_assoc, hcell (l + i) (by omega), List.getD_eq_getElem?_getD, List.getD_eq_getElem?_getD, List.getElem?_take, if_pos hi, List.getElem?_drop]
theorem sub_from {w : World} {A : Option Addr} {len cap : Nat} {zs : List Int} (hR : Reads .u8 w A len zs) (hc : len ≤ cap) (l : Nat) (hl : l ≤ len) :
    ∃ A' c', (∀ W : World, (Instr.slice 54 (.slice A len cap) (some (.int .i64 (l : Int))) none none).run Tryz.prog W = .ok (.slice A' (len - l) c') W) ∧
      Reads .u8 w A' (len - l) (zs.drop l) ∧ len - l ≤ c' ∧ c' ≤ cap := by
  obtain ⟨i0, hi, hz0, hz1, hz2⟩ := info_parts info5
  obtain ⟨A', c', h1, h2, h3, h4⟩ := sub_any hR hc l len hl (Nat.le_refl _)
  refine ⟨A', c', fun W => ?_, ?_, h3, h4⟩
  · rw [← h1 W, run_slice_lh (P := Tryz.prog) (w := W) 54 A len cap Tryz.underlying54 .i64 .i64 (l : Int) (len : Int) (by omega) (by omega) (by omega),
      run_slice_l (P := Tryz.prog) (w := W) 54 A len cap Tryz.underlying54 .i64 (l : Int) (by omega) (by omega)]
    simp
  · rw [List.take_of_length_le (by rw [List.length_drop, hR.1]; exact Nat.le_refl _)] at h2
    exact h2
/-- What the loop keeps. -/
def SRel (w : World) (len : Nat) (ks zs : List Int) (vl va vi : Value) (wr : World) : Prop :=
  ∃ (k a : Nat) (l : List Fld), k ≤ len ∧ vi = .int .i64 k ∧ va = .int .i64 a ∧ a ≤ zs.length ∧ l.length = k ∧ wr.ownsRow w.heap.size 112 3 vl k (fcs l) ∧ sm ks zs = (sm (ks.drop k) (zs.drop a)).put l a ∧ Below w.heap.size w wr
theorem drop_getD {ks : List Int} {k : Nat} (h : k < ks.length) : ks.drop k = ks.getD k 0 :: ks.drop (k + 1) := by
  rw [List.drop_eq_getElem_cons h, List.getD_eq_getElem?_getD, List.getElem?_eq_getElem h]; rfl
theorem sm_step_bad {ks zs : List Int} {k a : Nat} {l : List Fld} {kd e : Int} (hk : k < ks.length) (hkd : kd = ks.getD k 0) (hs : sm ks zs = (sm (ks.drop k) (zs.drop a)).put l a) (hr : rd kd (zs.drop a) = .bad e) : sm ks zs = .bad e := by
  rw [hs, drop_getD hk, ← hkd]
  simp only [sm, hr, Sm.put]
theorem sm_step_good {ks zs : List Int} {k a n : Nat} {l : List Fld} {kd : Int} {f : Fld} (hk : k < ks.length) (hkd : kd = ks.getD k 0) (hs : sm ks zs = (sm (ks.drop k) (zs.drop a)).put l a) (hr : rd kd (zs.drop a) = .good f n) :
    sm ks zs = (sm (ks.drop (k + 1)) (zs.drop (a + n))).put (l ++ [f]) (a + n) := by
  rw [hs, drop_getD hk, ← hkd]
  simp only [sm, hr, List.drop_drop]
  cases sm (ks.drop (k + 1)) (zs.drop (a + n)) with
  | bad e => rfl
  | good m j => simp [Sm.put, Nat.add_assoc]
theorem sm_bad_ne {ks zs : List Int} {e : Int} (h : sm ks zs = .bad e) : e ≠ 0 := by
  induction ks generalizing zs with
  | nil => simp [sm] at h
  | cons k ks ih =>
    simp only [sm] at h
    split at h
    · rename_i hr; injection h with h; subst h; exact rd_ne hr
    · rename_i f n hr
      cases hs : sm ks (zs.drop n) with
      | bad e' => rw [hs] at h; simp only [Sm.put] at h; injection h with h; subst h; exact ih hs
      | good m j => rw [hs] at h; simp [Sm.put] at h
theorem some_bad {w w' : World} {s : Sm} {er : Int} (hs : s = .bad er) (hb : Below w.heap.size w w') : SomePost w s (.returned (.tuple #[.slice none 0 0, .int .i64 0, .int .i64 er])) w' := by
  subst hs; exact ⟨none, 0, rfl, ⟨freads_none w', Nat.le_refl _, fun _ _ e => by cases e⟩, hb⟩
theorem some_end {w wr : World} {ks zs : List Int} {l : List Fld} {a k : Nat} {v : Value} (hk : k = ks.length) (hl : l.length = k) (hs : sm ks zs = (sm (ks.drop k) (zs.drop a)).put l a) (ho : wr.ownsRow w.heap.size 112 3 v k (fcs l)) (hb : Below w.heap.size w wr) :
    SomePost w (sm ks zs) (.returned (.tuple #[v, .int .i64 (a : Int), .int .i64 0])) wr := by
  rw [hk, List.drop_length] at hs
  have e : sm ks zs = .good l a := by rw [hs]; simp [sm, Sm.put]
  rw [e]
  obtain ⟨A, c, rfl, hf⟩ := fields_own_c ho
  subst hl
  exact ⟨A, c, rfl, hf, hb⟩
theorem some_round {w wr w1 w2 : World} {len k a n : Nat} {ks zs : List Int} {l : List Fld} {f : Fld} {kd : Int} {v v2 : Value} {o o' : Obj} (hB : Bys zs) (hlen : ks.length = len) (hk : k < len) (hkd : kd = ks.getD k 0) (ha : a ≤ zs.length) (hl : l.length = k)
    (hs : sm ks zs = (sm (ks.drop k) (zs.drop a)).put l a) (hr : rd kd (zs.drop a) = .good f n) (ho : wr.ownsRow w.heap.size 112 3 v k (fcs l)) (hb : Below w.heap.size w wr) (hb1 : Below wr.heap.size wr w1)
    (ho2 : w2.ownsRow w.heap.size 112 3 v2 (k + 1) (fcs l ++ [.int .i64 f.k, .int .i64 f.n, .string f.s])) (hg : ((w1.alloc o).alloc o').grownBy w2 v.ownBlock) :
    SRel w len ks zs v2 (.int .i64 ((a : Int) + (n : Int))) (.int .i64 ((k : Int) + 1)) w2 := by
  obtain ⟨hn, _⟩ := rd_good (bys_drop a hB) hr
  rw [List.length_drop] at hn
  have hb1' : Below w.heap.size w ((w1.alloc o).alloc o') := ((hb.trans (hb1.mono hb.size)).alloc (Nat.le_trans hb.size hb1.size) o).alloc (by have := Nat.le_trans hb.size hb1.size; simp; omega) o'
  refine ⟨k + 1, a + n, l ++ [f], by omega, by go_num, by go_num, by omega, by rw [List.length_append, hl]; rfl, ?_, sm_step_good (by omega) hkd hs hr, hb1'.grown hg hb1'.size (own_ge ho)⟩
  rw [fcs_snoc]
  exact ho2
theorem new_three (w : World) (x y z : Value) (t : TypeId) : ∀ j u, [x, y, z][j]? = some u → (w.alloc (.cells #[x, y, z] t)).cell? ((⟨w.heap.size, 0, none⟩ : Addr).add j) = some u := by
  intro j u hu
  rw [Go.WideShapes.add_plain, Nat.zero_add, World.cell?_alloc_at (hn := rfl)]
  simpa using hu
theorem three_one (a b : Int) (s : ByteArray) : ∀ u ∈ [Value.int .i64 a, .int .i64 b, .string s], u.oneCell' = true := by
  intro u hu
  simp only [List.mem_cons, List.not_mem_nil, or_false] at hu
  rcases hu with rfl | rfl | rfl <;> rfl
theorem sm_zero (ks zs : List Int) : sm ks zs = (sm (ks.drop 0) (zs.drop 0)).put [] 0 := by
  rw [List.drop_zero, List.drop_zero]
  generalize sm ks zs = s
  cases s with
  | bad e => rfl
  | good m j => simp [Sm.put]
theorem read_b {k er : Int} {ad : Option Addr} {len cap : Nat} {zs : List Int} {w : World} (hR : Reads .u8 w ad len zs) (hB : Bys zs) (hc : len ≤ cap) (hr : rd k zs = .bad er) :
    Calls Tryz.prog 134 #[.int .i64 k, .slice ad len cap] w fun e w' => e = .returned (.tuple #[.agg #[.int .i64 0, .int .i64 0, .string ⟨#[]⟩], .int .i64 0, .int .i64 er]) ∧ Below w.heap.size w w' := by
  have h := read_any k ad len cap zs w hR hB hc
  rw [hr] at h
  exact h
theorem read_g {k : Int} {f : Fld} {n : Nat} {ad : Option Addr} {len cap : Nat} {zs : List Int} {w : World} (hR : Reads .u8 w ad len zs) (hB : Bys zs) (hc : len ≤ cap) (hr : rd k zs = .good f n) :
    Calls Tryz.prog 134 #[.int .i64 k, .slice ad len cap] w fun e w' => e = .returned (.tuple #[.agg #[.int .i64 f.k, .int .i64 f.n, .string f.s], .int .i64 (n : Int), .int .i64 0]) ∧ Below w.heap.size w w' := by
  have h := read_any k ad len cap zs w hR hB hc
  rw [hr] at h
  exact h
set_option maxHeartbeats 1000000 in
theorem some_any (ka ba : Option Addr) (len kcap blen bcap : Nat) (ks zs : List Int) (w : World) (hK : Reads .i64 w ka len ks) (hR : Reads .u8 w ba blen zs) (hB : Bys zs) (hm : len ≤ 4294967296) (hc : blen ≤ bcap) (hcm : bcap ≤ maxLen) :
    Calls Tryz.prog 98 #[.slice ka len kcap, .slice ba blen bcap] w (SomePost w (sm ks zs)) := by
  obtain ⟨i0, hi, hz0, hz1, hz2⟩ := info_parts info40
  have HK := Lib.hid hK
  have HR := Lib.hid hR
  have HB := Lib.hid hB
  clear hK hR hB
  unfold maxLen at hcm
  go_enter Tryz.func98, Tryz.ntmps98
  go_wp2
  go_loopw [7, 8, 16] (fun vl va vi wr => SRel w len ks zs vl va vi wr) (fun _ _ i _ => len - (intOf i).toNat)
  case atStart => exact ⟨0, 0, [], by omega, rfl, rfl, by omega, rfl, World.ownsRow_nil _ _ _ _, sm_zero ks zs, Below.refl _ _⟩
  case round =>
    obtain ⟨k, a, l, hk, rfl, rfl, ha, hl, hown, hs, hb⟩ := hrel
    have HA := Lib.hid ha
    have HL := Lib.hid hl
    have HO := Lib.hid hown
    have HS := Lib.hid hs
    have HB2 := Lib.hid hb
    have hab : a ≤ blen := by rw [← HR.out.1]; exact ha
    clear ha hl hown hs hb
    by_cases hlt : k < len
    · obtain ⟨b, off, rfl, hcell⟩ := (HK.out.kept HB2.out).2 (by omega)
      have hx := hcell k hlt
      obtain ⟨kd, hkd⟩ : ∃ kd, kd = ks.getD k 0 := ⟨_, rfl⟩
      rw [← hkd] at hx
      have HKD := Lib.hid hkd
      obtain ⟨A', c', hsl, hrd, hac, _⟩ := sub_from (HR.out.kept HB2.out) hc a hab
      have HRD := Lib.hid hrd
      clear hcell hkd hrd
      have hlk : (k : Int) + 1 ≤ 4294967296 := by omega
      cases hr : rd kd (zs.drop a) with
      | bad er =>
        have hne : (er != 0) = true := by simpa using rd_ne hr
        have HS2 := Lib.hid (sm_step_bad (by rw [HK.out.1]; exact hlt) HKD.out HS.out hr)
        have HC := Lib.hid (read_b (w := wr) HRD.out (bys_drop a HB.out) hac hr)
        clear hr
        go_wp2_with fail
        refine HC.out.mono ?_
        rintro e w1 ⟨rfl, hb1⟩
        have HX := Lib.hid hb1
        have hs1 := hb1.size
        clear hb1
        go_wp2
        go_ret3
        exact some_bad HS2.out ((HB2.out.trans (HX.out.mono HB2.out.size)).alloc (by have := HB2.out.size; omega) _)
      | good f n =>
        have HRR := Lib.hid hr
        have HC := Lib.hid (read_g (w := wr) HRD.out (bys_drop a HB.out) hac hr)
        have hna : a + n ≤ blen := by
          have h1 := (rd_good (bys_drop a HB.out) hr).1
          rw [List.length_drop, HR.out.1] at h1
          omega
        clear hr
        go_wp2_with fail
        refine HC.out.mono ?_
        rintro e w1 ⟨rfl, hb1⟩
        have HX := Lib.hid hb1
        have hs1 := hb1.size
        have HO1 : Hid (((w1.alloc (.cells #[.int .i64 f.k, .int .i64 f.n, .string f.s] 112)).alloc (.cells #[.int .i64 f.k, .int .i64 f.n, .string f.s] 112)).ownsRow w.heap.size 112 3 u7 k (fcs l)) := Lib.hid (((own_below HO.out hb1).alloc _).alloc _)
        have h63 : k + 1 ≤ maxLen := by unfold maxLen; omega
        have h47 : (k + 1) * 32 ≤ 140737488355328 := by omega
        have hsz : w.heap.size ≤ ((w1.alloc (.cells #[.int .i64 f.k, .int .i64 f.n, .string f.s] 112)).alloc (.cells #[.int .i64 f.k, .int .i64 f.n, .string f.s] 112)).heap.size := by have := HB2.out.size; simp; omega
        have HN : Hid (∀ j u, [Value.int .i64 f.k, .int .i64 f.n, .string f.s][j]? = some u → ((w1.alloc (.cells #[.int .i64 f.k, .int .i64 f.n, .string f.s] 112)).alloc (.cells #[.int .i64 f.k, .int .i64 f.n, .string f.s] 112)).cell? ((⟨w1.heap.size + 1, 0, none⟩ : Addr).add j) = some u) := Lib.hid (by
          have h := new_three (w1.alloc (.cells #[.int .i64 f.k, .int .i64 f.n, .string f.s] 112)) (.int .i64 f.k) (.int .i64 f.n) (.string f.s) 112
          rw [show (w1.alloc (.cells #[.int .i64 f.k, .int .i64 f.n, .string f.s] 112)).heap.size = w1.heap.size + 1 by simp] at h
          exact h)
        have H1 := Lib.hid (three_one f.k f.n f.s)
        clear hb1
        go_wp2_with (at_builtin; refine wpList_append_own _ rfl (.tmp 32) (.tmp 34) 107 rfl w.heap.size 112 i0 _ 3 32 Tryz.underlying107 hi hz0 hz1 hz2 rfl (by decide) u7 k (fcs l) rfl HO1.out ⟨w1.heap.size + 1, 0, none⟩ 1 1 [.int .i64 f.k, .int .i64 f.n, .string f.s] rfl rfl HN.out H1.out h63 h47 hsz ?_; intro v2 w2 h4 h5 _; have HY := Lib.hid (some_round HB.out HK.out.1 hlt HKD.out HA.out HL.out HS.out HRR.out HO.out HB2.out HX.out h4 h5); clear h4 h5)
        go_roundw
        case rel => exact HY.out
        case measure => simp [intOf]; omega
    · obtain rfl : len = k := by omega
      go_wp2
      go_ret3
      exact some_end HK.out.1.symm HL.out HS.out HO.out HB2.out
end Go.Proofs.YtflgemlhocjipaaGreatDoor.Pq
namespace Go.Proofs.YtflgemlhocjipaaGreatDoor.Pq
set_option maxRecDepth 100000
open Go.ChangeShapes Go.WideShapes Go.ChangeAt Go.RowKit

def DecPost (w : World) (s : Sm) (e : Ending) (w' : World) : Prop :=
  ∃ (A : Option Addr) (c : Nat), e = .returned (.tuple #[.slice A s.l.length c, .int .i64 s.e]) ∧ (FReads w' A s.l.length s.l ∧ s.l.length ≤ c ∧ ∀ b off, A = some ⟨b, off, none⟩ → w.heap.size ≤ b) ∧ Below w.heap.size w w'
theorem dec_bad {w w' : World} {s : Sm} {er : Int} (hs : s = .bad er) (hb : Below w.heap.size w w') : DecPost w s (.returned (.tuple #[.slice none 0 0, .int .i64 er])) w' := by
  subst hs; exact ⟨none, 0, rfl, ⟨freads_none w', Nat.le_refl _, fun _ _ e => by cases e⟩, hb⟩
theorem dec_bad_at {w w' : World} {s : Sm} {er : Int} {A : Option Addr} {c : Nat} (hs : s = .bad er) (hf : FReads w' A 0 [] ∧ 0 ≤ c ∧ ∀ b off, A = some ⟨b, off, none⟩ → w.heap.size ≤ b) (hb : Below w.heap.size w w') : DecPost w s (.returned (.tuple #[.slice A 0 c, .int .i64 er])) w' := by
  subst hs; exact ⟨A, c, rfl, hf, hb⟩
theorem dec_good {w w' : World} {s : Sm} {l : List Fld} {n : Nat} {A : Option Addr} {c : Nat} (hs : s = .good l n) (hf : FReads w' A l.length l ∧ l.length ≤ c ∧ ∀ b off, A = some ⟨b, off, none⟩ → w.heap.size ≤ b) (hb : Below w.heap.size w w') : DecPost w s (.returned (.tuple #[.slice A l.length c, .int .i64 0])) w' := by
  subst hs; exact ⟨A, c, rfl, hf, hb⟩
theorem dc_of_bad {ks zs : List Int} {er : Int} (h : sm ks zs = .bad er) : dc ks zs = .bad er := by simp [dc, h]
theorem dc_of_less {ks zs : List Int} {l : List Fld} {n : Nat} (h : sm ks zs = .good l n) (hn : n < zs.length) : dc ks zs = .bad 21 := by simp [dc, h, hn]
theorem dc_of_all {ks zs : List Int} {l : List Fld} {n : Nat} (h : sm ks zs = .good l n) (hn : ¬ n < zs.length) : dc ks zs = .good l n := by simp [dc, h, hn]
set_option maxHeartbeats 400000 in
theorem decode_any (ka ba : Option Addr) (len kcap blen bcap : Nat) (ks zs : List Int) (w : World) (hK : Reads .i64 w ka len ks) (hR : Reads .u8 w ba blen zs) (hB : Bys zs) (hm : len ≤ 4294967296) (hc : blen ≤ bcap) (hcm : bcap ≤ maxLen) :
    Calls Tryz.prog 60 #[.slice ka len kcap, .slice ba blen bcap] w (DecPost w (dc ks zs)) := by
  have hcall := some_any ka ba len kcap blen bcap ks zs w hK hR hB hm hc hcm
  have hl := hR.1
  cases hs : sm ks zs with
  | bad er =>
    have hne : (er == 0) = false := by simpa using sm_bad_ne hs
    rw [hs] at hcall
    have HC := Lib.hid hcall
    have HS := Lib.hid (dc_of_bad hs)
    clear hcall hs hK hR hB hl
    go_enter Tryz.func60, Tryz.ntmps60
    go_wp2_with fail
    refine HC.out.mono ?_
    rintro e w1 ⟨A, c, rfl, hf, hb1⟩
    have HF := Lib.hid hf
    have HB := Lib.hid hb1
    simp only [Sm.e, Sm.l, Sm.n, List.length_nil]
    clear hf hb1
    go_wp2
    go_ret2
    exact dec_bad_at HS.out HF.out HB.out
  | good l n =>
    rw [hs] at hcall
    have HC := Lib.hid hcall
    by_cases hn : n < blen
    · have HS := Lib.hid (dc_of_less hs (by omega))
      have hn' : (n : Int) < (blen : Int) := by omega
      clear hcall hs hK hR hB hl hn
      go_enter Tryz.func60, Tryz.ntmps60
      go_wp2_with fail
      refine HC.out.mono ?_
      rintro e w1 ⟨A, c, rfl, hf, hb1⟩
      have HF := Lib.hid hf
      have HB := Lib.hid hb1
      simp only [Sm.e, Sm.l, Sm.n]
      clear hf hb1
      go_wp2
      go_ret2
      exact dec_bad HS.out HB.out
    · have HS := Lib.hid (dc_of_all hs (by omega))
      have hn' : ¬ (n : Int) < (blen : Int) := by omega
      clear hcall hs hK hR hB hl hn
      go_enter Tryz.func60, Tryz.ntmps60
      go_wp2_with fail
      refine HC.out.mono ?_
      rintro e w1 ⟨A, c, rfl, hf, hb1⟩
      have HF := Lib.hid hf
      have HB := Lib.hid hb1
      simp only [Sm.e, Sm.l, Sm.n]
      clear hf hb1
      go_wp2
      go_ret2
      exact dec_good HS.out HF.out HB.out
end Go.Proofs.YtflgemlhocjipaaGreatDoor.Pq
