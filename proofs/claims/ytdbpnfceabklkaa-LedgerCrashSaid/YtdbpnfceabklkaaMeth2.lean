/-
  What the ledger's Append and Replace leave. Conditions: no record is longer than an int tells; not too many writes wait; no more than 100000 records are given.
-/
import Derived.Test.YtdbpnfceabklkaaMeth
namespace Go.Proofs.Ytdbpnfceabklkaa
set_option maxRecDepth 100000
open Go.ChangeShapes Go.WideShapes Go.ChangeAt Go.RowKit

/-- All that is no row of bytes is as it was. -/
def Lk (w w' : World) : Prop := ∀ (k : Nat) (o : Obj), w.heap[k]? = some o → (∀ cs t fr, o = Obj.cells cs t fr → t ≠ 5) → w'.heap[k]? = some o
theorem Lk.tag {w w' : World} (h : Lk w w') (k : Nat) (cs : Array Value) (t : TypeId) (fr : Nat × Nat) (hk : w.heap[k]? = some (Obj.cells cs t fr)) (ht : t ≠ 5) : w'.heap[k]? = some (Obj.cells cs t fr) :=
  h k _ hk fun _ _ _ e => by injection e with _ e _; subst e; exact ht
theorem own_ne' {w : World} {base size n : Nat} {v : Value} {xs : List Value} (h : w.ownsRow base 5 size v n xs) {k : Nat} {o : Obj} (hk : w.heap[k]? = some o) (ht : ∀ cs t fr, o = Obj.cells cs t fr → t ≠ 5) : v.ownBlock ≠ some k := by
  intro e'
  rcases h.2 with ⟨rfl, _⟩ | ⟨g, cap, cur, rfl, _, hg, _⟩
  · simp [Value.ownBlock] at e'
  · simp only [Value.ownBlock, Option.some.injEq] at e'
    subst e'
    rw [hk] at hg
    injection hg with hg
    exact ht _ _ _ hg rfl
theorem lk_grown {a b : World} {base size n : Nat} {v : Value} {xs : List Value} (hg : a.grownBy b v.ownBlock) (h : a.ownsRow base 5 size v n xs) : Lk a b := fun k _ hk ht =>
  (hg.block k (Array.getElem?_eq_some_iff.1 hk).1 (fun e => own_ne' h hk ht e.symm)).trans hk
theorem Lk.trans {a b c : World} (h : Lk a b) (k : Lk b c) : Lk a c := fun i o hi ht => k i o (h i o hi ht) ht
theorem Lk.of_below {w w' : World} (h : Below w.heap.size w w') : Lk w w' := fun k _ hk _ => (h.block k (Array.getElem?_eq_some_iff.1 hk).1).trans hk
theorem lay_k (base len : Nat) (v : Value) (zs : List Int) (S : ByteArray) (w : World) (hown : w.ownsRow base 5 1 v len (ints zs)) (hs : S.size ≤ 4096) (hbase : base ≤ w.heap.size) (hm : len ≤ 2147483647) :
    Calls Try.prog 40 #[v, .string S] w fun e w' => ∃ v', e = .returned v' ∧ w'.ownsRow base 5 1 v' (len + 4 + S.size) (ints (zs ++ le4 S.size ++ sb S)) ∧ Below base w w' ∧ Lk w w' := by
  obtain ⟨i0, hi, hz0, hz1, hz2⟩ := info_parts info5
  have HL := Lib.hid (length_any S.size w (by omega))
  obtain ⟨w1, hw1⟩ : ∃ w1, w1 = w.alloc (.cells (ints (le4 S.size)).toArray 5) := ⟨_, rfl⟩
  have HW1 := Lib.hid hw1
  have HO : Hid (w1.ownsRow base 5 1 v len (ints zs)) := Lib.hid (by rw [hw1]; exact hown.alloc _)
  have HR : Hid (Reads w1 (some ⟨w.heap.size, 0, none⟩) 4 (le4 S.size)) := Lib.hid (by rw [hw1]; exact reads_lit w (le4 S.size) 5 (le4_bys _))
  have HZ : Hid (base ≤ w1.heap.size) := Lib.hid (by rw [hw1]; simp; omega)
  have HLW : Hid (Lk w w1) := Lib.hid (by rw [hw1]; exact Lk.of_below (box_below w _))
  have HBW : Hid (Below base w w1) := Lib.hid (by rw [hw1]; exact (box_below w _).mono hbase)
  have hsz : (S.size : Int) ≤ 9223372036854775807 := by omega
  have h4 : len + 4 ≤ 140737488355328 := by omega
  have h5 : len + 4 + S.size ≤ maxLen := by unfold maxLen; omega
  have h6 : len + 4 + S.size ≤ 140737488355328 := by omega
  clear hown hw1
  go_enter Try.func40, Try.ntmps40
  go_wp2_with fail
  refine HL.out.mono ?_
  rintro e w' ⟨rfl, hw'⟩
  rw [← HW1.out] at hw'
  subst hw'
  go_wp2_with (first
    | (at_builtin; refine wpList_append_rd rfl (.tmp 5) (.tmp 8) rfl base i0 hi hz0 hz1 hz2 v len (ints zs) rfl HO.out (some ⟨w.heap.size, 0, none⟩) 4 4 (le4 S.size) rfl HR.out h4 HZ.out ?_; intro v1 w2 h2 h3; have HX := Lib.hid h2; have HY := Lib.hid h3; clear h2 h3; have HZ2 : Hid (base ≤ w2.heap.size) := Lib.hid (Nat.le_trans HZ.out HY.out.size))
    | (at_builtin; refine Lib.wpList_append_own_string _ rfl (.tmp 9) (.tmp 10) 48 9 rfl base 5 i0 Try.underlying48 Try.underlying9 hi hz0 hz1 hz2 v1 (len + 4) (ints zs ++ ints (le4 S.size)) rfl HX.out S rfl h5 h6 HZ2.out ?_; intro v2 w3 h2 h3 _; have HX2 := Lib.hid h2; have HY2 := Lib.hid h3; clear h2 h3)
    | fail)
  go_ret
  refine ⟨v2, rfl, ?_, ?_, HLW.out.trans ((lk_grown HY.out HO.out).trans (lk_grown HY2.out HX.out))⟩
  rotate_left
  · exact (HBW.out.trans (((Below.refl _ _).grown HY.out HZ.out (own_ge HO.out)).grown HY2.out HZ2.out (own_ge HX.out)))
  have h := HX2.out
  rw [strCells_sb] at h
  simpa [ints] using h
/-- What Replace leaves. -/
def RpPost (B q p : Nat) (G : Lg) (bv : Value) (D : Dk) (l : List (List Int)) (w : World) (e : Ending) (w' : World) : Prop :=
  (amissL D.dead 0 l G.sz ≠ 0 ∧ e = .returned (.int .i64 (amissL D.dead 0 l G.sz)) ∧ w = w') ∨
  (amissL D.dead 0 l G.sz = 0 ∧ ∃ bb, SePost (sgR B q p G bv bb D (enc l)) w e w')
theorem need_take_le (l : List (List Int)) (k : Nat) : need (l.take k) ≤ need l := by
  have h : need l = need (l.take k) + need (l.drop k) := by
    conv => lhs; rw [← List.take_append_drop k l]
    unfold need
    rw [List.map_append, List.sum_append]
  omega
theorem amissL_ok {d : Bool} {u sz : Nat} {l : List (List Int)} (h : amissL d u l sz = 0) : d = false ∧ (∀ s ∈ l, s.length ≤ 4096) ∧ u + need l ≤ sz * 64 := by
  unfold amissL at h
  by_cases h1 : d = true
  · rw [if_pos h1] at h; exact absurd h (by decide)
  · rw [if_neg h1] at h
    by_cases h2 : ∃ s ∈ l, 4096 < s.length
    · rw [if_pos h2] at h; exact absurd h (by decide)
    · rw [if_neg h2] at h
      by_cases h3 : sz * 64 < u + need l
      · rw [if_pos h3] at h; exact absurd h (by decide)
      · exact ⟨by simpa using h1, fun s hs => by
          rcases Nat.lt_or_ge 4096 s.length with h4 | h4
          · exact absurd ⟨s, hs, h4⟩ h2
          · exact h4, by omega⟩
set_option maxHeartbeats 1000000 in
theorem replace_any (B q p : Nat) (G : Lg) (bv : Value) (D : Dk) (A : Option Addr) (len cap : Nat) (l : List (List Int)) (w : World) (h : PL w B q p G bv D) (hS : SReads w A len l) (hl : len ≤ 100000) (hz : ∀ s ∈ l, s.length ≤ 9223372036854775807) (hwt : D.wait.length ≤ 30000) :
    Calls Try.prog 29 #[.pointer (some ⟨q, 0, none⟩), .slice A len cap] w (RpPost B q p G bv D l w) := by
  have hsm := h.gok.small
  have HA := Lib.hid (amissl_any B q p 0 G bv D A len cap l w h.disk h.cells hS hsm.2.1 (by omega) hl hz)
  have HS := Lib.hid hS
  have HL := Lib.hid hS.1
  have HPL := Lib.hid h
  have HSM := Lib.hid hsm
  obtain ⟨a, ha⟩ : ∃ a, a = amissL D.dead 0 l G.sz := ⟨_, rfl⟩
  rw [← ha] at HA
  have HAM := Lib.hid ha
  clear h hS hz ha hsm
  by_cases h0 : a = 0
  · subst h0
    obtain ⟨-, hlo, hne⟩ := amissL_ok HAM.out.symm
    have HLO := Lib.hid hlo
    have HNE := Lib.hid hne
    clear hlo hne
    go_enter Try.func29, Try.ntmps29
    go_wp2_with fail
    refine HA.out.mono ?_
    rintro e w' ⟨rfl, rfl⟩
    go_wp2_with fail
    go_loopw [6, 8, 17] (fun vb _ vk wr => ∃ k : Nat, k ≤ len ∧ vk = .int .i64 k ∧ wr.ownsRow w.heap.size 5 1 vb (need (l.take k)) (ints (enc (l.take k))) ∧ Below w.heap.size w wr) (fun _ _ vk _ => len - (intOf vk).toNat)
    case atStart => exact ⟨0, Nat.zero_le _, rfl, ⟨rfl, .inl ⟨rfl, rfl⟩⟩, Below.refl _ _⟩
    case round =>
      obtain ⟨k, hk, rfl, hown, hb⟩ := hrel
      have HB := Lib.hid hb
      have HOW := Lib.hid hown
      clear hown hb
      by_cases hlt : k < len
      · obtain ⟨b, off, rfl, hc⟩ := (HS.out.kept HB.out).2.1 (by omega)
        have hck := hc k hlt
        obtain ⟨S, hS⟩ : ∃ S, S = strOfNums (l.getD k []) := ⟨_, rfl⟩
        rw [← hS] at hck
        have hmem : l.getD k [] ∈ l := by rw [getD_eq _ (by rw [HL.out]; exact hlt)]; exact List.getElem_mem _
        have hsz : S.size = (l.getD k []).length := by rw [hS, str_size]
        have hsb : sb S = l.getD k [] := by rw [hS]; exact sb_str (HS.out.2.2 _ hmem)
        have hnk : need (l.take k) ≤ 2147483647 := by
          have h1 := need_take_le l k
          have h2 := HNE.out
          have h3 := HSM.out
          omega
        have HNX : Hid (need (l.take (k + 1)) = need (l.take k) + 4 + S.size ∧ enc (l.take (k + 1)) = enc (l.take k) ++ le4 S.size ++ sb S) := Lib.hid ⟨by rw [need_take_succ l k (by rw [HL.out]; exact hlt), hsz]; omega, by rw [enc_take_succ l k (by rw [HL.out]; exact hlt), hsb, hsz]⟩
        have HLY := Lib.hid (lay_k w.heap.size _ _ _ S _ HOW.out (by rw [hsz]; exact HLO.out _ hmem) HB.out.size hnk)
        have hk0 : (0 : Int) ≤ (k : Int) := by omega
        have hk1 : (k : Int) < (len : Int) := by omega
        clear hc hS hmem hsz hsb hnk
        go_wp2_with fail
        refine HLY.out.mono ?_
        rintro e w2 ⟨v2, rfl, ho2, hb2, -⟩
        have HO2 := Lib.hid ho2
        have HB2 := Lib.hid hb2
        clear ho2 hb2
        go_wp2_with fail
        go_round
        case rel => exact ⟨k + 1, by omega, by go_num, by rw [HNX.out.1, HNX.out.2]; exact HO2.out, HB.out.trans HB2.out⟩
        case measure => simp [intOf]; omega
      · obtain rfl : k = len := by omega
        have hk1 : ¬ (k : Int) < (k : Int) := by omega
        have HTL : Hid (l.take k = l) := Lib.hid (List.take_of_length_le (by rw [HL.out]; exact Nat.le_refl _))
        obtain ⟨A2, c2, rfl, hnc, -, -⟩ := own_form HOW.out
        have ho := HOW.out
        rw [HTL.out] at ho hnc
        have hpl := HPL.out.kept HB.out
        have hne : (enc l).length = need l := enc_length l
        rw [← hne] at ho hnc
        have HSE := Lib.hid (settle_any (sgR B q p G bv (.slice A2 (enc l).length c2) D (enc l)) A2 c2 _ hpl rfl hnc (own_base ho HPL.out.size) (by show 1 - G.m.half ≤ 1; omega) (Nat.zero_le _) (by have := HNE.out; show (enc l).length ≤ G.sz * 64; omega) (enc_bys (fun s hs => ⟨HLO.out s hs, HS.out.2.2 s hs⟩)) hwt)
        have hlc := (HPL.out.kept HB.out).cells
        have hf12 := hlc.c12
        have hhf := HPL.out.gok.half
        have e1 : IntKind.i64.wrap (1 - (G.m.half : Int)) = ((1 - G.m.half : Nat) : Int) := by rw [IntKind.wrap_i64]; omega
        have HNL : Hid (need (l.take k) = (enc l).length) := Lib.hid (by rw [HTL.out, hne])
        clear hpl hnc hne ho hlc hhf
        go_wp2_with fail
        rw [HNL.out]
        refine HSE.out.mono ?_
        rintro e w2 ⟨hr, hkl, hpl⟩
        have HP : Hid (SePost (sgR B q p G bv (.slice A2 (enc l).length c2) D (enc l)) w e w2) := Lib.hid ⟨hr, (Kl.of_below HB.out HPL.out.size).trans hkl, hpl⟩
        clear hkl hpl
        obtain ⟨r, hr'⟩ : ∃ r, r = (runW D (sgR B q p G bv (.slice A2 (enc l).length c2) D (enc l)).ws).2 := ⟨_, rfl⟩
        have he : e = .returned (.int .i64 r) := by rw [hr']; exact hr
        subst he
        clear hr hr'
        go_wp2_with fail
        go_ret
        exact .inr ⟨HAM.out.symm, _, HP.out⟩
  · have hne : (a != 0) = true := by simpa using h0
    go_enter Try.func29, Try.ntmps29
    go_wp2_with fail
    refine HA.out.mono ?_
    rintro e w' ⟨rfl, rfl⟩
    go_wp2_with fail
    go_ret
    exact .inl ⟨by rw [← HAM.out]; exact h0, ret_i HAM.out, rfl⟩
end Go.Proofs.Ytdbpnfceabklkaa
