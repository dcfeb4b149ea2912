/-
  What the document's own test says of one name: the same. No condition but a text's length.
  What the document's own functions tell of a text's names, and of the path that names make. Condition: the text has at most 2^21 bytes.
-/
import Derived.Test.YtflgemlhocjipaaGreatDoorIter
import Derived.Test.YtflgemlhocjipaaGreatDoorNumber
import Derived.Laws.AppendOwn
import Derived.Deep.Slices
import Derived.Maps.AppendAt
namespace Go.Proofs.YtflgemlhocjipaaGreatDoor
open Go.ChangeShapes Go.WideShapes Go.ChangeAt Go.RowKit Go.Proofs.Zn

theorem name_tail {s : ByteArray} (h : s.data.toList.all letterB = true) : nameB s.data.toList = (decide ((1 : Int) ≤ s.size) && decide ((s.size : Int) ≤ 60) && !(s.toList == [46]) && !(s.toList == [46, 46])) := by
  have e1 : decide (1 ≤ s.data.toList.length) = decide ((1 : Int) ≤ s.size) := by rw [decide_eq_decide, ← Lib.size_eq]; omega
  have e2 : decide (s.data.toList.length ≤ 60) = decide ((s.size : Int) ≤ 60) := by rw [decide_eq_decide, ← Lib.size_eq]; omega
  unfold nameB
  rw [h, e1, e2, Lib.toList_data, Bool.true_and]
set_option maxHeartbeats 1000000 in
theorem rname_any (s : ByteArray) (w : World) (hs : s.size ≤ maxLen) : Calls Tryz.prog 140 #[.string s] w fun e w' => e = .returned (.bool (nameB s.data.toList)) ∧ w' = w := by
  unfold maxLen at hs
  go_enter Tryz.func140, Tryz.ntmps140
  go_wp2
  go_loop [3] (fun i => ∃ k : Nat, k ≤ s.size ∧ i = .int .i64 k ∧ Hid ((s.data.toList.take k).all letterB = true)) (fun i => s.size - (intOf i).toNat)
  case atStart => exact ⟨0, Nat.zero_le _, rfl, Lib.hid (by simp)⟩
  case round =>
    obtain ⟨k, hk, rfl, HA⟩ := hrel
    by_cases hlt : k < s.size
    · obtain ⟨b, hb⟩ : ∃ b, letterB s[k] = b := ⟨_, rfl⟩
      have HB := Lib.hid hb
      clear hb
      go_wp2_with ((with_reducible refine (rletter_any _ _).mono ?_); rintro e w' ⟨rfl, rfl⟩; rw [HB.out])
      · have hb : b = false := by cases b <;> simp_all
        have HB' := HB.out
        rw [hb] at HB'
        have e : nameB s.data.toList = false := by simp [nameB, all_bad hlt HB']
        go_ret
        exact ⟨ret_bool e.symm, rfl⟩
      · have hb : b = true := by cases b <;> simp_all
        have HB' := HB.out
        rw [hb] at HB'
        go_round
        case rel => exact ⟨k + 1, hlt, by go_num, Lib.hid (all_snoc hlt HA.out HB')⟩
        case measure => simp [intOf]; omega
    · have HN := Lib.hid (name_tail (all_done hlt HA.out))
      go_wp2
      all_goals
        go_ret
        exact ⟨ret_bool (by rw [HN.out]; clear HN; simp_all; try omega), rfl⟩
end Go.Proofs.YtflgemlhocjipaaGreatDoor
namespace Go.Proofs.YtflgemlhocjipaaGreatDoor
set_option maxRecDepth 100000
open Go.ChangeShapes Go.WideShapes Go.ChangeAt Go.RowKit Go.Proofs.Zn

abbrev SV (p : Txt) : Value := .string (B p)
/-- A slice of texts that reads so. -/
def SRd (w : World) (A : Option Addr) (n c : Nat) (ps : List Txt) : Prop :=
  ps.length = n ∧ n ≤ c ∧ c ≤ 9223372036854775807 ∧ (0 < n → ∃ b off, A = some ⟨b, off, none⟩ ∧ ∀ i x, ps[i]? = some x → w.cell? ⟨b, off + i, none⟩ = some (SV x))
theorem cell_lt {w : World} {b : Nat} {o : Nat} {v : Value} (h : w.cell? ⟨b, o, none⟩ = some v) : b < w.heap.size := by
  rcases Nat.lt_or_ge b w.heap.size with h' | h'
  · exact h'
  · simp [World.cell?, Array.getElem?_eq_none h'] at h
theorem SRd.kept {w w' : World} {A : Option Addr} {n c : Nat} {ps : List Txt} (h : SRd w A n c ps) (hb : Below w.heap.size w w') : SRd w' A n c ps := by
  obtain ⟨h1, h2, h3, h4⟩ := h
  refine ⟨h1, h2, h3, fun hn => ?_⟩
  obtain ⟨b, off, e, hc⟩ := h4 hn
  exact ⟨b, off, e, fun i x hx => (hb.cell (p := ⟨b, off + i, none⟩) (cell_lt (hc i x hx))).trans (hc i x hx)⟩
theorem SRd.take {w : World} {A : Option Addr} {n c : Nat} {ps : List Txt} (h : SRd w A n c ps) (m : Nat) (hm : m ≤ n) : SRd w A m c (ps.take m) := by
  obtain ⟨h1, h2, h3, h4⟩ := h
  refine ⟨by rw [List.length_take]; omega, by omega, h3, fun hn => ?_⟩
  obtain ⟨b, off, e, hc⟩ := h4 (by omega)
  refine ⟨b, off, e, fun i x hx => hc i x ?_⟩
  rw [List.getElem?_take] at hx
  split at hx
  · exact hx
  · cases hx
theorem srd_nil (w : World) : SRd w none 0 0 [] := ⟨rfl, Nat.le_refl _, by omega, fun h => absurd h (by omega)⟩
/-- A row of the call's own reads so. -/
theorem own_srd {w : World} {base : Nat} {v : Value} {ps : List Txt} (h : w.ownsRow base 9 1 v ps.length (ps.map SV)) : ∃ A c, v = .slice A ps.length c ∧ SRd w A ps.length c ps := by
  rcases h.2 with ⟨rfl, e⟩ | ⟨g, cap, cur, rfl, hbg, hg, hn, hc, hs, ht⟩
  · obtain rfl : ps = [] := by simpa using e
    exact ⟨none, 0, rfl, srd_nil w⟩
  · refine ⟨_, cap, rfl, rfl, hn, by unfold maxLen at hc; omega, fun _ => ⟨g, 0, rfl, fun i x hx => ?_⟩⟩
    have := h.cells (g := g) rfl i (SV x) (by rw [List.getElem?_map, hx]; rfl)
    rwa [Go.WideShapes.add_plain] at this
theorem own_ge {w : World} {base e size n : Nat} {v : Value} {xs : List Value} (h : w.ownsRow base e size v n xs) : ∀ k, v.ownBlock = some k → base ≤ k := fun k hk => (h.lt k hk).1
theorem grown_alloc {w w' : World} {o : Obj} {row : Option Nat} (h : (w.alloc o).grownBy w' row) : w.grownBy w' row := (World.grownBy_alloc w o _).trans h
theorem new_cell (w : World) (v : Value) (t : TypeId) : ∀ j u, ([v] : List Value)[j]? = some u → (w.alloc (.cells #[v] t)).cell? (Addr.add ⟨w.heap.size, 0, none⟩ j) = some u := by
  intro j u hu
  rcases j with _ | j
  · obtain rfl : v = u := by simpa using hu
    rw [Go.WideShapes.add_plain, World.cell?_alloc_new]; rfl
  · simp at hu

/-! ### Names -/
/-- How far the names are gone through. -/
def Sp (l : Txt) (k f : Nat) (ps : List Txt) : Prop :=
  ps.length ≤ k ∧ f ≤ l.length + 1 ∧ ((f ≤ k ∧ k ≤ l.length ∧ 47 ∉ (l.drop f).take (k - f) ∧ ps ++ splitS (l.drop f) = splitS (l.drop 1)) ∨ (k = l.length + 1 ∧ ps = splitS (l.drop 1)))
theorem sp_start {l : Txt} (h : 1 ≤ l.length) : Sp l 1 1 [] := ⟨by simp, by omega, .inl ⟨by omega, h, by simp, by simp⟩⟩
theorem sp_other {l : Txt} {k f : Nat} {ps : List Txt} {c : UInt8} (h : Sp l k f ps) (hc : l[k]? = some c) (hne : c ≠ 47) : Sp l (k + 1) f ps := by
  have hk : k < l.length := by
    rcases Nat.lt_or_ge k l.length with h | h
    · exact h
    · rw [List.getElem?_eq_none h] at hc; cases hc
  obtain ⟨h0, h1, ⟨h2, h3, h4, h5⟩ | ⟨h2, _⟩⟩ := h
  · refine ⟨by omega, h1, .inl ⟨by omega, by omega, ?_, h5⟩⟩
    rw [show k + 1 - f = (k - f) + 1 by omega, List.take_add_one, List.getElem?_drop, show f + (k - f) = k by omega, hc]
    simp only [Option.toList_some, List.mem_append, List.mem_singleton, not_or]
    exact ⟨h4, fun e => hne e.symm⟩
  · omega
theorem sp_slash {l : Txt} {k f : Nat} {ps : List Txt} (h : Sp l k f ps) (hc : l[k]? = some 47) : f ≤ k ∧ k ≤ l.length ∧ Sp l (k + 1) (k + 1) (ps ++ [(l.drop f).take (k - f)]) := by
  have hk : k < l.length := by
    rcases Nat.lt_or_ge k l.length with h | h
    · exact h
    · rw [List.getElem?_eq_none h] at hc; cases hc
  obtain ⟨h0, h1, ⟨h2, h3, h4, h5⟩ | ⟨h2, _⟩⟩ := h
  · refine ⟨h2, h3, by simp; omega, by omega, .inl ⟨by omega, by omega, by simp, ?_⟩⟩
    have e : l.drop f = (l.drop f).take (k - f) ++ 47 :: l.drop (k + 1) := by
      have h6 : (l.drop f).drop (k - f) = 47 :: l.drop (k + 1) := by
        rw [List.drop_drop, show f + (k - f) = k by omega, List.drop_eq_getElem_cons hk]
        rw [List.getElem?_eq_getElem hk] at hc
        rw [Option.some.inj hc]
      rw [← h6, List.take_append_drop]
    rw [← h5]
    conv => rhs; rw [e]
    rw [split_hit _ _ h4]
    simp
  · omega
theorem sp_last {l : Txt} {f : Nat} {ps : List Txt} (h : Sp l l.length f ps) : f ≤ l.length ∧ Sp l (l.length + 1) (l.length + 1) (ps ++ [(l.drop f).take (l.length - f)]) := by
  obtain ⟨h0, h1, ⟨h2, h3, h4, h5⟩ | ⟨h2, _⟩⟩ := h
  · refine ⟨h2, by simp; omega, by omega, .inr ⟨rfl, ?_⟩⟩
    have e : (l.drop f).take (l.length - f) = l.drop f := List.take_of_length_le (by simp)
    rw [e] at h4 ⊢
    rw [← h5, split_free _ h4]
  · omega
theorem sp_end {l : Txt} {k f : Nat} {ps : List Txt} (h : Sp l k f ps) (hk : ¬ k ≤ l.length) : ps = splitS (l.drop 1) ∧ ps.length ≤ k := by
  obtain ⟨h0, h1, ⟨h2, h3, h4, h5⟩ | ⟨_, h2⟩⟩ := h
  · omega
  · exact ⟨h2, h0⟩
theorem ext_mid (s : ByteArray) (f k : Nat) : s.extract f k = B (((L s).drop f).take (k - f)) := by
  refine of_list ?_
  rw [Lib.extract_data]
theorem sep_test (s : ByteArray) (k : Nat) (h : k < s.size) : (L s)[k]? = some s[k] := by
  show s.data.toList[k]? = _
  rw [List.getElem?_eq_getElem (by simpa using h)]
  rfl
/-- What Names makes of a text. -/
def NmPost (s : ByteArray) (w : World) (e : Ending) (w' : World) : Prop :=
  ∃ v, e = .returned (.tuple #[v, .bool (valid (L s))]) ∧ Below w.heap.size w w' ∧ ∀ ps, names (L s) = some ps → ∃ A c, v = .slice A ps.length c ∧ SRd w' A ps.length c ps
theorem nm_root {s : ByteArray} (h : L s = [47]) (w : World) : NmPost s w (.returned (.tuple #[.slice none 0 0, .bool true])) w := by
  refine ⟨.slice none 0 0, by rw [h]; rfl, Below.refl _ _, fun ps hp => ?_⟩
  rw [h] at hp
  obtain rfl := names_root hp
  exact ⟨none, 0, rfl, srd_nil w⟩
theorem nm_no {s : ByteArray} {w w' : World} {v : Value} (h : names (L s) = none) (hb : Below w.heap.size w w') : NmPost s w (.returned (.tuple #[v, .bool false])) w' :=
  ⟨v, by unfold valid; rw [h]; rfl, hb, fun ps hp => by rw [h] at hp; cases hp⟩
theorem nm_yes {s : ByteArray} {w w' : World} {A : Option Addr} {c : Nat} {ps : List Txt} (h : names (L s) = some ps) (hb : Below w.heap.size w w') (hr : SRd w' A ps.length c ps) : NmPost s w (.returned (.tuple #[.slice A ps.length c, .bool true])) w' :=
  ⟨_, by unfold valid; rw [h]; rfl, hb, fun qs hp => by rw [h] at hp; obtain rfl := Option.some.inj hp; exact ⟨A, c, rfl, hr⟩⟩
set_option maxHeartbeats 1000000 in
theorem rnames_root (s : ByteArray) (w : World) (h : L s = [47]) : Calls Tryz.prog 109 #[.string s] w (NmPost s w) := by
  have H := Lib.hid (nm_root h w)
  have q : (s.toList == [47]) = true := by rw [toL]; simpa using h
  clear h
  go_enter Tryz.func109, Tryz.ntmps109
  go_wp2_with fail
  go_ret2
  exact H.out
set_option maxHeartbeats 1000000 in
theorem rnames_empty (s : ByteArray) (w : World) (h : L s = []) : Calls Tryz.prog 109 #[.string s] w (NmPost s w) := by
  have H := Lib.hid (nm_no (v := .slice none 0 0) (names_no (l := L s) (by rw [h]; simp) (by rw [h]; simp)) (Below.refl w.heap.size w))
  have q : (s.toList == [47]) = false := by rw [toL, h]; rfl
  have q2 : s.toList = [] := by rw [toL, h]
  have q3 : s.toList.isEmpty = true := by rw [q2]; rfl
  clear h q2
  go_enter Tryz.func109, Tryz.ntmps109
  go_wp2_with fail
  go_ret2
  exact H.out
set_option maxHeartbeats 1000000 in
theorem rnames_head (s : ByteArray) (w : World) (h0 : L s ≠ []) (h1 : (L s).head? ≠ some 47) : Calls Tryz.prog 109 #[.string s] w (NmPost s w) := by
  have hn : L s ≠ [47] := fun e => h1 (by rw [e]; rfl)
  have H := Lib.hid (nm_no (v := .slice none 0 0) (names_no hn h1) (Below.refl w.heap.size w))
  have q : (s.toList == [47]) = false := by rw [toL]; simpa using hn
  have q3 : s.toList.isEmpty = false := by rw [toL]; cases hh : L s <;> simp_all
  have hs : 0 < s.size := by rw [← L_len]; exact List.length_pos_iff.2 h0
  have hc : ((s[0]'hs).toNat : Int) ≠ 47 := fun e => h1 (by
    rw [List.head?_eq_getElem?, sep_test s 0 hs, byte_47.1 e])
  have hc' : (((s[0]'hs).toNat : Int) == 47) = false := by simpa using hc
  have hc2 : (((s[0]'hs).toNat : Int) != 47) = true := by simpa using hc
  clear h0 h1 hn hc
  go_enter Tryz.func109, Tryz.ntmps109
  go_wp2_with fail
  go_ret2
  exact H.out
theorem map_snoc (ps : List Txt) (p : Txt) : (ps ++ [p]).map SV = ps.map SV ++ [SV p] := by simp
theorem own_snoc {w : World} {base n : Nat} {v : Value} {ps : List Txt} {p : Txt} {S : ByteArray} (hS : S = B p) (h : w.ownsRow base 9 1 v n (ps.map SV ++ [.string S])) (hn : n = ps.length + 1) : w.ownsRow base 9 1 v (ps ++ [p]).length ((ps ++ [p]).map SV) := by
  subst hS
  rw [map_snoc, List.length_append]; subst hn; exact h
set_option maxHeartbeats 2000000 in
theorem rnames_main (s : ByteArray) (w : World) (hn : L s ≠ [47]) (h1 : (L s).head? = some 47) (hmax : s.size ≤ 2097152) : Calls Tryz.prog 109 #[.string s] w (NmPost s w) := by
  obtain ⟨i0, hi, hz0, hz1, hz2⟩ := info_parts info9
  have q : (s.toList == [47]) = false := by rw [toL]; simpa using hn
  have h0 : L s ≠ [] := fun e => by rw [e] at h1; cases h1
  have q3 : s.toList.isEmpty = false := by rw [toL]; cases hh : L s <;> simp_all
  have hs : 0 < s.size := by rw [← L_len]; exact List.length_pos_iff.2 h0
  have hc0 : s[0]'hs = 47 := by
    have := sep_test s 0 hs
    rw [List.head?_eq_getElem?, this] at h1
    exact Option.some.inj h1
  have hc : ((s[0]'hs).toNat : Int) = 47 := byte_47.2 hc0
  have hc' : (((s[0]'hs).toNat : Int) == 47) = true := by simpa using hc
  have hc2 : (((s[0]'hs).toNat : Int) != 47) = false := by simpa using hc
  have HN := Lib.hid hn
  have H1 := Lib.hid h1
  clear h0 h1 hn hc hc0
  go_enter Tryz.func109, Tryz.ntmps109
  go_wp2_with fail
  clear q q3 hc' hc2
  go_loopw [4, 5, 6] (fun v fr i wr => ∃ (k f : Nat) (ps : List Txt), i = .int .i64 k ∧ fr = .int .i64 f ∧ 1 ≤ k ∧ k ≤ s.size + 1 ∧ f ≤ s.size + 1 ∧ wr.ownsRow w.heap.size 9 1 v ps.length (ps.map SV) ∧ Below w.heap.size w wr ∧ Hid (Sp (L s) k f ps)) (fun _ _ i _ => s.size + 1 - (intOf i).toNat)
  case atStart => exact ⟨1, 1, [], rfl, rfl, by omega, by omega, by omega, World.ownsRow_nil _ _ _ _, Below.refl _ _, Lib.hid (sp_start (by rw [L_len]; exact hs))⟩
  case round =>
    obtain ⟨k, f, ps, rfl, rfl, hk1, hk, hf, hO, hB, HS⟩ := hrel
    have HO := Lib.hid hO
    have HB := Lib.hid hB
    clear hO hB
    by_cases hle : k ≤ s.size
    · by_cases he : k = s.size
      · have hq : ((k : Int) == (s.size : Int)) = true := by simpa using congrArg Int.ofNat he
        have hsl := sp_last (l := L s) (f := f) (ps := ps) (by rw [L_len, ← he]; exact HS.out)
        rw [L_len, ← he] at hsl
        have hfk0 := hsl.1
        have HN1 := Lib.hid hsl.2
        have HE := Lib.hid he
        clear he hsl
        obtain ⟨S, hS⟩ : ∃ S, s.extract f k = S := ⟨_, rfl⟩
        have HP : Hid (S = B (((L s).drop f).take (k - f))) := Lib.hid (by rw [← hS, ext_mid])
        have h63 : ps.length + 1 ≤ maxLen := by have := HS.out.1; unfold maxLen; omega
        have h47 : (ps.length + 1) * 16 ≤ 140737488355328 := by have := HS.out.1; omega
        have hsz : w.heap.size ≤ (wr.alloc (.cells #[.string S] 9)).heap.size := by have := HB.out.size; simp; omega
        have hfk : (f : Int) ≤ (k : Int) := by omega
        have hks : (k : Int) ≤ s.size := by omega
        go_wp2_with (at_builtin; refine wpList_append_own _ rfl (.tmp 34) (.tmp 39) 40 rfl w.heap.size 9 i0 (.string ByteArray.empty) 1 16 Tryz.underlying40 hi hz0 hz1 hz2 rfl (by decide) u4 ps.length (ps.map SV) rfl (HO.out.alloc _) ⟨wr.heap.size, 0, none⟩ 1 1 [.string S] rfl rfl (new_cell _ _ _) (by simp [Value.oneCell']) h63 h47 hsz ?_; intro v' w1 hown' hgrow _; have HX1 := Lib.hid hown'; have HX2 := Lib.hid (grown_alloc hgrow); clear hown' hgrow)
        go_roundw
        case rel => exact ⟨k + 1, k + 1, _, by go_num, by go_num, by omega, by omega, by omega, own_snoc HP.out HX1.out rfl, HB.out.grown HX2.out HB.out.size (own_ge HO.out), HN1⟩
        case measure => simp [intOf]; omega
      · have hlt : k < s.size := by omega
        have hq : ((k : Int) == (s.size : Int)) = false := by simp; omega
        by_cases h47 : s[k] = 47
        · have hsl := sp_slash HS.out (by rw [sep_test s k hlt, h47])
          have hfk0 := hsl.1
          have HN1 := Lib.hid hsl.2.2
          have hb : (((s[k]'hlt).toNat : Int) == 47) = true := by rw [h47]; rfl
          have he := hlt
          clear h47 hsl
          obtain ⟨S, hS⟩ : ∃ S, s.extract f k = S := ⟨_, rfl⟩
          have HP : Hid (S = B (((L s).drop f).take (k - f))) := Lib.hid (by rw [← hS, ext_mid])
          have h63 : ps.length + 1 ≤ maxLen := by have := HS.out.1; unfold maxLen; omega
          have h47 : (ps.length + 1) * 16 ≤ 140737488355328 := by have := HS.out.1; omega
          have hsz : w.heap.size ≤ (wr.alloc (.cells #[.string S] 9)).heap.size := by have := HB.out.size; simp; omega
          have hfk : (f : Int) ≤ (k : Int) := by omega
          have hks : (k : Int) ≤ s.size := by omega
          go_wp2_with (at_builtin; refine wpList_append_own _ rfl (.tmp 34) (.tmp 39) 40 rfl w.heap.size 9 i0 (.string ByteArray.empty) 1 16 Tryz.underlying40 hi hz0 hz1 hz2 rfl (by decide) u4 ps.length (ps.map SV) rfl (HO.out.alloc _) ⟨wr.heap.size, 0, none⟩ 1 1 [.string S] rfl rfl (new_cell _ _ _) (by simp [Value.oneCell']) h63 h47 hsz ?_; intro v' w1 hown' hgrow _; have HX1 := Lib.hid hown'; have HX2 := Lib.hid (grown_alloc hgrow); clear hown' hgrow)
          go_roundw
          case rel => exact ⟨k + 1, k + 1, _, by go_num, by go_num, by omega, by omega, by omega, own_snoc HP.out HX1.out rfl, HB.out.grown HX2.out HB.out.size (own_ge HO.out), HN1⟩
          case measure => simp [intOf]; omega
        · have HN1 := Lib.hid (sp_other HS.out (sep_test s k hlt) h47)
          have hb : (((s[k]'hlt).toNat : Int) == 47) = false := by rw [beq_eq_false_iff_ne]; exact fun e => h47 (byte_47.1 e)
          clear h47
          go_wp2_with fail
          go_roundw
          case rel => exact ⟨k + 1, f, ps, by go_num, rfl, by omega, by omega, hf, HO.out, HB.out, HN1⟩
          case measure => simp [intOf]; omega
    · obtain ⟨hse, hpl⟩ := sp_end HS.out (by rw [L_len]; exact hle)
      rw [List.drop_one] at hse
      obtain ⟨A, c, rfl, hr⟩ := own_srd HO.out
      have hpos : 0 < ps.length := by rw [hse]; exact List.length_pos_iff.2 (split_ne _)
      obtain ⟨_, hlc, hcm, hcell⟩ := hr
      obtain ⟨b, off, rfl, hcl⟩ := hcell hpos
      have HR : Hid (SRd wr (some ⟨b, off, none⟩) ps.length c ps) := Lib.hid ⟨rfl, hlc, hcm, fun _ => ⟨b, off, rfl, hcl⟩⟩
      have HC := Lib.hid hcl
      have HSE := Lib.hid hse
      have hpn : ps.length ≤ 2097154 := by omega
      have hple : Hid (∀ i x, ps[i]? = some x → (B x).size ≤ 9223372036854775807) := Lib.hid fun i x hx => by
        have h1 := piece_le (show x ∈ splitS (L s).tail by rw [← hse]; exact List.mem_of_getElem? hx)
        rw [List.length_tail, L_len] at h1
        rw [B_size]; omega
      clear hse hcell hcl HO HS
      go_wp2_with fail
      go_loop [7] (fun i => ∃ j : Nat, j ≤ ps.length ∧ i = .int .i64 j ∧ Hid ((ps.take j).all nameB = true)) (fun i => ps.length - (intOf i).toNat)
      case atStart => exact ⟨0, by omega, rfl, Lib.hid rfl⟩
      case round =>
        obtain ⟨j, hj, rfl, HA⟩ := hrel
        by_cases hlt : j < ps.length
        · have hjx := List.getElem?_eq_getElem hlt
          obtain ⟨x, hx⟩ : ∃ x, ps[j] = x := ⟨_, rfl⟩
          rw [hx] at hjx
          have hcj := HC.out j x hjx
          have hxs := hple.out j x hjx
          have HJX := Lib.hid hjx
          obtain ⟨r, hr⟩ : ∃ r, nameB x = r := ⟨_, rfl⟩
          have HNX := Lib.hid hr
          clear hjx hx hr
          go_wp2_with fail
          refine (rname_any (B x) wr hxs).mono ?_
          rintro e w2 ⟨rfl, rfl⟩
          rw [show nameB (B x).data.toList = r by rw [show (B x).data.toList = x from LB x]; exact HNX.out]
          go_wp2_with fail
          · have hr : r = false := by cases r <;> simp_all
            have HE := nm_no (v := .slice none 0 0) (names_bad HN.out (ok_one (by rw [← HSE.out]; exact List.mem_of_getElem? HJX.out) (by rw [HNX.out, hr]))) HB.out
            go_ret2
            exact HE
          · have hr : r = true := by cases r <;> simp_all
            go_round
            case rel => exact ⟨j + 1, hlt, by go_num, Lib.hid (by rw [List.take_add_one, HJX.out, List.all_append, HA.out]; simp [HNX.out, hr])⟩
            case measure => simp [intOf]; omega
        · have hjl : j = ps.length := by omega
          have hall : ps.all nameB = true := by have := HA.out; rwa [hjl, List.take_length] at this
          by_cases h8 : ps.length ≤ 8
          · have hd : decide ((ps.length : Int) ≤ 8) = true := by simp; omega
            have HE := Lib.hid (nm_yes (by rw [HSE.out]; exact names_good HN.out H1.out (by rw [← HSE.out]; simp [okB, hall, h8])) HB.out HR.out)
            clear hjl hall h8
            go_wp2_with fail
            go_ret2
            exact HE.out
          · have hd : decide ((ps.length : Int) ≤ 8) = false := by simp; omega
            have HE := Lib.hid (nm_no (v := .slice (some ⟨b, off, none⟩) ps.length c) (names_bad HN.out (ok_long (by rw [← HSE.out]; omega))) HB.out)
            clear hjl hall h8
            go_wp2_with fail
            go_ret2
            exact HE.out
end Go.Proofs.YtflgemlhocjipaaGreatDoor
