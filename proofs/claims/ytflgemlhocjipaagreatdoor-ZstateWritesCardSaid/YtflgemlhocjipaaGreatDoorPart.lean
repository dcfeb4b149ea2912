/-
  What Base, Parent, Join and Under return of any texts. Condition: the texts' lengths.
-/
import Derived.Test.YtflgemlhocjipaaGreatDoorDepth
import Derived.Lib.LastIndexByte
namespace Go.Proofs.YtflgemlhocjipaaGreatDoor
open Go.ChangeShapes Go.WideShapes Go.ChangeAt Go.RowKit Go.Proofs.Zn

theorem bang (s : ByteArray) (j : Nat) (h : j < s.size) : (L s)[j]? = some s.data[j]! := by
  have h' : j < s.data.size := h
  rw [getElem!_pos s.data j h', ← Array.getElem_toList h']
  exact List.getElem?_eq_getElem _
theorem byte_47 {c : UInt8} : ((c.toNat : Int) = 47) ↔ c = 47 := by
  rw [← UInt8.toNat_inj]
  show _ ↔ c.toNat = 47
  omega
theorem last_of {s : ByteArray} {a b : Txt} (e : L s = a ++ 47 :: b) (hf : 47 ∉ b) : Lib.lastIndexByte s 47 = a.length := by
  have hsz : s.size = a.length + 1 + b.length := by rw [← L_len, e]; simp; omega
  have ha : (L s)[a.length]? = some 47 := by rw [e]; simp
  have hb : ∀ j, a.length < j → j < s.size → (L s)[j]? ≠ some 47 := by
    intro j h1 h2 h3
    rw [e, List.getElem?_append_right (by omega)] at h3
    obtain ⟨k, hk⟩ : ∃ k, j - a.length = k + 1 := ⟨j - a.length - 1, by omega⟩
    rw [hk, List.getElem?_cons_succ] at h3
    exact hf (List.mem_of_getElem? h3)
  unfold Lib.lastIndexByte
  rcases Lib.lastIdx_spec s 47 s.size with ⟨_, h⟩ | ⟨i, hi, h1, h2, h3⟩
  · have := h a.length (by omega)
    rw [bang s _ (by omega)] at ha
    exact absurd (byte_47.2 (Option.some.inj ha)) this
  · rw [h1]
    have hlt : ¬ i < a.length := fun h => by
      have := h3 a.length h (by omega)
      rw [bang s _ (by omega)] at ha
      exact this (byte_47.2 (Option.some.inj ha))
    have hgt : ¬ a.length < i := fun h => hb i h hi (by rw [bang s i hi]; exact congrArg some (byte_47.1 h2))
    have : i = a.length := by omega
    rw [this]
set_option maxHeartbeats 1000000 in
theorem last_any {s : ByteArray} {a b : Txt} (e : L s = a ++ 47 :: b) (hf : 47 ∉ b) (w : World) (hs : s.size < 4611686018427387904) :
    Calls Tryz.prog 175 #[.string s] w fun e w' => e = .returned (.int .i64 a.length) ∧ w' = w := by
  have H := Lib.hid (last_of e hf)
  clear e hf
  go_enter Tryz.func175, Tryz.ntmps175
  go_wp2_with fail
  refine (strings_LastIndex_one s ⟨#[47]⟩ rfl hs _).mono ?_
  rintro e w' ⟨rfl, rfl⟩
  rw [show Lib.lastIndexByte s (((⟨#[47]⟩ : ByteArray)[0]'(by decide)).toNat : Int) = a.length from H.out]
  go_wp2
  go_ret
  exact ⟨rfl, rfl⟩
set_option maxHeartbeats 1000000 in
theorem clone_any (s : ByteArray) (w : World) (hs : s.size ≤ 281474976710656) : Calls Tryz.prog 139 #[.string s] w fun e w' => e = .returned (.string s) ∧ Below w.heap.size w w' := by
  go_enter Tryz.func139, Tryz.ntmps139
  go_wp2_with fail
  refine (stringslite_Clone s _ hs).mono ?_
  rintro e w' ⟨rfl, hb⟩
  have HB := Lib.hid hb
  clear hb
  go_wp2
  go_ret
  exact ⟨rfl, HB.out⟩

/-- A path's last name, and what is ahead of it. -/
theorem valid_cut {l : Txt} (h : valid l = true) : ∃ a b, l = a ++ 47 :: b ∧ 47 ∉ b ∧ base l = b ∧ (parentOk l = true → l.take (max a.length 1) = parent l) := by
  unfold valid at h
  rcases hn : names l with _ | ps
  · rw [hn] at h; cases h
  · obtain ⟨hj, ho⟩ := names_join hn
    rcases List.eq_nil_or_concat ps with rfl | ⟨init, b, rfl⟩
    · exact ⟨[], [], by rw [← hj]; rfl, by simp, by unfold base; rw [hn]; rfl, by unfold parentOk; rw [hn]; intro h; cases h⟩
    · have hb := ((ok_iff _).1 ho).1 b (by simp)
      have hl : l = flat init ++ 47 :: b := by
        rw [← hj, joinP, if_neg (by simp), List.concat_eq_append, flat_append]; simp [flat]
      refine ⟨flat init, b, hl, name_free hb, by unfold base; rw [hn]; simp, fun _ => ?_⟩
      unfold parent
      rw [hn]
      simp only [List.concat_eq_append, List.dropLast_concat]
      rw [if_neg (by simp), joinP, hl]
      rcases init with _ | ⟨p, ps⟩
      · rfl
      · rw [if_neg (by simp)]
        have : max (flat (p :: ps)).length 1 = (flat (p :: ps)).length := by simp [flat]
        rw [this]; simp
theorem ext_to (s : ByteArray) (i : Nat) : s.extract 0 i = B ((L s).take i) := by
  rw [← BL (s.extract 0 i)]
  exact congrArg B (by show (s.extract 0 i).data.toList = _; rw [Lib.extract_from_zero])
set_option maxHeartbeats 1000000 in
theorem parent_any (s : ByteArray) (w : World) (hs : s.size ≤ 140737488355328) : Calls Tryz.prog 149 #[.string s] w fun e w' => e = .returned (.tuple #[.string (B (parent (L s))), .bool (parentOk (L s))]) ∧ Below w.heap.size w w' := by
  cases hv : parentOk (L s)
  · have hb : parent (L s) = [] := by
      unfold parentOk at hv
      unfold parent
      cases hn : names (L s) <;> simp_all
    rw [hb]
    have hd : depth (L s) < 1 := by rw [parentOk_depth] at hv; simpa using hv
    clear hv hb
    go_enter Tryz.func149, Tryz.ntmps149
    go_wp2_with fail
    refine (depth_any _ _ (by omega)).mono ?_
    rintro e w1 ⟨rfl, hb⟩
    have HB := Lib.hid hb
    clear hb
    go_wp2
    go_ret2
    exact ⟨rfl, HB.out⟩
  · have hvv : valid (L s) = true := by
      unfold parentOk at hv
      unfold valid
      cases hn : names (L s) <;> simp_all
    obtain ⟨a, b, e, hf, -, hp⟩ := valid_cut hvv
    have hsz : s.size = a.length + 1 + b.length := by rw [← L_len, e]; simp; omega
    obtain ⟨m, hm⟩ : ∃ m : Nat, max a.length 1 = m := ⟨_, rfl⟩
    have hm2 : max (a.length : Int) 1 = (m : Int) := by omega
    have h1 : (0 : Int) ≤ (m : Int) := by omega
    have h2 : (m : Int) ≤ s.size := by omega
    have HE : Hid (s.extract 0 m = B (parent (L s))) := Lib.hid (by rw [ext_to, ← hm, hp hv])
    have hd : ¬ depth (L s) < 1 := by rw [parentOk_depth] at hv; simpa using hv
    have EE := Lib.hid e
    have h3 : s.size ≤ 281474976710656 := by omega
    have h4 : m ≤ s.size := by omega
    clear hv hsz e hm hp hvv
    go_enter Tryz.func149, Tryz.ntmps149
    go_wp2_with fail
    refine (depth_any _ _ (by omega)).mono ?_
    rintro e w1 ⟨rfl, hb⟩
    have HB := Lib.hid hb
    clear hb
    go_wp2_with fail
    refine (last_any EE.out hf _ (by omega)).mono ?_
    rintro e w2 ⟨rfl, rfl⟩
    go_wp2_with fail
    rw [HE.out]
    refine (clone_any _ _ ?_).mono ?_
    · rw [← HE.out, ByteArray.size_extract]; omega
    rintro e w3 ⟨rfl, hb⟩
    have HB3 := Lib.hid (HB.out.trans (hb.mono HB.out.size))
    clear hb
    go_wp2
    go_ret2
    exact ⟨rfl, HB3.out⟩
end Go.Proofs.YtflgemlhocjipaaGreatDoor
