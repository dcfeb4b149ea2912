/-
  What For returns, the laws' own and the program's. Condition: not too many messages.
-/
import Derived.Test.YtdlhjpcofldfnaaRef5
namespace Go.Proofs.Ytdlhjpcofldfnaa
set_option maxRecDepth 100000
open Go.ChangeShapes Go.WideShapes Go.ChangeAt Go.RowKit

/-- The numbers of the messages to one end, among the first ones. -/
def idx (L : List Pk) (tt : Int) (i : Nat) : List Nat := (List.range i).filter fun k => (L.getD k pk0).t == tt
def ivs (l : List Nat) : List Value := l.map fun k : Nat => Value.int .i64 (k : Int)
theorem idx_succ (L : List Pk) (tt : Int) (i : Nat) : idx L tt (i + 1) = idx L tt i ++ (if ((L.getD i pk0).t == tt) = true then [i] else []) := by
  unfold idx
  rw [List.range_succ, List.filter_append]
  congr 1
  simp [List.filter_cons]
theorem idx_le (L : List Pk) (tt : Int) (i : Nat) : (idx L tt i).length ≤ i := by
  have := List.length_filter_le (fun k => (L.getD k pk0).t == tt) (List.range i)
  rw [List.length_range] at this
  exact this
def FrPost (w : World) (L : List Pk) (tt : Int) (e : Ending) (w' : World) : Prop :=
  ∃ A c, e = .returned (.slice A (idx L tt L.length).length c) ∧ w'.ownsRow w.heap.size 3 1 (.slice A (idx L tt L.length).length c) (idx L tt L.length).length (ivs (idx L tt L.length)) ∧ Below w.heap.size w w'
def FrRel (w : World) (bz : Nat) (Z : Obj) (n : Nat) (L : List Pk) (tt : Int) (v5 v6 : Value) (wr : World) : Prop :=
  ∃ (i : Nat) (A : Option Addr) (m c : Nat), i ≤ n ∧ v6 = .int .i64 i ∧ v5 = .slice A m c ∧ (idx L tt i).length = m ∧ wr.ownsRow w.heap.size 3 1 (.slice A m c) m (ivs (idx L tt i)) ∧ wr.heap[bz]? = some Z ∧ Below w.heap.size w wr
theorem fr_more {W : World} {B g m c i : Nat} {L : List Pk} {tt : Int} (ht : ((L.getD i pk0).t == tt) = true) (hl : (idx L tt i).length = m) (h : W.ownsRow B 3 1 (.slice (some ⟨g, 0, none⟩) (m + 1) c) (m + 1) (ivs (idx L tt i) ++ [.int .i64 (i : Int)])) :
    (idx L tt (i + 1)).length = m + 1 ∧ W.ownsRow B 3 1 (.slice (some ⟨g, 0, none⟩) (m + 1) c) (m + 1) (ivs (idx L tt (i + 1))) := by
  rw [idx_succ, if_pos ht]
  refine ⟨by simp [hl], ?_⟩
  simpa [ivs] using h
theorem fr_same {L : List Pk} {tt : Int} {i : Nat} (ht : ((L.getD i pk0).t == tt) = false) : idx L tt (i + 1) = idx L tt i := by
  rw [idx_succ, if_neg (by rw [ht]; decide), List.append_nil]
set_option maxHeartbeats 8000000 in
theorem rfor_any {w : World} {A1 A2 : Option Addr} {n1 c1 n2 c2 : Nat} {L : List Pk} (hp : PReads w A1 n1 L) (hn1 : n1 ≤ 2000) (tt : Int) :
    Calls Try.prog 27 #[.agg #[.slice A1 n1 c1, .slice A2 n2 c2], .int .i64 tt] w (FrPost w L tt) := by
  obtain ⟨bz, hbz⟩ : ∃ b, b = w.heap.size := ⟨_, rfl⟩
  obtain ⟨wbz, hwbz⟩ : ∃ q, q = w.alloc (.cells #[.slice A1 n1 c1, .slice A2 n2 c2] 29) := ⟨_, rfl⟩
  have ebz : bz = w.heap.size := by rw [hbz]
  have hbwbz : Below w.heap.size w wbz := by rw [hwbz]; exact (Below.refl _ _).alloc (by omega) _
  have xbz : wbz.heap[bz]? = some (.cells #[.slice A1 n1 c1, .slice A2 n2 c2] 29 (0, 0)) := by rw [hwbz, ebz]; exact new_block _ _
  have Xbz := Lib.hid xbz
  have Ebz := Lib.hid hbz
  have Wbz := Lib.hid hwbz
  have Sbz : Hid (w.heap.size ≤ bz) := Lib.hid (by rw [hbz]; omega)
  have HB := Lib.hid hbwbz
  clear hbwbz hwbz hbz ebz xbz
  obtain ⟨i3, hi3, hz30, hz31, hz32⟩ := info_parts info3
  have HP := Lib.hid hp
  clear hp
  go_enter Try.func27, Try.ntmps27
  go_upto_region 1 with fail
  rw [← Wbz.out, ← Ebz.out]
  go_wp2_with fail
  go_loopw [5, 6] (fun v5 v6 wr => FrRel w bz (.cells #[.slice A1 n1 c1, .slice A2 n2 c2] 29 (0, 0)) n1 L tt v5 v6 wr) (fun _ v _ => n1 - (intOf v).toNat)
  case atStart => exact ⟨0, none, 0, 0, Nat.zero_le _, rfl, rfl, rfl, ⟨rfl, .inl ⟨rfl, rfl⟩⟩, Xbz.out, HB.out⟩
  case round =>
    obtain ⟨i, A, m, c, hi, rfl, rfl, hlw, how, hzw, hbw⟩ := hrel
    have HLW := Lib.hid hlw
    have HOW := Lib.hid how
    have HZW := Lib.hid hzw
    have HBW := Lib.hid hbw
    have hmi : m ≤ i := by rw [← hlw]; exact idx_le _ _ _
    clear hlw how hzw hbw
    by_cases hlt : i < n1
    · obtain ⟨b1, off, rfl, s0, s1, s2⟩ := preads_at (HP.out.kept HBW.out) hlt
      obtain ⟨y, hy⟩ : ∃ y, y = L.getD i pk0 := ⟨_, rfl⟩
      rw [← hy] at s0 s1 s2
      have HY := Lib.hid hy
      have hi0 : (0 : Int) ≤ (i : Int) := by omega
      have hi1 : (i : Int) < (n1 : Int) := by omega
      clear hy
      have HO1 := HOW
      have HZ1 := HZW
      have HB1 := HBW
      have z0 := cell_of HZW.out (j := 0) rfl
      by_cases ht : (y.t == tt) = true
      · have HT : Hid (((L.getD i pk0).t == tt) = true) := Lib.hid (by rw [← HY.out]; exact ht)
        have hb2 := box_below wr (.cells #[.int .i64 (i : Int)] 3)
        have HS2 := Lib.hid (own_below HO1.out hb2)
        have HZ2 := Lib.hid ((hb2.block _ (Array.getElem?_eq_some_iff.1 HZ1.out).1).trans HZ1.out)
        have HB2 := Lib.hid (HB1.out.trans (hb2.mono HB1.out.size))
        clear hb2
        go_wp2_with (first
          | (at_builtin; refine wpList_append_lies _ rfl (.tmp 22) (.tmp 24) 58 rfl w.heap.size 3 i3 _ 1 8 Try.underlying58 hi3 hz30 hz31 hz32 rfl (by decide) _ m (ivs (idx L tt i)) rfl HS2.out ⟨wr.heap.size, 0, none⟩ 1 1 [.int .i64 (i : Int)] rfl rfl (World.news_of_block (new_block wr _)) (by intro u hu; simp at hu; rw [hu]; rfl) (by decide) (by unfold maxLen; omega) (by omega) HB2.out.size _ rfl ?_; intro g8 c8 w8 hown hgrow hat hlt8; have HR := Lib.hid (fr_more HT.out HLW.out hown); have HZ8 := Lib.hid ((hgrow.block _ (Array.getElem?_eq_some_iff.1 HZ2.out).1 (fun e => own_ne HS2.out HZ2.out (by decide) e.symm)).trans HZ2.out); have HB8 := Lib.hid (HB2.out.grown hgrow HB2.out.size (fun k e => (HS2.out.lt k e).1)); clear hown hgrow hat hlt8 s0 s1 s2 z0)
          | fail)
        go_round
        case rel => exact ⟨i + 1, _, m + 1, _, by omega, by go_num, rfl, HR.out.1, HR.out.2, HZ8.out, HB8.out⟩
        case measure => simp [intOf]; omega
      · have ht2 : (y.t == tt) = false := by simpa using ht
        have HT : Hid (((L.getD i pk0).t == tt) = false) := Lib.hid (by rw [← HY.out]; exact ht2)
        clear ht
        go_wp2_with fail
        go_round
        case rel => exact ⟨i + 1, A, m, c, by omega, by go_num, rfl, (by rw [fr_same HT.out]; exact HLW.out), (by rw [fr_same HT.out]; exact HO1.out), HZ1.out, HB1.out⟩
        case measure => simp [intOf]; omega
    · obtain rfl : i = n1 := by omega
      have hi1 : ¬ (i : Int) < (i : Int) := by omega
      have HE : Hid (FrPost w L tt (.returned (.slice A m c)) wr) := Lib.hid (by
        have hl := HP.out.len
        unfold FrPost
        rw [hl, HLW.out]
        exact ⟨A, c, rfl, HOW.out, HBW.out⟩)
      have z0 := cell_of HZW.out (j := 0) rfl
      go_wp2_with fail
      go_ret
      exact HE.out
set_option maxHeartbeats 8000000 in
theorem for_any {w : World} {B np mb : Nat} {rv : Value} {L : List Pk} {ap : List (Int × Int)} (h : NetW w B np mb rv L ap) (tt : Int) :
    Calls Try.prog 26 #[.pointer (some ⟨np, 0, none⟩), .int .i64 tt] w (FrPost w L tt) := by
  obtain ⟨A1, c1, rfl, -, -, -⟩ := own_form h.row
  obtain ⟨i3, hi3, hz30, hz31, hz32⟩ := info_parts info3
  have HX := Lib.hid h.here
  have hn1 := h.small.1
  have HP := Lib.hid (row_reads h.row rfl h.ok)
  obtain ⟨n1, hnn⟩ : ∃ n, n = L.length := ⟨_, rfl⟩
  rw [← hnn] at HX hn1 HP
  clear h hnn
  have z0 := cell_of HX.out (j := 0) rfl
  go_enter Try.func26, Try.ntmps26
  go_wp2_with fail
  go_loopw [5, 13] (fun v5 v6 wr => FrRel w np (.cells #[.slice A1 n1 c1, .map (some mb)] 51 (0, 0)) n1 L tt v5 v6 wr) (fun _ v _ => n1 - (intOf v).toNat)
  case atStart => exact ⟨0, none, 0, 0, Nat.zero_le _, rfl, rfl, rfl, ⟨rfl, .inl ⟨rfl, rfl⟩⟩, HX.out, Below.refl _ _⟩
  case round =>
    obtain ⟨i, A, m, c, hi, rfl, rfl, hlw, how, hzw, hbw⟩ := hrel
    have HLW := Lib.hid hlw
    have HOW := Lib.hid how
    have HZW := Lib.hid hzw
    have HBW := Lib.hid hbw
    have hmi : m ≤ i := by rw [← hlw]; exact idx_le _ _ _
    clear hlw how hzw hbw
    by_cases hlt : i < n1
    · obtain ⟨b1, off, rfl, s0, s1, s2⟩ := preads_at (HP.out.kept HBW.out) hlt
      obtain ⟨y, hy⟩ : ∃ y, y = L.getD i pk0 := ⟨_, rfl⟩
      rw [← hy] at s0 s1 s2
      have HY := Lib.hid hy
      have hi0 : (0 : Int) ≤ (i : Int) := by omega
      have hi1 : (i : Int) < (n1 : Int) := by omega
      clear hy
      obtain ⟨bx, hbx⟩ : ∃ b, b = wr.heap.size := ⟨_, rfl⟩
      obtain ⟨w1, hw1⟩ : ∃ w1, w1 = wr.alloc (.cells #[.int .i64 y.f, .int .i64 y.t, .string y.b] 31) := ⟨_, rfl⟩
      have hb1 : Below wr.heap.size wr w1 := by rw [hw1]; exact box_below wr _
      have XX1 : Hid (w1.heap[bx]? = some (.cells #[.int .i64 y.f, .int .i64 y.t, .string y.b] 31 (0, 0))) := Lib.hid (by rw [hw1, hbx]; exact new_block wr _)
      have HZ1 := Lib.hid ((hb1.block _ (Array.getElem?_eq_some_iff.1 HZW.out).1).trans HZW.out)
      have HO1 := Lib.hid (own_below HOW.out hb1)
      have HB1 := Lib.hid (HBW.out.trans (hb1.mono HBW.out.size))
      have HW1 := Lib.hid hw1
      have HBX := Lib.hid hbx
      clear hw1 hb1 hbx
      go_upto_region 5 with fail
      rw [← HW1.out, ← HBX.out]
      clear s0 s1 s2
      have x1 := cell_of XX1.out (j := 1) rfl
      by_cases ht : (y.t == tt) = true
      · have HT : Hid (((L.getD i pk0).t == tt) = true) := Lib.hid (by rw [← HY.out]; exact ht)
        have hb2 := box_below w1 (.cells #[.int .i64 (i : Int)] 3)
        have HS2 := Lib.hid (own_below HO1.out hb2)
        have HZ2 := Lib.hid ((hb2.block _ (Array.getElem?_eq_some_iff.1 HZ1.out).1).trans HZ1.out)
        have HB2 := Lib.hid (HB1.out.trans (hb2.mono HB1.out.size))
        clear hb2
        go_wp2_with (first
          | (at_builtin; refine wpList_append_lies _ rfl (.tmp 22) (.tmp 24) 58 rfl w.heap.size 3 i3 _ 1 8 Try.underlying58 hi3 hz30 hz31 hz32 rfl (by decide) _ m (ivs (idx L tt i)) rfl HS2.out ⟨w1.heap.size, 0, none⟩ 1 1 [.int .i64 (i : Int)] rfl rfl (World.news_of_block (new_block w1 _)) (by intro u hu; simp at hu; rw [hu]; rfl) (by decide) (by unfold maxLen; omega) (by omega) HB2.out.size _ rfl ?_; intro g8 c8 w8 hown hgrow hat hlt8; have HR := Lib.hid (fr_more HT.out HLW.out hown); have HZ8 := Lib.hid ((hgrow.block _ (Array.getElem?_eq_some_iff.1 HZ2.out).1 (fun e => own_ne HS2.out HZ2.out (by decide) e.symm)).trans HZ2.out); have HB8 := Lib.hid (HB2.out.grown hgrow HB2.out.size (fun k e => (HS2.out.lt k e).1)); clear hown hgrow hat hlt8 x1)
          | fail)
        go_round
        case rel => exact ⟨i + 1, _, m + 1, _, by omega, by go_num, rfl, HR.out.1, HR.out.2, HZ8.out, HB8.out⟩
        case measure => simp [intOf]; omega
      · have ht2 : (y.t == tt) = false := by simpa using ht
        have HT : Hid (((L.getD i pk0).t == tt) = false) := Lib.hid (by rw [← HY.out]; exact ht2)
        clear ht
        go_wp2_with fail
        go_round
        case rel => exact ⟨i + 1, A, m, c, by omega, by go_num, rfl, (by rw [fr_same HT.out]; exact HLW.out), (by rw [fr_same HT.out]; exact HO1.out), HZ1.out, HB1.out⟩
        case measure => simp [intOf]; omega
    · obtain rfl : i = n1 := by omega
      have hi1 : ¬ (i : Int) < (i : Int) := by omega
      have HE : Hid (FrPost w L tt (.returned (.slice A m c)) wr) := Lib.hid (by
        have hl := HP.out.len
        unfold FrPost
        rw [hl, HLW.out]
        exact ⟨A, c, rfl, HOW.out, HBW.out⟩)
      go_wp2_with fail
      go_ret
      exact HE.out
end Go.Proofs.Ytdlhjpcofldfnaa
