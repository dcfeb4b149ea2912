/-
  What the ledger's amiss, Room, All, Len return. Condition of amiss: no more than 100000 records are asked of.
-/
import Derived.Test.YtdbpnfceabklkaaOpenL
namespace Go.Proofs.Ytdbpnfceabklkaa
set_option maxRecDepth 100000
open Go.ChangeShapes Go.WideShapes Go.ChangeAt Go.RowKit

/-- Memory holds texts. -/
def SReads (w : World) (A : Option Addr) (len : Nat) (l : List (List Int)) : Prop :=
  l.length = len ∧ (0 < len → ∃ b off, A = some ⟨b, off, none⟩ ∧ ∀ i, i < len → w.cell? ⟨b, off + i, none⟩ = some (.string (strOfNums (l.getD i [])))) ∧ ∀ s ∈ l, Bys s
theorem SReads.kept {w w' : World} {A : Option Addr} {len : Nat} {l : List (List Int)} (h : SReads w A len l) (hb : Below w.heap.size w w') : SReads w' A len l := by
  refine ⟨h.1, fun hl => ?_, h.2.2⟩
  obtain ⟨b, off, e, hc⟩ := h.2.1 hl
  exact ⟨b, off, e, fun i hi => (hb.cell (p := ⟨b, off + i, none⟩) (cell_lt (hc i hi))).trans (hc i hi)⟩
theorem own_sreads {w : World} {base n : Nat} {v : Value} {l : List (List Int)} (h : w.ownsRow base 9 1 v n (strs l)) (hB : ∀ s ∈ l, Bys s) : ∃ A c, v = .slice A n c ∧ SReads w A n l ∧ n ≤ c ∧ c ≤ maxLen := by
  have hl : l.length = n := by have := h.1; rw [strs_length] at this; omega
  rcases h.2 with ⟨rfl, rfl⟩ | ⟨g, cap, cur, rfl, hbg, hg, hn, hc, hs, ht⟩
  · exact ⟨none, 0, rfl, ⟨hl, fun h => absurd h (by omega), hB⟩, by omega, by unfold maxLen; omega⟩
  · refine ⟨_, cap, rfl, ⟨hl, fun _ => ⟨g, 0, rfl, fun i hi => ?_⟩, hB⟩, hn, hc⟩
    rw [Nat.zero_add]
    refine own_cell h i _ ?_
    unfold strs
    rw [List.getElem?_map, List.getElem?_eq_getElem (by omega), getD_eq _ (by omega)]; rfl
/-- What is amiss with records. -/
def amissL (dead : Bool) (used : Nat) (l : List (List Int)) (sz : Nat) : Int := if dead = true then 40 else if ∃ s ∈ l, 4096 < s.length then 52 else if sz * 64 < used + need l then 51 else 0
set_option maxHeartbeats 1000000 in
theorem amissl_any (B q p used : Nat) (G : Lg) (bv : Value) (D : Dk) (A : Option Addr) (len cap : Nat) (l : List (List Int)) (w : World) (hD : PDisk w B p D) (h : LCells w q p G bv) (hS : SReads w A len l) (hs : G.sz ≤ 65536) (hu : used ≤ 4194304) (hl : len ≤ 100000) (hz : ∀ s ∈ l, s.length ≤ 9223372036854775807) :
    Calls Try.prog 39 #[.pointer (some ⟨q, 0, none⟩), .int .i64 (used : Int), .slice A len cap] w fun e w' => e = .returned (.int .i64 (amissL D.dead used l G.sz)) ∧ w = w' := by
  have HA := Lib.hid (dead_any B p D w hD)
  have HM := Lib.hid (most_any q p G bv w h hs)
  have c0 := h.c0
  obtain ⟨dd, hdd⟩ : ∃ dd, dd = D.dead := ⟨_, rfl⟩
  rw [← hdd] at HA ⊢
  have HS := Lib.hid hS
  have HZ := Lib.hid hz
  have HL := Lib.hid hS.1
  clear hD h hdd hS hz
  cases dd with
  | true =>
    go_enter Try.func39, Try.ntmps39
    go_wp2_with fail
    refine HA.out.mono ?_
    rintro e w' ⟨rfl, rfl⟩
    go_wp2_with fail
    go_ret
    exact ⟨rfl, rfl⟩
  | false =>
    obtain ⟨a, ha⟩ : ∃ a, a = amissL false used l G.sz := ⟨_, rfl⟩
    rw [← ha]
    have HAM := Lib.hid ha
    clear ha
    go_enter Try.func39, Try.ntmps39
    go_wp2_with fail
    refine HA.out.mono ?_
    rintro e w' ⟨rfl, rfl⟩
    go_wp2_with fail
    go_loop [1, 8, 16] (fun vu _ vk => ∃ k t : Nat, k ≤ len ∧ vk = .int .i64 k ∧ t = used + need (l.take k) ∧ vu = .int .i64 (t : Int) ∧ ∀ s ∈ l.take k, s.length ≤ 4096) (fun _ _ vk => len - (intOf vk).toNat)
    case atStart => exact ⟨0, used, Nat.zero_le _, rfl, by simp [need], rfl, fun s hs => by simp at hs⟩
    case round =>
      obtain ⟨k, t, hk, rfl, ht, rfl, hsm⟩ := hrel
      have hnl := need_le hsm
      have hkl : (l.take k).length ≤ k := List.length_take_le _ _
      have htb : t ≤ 414194304 := by omega
      have HT := Lib.hid ht
      have HSM := Lib.hid hsm
      clear ht hsm hnl hkl
      by_cases hlt : k < len
      · obtain ⟨b, off, rfl, hc⟩ := HS.out.2.1 (by omega)
        have hck := hc k hlt
        obtain ⟨S, hS⟩ : ∃ S, S = strOfNums (l.getD k []) := ⟨_, rfl⟩
        rw [← hS] at hck
        have hmem : l.getD k [] ∈ l := by rw [getD_eq _ (by rw [HL.out]; exact hlt)]; exact List.getElem_mem _
        have hsz : S.size = (l.getD k []).length := by rw [hS, str_size]
        have hsb := HZ.out _ hmem
        have HSZ := Lib.hid hsz
        have HME := Lib.hid hmem
        have hS1 : (S.size : Int) ≤ 9223372036854775807 := by omega
        have hNS := need_take_succ l k (by rw [HL.out]; exact hlt)
        have HNS := Lib.hid hNS
        have HTK : Hid (l.take (k + 1) = l.take k ++ [l.getD k []]) := Lib.hid (by rw [List.take_succ_eq_append_getElem (by rw [HL.out]; exact hlt), getD_eq _ (by rw [HL.out]; exact hlt)])
        have hk0 : (0 : Int) ≤ (k : Int) := by omega
        have hk1 : (k : Int) < (len : Int) := by omega
        clear hc hS hmem hsz hsb hNS
        by_cases hlong : 4096 < S.size
        · have hl' : (4096 : Int) < (S.size : Int) := by omega
          have HR : Hid (a = 52) := Lib.hid (by rw [HAM.out]; unfold amissL; rw [if_neg (by decide), if_pos ⟨_, HME.out, by rw [← HSZ.out]; exact hlong⟩])
          go_wp2_with fail
          go_ret
          exact ⟨ret_i HR.out.symm, rfl⟩
        · have hl' : ¬ (4096 : Int) < (S.size : Int) := by omega
          have hl2 : (S.size : Int) ≤ 4096 := by omega
          have ht0 : (t : Int) ≤ 414194304 := by omega
          go_wp2_with fail
          go_round
          case rel => exact ⟨k + 1, t + (4 + S.size), by omega, by go_num, by rw [HNS.out, HT.out, HSZ.out]; omega, by go_num, fun s hs => by
            rw [HTK.out] at hs
            rcases List.mem_append.1 hs with hs | hs
            · exact HSM.out s hs
            · rcases List.mem_singleton.1 hs with rfl; rw [← HSZ.out]; omega⟩
          case measure => simp [intOf]; omega
      · obtain rfl : k = len := by omega
        have HTL : Hid (l.take k = l) := Lib.hid (List.take_of_length_le (by rw [HL.out]; exact Nat.le_refl _))
        have hk1 : ¬ (k : Int) < (k : Int) := by omega
        have hno : ¬ ∃ s ∈ l, 4096 < s.length := by
          rintro ⟨s, hs, h⟩
          have := HSM.out s (by rw [HTL.out]; exact hs)
          omega
        have HNO := Lib.hid hno
        clear hno hk1
        by_cases hf : G.sz * 64 < t
        · have hf' : (G.sz : Int) * 64 < (t : Int) := by omega
          have HR : Hid (a = 51) := Lib.hid (by rw [HAM.out]; unfold amissL; rw [if_neg (by decide), if_neg HNO.out, if_pos (by have := HT.out; rw [HTL.out] at this; omega)])
          go_wp2_with fail
          refine HM.out.mono ?_
          rintro e w' ⟨rfl, rfl⟩
          go_wp2_with fail
          go_ret
          exact ⟨ret_i HR.out.symm, rfl⟩
        · have hf' : ¬ (G.sz : Int) * 64 < (t : Int) := by omega
          have HR : Hid (a = 0) := Lib.hid (by rw [HAM.out]; unfold amissL; rw [if_neg (by decide), if_neg HNO.out, if_neg (by have := HT.out; rw [HTL.out] at this; omega)])
          go_wp2_with fail
          refine HM.out.mono ?_
          rintro e w' ⟨rfl, rfl⟩
          go_wp2_with fail
          go_ret
          exact ⟨ret_i HR.out.symm, rfl⟩
/-- How many bytes a record may have. -/
def roomL (sz bl : Nat) : Int := min (max ((sz : Int) * 64 - (bl : Int) - 4) (-1)) 4096
theorem room_any (B q p : Nat) (G : Lg) (bv : Value) (D : Dk) (w : World) (h : PL w B q p G bv D) :
    Calls Try.prog 13 #[.pointer (some ⟨q, 0, none⟩)] w fun e w' => e = .returned (.int .i64 (roomL G.sz G.bs.length)) ∧ ∃ n, w' = w.drewN n := by
  have hg := h.gok.small
  obtain ⟨A, c, rfl, -, -, -⟩ := own_form h.row
  have c14 := h.cells.c14
  have hlc := h.cells
  have HM : Hid (∀ n : Nat, Calls Try.prog 32 #[.pointer (some ⟨q, 0, none⟩)] (w.drewN n) fun e w' => e = .returned (.int .i64 ((G.sz : Int) * 64)) ∧ w' = w.drewN n) := Lib.hid (fun n =>
    (most_any q p G _ (w.drewN n) (hlc.kept (below_drewN (Below.refl _ _) n)) hg.2.1).mono fun _ _ ⟨h1, h2⟩ => ⟨h1, h2.symm⟩)
  obtain ⟨r, hr⟩ : ∃ r, r = roomL G.sz G.bs.length := ⟨_, rfl⟩
  rw [← hr]
  have HR : Hid (r = min (max ((G.sz : Int) * 64 - (G.bs.length : Int) - 4) (-1)) 4096) := Lib.hid hr
  have e1 : IntKind.i64.wrap ((G.sz : Int) * 64 - (G.bs.length : Int)) = (G.sz : Int) * 64 - (G.bs.length : Int) := by rw [IntKind.wrap_i64]; omega
  have e2 : IntKind.i64.wrap ((G.sz : Int) * 64 - (G.bs.length : Int) - 4) = (G.sz : Int) * 64 - (G.bs.length : Int) - 4 := by rw [IntKind.wrap_i64]; omega
  clear h hlc hr hg
  go_enter Try.func13, Try.ntmps13
  go_wp2_with fail
  go_quiet ((go_at_call 32; exact Calls.quiet_of_same (HM.out _)))
  go_wp2_with fail
  go_ret
  exact ⟨ret_i HR.out.symm, _, rfl⟩
/-- What All leaves. -/
def AlPost (w : World) (l : List (List Int)) (e : Ending) (w' : World) : Prop := ∃ v, e = .returned v ∧ w'.ownsRow w.heap.size 9 1 v l.length (strs l) ∧ Below w.heap.size w w'
theorem all_any (B q p : Nat) (G : Lg) (bv : Value) (D : Dk) (l : List (List Int)) (w : World) (h : PL w B q p G bv D) (hl : G.bs = enc l) (hk : Rok l) :
    Calls Try.prog 18 #[.pointer (some ⟨q, 0, none⟩)] w (AlPost w l) := by
  obtain ⟨A, c, rfl, hR, hc, -⟩ := own_reads h.row h.gok.bys
  have c14 := h.cells.c14
  have HRC := Lib.hid (recs_any A G.bs.length c G.bs w hR hc (by have := h.gok.small.2.2.1; omega))
  have HL := Lib.hid hl
  have HK := Lib.hid hk
  clear h hl hk hR
  go_enter Try.func18, Try.ntmps18
  go_wp2_with fail
  refine HRC.out.mono ?_
  rintro e w2 ⟨v, l', r, rfl, hr, hg, ho, hb⟩
  rw [HL.out] at hr
  obtain ⟨rfl, -⟩ := rc_of_enc HK.out hr hg
  have HE : Hid (AlPost w l' (.returned v) w2) := Lib.hid ⟨v, rfl, ho, hb⟩
  clear hr hg ho hb
  go_wp2_with fail
  go_ret
  exact HE.out
theorem len_any (B q p : Nat) (G : Lg) (bv : Value) (D : Dk) (l : List (List Int)) (w : World) (h : PL w B q p G bv D) (hl : G.bs = enc l) (hk : Rok l) :
    Calls Try.prog 19 #[.pointer (some ⟨q, 0, none⟩)] w fun e w' => e = .returned (.int .i64 (l.length : Int)) ∧ Below w.heap.size w w' := by
  have HA := Lib.hid (all_any B q p G bv D l w h hl hk)
  clear h hl hk
  go_enter Try.func19, Try.ntmps19
  go_wp2_with fail
  refine HA.out.mono ?_
  rintro e w2 ⟨v, rfl, ho, hb⟩
  obtain ⟨A, c, rfl, -, -, -⟩ := own_form ho
  clear ho
  have HB := Lib.hid hb
  clear hb
  go_wp2_with fail
  go_ret
  exact ⟨rfl, HB.out⟩
end Go.Proofs.Ytdbpnfceabklkaa
