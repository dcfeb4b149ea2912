/-
  What loadTree returns of texts: a tree that may be, or none. Condition: at most four hundred texts, none longer than memory bears.
  Plain: a list of leases that came, each once; what was last done, put by a number and a reply. No condition.
  What loadLeases returns of texts: leases that may be and what was last done for them, or none. Condition: at most four hundred texts, none longer than memory bears.
-/
import Derived.Lib.ConvBytes
import Derived.Test.YtflgemlhocjipaaGreatDoorCMath
import Derived.Test.YtflgemlhocjipaaGreatDoorQDec
import Derived.Test.YtflgemlhocjipaaGreatDoorCAp1
import Derived.Test.YtflgemlhocjipaaGreatDoorLoadQ
import Derived.Test.YtflgemlhocjipaaGreatDoorSMath
import Derived.Test.YtflgemlhocjipaaGreatDoorLLoad
import Derived.Test.YtflgemlhocjipaaGreatDoorSGet
namespace Go.Proofs.YtflgemlhocjipaaGreatDoor
set_option maxRecDepth 100000
open Go.ChangeShapes Go.WideShapes Go.ChangeAt Go.RowKit Go.Proofs.Zn Go.Proofs.Zt
open Go.Proofs.Zs (St Lst Rep Tx)
open Pq (Fld FReads Reads fcs ams errL bytL sm dc Sm Bys byts)

theorem conv_str (s : ByteArray) (W : World) : (convert 9 54 (.string s)).run Tryz.prog W = .ok (.slice (some ⟨W.heap.size, 0, none⟩) s.size (grownCap W s.size 0 5)) (Lib.bytesWorld W 5 s) :=
  Lib.run_convert_string_bytes W 9 54 5 s Tryz.underlying9 Tryz.underlying54 Tryz.underlying5
theorem conv_below (s : ByteArray) (W : World) (e : TypeId) : Below W.heap.size W (Lib.bytesWorld W e s) :=
  ⟨rfl, rfl, rfl, by rw [Lib.bytesWorld_size]; omega, fun k hk => Lib.bytesWorld_at_old W e s k hk⟩
theorem conv_reads8 (s : ByteArray) (W : World) (e : TypeId) : Reads .u8 (Lib.bytesWorld W e s) (some ⟨W.heap.size, 0, none⟩) s.size (Pq.sb s) := by
  have hl : (Pq.sb s).length = s.size := by unfold Pq.sb; rw [List.length_map]; rfl
  refine ⟨hl, fun _ => ⟨_, _, rfl, fun i hi => ?_⟩⟩
  rw [Nat.zero_add, Lib.bytesWorld_cell W e s i hi]
  unfold Pq.sb
  have hi' : i < s.data.toList.length := by simpa using hi
  rw [List.getD_eq_getElem?_getD, List.getD_eq_getElem?_getD, List.getElem?_map, List.getElem?_eq_getElem hi']
  rfl
theorem conv_bys (s : ByteArray) : Bys (Pq.sb s) := fun z hz => by
  obtain ⟨c, _, rfl⟩ := List.mem_map.1 hz
  have := c.toNat_lt
  omega
/-- What came of the text in bytes: a letter for each, once. -/
theorem conv_all (s : ByteArray) (W : World) (hs : s.size ≤ maxLen) : ∃ W2 g m, (convert 9 54 (.string s)).run Tryz.prog W = .ok (.slice (some ⟨g, 0, none⟩) s.size m) W2 ∧ Below W.heap.size W W2 ∧ Reads .u8 W2 (some ⟨g, 0, none⟩) s.size (Pq.sb s) ∧ s.size ≤ m ∧ m ≤ maxLen :=
  ⟨_, _, _, conv_str s W, conv_below s W _, conv_reads8 s W _, grownCap_ge W s.size 0 _, grownCap_le_maxLen W s.size 0 _ hs⟩
def LtPost (w : World) (e : Ending) (w' : World) : Prop := Below w.heap.size w w' ∧ (e = .returned (.tuple #[.pointer none, .bool false]) ∨ ∃ T tp mb, e = .returned (.tuple #[.pointer (some ⟨tp, 0, none⟩), .bool true]) ∧ TreeW w' tp mb T ∧ Zt.Good T ∧ w.heap.size ≤ tp)
def ndAt (f : List Fld) : Nd := ⟨L (f.getD 0 Pq.z0).s, L (f.getD 1 Pq.z0).s, (f.getD 2 Pq.z0).n, (f.getD 3 Pq.z0).n, (f.getD 4 Pq.z0).n, (f.getD 5 Pq.z0).n, (f.getD 6 Pq.z0).n, (f.getD 7 Pq.z0).n, (f.getD 8 Pq.z0).n⟩
theorem dc_len {ks b : List Int} {l : List Fld} {n : Nat} (hB : Bys b) (h : dc ks b = .good l n) : l.length = ks.length ∧ errL l = 0 := by
  have := Pq.sm_good hB (dc_sm h)
  exact ⟨this.2.2.2, this.2.1⟩
theorem fld_s {l : List Fld} (h : errL l = 0) {i : Nat} (hi : i < l.length) : (l.getD i Pq.z0).s.size ≤ 1024 := by
  have hm := errL_mem h (l.getD i Pq.z0) (by rw [List.getD_eq_getElem?_getD, List.getElem?_eq_getElem hi]; exact List.getElem_mem _)
  rcases Pq.ams_zero hm with ⟨_, _, _, e⟩ | ⟨_, _, _, e⟩ | ⟨_, _, e⟩ | ⟨_, _, _, e⟩
  · rw [e]; decide
  · rw [e]; decide
  · exact e
  · rw [e]; decide
theorem fld_n {l : List Fld} (h : errL l = 0) {i : Nat} (hi : i < l.length) : 0 ≤ (l.getD i Pq.z0).n ∧ (l.getD i Pq.z0).n ≤ 4611686018427387904 := by
  have hm := errL_mem h (l.getD i Pq.z0) (by rw [List.getD_eq_getElem?_getD, List.getElem?_eq_getElem hi]; exact List.getElem_mem _)
  rcases Pq.ams_zero hm with ⟨_, e, e', _⟩ | ⟨_, e, e', _⟩ | ⟨_, e, _⟩ | ⟨_, e, e', _⟩ <;> (try unfold Pq.big at e') <;> omega
theorem infoNd : (Tryz.prog.info? 132).map (fun i => (i.zero, i.size, i.bytes)) = some (some (.agg #[.string ⟨#[]⟩, .string ⟨#[]⟩, .int .i64 0, .int .i64 0, .int .i64 0, .int .i64 0, .int .i64 0, .int .i64 0, .int .i64 0]), 9, 88) := by kernel_rfl
set_option maxHeartbeats 8000000 in
theorem loadtree_any {w : World} {A : Option Addr} {n c : Nat} {l : List Txt} (hR : Rd scell 1 w A n l) (hn : n ≤ 400) (hl : ∀ s ∈ l, s.length ≤ maxLen) : Calls Tryz.prog 63 #[.slice A n c] w (LtPost w) := by
  have HR := Lib.hid hR
  have HL := Lib.hid hl
  obtain ⟨iz, hiz, hz0, hz1, hz2⟩ := info_parts infoNd
  clear hR hl
  go_enter Tryz.func63, Tryz.ntmps63
  go_wp2_with fail
  go_loopw [4, 14] (fun u i wr => ∃ (k : Nat) (T : Tr), k ≤ n ∧ i = .int .i64 k ∧ Hid (T.length = k) ∧ Hid (wr.ownsRow w.heap.size 132 9 u k (ncells T)) ∧ Hid (∀ z ∈ T, z.path.length ≤ 1024) ∧ Hid (Below w.heap.size w wr)) (fun _ i _ => n - (intOf i).toNat)
  case atStart => exact ⟨0, [], Nat.zero_le _, rfl, Lib.hid rfl, Lib.hid (World.ownsRow_nil _ _ _ _), Lib.hid (by simp), Lib.hid (Below.refl _ _)⟩
  case round =>
    obtain ⟨k, T, hk, rfl, HTL, HO, HP, HX⟩ := hrel
    have ho := HO.out
    obtain ⟨A3, e3, rfl, -, -, -⟩ := own_form ho
    by_cases hlt : k < n
    · obtain ⟨b, off, x, rfl, hx, hcc⟩ := (HR.out.below HX.out).at hlt
      have c0 : wr.cell? ⟨b, off + k, none⟩ = some (.string (B x)) := by have := hcc 0 _ rfl; simpa using this
      have hxs : (B x).size ≤ maxLen := by rw [B_size]; exact HL.out x (List.mem_of_getElem? hx)
      obtain ⟨X, hX⟩ : ∃ X, B x = X := ⟨_, rfl⟩
      rw [hX] at c0 hxs
      have HZ := Lib.hid (ofznode_any ⟨#[]⟩ ⟨#[]⟩ 0 0 0 0 0 0 0 wr)
      have hk0 : (0 : Int) ≤ (k : Int) := by omega
      have hki : (k : Int) < (n : Int) := by omega
      have hwk : IntKind.i64.wrap ((k : Int) + 1) = (k : Int) + 1 := by rw [IntKind.wrap_i64]; omega
      have HXS := Lib.hid hxs
      clear hx hcc hX hxs ho
      go_wp2_with fail
      refine HZ.out.mono ?_
      rintro e w2 ⟨b2, rfl, hk2, hg2, hb2⟩
      have HKC := Lib.hid (Pq.kinds_any (some ⟨b2, 0, none⟩) 9 9 _ w2 (of_fields2 hk2 (by decide)) (by decide))
      have HB2 : Hid (Below w.heap.size w w2) := Lib.hid (HX.out.trans (hb2.mono HX.out.size))
      have HW2 : Hid (Below wr.heap.size wr w2) := Lib.hid hb2
      clear hk2 hg2 hb2
      go_wp2_with fail
      refine HKC.out.mono ?_
      rintro e w3 ⟨rfl, hk3, hb3⟩
      have HW3 : Hid (Below wr.heap.size wr w3) := Lib.hid (HW2.out.trans (hb3.mono HW2.out.size))
      obtain ⟨w4, g4, m4, hcv, hb4, hr4, hm4, hm4'⟩ := conv_all X w3 HXS.out
      obtain ⟨sz, hsz⟩ : ∃ s, X.size = s := ⟨_, rfl⟩
      rw [hsz] at hcv hr4 hm4
      obtain ⟨D, hD⟩ : ∃ D, dc ((ndF ⟨#[]⟩ ⟨#[]⟩ 0 0 0 0 0 0 0).map (·.k)) (Pq.sb X) = D := ⟨_, rfl⟩
      have HDC := Lib.hid (Pq.decode_any (some ⟨w2.heap.size, 0, none⟩) (some ⟨g4, 0, none⟩) 9 9 sz m4 _ _ w4 (hk3.kept hb4) hr4 (conv_bys X) (by decide) hm4 hm4')
      rw [hD] at HDC
      have HD := Lib.hid hD
      have HW4 : Hid (Below wr.heap.size wr w4) := Lib.hid (HW3.out.trans (hb4.mono HW3.out.size))
      clear hk3 hb3 hb4 hr4 hm4 hm4' hsz hD
      go_wp2_with fail
      refine HDC.out.mono ?_
      rintro e w5 ⟨A5, c5, rfl, ⟨hf5, -, hfr5⟩, hb5⟩
      have HW5 : Hid (Below wr.heap.size wr w5) := Lib.hid (HW4.out.trans (hb5.mono HW4.out.size))
      clear hb5 hcv c0
      cases D with
      | bad er =>
        have hne : (er == 0) = false := by simpa using P1.dc_bad_ne1 HD.out
        have hne2 : (er != 0) = true := by simpa using P1.dc_bad_ne1 HD.out
        have HE : Hid (LtPost w (.returned (.tuple #[.pointer none, .bool false])) w5) := Lib.hid ⟨HX.out.trans (HW5.out.mono HX.out.size), .inl rfl⟩
        simp only [Pq.Sm.e, Pq.Sm.l, List.length_nil] at hf5 ⊢
        clear hf5 hfr5
        go_wp2_with fail
        exact bodyPost_ret (v := .tuple #[.pointer none, .bool false]) (by simp [results, Tryz.results63, go_sem]) rfl HE.out
      | good f m =>
        obtain ⟨hfl, herr⟩ := dc_len (conv_bys X) HD.out
        have hf9 : f.length = 9 := hfl
        simp only [Pq.Sm.e, Pq.Sm.l] at hf5 ⊢
        rw [hf9] at hf5 ⊢
        obtain ⟨b0, o0, rfl, hcell⟩ := hf5.2 (by omega)
        have a0 := (hcell 0 (by omega)).2.2
        have a1 := (hcell 1 (by omega)).2.2
        have a2 := (hcell 2 (by omega)).2.1
        have a3 := (hcell 3 (by omega)).2.1
        have a4 := (hcell 4 (by omega)).2.1
        have a5 := (hcell 5 (by omega)).2.1
        have a6 := (hcell 6 (by omega)).2.1
        have a7 := (hcell 7 (by omega)).2.1
        have a8 := (hcell 8 (by omega)).2.1
        have HND : Hid (ncell (ndAt f) = [.string (f.getD 0 Pq.z0).s, .string (f.getD 1 Pq.z0).s, .int .i64 (f.getD 2 Pq.z0).n, .int .i64 (f.getD 3 Pq.z0).n, .int .i64 (f.getD 4 Pq.z0).n, .int .i64 (f.getD 5 Pq.z0).n, .int .i64 (f.getD 6 Pq.z0).n, .int .i64 (f.getD 7 Pq.z0).n, .int .i64 (f.getD 8 Pq.z0).n]) := Lib.hid (by simp only [ncell, ndAt, BL])
        have HPZ : Hid ((ndAt f).path.length ≤ 1024) := Lib.hid (by rw [← B_size]; simp only [ndAt, BL]; exact fld_s herr (by omega))
        obtain ⟨k0, hk0⟩ : ∃ k, (f.getD 0 Pq.z0).s = k := ⟨_, rfl⟩
        rw [hk0] at a0 HND
        obtain ⟨k1, hk1⟩ : ∃ k, (f.getD 1 Pq.z0).s = k := ⟨_, rfl⟩
        rw [hk1] at a1 HND
        obtain ⟨k2, hk2⟩ : ∃ k, (f.getD 2 Pq.z0).n = k := ⟨_, rfl⟩
        rw [hk2] at a2 HND
        obtain ⟨k3, hk3⟩ : ∃ k, (f.getD 3 Pq.z0).n = k := ⟨_, rfl⟩
        rw [hk3] at a3 HND
        obtain ⟨k4, hk4⟩ : ∃ k, (f.getD 4 Pq.z0).n = k := ⟨_, rfl⟩
        rw [hk4] at a4 HND
        obtain ⟨k5, hk5⟩ : ∃ k, (f.getD 5 Pq.z0).n = k := ⟨_, rfl⟩
        rw [hk5] at a5 HND
        obtain ⟨k6, hk6⟩ : ∃ k, (f.getD 6 Pq.z0).n = k := ⟨_, rfl⟩
        rw [hk6] at a6 HND
        obtain ⟨k7, hk7⟩ : ∃ k, (f.getD 7 Pq.z0).n = k := ⟨_, rfl⟩
        rw [hk7] at a7 HND
        obtain ⟨k8, hk8⟩ : ∃ k, (f.getD 8 Pq.z0).n = k := ⟨_, rfl⟩
        rw [hk8] at a8 HND
        have hlt0 := Pq.cell_lt a2
        have HS8 : Hid (∀ W, Below w5.heap.size w5 W → W.cell? ⟨b0, o0 + 6 + 1, none⟩ = some (.int .i64 k2) ∧ W.cell? ⟨b0, o0 + 9 + 1, none⟩ = some (.int .i64 k3) ∧ W.cell? ⟨b0, o0 + 12 + 1, none⟩ = some (.int .i64 k4) ∧ W.cell? ⟨b0, o0 + 15 + 1, none⟩ = some (.int .i64 k5) ∧ W.cell? ⟨b0, o0 + 18 + 1, none⟩ = some (.int .i64 k6) ∧ W.cell? ⟨b0, o0 + 21 + 1, none⟩ = some (.int .i64 k7) ∧ Below w5.heap.size w5 W) := Lib.hid (fun W hW => ⟨(hW.cell (p := ⟨b0, _, none⟩) hlt0).trans a2, (hW.cell (p := ⟨b0, _, none⟩) hlt0).trans a3, (hW.cell (p := ⟨b0, _, none⟩) hlt0).trans a4, (hW.cell (p := ⟨b0, _, none⟩) hlt0).trans a5, (hW.cell (p := ⟨b0, _, none⟩) hlt0).trans a6, (hW.cell (p := ⟨b0, _, none⟩) hlt0).trans a7, hW⟩)
        have HSA : Hid (∀ W o, (W.cell? ⟨b0, o0 + 6 + 1, none⟩ = some (.int .i64 k2) ∧ W.cell? ⟨b0, o0 + 9 + 1, none⟩ = some (.int .i64 k3) ∧ W.cell? ⟨b0, o0 + 12 + 1, none⟩ = some (.int .i64 k4) ∧ W.cell? ⟨b0, o0 + 15 + 1, none⟩ = some (.int .i64 k5) ∧ W.cell? ⟨b0, o0 + 18 + 1, none⟩ = some (.int .i64 k6) ∧ W.cell? ⟨b0, o0 + 21 + 1, none⟩ = some (.int .i64 k7) ∧ Below w5.heap.size w5 W) → ((W.alloc o).cell? ⟨b0, o0 + 6 + 1, none⟩ = some (.int .i64 k2) ∧ (W.alloc o).cell? ⟨b0, o0 + 9 + 1, none⟩ = some (.int .i64 k3) ∧ (W.alloc o).cell? ⟨b0, o0 + 12 + 1, none⟩ = some (.int .i64 k4) ∧ (W.alloc o).cell? ⟨b0, o0 + 15 + 1, none⟩ = some (.int .i64 k5) ∧ (W.alloc o).cell? ⟨b0, o0 + 18 + 1, none⟩ = some (.int .i64 k6) ∧ (W.alloc o).cell? ⟨b0, o0 + 21 + 1, none⟩ = some (.int .i64 k7) ∧ Below w5.heap.size w5 (W.alloc o))) := Lib.hid (fun W o hS => by
          obtain ⟨-, -, -, -, -, -, hW⟩ := hS
          exact HS8.out _ (hW.trans ((box_below W o).mono hW.size)))
        obtain ⟨w6, hw6⟩ : ∃ w6, w6 = (w5.alloc (.cells #[.int .i64 k2, .int .i64 k3, .int .i64 k4, .int .i64 k5, .int .i64 k6, .int .i64 k7] 130)).drew := ⟨_, rfl⟩
        obtain ⟨r, er⟩ : ∃ r, r = w5.heap.size := ⟨_, rfl⟩
        have hr6 : w6.heap[r]? = some (.cells #[.int .i64 k2, .int .i64 k3, .int .i64 k4, .int .i64 k5, .int .i64 k6, .int .i64 k7] 130 (0, 0)) := by rw [hw6, er]; exact new_block w5 _
        have hb6 : Below w5.heap.size w5 w6 := by rw [hw6]; exact (box_below w5 _).drew
        have hX6 : Below w.heap.size w w6 := HX.out.trans ((HW5.out.trans (hb6.mono HW5.out.size)).mono HX.out.size)
        have ho6 := own_below HO.out (HW5.out.trans (hb6.mono HW5.out.size))
        have HQW : Hid (∀ W, Below w6.heap.size w6 W → W.cell? ⟨b0, o0 + 2, none⟩ = some (.string k0) ∧ W.cell? ⟨b0, o0 + 3 + 2, none⟩ = some (.string k1) ∧ W.cell? ⟨b0, o0 + 24 + 1, none⟩ = some (.int .i64 k8) ∧ W.cell? ⟨r, 0, none⟩ = some (.int .i64 k2) ∧ W.cell? ⟨r, 1, none⟩ = some (.int .i64 k3) ∧ W.cell? ⟨r, 2, none⟩ = some (.int .i64 k4) ∧ W.cell? ⟨r, 3, none⟩ = some (.int .i64 k5) ∧ W.cell? ⟨r, 4, none⟩ = some (.int .i64 k6) ∧ W.cell? ⟨r, 5, none⟩ = some (.int .i64 k7)) := Lib.hid (fun W hW => by
          have hB := hb6.trans (hW.mono hb6.size)
          have h := blk_below hr6 hW
          exact ⟨(hB.cell (p := ⟨b0, _, none⟩) hlt0).trans a0, (hB.cell (p := ⟨b0, _, none⟩) hlt0).trans a1, (hB.cell (p := ⟨b0, _, none⟩) hlt0).trans a8, cell_of h (j := 0) rfl, cell_of h (j := 1) rfl, cell_of h (j := 2) rfl, cell_of h (j := 3) rfl, cell_of h (j := 4) rfl, cell_of h (j := 5) rfl⟩)
        have HQA : Hid (∀ W o, Below w6.heap.size w6 W → Below w6.heap.size w6 (W.alloc o)) := Lib.hid (fun W o hW => hW.trans ((box_below W o).mono hW.size))
        have HOQ : Hid (∀ W, Below w6.heap.size w6 W → W.ownsRow w.heap.size 132 9 (.slice A3 k e3) k (ncells T)) := Lib.hid (fun W hW => own_below ho6 hW)
        have hs6 := hX6.size
        have HSG : Hid (∀ W, ((w6.alloc (.cells #[.string k0, .string k1, .int .i64 k2, .int .i64 k3, .int .i64 k4, .int .i64 k5, .int .i64 k6, .int .i64 k7, .int .i64 k8] 132)).drew).grownBy W (Value.slice A3 k e3).ownBlock → W.cell? ⟨b0, o0 + 2, none⟩ = some (.string k0) ∧ W.cell? ⟨b0, o0 + 3 + 2, none⟩ = some (.string k1) ∧ W.cell? ⟨b0, o0 + 24 + 1, none⟩ = some (.int .i64 k8) ∧ W.cell? ⟨r, 0, none⟩ = some (.int .i64 k2) ∧ W.cell? ⟨r, 1, none⟩ = some (.int .i64 k3) ∧ W.cell? ⟨r, 2, none⟩ = some (.int .i64 k4) ∧ W.cell? ⟨r, 3, none⟩ = some (.int .i64 k5) ∧ W.cell? ⟨r, 4, none⟩ = some (.int .i64 k6) ∧ W.cell? ⟨r, 5, none⟩ = some (.int .i64 k7)) := Lib.hid (fun W hg => by
          have hoo := HOQ.out _ (box_below w6 (.cells #[.string k0, .string k1, .int .i64 k2, .int .i64 k3, .int .i64 k4, .int .i64 k5, .int .i64 k6, .int .i64 k7, .int .i64 k8] 132)).drew
          have h := gbo_blk2 hoo hg (blk_below hr6 (box_below w6 _).drew) (by decide)
          have hb0 : ∀ {o v}, w5.cell? ⟨b0, o, none⟩ = some v → W.cell? ⟨b0, o, none⟩ = some v := fun {o v} hc => by
            have hB := hb6.trans ((box_below w6 (.cells #[.string k0, .string k1, .int .i64 k2, .int .i64 k3, .int .i64 k4, .int .i64 k5, .int .i64 k6, .int .i64 k7, .int .i64 k8] 132)).drew.mono hb6.size)
            have hne : ∀ x, (Value.slice A3 k e3).ownBlock = some x → b0 ≠ x := fun x e => by
              have h1 := (HO.out.lt x e).2
              have h2 := hfr5 b0 o0 rfl
              have h3 := HW4.out.size
              omega
            have hlt2 : b0 < ((w6.alloc (.cells #[.string k0, .string k1, .int .i64 k2, .int .i64 k3, .int .i64 k4, .int .i64 k5, .int .i64 k6, .int .i64 k7, .int .i64 k8] 132)).drew).heap.size := Nat.lt_of_lt_of_le hlt0 hB.size
            have hbk := hg.block b0 hlt2 (fun e => hne b0 e.symm rfl)
            have h4 := (hB.cell (p := ⟨b0, o, none⟩) hlt0).trans hc
            rw [← h4]
            simp only [World.cell?, hbk]
          exact ⟨hb0 a0, hb0 a1, hb0 a8, cell_of h (j := 0) rfl, cell_of h (j := 1) rfl, cell_of h (j := 2) rfl, cell_of h (j := 3) rfl, cell_of h (j := 4) rfl, cell_of h (j := 5) rfl⟩)
        have hNB : ((w6.alloc (.cells #[.string k0, .string k1, .int .i64 k2, .int .i64 k3, .int .i64 k4, .int .i64 k5, .int .i64 k6, .int .i64 k7, .int .i64 k8] 132)).drew).heap[w6.heap.size]? = some (.cells #[.string k0, .string k1, .int .i64 k2, .int .i64 k3, .int .i64 k4, .int .i64 k5, .int .i64 k6, .int .i64 k7, .int .i64 k8] 132 (0, 0)) := new_block w6 _
        have hs8 : w.heap.size ≤ ((w6.alloc (.cells #[.string k0, .string k1, .int .i64 k2, .int .i64 k3, .int .i64 k4, .int .i64 k5, .int .i64 k6, .int .i64 k7, .int .i64 k8] 132)).drew).heap.size := Nat.le_trans hs6 (box_below w6 (.cells #[.string k0, .string k1, .int .i64 k2, .int .i64 k3, .int .i64 k4, .int .i64 k5, .int .i64 k6, .int .i64 k7, .int .i64 k8] 132)).drew.size
        have HX6 := Lib.hid hX6
        have HW6 := Lib.hid hw6
        have ER := Lib.hid er
        clear a0 a1 a2 a3 a4 a5 a6 a7 a8 hk0 hk1 hk2 hk3 hk4 hk5 hk6 hk7 hk8 hw6 er hr6 hb6 hX6 ho6 hlt0 hcell hf5 hfl hf9 herr hfr5
        go_upto_region 8 with fail
        go_region_held3 (fun W => W.cell? ⟨b0, o0 + 6 + 1, none⟩ = some (.int .i64 k2) ∧ W.cell? ⟨b0, o0 + 9 + 1, none⟩ = some (.int .i64 k3) ∧ W.cell? ⟨b0, o0 + 12 + 1, none⟩ = some (.int .i64 k4) ∧ W.cell? ⟨b0, o0 + 15 + 1, none⟩ = some (.int .i64 k5) ∧ W.cell? ⟨b0, o0 + 18 + 1, none⟩ = some (.int .i64 k6) ∧ W.cell? ⟨b0, o0 + 21 + 1, none⟩ = some (.int .i64 k7) ∧ Below w5.heap.size w5 W)
          (first
            | exact HS8.out _ (Below.refl _ _).drew
            | exact HS8.out _ (box_below _ _).drew
            | (with_reducible assumption)
            | (with_reducible exact HSA.out _ _ (by with_reducible assumption)))
          (fail)
        rename_i hHeld
        clear hHeld
        rw [← HW6.out, ← ER.out]
        go_upto_region 9 with fail
        have hD : Below w6.heap.size w6 w6.drew := (Below.refl _ _).drew
        go_region_held3 (fun W => W.cell? ⟨b0, o0 + 2, none⟩ = some (.string k0) ∧ W.cell? ⟨b0, o0 + 3 + 2, none⟩ = some (.string k1) ∧ W.cell? ⟨b0, o0 + 24 + 1, none⟩ = some (.int .i64 k8) ∧ W.cell? ⟨r, 0, none⟩ = some (.int .i64 k2) ∧ W.cell? ⟨r, 1, none⟩ = some (.int .i64 k3) ∧ W.cell? ⟨r, 2, none⟩ = some (.int .i64 k4) ∧ W.cell? ⟨r, 3, none⟩ = some (.int .i64 k5) ∧ W.cell? ⟨r, 4, none⟩ = some (.int .i64 k6) ∧ W.cell? ⟨r, 5, none⟩ = some (.int .i64 k7))
          (first
            | exact HQW.out _ (Below.refl _ _).drew
            | exact HQW.out _ (box_below _ _).drew
            | (with_reducible assumption)
            | (with_reducible exact HQW.out _ (HQA.out _ _ (by with_reducible assumption)))
            | (with_reducible exact HSG.out _ hg9))
          (first
            | (refine step_append_lies _ (by rfl) _ _ _ (by rfl) w.heap.size 132 iz _ 9 88 Tryz.underlying27 hiz hz0 hz1 hz2 rfl (by decide) (.slice A3 k e3) k (ncells T) (by rfl) (HOQ.out _ (box_below _ _).drew) _ 1 1 [.string k0, .string k1, .int .i64 k2, .int .i64 k3, .int .i64 k4, .int .i64 k5, .int .i64 k6, .int .i64 k7, .int .i64 k8] (by rfl) rfl (World.news_of_block (hNB)) (by intro u hu; simp only [List.mem_cons, List.not_mem_nil, or_false] at hu; rcases hu with rfl | rfl | rfl | rfl | rfl | rfl | rfl | rfl | rfl <;> rfl) (by decide) (by unfold maxLen; omega) (by omega) hs8 _ rfl ?_; intro g9 cap9 w9 hown' hg9 hat9 hlt9))
        have HX9 : Hid (Below w.heap.size w w9) := Lib.hid ((HX6.out.trans ((box_below w6 _).drew.mono hs6)).grown hg9 hs8 (fun j hj => (HO.out.lt j hj).1))
        have HO9 : Hid (w9.ownsRow w.heap.size 132 9 (.slice (some ⟨g9, 0, none⟩) (k + 1) cap9) (k + 1) (ncells (T ++ [ndAt f]))) := Lib.hid (by
          rw [ncells_append, show ncells [ndAt f] = ncell (ndAt f) by simp [ncells], HND.out]
          exact hown')
        clear hown' hg9 hat9 hlt9 hNB hs8
        go_wp2_with fail
        go_roundw
        case rel => exact ⟨k + 1, T ++ [ndAt f], hlt, by go_num, Lib.hid (by rw [List.length_append, HTL.out]; rfl), HO9, Lib.hid (fun z hz => by
          rcases List.mem_append.1 hz with h | h
          · exact HP.out z h
          · rw [List.mem_singleton.1 h]; exact HPZ.out), HX9⟩
        case measure => simp [intOf]; omega
    · obtain rfl : k = n := by omega
      have hki : ¬ (k : Int) < (k : Int) := by omega
      have HLO := Lib.hid (load_any (c := e3) (Rd.of_own (cell := ncell) (l := T) ho (fun _ _ => rfl) (by omega)) (by omega) (fun z hz => by have := HP.out z hz; omega))
      unfold LoPost at HLO
      clear ho
      go_wp2_with fail
      refine HLO.out.mono ?_
      rintro e w2 ⟨hb2, hcs⟩
      have HB2 : Hid (Below w.heap.size w w2) := Lib.hid (HX.out.trans (hb2.mono HX.out.size))
      have HSZ : Hid (w.heap.size ≤ wr.heap.size) := Lib.hid HX.out.size
      clear hb2
      rcases hcs with ⟨h0, rfl⟩ | ⟨h0, tp, mb, rfl, ht, hge⟩
      · obtain ⟨er, her⟩ : ∃ er, chk T = er := ⟨_, rfl⟩
        rw [her] at h0 ⊢
        have hne : (er == 0) = false := by simpa using h0
        have HE : Hid (LtPost w (.returned (.tuple #[.pointer none, .bool false])) w2) := Lib.hid ⟨HB2.out, .inl rfl⟩
        clear h0 her
        go_wp2_with fail
        exact bodyPost_ret (v := .tuple #[.pointer none, .bool false]) (by simp [results, Tryz.results63, go_sem]) rfl HE.out
      · have HE : Hid (LtPost w (.returned (.tuple #[.pointer (some ⟨tp, 0, none⟩), .bool true])) w2) := Lib.hid ⟨HB2.out, .inr ⟨T, tp, mb, rfl, ht, good_chk h0, Nat.le_trans HSZ.out hge⟩⟩
        clear h0 ht hge
        go_wp2_with fail
        exact bodyPost_ret (v := .tuple #[.pointer (some ⟨tp, 0, none⟩), .bool true]) (by simp [results, Tryz.results63, go_sem]) rfl HE.out
end Go.Proofs.YtflgemlhocjipaaGreatDoor
namespace Go.Proofs.YtflgemlhocjipaaGreatDoor
open Go.Proofs.Zn Go.Proofs.Zt
open Go.Proofs.Zs (St Lst Rep Tx is_iff)

def addL (L : Le.Tb) (x : Le.Ls) : Le.Tb := if (Le.has L x.i).isSome = true then L else L ++ [x]
def lkT (T : Le.Tb) : Le.Tb := T.foldl addL []
theorem lkT_snoc (T : Le.Tb) (x : Le.Ls) : lkT (T ++ [x]) = addL (lkT T) x := by simp [lkT]
theorem is_add (L : Le.Tb) (x : Le.Ls) (a : Int) : (Le.has (addL L x) a).isSome = (decide (a = x.i) || (Le.has L a).isSome) := by
  rw [Bool.eq_iff_iff]
  simp only [Bool.or_eq_true, decide_eq_true_eq]
  unfold addL
  split
  · rename_i h
    constructor
    · exact .inr
    · rintro (rfl | h2)
      · exact h
      · exact h2
  · rw [is_iff, is_iff]
    constructor
    · rintro ⟨y, hy, e⟩
      rcases List.mem_append.1 hy with h1 | h1
      · exact .inr ⟨y, h1, e⟩
      · rw [List.mem_singleton.1 h1] at e
        exact .inl e.symm
    · rintro (rfl | ⟨y, hy, e⟩)
      · exact ⟨x, List.mem_append_right _ (List.mem_singleton.2 rfl), rfl⟩
      · exact ⟨y, List.mem_append_left _ hy, e⟩
theorem add_len (L : Le.Tb) (x : Le.Ls) : (addL L x).length = if (Le.has L x.i).isSome = true then L.length else L.length + 1 := by
  unfold addL
  split <;> simp
theorem is_fold (a : Int) : ∀ (T L : Le.Tb), (Le.has (T.foldl addL L) a).isSome = ((Le.has L a).isSome || (Le.has T a).isSome)
  | [], L => by simp [Le.has]
  | x :: T, L => by
    rw [List.foldl_cons, is_fold a T, is_add]
    have : (Le.has (x :: T) a).isSome = (decide (a = x.i) || (Le.has T a).isSome) := by
      unfold Le.has
      rw [List.find?_cons]
      by_cases h : x.i = a
      · simp [h]
      · have h1 : (x.i == a) = false := by simpa using h
        have h2 : decide (a = x.i) = false := by simpa using Ne.symm h
        rw [h1, h2]
        simp
    rw [this]
    cases decide (a = x.i) <;> cases (Le.has L a).isSome <;> cases (Le.has T a).isSome <;> rfl
theorem is_lkT (T : Le.Tb) (a : Int) : (Le.has (lkT T) a).isSome = (Le.has T a).isSome := by
  unfold lkT
  rw [is_fold]
  simp [Le.has]
theorem fold_le : ∀ (T L : Le.Tb), (T.foldl addL L).length ≤ L.length + T.length
  | [], L => by simp
  | x :: T, L => by
    rw [List.foldl_cons]
    have := fold_le T (addL L x)
    have h2 := add_len L x
    rw [List.length_cons]
    split at h2 <;> omega
theorem lkT_le (T : Le.Tb) : (lkT T).length ≤ T.length := by
  have := fold_le T []
  simpa [lkT] using this
theorem fold_len : ∀ (T L : Le.Tb), Le.Srt T → (∀ x ∈ T, (Le.has L x.i).isSome = false) → (T.foldl addL L).length = L.length + T.length
  | [], L, _, _ => by simp
  | x :: T, L, hs, h => by
    have hx := h x (List.mem_cons_self ..)
    obtain ⟨h1, h2⟩ := List.pairwise_cons.1 hs
    rw [List.foldl_cons, fold_len T (addL L x) h2 (fun y hy => by
      rw [is_add, h y (List.mem_cons_of_mem _ hy)]
      have := h1 y hy
      have h3 : decide (y.i = x.i) = false := by simp; omega
      rw [h3]; rfl), add_len, hx]
    simp
    omega
theorem lkT_len {T : Le.Tb} (h : Le.Good T) : (lkT T).length = T.length := by
  unfold lkT
  rw [fold_len T [] h.srt (fun x _ => rfl)]
  simp

structure DOk (L : Le.Tb) (D : List Lst) : Prop where
  mem : ∀ x ∈ D, (Le.has L x.s).isSome = true
  ps : ∀ x ∈ D, x.r.ps.length ≤ 6 ∧ 1 ≤ x.n ∧ x.r.s = 0
def putD (D : List Lst) (a n : Int) (r : Rep) : List Lst := if n = 0 then Zs.fg D a else Zs.fg D a ++ [⟨a, n, r⟩]
theorem putD_fd (D : List Lst) (a n : Int) (r : Rep) (hr : n = 0 → r = Zs.r0) (x : Int) : if x = a then (Zs.fd (putD D a n r) x).n = n ∧ (Zs.fd (putD D a n r) x).r = r else Zs.fd (putD D a n r) x = Zs.fd D x := by
  unfold putD
  by_cases hn : n = 0
  · rw [if_pos hn, Zs.fd_fg]
    by_cases hx : x = a
    · rw [if_pos hx, if_pos hx]
      exact ⟨hn.symm, (hr hn).symm⟩
    · rw [if_neg hx, if_neg hx]
  · rw [if_neg hn]
    have h := Zs.fd_put D ⟨a, n, r⟩ x
    rw [h]
    by_cases hx : x = a
    · rw [if_pos hx, if_pos hx]; exact ⟨rfl, rfl⟩
    · rw [if_neg hx, if_neg hx]
theorem putD_ok {L : Le.Tb} {D : List Lst} (h : DOk L D) (x : Le.Ls) {n : Int} {r : Rep} (h0 : 0 ≤ n) (h6 : r.ps.length ≤ 6) (hs : r.s = 0) : DOk (addL L x) (putD D x.i n r) := by
  have hg : ∀ y ∈ Zs.fg D x.i, y ∈ D := fun y hy => (Zs.mem_fg.1 hy).1
  have hm : ∀ y ∈ putD D x.i n r, y ∈ D ∨ (y = ⟨x.i, n, r⟩ ∧ n ≠ 0) := fun y hy => by
    unfold putD at hy
    split at hy
    · exact .inl (hg y hy)
    · rename_i hn
      rcases List.mem_append.1 hy with h1 | h1
      · exact .inl (hg y h1)
      · exact .inr ⟨List.mem_singleton.1 h1, hn⟩
  refine ⟨fun y hy => ?_, fun y hy => ?_⟩
  · rw [is_add]
    rcases hm y hy with h1 | ⟨rfl, _⟩
    · rw [h.mem y h1]; simp
    · simp
  · rcases hm y hy with h1 | ⟨rfl, hn⟩
    · exact h.ps y h1
    · exact ⟨h6, by show 1 ≤ n; omega, hs⟩
theorem DOk.same {L L' : Le.Tb} {D : List Lst} (h : DOk L D) (hl : ∀ a, (Le.has L' a).isSome = (Le.has L a).isSome) : DOk L' D := ⟨fun x hx => (hl _).trans (h.mem x hx), h.ps⟩
theorem dok_nil : DOk [] [] := ⟨fun x hx => (by cases hx), fun x hx => (by cases hx)⟩
end Go.Proofs.YtflgemlhocjipaaGreatDoor
namespace Go.Proofs.YtflgemlhocjipaaGreatDoor
set_option maxRecDepth 100000
open Go.ChangeShapes Go.WideShapes Go.ChangeAt Go.RowKit Go.Proofs.Zn Go.Proofs.Zt
open Go.Proofs.Zs (St Lst Rep Tx)
open Pq (Fld FReads Reads fcs ams errL bytL sm dc Sm Bys byts)

def LlPost (w : World) (e : Ending) (w' : World) : Prop := Below w.heap.size w w' ∧ ((∃ v1 v2, e = .returned (.tuple #[v1, v2, .bool false])) ∨ ∃ T D lp lv mb, e = .returned (.tuple #[.pointer (some ⟨lp, 0, none⟩), .map (some mb), .bool true]) ∧ Lq.TabW w' w.heap.size lp lv T ∧ Le.Good T ∧ DW w' mb T D ∧ DOk T D ∧ w.heap.size ≤ mb)
theorem infoStr3 : (Tryz.prog.info? 9).map (fun i => (i.zero, i.size, i.bytes)) = some (some (.string ⟨#[]⟩), 1, 16) := by kernel_rfl
theorem infoLs3 : (Tryz.prog.info? 100).map (fun i => (i.zero, i.size, i.bytes)) = some (some (.agg #[.int .i64 0, .int .i64 0, .int .i64 0]), 3, 24) := by kernel_rfl
def pths (g : List Fld) (m : Nat) : List Txt := (List.range m).map fun j => L (g.getD j Pq.z0).s
theorem pths_succ (g : List Fld) (m : Nat) : pths g (m + 1) = pths g m ++ [L (g.getD m Pq.z0).s] := by simp [pths, List.range_succ]
theorem pths_len (g : List Fld) (m : Nat) : (pths g m).length = m := by simp [pths]
theorem dw_grow {w w' : World} {mb base e sz n : Nat} {L : Le.Tb} {D : List Lst} {v : Value} {xs : List Value} (h : DW w mb L D) (ho : w.ownsRow base e sz v n xs) (he : e ≠ 9) (hg : w.grownBy w' v.ownBlock) : DW w' mb L D :=
  h.keep (hg.block mb h.lt (fun e' => by
    rcases ho.2 with ⟨rfl, _⟩ | ⟨g, cap, cur, rfl, _, hgc, _⟩
    · simp [Value.ownBlock] at e'
    · simp only [Value.ownBlock, Option.some.injEq] at e'
      subst e'
      exact h.ne_cells hgc rfl)) (fun u m ys hu => own_gb' hu hg (own_apart hu ho (Ne.symm he)))
theorem dw_below {w w' : World} {mb : Nat} {L : Le.Tb} {D : List Lst} (h : DW w mb L D) (hb : Below w.heap.size w w') : DW w' mb L D := h.keep (hb.block _ h.lt) (fun _ _ _ hv => own_below hv hb)
theorem own_alloc {w : World} {base e sz n : Nat} {v : Value} {xs : List Value} {o : Obj} (h : w.ownsRow base e sz v n xs) : (w.alloc o).ownsRow base e sz v n xs := own_below h (box_below w o)
set_option maxHeartbeats 16000000 in
theorem loadleases_any {w : World} {A : Option Addr} {n c : Nat} {l : List Txt} (hR : Rd scell 1 w A n l) (hn : n ≤ 400) (hl : ∀ s ∈ l, s.length ≤ maxLen) : Calls Tryz.prog 64 #[.slice A n c] w (LlPost w) := by
  have HR := Lib.hid hR
  have HL := Lib.hid hl
  obtain ⟨iz, hiz, hz0, hz1, hz2⟩ := info_parts infoLs3
  obtain ⟨is, his, hs0, hs1, hs2⟩ := info_parts infoStr3
  have hmm := @run_makeMap Tryz.prog
  obtain ⟨w1, hw1⟩ : ∃ x, x = w.alloc (.map #[] 0) := ⟨_, rfl⟩
  obtain ⟨mb, emb⟩ : ∃ x, x = w.heap.size := ⟨_, rfl⟩
  have HD1 : Hid (DW w1 mb [] []) := Lib.hid (by rw [hw1, emb]; exact dw_new w)
  have HB1 : Hid (Below w.heap.size w w1) := Lib.hid (by rw [hw1]; exact box_below w _)
  have HW1 := Lib.hid hw1
  have EMB := Lib.hid emb
  clear hR hl hw1 emb
  go_enter Tryz.func64, Tryz.ntmps64
  go_upto_region 3 with fail
  rw [← HW1.out, ← EMB.out]
  clear hmm
  go_wp2_with fail
  go_loopw [5, 21] (fun u i wr => ∃ (k : Nat) (T : Le.Tb) (D : List Lst), k ≤ n ∧ i = .int .i64 k ∧ Hid (T.length = k) ∧ Hid (wr.ownsRow w.heap.size 100 3 u k (Lq.lcells T)) ∧ Hid (DW wr mb (lkT T) D) ∧ Hid (DOk (lkT T) D) ∧ Hid (Below w.heap.size w wr)) (fun _ i _ => n - (intOf i).toNat)
  case atStart => exact ⟨0, [], [], Nat.zero_le _, rfl, Lib.hid rfl, Lib.hid (World.ownsRow_nil _ _ _ _), HD1, Lib.hid dok_nil, HB1⟩
  case round =>
    obtain ⟨k, T, D, hk, rfl, HTL, HO, HD, HDO, HX⟩ := hrel
    have ho := HO.out
    obtain ⟨A3, e3, rfl, -, -, -⟩ := own_form ho
    by_cases hlt : k < n
    · obtain ⟨b, off, x, rfl, hx, hcc⟩ := (HR.out.below HX.out).at hlt
      have c0 : wr.cell? ⟨b, off + k, none⟩ = some (.string (B x)) := by have := hcc 0 _ rfl; simpa using this
      have hxs : (B x).size ≤ maxLen := by rw [B_size]; exact HL.out x (List.mem_of_getElem? hx)
      obtain ⟨X, hX⟩ : ∃ X, B x = X := ⟨_, rfl⟩
      rw [hX] at c0 hxs
      have HZ := Lib.hid (oflease_any 0 0 0 0 0 0 wr)
      have HPA := Lib.hid (fun W => ofpath_any ⟨#[]⟩ W)
      have hk0 : (0 : Int) ≤ (k : Int) := by omega
      have hki : (k : Int) < (n : Int) := by omega
      have hwk : IntKind.i64.wrap ((k : Int) + 1) = (k : Int) + 1 := by rw [IntKind.wrap_i64]; omega
      have HXS := Lib.hid hxs
      clear hx hcc hX hxs ho
      go_wp2_with fail
      refine HZ.out.mono ?_
      rintro e w2 ⟨b2, rfl, hk2, hg2, hb2⟩
      have HF2 := Lib.hid (of_fields2 hk2 (by decide))
      have HW2 : Hid (Below wr.heap.size wr w2) := Lib.hid hb2
      clear hk2 hg2 hb2
      go_wp2_with fail
      refine (HPA.out w2).mono ?_
      rintro e w3 ⟨b3, rfl, hk3, hg3, hb3⟩
      have HF3 := Lib.hid (of_fields2 hk3 (by decide))
      have HF2' := Lib.hid (HF2.out.kept hb3)
      have HW3 : Hid (Below wr.heap.size wr w3) := Lib.hid (HW2.out.trans (hb3.mono HW2.out.size))
      clear hk3 hg3 hb3
      obtain ⟨w4, g4, m4, hcv, hb4, hr4, hm4, hm4'⟩ := conv_all X w3 HXS.out
      obtain ⟨sz, hsz⟩ : ∃ s, X.size = s := ⟨_, rfl⟩
      rw [hsz] at hcv hr4 hm4
      have HAP := Lib.hid (P1.apart_any1 (hcap := 6) (pcap := 1) (HF2'.out.kept hb4) (HF3.out.kept hb4) hr4 (conv_bys X) hm4 hm4' (by decide) (by decide))
      have hkk : (lsF 0 0 0 0 0).map (·.k) = [2, 2, 2, 2, 1, 1] := rfl
      have hpk : (paF ⟨#[]⟩).map (·.k) = [3] := rfl
      rw [hkk, hpk] at HAP
      have HW4 : Hid (Below wr.heap.size wr w4) := Lib.hid (HW3.out.trans (hb4.mono HW3.out.size))
      clear hb4 hr4 hm4 hm4' hsz hkk hpk
      go_wp2_with fail
      refine HAP.out.mono ?_
      intro e w5 hap
      have HW5 : Hid (Below wr.heap.size wr w5) := Lib.hid (HW4.out.trans (hap.1.mono HW4.out.size))
      clear hcv c0
      cases ha : apS [2, 2, 2, 2, 1, 1] [3] (Pq.sb X) with
      | none =>
        rw [ha] at hap
        obtain ⟨-, rfl⟩ := hap
        have HE : Hid (LlPost w (.returned (.tuple #[.pointer none, .map none, .bool false])) w5) := Lib.hid ⟨HX.out.trans (HW5.out.mono HX.out.size), .inl ⟨_, _, rfl⟩⟩
        clear ha
        go_wp2_with fail
        exact bodyPost_ret (v := .tuple #[.pointer none, .map none, .bool false]) (by simp [results, Tryz.results64, go_sem]) rfl HE.out
      | some p =>
        obtain ⟨f, g⟩ := p
        rw [ha] at hap
        obtain ⟨-, Af, cf, vv, b, off, ad, m, rfl, hF, hgl, hm6, hG, hA, hov⟩ := hap
        obtain ⟨r1, r2, -, r4, -, -, -⟩ := apS_some (conv_bys X) ha
        have hf6 : f.length = 6 := by have := congrArg List.length r4; simpa using this
        rw [hf6] at hF ⊢
        obtain ⟨b0, o0, rfl, hcell⟩ := hF.2 (by omega)
        have a0 := (hcell 0 (by omega)).2.1
        have q0 := fld_n r1 (i := 0) (by omega)
        obtain ⟨k0, hk0⟩ : ∃ k, (f.getD 0 Pq.z0).n = k := ⟨_, rfl⟩
        rw [hk0] at a0 q0
        have a1 := (hcell 1 (by omega)).2.1
        have q1 := fld_n r1 (i := 1) (by omega)
        obtain ⟨k1, hk1⟩ : ∃ k, (f.getD 1 Pq.z0).n = k := ⟨_, rfl⟩
        rw [hk1] at a1 q1
        have a2 := (hcell 2 (by omega)).2.1
        have q2 := fld_n r1 (i := 2) (by omega)
        obtain ⟨k2, hk2⟩ : ∃ k, (f.getD 2 Pq.z0).n = k := ⟨_, rfl⟩
        rw [hk2] at a2 q2
        have a3 := (hcell 3 (by omega)).2.1
        have q3 := fld_n r1 (i := 3) (by omega)
        obtain ⟨k3, hk3⟩ : ∃ k, (f.getD 3 Pq.z0).n = k := ⟨_, rfl⟩
        rw [hk3] at a3 q3
        have a4 := (hcell 4 (by omega)).2.1
        have q4 := fld_n r1 (i := 4) (by omega)
        obtain ⟨k4, hk4⟩ : ∃ k, (f.getD 4 Pq.z0).n = k := ⟨_, rfl⟩
        rw [hk4] at a4 q4
        have hlt0 := Pq.cell_lt a2
        have HQ := Lib.hid (And.intro q0 q3)
        have HSF : Hid (∀ W, Below w5.heap.size w5 W → W.cell? ⟨b0, o0 + 1, none⟩ = some (.int .i64 k0) ∧ W.cell? ⟨b0, o0 + 3 + 1, none⟩ = some (.int .i64 k1) ∧ W.cell? ⟨b0, o0 + 6 + 1, none⟩ = some (.int .i64 k2) ∧ W.cell? ⟨b0, o0 + 9 + 1, none⟩ = some (.int .i64 k3) ∧ W.cell? ⟨b0, o0 + 12 + 1, none⟩ = some (.int .i64 k4) ∧ Below w5.heap.size w5 W) := Lib.hid (fun W hW => ⟨(hW.cell (p := ⟨b0, _, none⟩) hlt0).trans a0, (hW.cell (p := ⟨b0, _, none⟩) hlt0).trans a1, (hW.cell (p := ⟨b0, _, none⟩) hlt0).trans a2, (hW.cell (p := ⟨b0, _, none⟩) hlt0).trans a3, (hW.cell (p := ⟨b0, _, none⟩) hlt0).trans a4, hW⟩)
        have HSA : Hid (∀ W o, (W.cell? ⟨b0, o0 + 1, none⟩ = some (.int .i64 k0) ∧ W.cell? ⟨b0, o0 + 3 + 1, none⟩ = some (.int .i64 k1) ∧ W.cell? ⟨b0, o0 + 6 + 1, none⟩ = some (.int .i64 k2) ∧ W.cell? ⟨b0, o0 + 9 + 1, none⟩ = some (.int .i64 k3) ∧ W.cell? ⟨b0, o0 + 12 + 1, none⟩ = some (.int .i64 k4) ∧ Below w5.heap.size w5 W) → ((W.alloc o).cell? ⟨b0, o0 + 1, none⟩ = some (.int .i64 k0) ∧ (W.alloc o).cell? ⟨b0, o0 + 3 + 1, none⟩ = some (.int .i64 k1) ∧ (W.alloc o).cell? ⟨b0, o0 + 6 + 1, none⟩ = some (.int .i64 k2) ∧ (W.alloc o).cell? ⟨b0, o0 + 9 + 1, none⟩ = some (.int .i64 k3) ∧ (W.alloc o).cell? ⟨b0, o0 + 12 + 1, none⟩ = some (.int .i64 k4) ∧ Below w5.heap.size w5 (W.alloc o))) := Lib.hid (fun W o hS => by
          obtain ⟨-, -, -, -, -, hW⟩ := hS
          exact HSF.out _ (hW.trans ((box_below W o).mono hW.size)))
        have hsh : ∃ Av cv, vv = .slice Av m cv := by
          rcases hov.2 with ⟨rfl, hx⟩ | ⟨g9, cap, cur, rfl, _⟩
          · have h0 : m = 0 := hx
            subst h0; exact ⟨none, 0, rfl⟩
          · exact ⟨_, _, rfl⟩
        obtain ⟨Av, cv, rfl⟩ := hsh
        have HPC : Hid (∀ W, Below w5.heap.size w5 W → ∀ j, j < m → ∃ gv, Av = some ⟨gv, 0, none⟩ ∧ W.cell? ⟨gv, j, none⟩ = some (P1.ck1 b off j)) := Lib.hid (fun W hW j hj => by
          have h := own_below hov hW
          rcases h.2 with ⟨_, hx⟩ | ⟨g9, cap, cur, e, _⟩
          · omega
          · injection e with e1 e2 e3
            refine ⟨g9, e1, ?_⟩
            have hu : (P1.cks1 b off m)[j]? = some (P1.ck1 b off j) := by simp [P1.cks1, hj]
            subst e1
            have := h.cells (g := g9) rfl j _ hu
            rw [Go.WideShapes.add_plain, Nat.zero_add] at this
            exact this)
        have HGC : Hid (∀ W, Below w5.heap.size w5 W → ∀ j, j < m → W.cell? ⟨b, off + j * 3 + 2, none⟩ = some (.string (g.getD j Pq.z0).s)) := Lib.hid (fun W hW j hj => by
          obtain ⟨b', off', e, hgc⟩ := (hG.kept hW).2 (by omega)
          rw [hA (by omega)] at e
          injection e with e
          injection e with e1 e2
          subst e1; subst e2
          exact (hgc j (by omega)).2.2)
        obtain ⟨w6, hw6⟩ : ∃ w6, w6 = (w5.alloc (.cells #[.int .i64 k3, .int .i64 k4, .int .i64 0, .slice none 0 0] 149)).drew := ⟨_, rfl⟩
        obtain ⟨r, er⟩ : ∃ r, r = w5.heap.size := ⟨_, rfl⟩
        have hr6 : w6.heap[r]? = some (.cells #[.int .i64 k3, .int .i64 k4, .int .i64 0, .slice none 0 0] 149 (0, 0)) := by rw [hw6, er]; exact new_block w5 _
        have hb6 : Below w5.heap.size w5 w6 := by rw [hw6]; exact (box_below w5 _).drew
        have HST : Hid (∃ v, w6.heap[r]? = some (.cells #[.int .i64 k3, .int .i64 k4, .int .i64 0, v] 149 (0, 0)) ∧ w6.ownsRow w5.heap.size 9 1 v 0 (scells (pths g 0))) := Lib.hid ⟨_, hr6, World.ownsRow_nil _ _ _ _⟩
        have HB6 := Lib.hid hb6
        have HW6 := Lib.hid hw6
        have ER := Lib.hid er
        clear ha r1 r2 r4 hF hcell hgl hG hA hov hf6 hk0 hk1 hk2 hk3 hk4 q0 q1 q2 q3 q4 a0 a1 a2 a3 a4 hw6 er hr6 hb6 hlt0
        go_upto_region 9 with fail
        go_region_held3 (fun W => W.cell? ⟨b0, o0 + 1, none⟩ = some (.int .i64 k0) ∧ W.cell? ⟨b0, o0 + 3 + 1, none⟩ = some (.int .i64 k1) ∧ W.cell? ⟨b0, o0 + 6 + 1, none⟩ = some (.int .i64 k2) ∧ W.cell? ⟨b0, o0 + 9 + 1, none⟩ = some (.int .i64 k3) ∧ W.cell? ⟨b0, o0 + 12 + 1, none⟩ = some (.int .i64 k4) ∧ Below w5.heap.size w5 W)
          (first
            | exact HSF.out _ (Below.refl _ _).drew
            | exact HSF.out _ (box_below _ _).drew
            | (with_reducible assumption)
            | (with_reducible exact HSA.out _ _ (by with_reducible assumption)))
          (fail)
        rename_i hHeld
        clear hHeld
        rw [← HW6.out, ← ER.out]
        go_wp2_with fail
        go_loopw [50] (fun i wr => ∃ j : Nat, j ≤ m ∧ i = .int .i64 j ∧ Hid (∃ v, wr.heap[r]? = some (.cells #[.int .i64 k3, .int .i64 k4, .int .i64 0, v] 149 (0, 0)) ∧ wr.ownsRow w5.heap.size 9 1 v j (scells (pths g j))) ∧ Hid (Below w5.heap.size w5 wr)) (fun i _ => m - (intOf i).toNat)
        case atStart => exact ⟨0, Nat.zero_le _, rfl, HST, HB6⟩
        case round =>
          obtain ⟨j, hj, rfl, HV, HY⟩ := hrel
          obtain ⟨v, hv, hown⟩ := HV.out
          obtain ⟨A5, c5, rfl, -, -, -⟩ := own_form hown
          by_cases hlt2 : j < m
          · obtain ⟨gv, hgv, p0⟩ := HPC.out wr HY.out j hlt2
            subst hgv
            have d0 := HGC.out wr HY.out j hlt2
            obtain ⟨y, hy⟩ : ∃ y, (g.getD j Pq.z0).s = y := ⟨_, rfl⟩
            have HPS : Hid (scells (pths g (j + 1)) = scells (pths g j) ++ [.string y]) := Lib.hid (by rw [pths_succ, hy]; simp [scells, scell, BL])
            rw [hy] at d0
            obtain ⟨a, ha⟩ : ∃ a, a = off + j * 3 := ⟨_, rfl⟩
            rw [← ha] at d0
            rw [show P1.ck1 b off j = .slice (some ⟨b, a, none⟩) 1 1 by unfold P1.ck1; rw [ha]] at p0
            have s3 := cell_of hv (j := 3) rfl
            have hj0 : (0 : Int) ≤ (j : Int) := by omega
            have hji : (j : Int) < (m : Int) := by omega
            have hwj : IntKind.i64.wrap ((j : Int) + 1) = (j : Int) + 1 := by rw [IntKind.wrap_i64]; omega
            obtain ⟨W8, hW8⟩ : ∃ W8, W8 = (wr.alloc (.cells #[.string y] 9)).drew := ⟨_, rfl⟩
            have hD : Below wr.heap.size wr W8 := by rw [hW8]; exact (box_below _ _).drew
            have hNB : W8.heap[wr.heap.size]? = some (.cells #[.string y] 9 (0, 0)) := by rw [hW8]; exact new_block wr _
            have hOW := own_below hown hD
            have hRW := blk_below hv hD
            have hz8 : w5.heap.size ≤ W8.heap.size := Nat.le_trans HY.out.size hD.size
            have y3 := cell_of hRW (j := 3) rfl
            have HD8 := Lib.hid hD
            rw [hW8] at hNB hOW hRW hz8 y3
            have HRW := Lib.hid hRW
            have HW8 := Lib.hid hW8
            clear hW8 hD hRW hy ha hown
            go_upto_region 13 with fail
            go_region_law (first
              | (refine step_append_lies _ rfl (.tmp 56) (.tmp 61) 40 rfl w5.heap.size 9 is _ 1 16 Tryz.underlying40 his hs0 hs1 hs2 rfl (by decide) (.slice A5 j c5) j (scells (pths g j)) (by simp [Act.eval]) hOW ⟨wr.heap.size, 0, none⟩ 1 1 [.string y] (by simp [Act.eval]) rfl (World.news_of_block hNB) (by intro u hu; rw [List.mem_singleton.1 hu]; rfl) (by decide) (by unfold maxLen; omega) (by omega) hz8 _ rfl ?_; intro g6 cap w8 hown' hgrow hat hlt6; have hr8 := gbo_blk2 hOW hgrow HRW.out (by decide); have n3 := cell_of hr8 (j := 3) rfl; have f3 := frozen_of_row w8 r 3 _ _ hr8)
              | fail)
            all_goals
              obtain ⟨hwr9, hk9⟩ := seti hr8 3 (.slice (some ⟨g6, 0, none⟩) (j + 1) cap)
              have ho9 := own_gb hown' hwr9.gb (own_ne hown' hr8 (by decide))
              obtain ⟨w9, hw9⟩ : ∃ w9, w9 = w8.setCell ⟨r, 3, none⟩ (.slice (some ⟨g6, 0, none⟩) (j + 1) cap) := ⟨_, rfl⟩
              rw [← hw9] at hwr9 hk9 ho9
              rw [← hw9]
              have HV9 : Hid (∃ v, w9.heap[r]? = some (.cells #[.int .i64 k3, .int .i64 k4, .int .i64 0, v] 149 (0, 0)) ∧ w9.ownsRow w5.heap.size 9 1 v (j + 1) (scells (pths g (j + 1)))) := Lib.hid ⟨_, hk9, by rw [HPS.out]; exact ho9⟩
              have HX9 : Hid (Below w5.heap.size w5 w9) := Lib.hid (((HY.out.trans ((by rw [← HW8.out]; exact HD8.out : Below wr.heap.size wr (wr.alloc (.cells #[.string y] 9)).drew).mono HY.out.size)).grown hgrow hz8 (fun j hj => (hOW.lt j hj).1)).trans (hwr9.below.mono (by rw [ER.out]; exact Nat.le_refl _)))
              clear hr8 hown' hgrow hat hlt6 n3 f3 hwr9 hk9 ho9 hw9 hNB hOW hz8 y3 s3 d0 p0
              go_wp2_with fail
              go_roundw
              case rel => exact ⟨j + 1, hlt2, by go_num, HV9, HX9⟩
              case measure => simp [intOf]; omega
          · obtain rfl : j = m := by omega
            have hji : ¬ (j : Int) < (j : Int) := by omega
            have s0 := cell_of hv (j := 0) rfl
            have s1 := cell_of hv (j := 1) rfl
            have s2 := cell_of hv (j := 2) rfl
            have s3 := cell_of hv (j := 3) rfl
            have HPO := Lib.hid (possible_any k3 k4 0 A5 j c5 wr)
            have HRV := Lib.hid hv
            have HPW := Lib.hid hown
            clear hv hown
            go_wp2_with fail
            refine HPO.out.mono ?_
            rintro e w7 ⟨rfl, hb7⟩
            have HW7 : Hid (Below w5.heap.size w5 w7) := Lib.hid (HY.out.trans (hb7.mono HY.out.size))
            have hr7 := blk_below HRV.out hb7
            have hp7 := own_below HPW.out hb7
            clear s0 s1 s2 s3
            obtain ⟨ps, hps⟩ : ∃ b, psb k3 k4 j = b := ⟨_, rfl⟩
            rw [hps]
            cases ps with
            | false =>
              have HE : Hid (LlPost w (.returned (.tuple #[.pointer none, .map none, .bool false])) w7) := Lib.hid ⟨HX.out.trans ((HW5.out.trans (HW7.out.mono HW5.out.size)).mono HX.out.size), .inl ⟨_, _, rfl⟩⟩
              clear hb7 hr7 hp7 hps
              go_wp2_with fail
              exact bodyPost_ret (v := .tuple #[.pointer none, .map none, .bool false]) (by simp [results, Tryz.results64, go_sem]) rfl HE.out
            | true =>
              have HPZ : Hid (k3 = 0 → (⟨k4, 0, pths g j⟩ : Rep) = Zs.r0) := Lib.hid (fun h0 => by
                unfold psb at hps
                rw [if_pos h0] at hps
                simp only [Bool.and_eq_true, beq_iff_eq] at hps
                obtain ⟨rfl, rfl⟩ := hps
                rfl)
              obtain ⟨w10, hw10⟩ : ∃ x, x = (w7.alloc (.cells #[.int .i64 k0, .int .i64 k1, .int .i64 k2] 100)).drew := ⟨_, rfl⟩
              obtain ⟨r2, er2⟩ : ∃ x, x = w7.heap.size := ⟨_, rfl⟩
              have hx10 : w10.heap[r2]? = some (.cells #[.int .i64 k0, .int .i64 k1, .int .i64 k2] 100 (0, 0)) := by rw [hw10, er2]; exact new_block w7 _
              have hb10 : Below w7.heap.size w7 w10 := by rw [hw10]; exact (box_below w7 _).drew
              have HSF7 : Hid (∀ W, Below w7.heap.size w7 W → W.cell? ⟨b0, o0 + 1, none⟩ = some (.int .i64 k0) ∧ W.cell? ⟨b0, o0 + 3 + 1, none⟩ = some (.int .i64 k1) ∧ W.cell? ⟨b0, o0 + 6 + 1, none⟩ = some (.int .i64 k2) ∧ W.cell? ⟨b0, o0 + 9 + 1, none⟩ = some (.int .i64 k3) ∧ W.cell? ⟨b0, o0 + 12 + 1, none⟩ = some (.int .i64 k4) ∧ Below w5.heap.size w5 W) := Lib.hid (fun W hW => HSF.out W (HW7.out.trans (hW.mono HW7.out.size)))
              have hO7 := HW5.out.trans (HW7.out.mono HW5.out.size)
              have hO10 := hO7.trans (hb10.mono hO7.size)
              have ho10 := own_below HO.out hO10
              have hr10 := blk_below hr7 hb10
              have hp10 := own_below hp7 hb10
              have hd10 := HD.out.keep (hO10.block _ HD.out.lt) (fun _ _ _ hv => own_below hv hO10)
              have hX10 : Below w.heap.size w w10 := HX.out.trans (hO10.mono HX.out.size)
              have hne2 : ∀ q, (Value.slice A3 k e3).ownBlock = some q → q ≠ r2 := fun q e => by
                have := (HO.out.lt q e).2
                have := hO7.size
                omega
              have t0 := cell_of hx10 (j := 0) rfl
              have t1 := cell_of hx10 (j := 1) rfl
              have t2 := cell_of hx10 (j := 2) rfl
              have HO10 := Lib.hid ho10
              have HR10 := Lib.hid hr10
              have HP10 := Lib.hid hp10
              have HD10 := Lib.hid hd10
              have HX10 := Lib.hid hX10
              have HXB := Lib.hid hx10
              have HN2 := Lib.hid hne2
              have HW10 := Lib.hid hw10
              have ER2 := Lib.hid er2
              have hz10 := hX10.size
              clear hb7 hr7 hp7 hps hw10 er2 hx10 hb10 hO7 hO10 hr10 hp10 hd10 hX10 hne2
              go_upto_region 17 with fail
              go_region_held3 (fun W => W.cell? ⟨b0, o0 + 1, none⟩ = some (.int .i64 k0) ∧ W.cell? ⟨b0, o0 + 3 + 1, none⟩ = some (.int .i64 k1) ∧ W.cell? ⟨b0, o0 + 6 + 1, none⟩ = some (.int .i64 k2) ∧ W.cell? ⟨b0, o0 + 9 + 1, none⟩ = some (.int .i64 k3) ∧ W.cell? ⟨b0, o0 + 12 + 1, none⟩ = some (.int .i64 k4) ∧ Below w5.heap.size w5 W)
                (first
                  | exact HSF7.out _ (Below.refl _ _).drew
                  | exact HSF7.out _ (box_below _ _).drew
                  | (with_reducible assumption)
                  | (with_reducible exact HSA.out _ _ (by with_reducible assumption)))
                (fail)
              rename_i hHeld
              clear hHeld
              rw [← HW10.out, ← ER2.out]
              go_upto_region 19 with (at_builtin; refine wpList_append_own _ rfl _ _ 98 rfl w.heap.size 100 iz _ 3 24 Tryz.underlying98 hiz hz0 hz1 hz2 rfl (by decide) _ _ _ rfl (ho10.alloc _) ⟨w10.heap.size, 0, none⟩ 1 1 [.int .i64 k0, .int .i64 k1, .int .i64 k2] rfl rfl (World.news_of_block (new_block w10 _)) (by intro u hu; simp only [List.mem_cons, List.not_mem_nil, or_false] at hu; rcases hu with rfl | rfl | rfl <;> rfl) (by unfold maxLen; omega) (by omega) (by simp; omega) ?_; intro v11 w11 hown11 hg11 hnil11)
              have hr11 := gbo_blk2 (own_alloc HO10.out) hg11 (blk_alloc HR10.out _) (by decide)
              have hx11 := (hg11.block r2 (by simp; have := blk_lt HXB.out; omega) (fun e => HN2.out _ e.symm rfl)).trans (blk_alloc HXB.out _)
              have hp11 := own_gb' (own_alloc HP10.out) hg11 (own_apart HP10.out HO10.out (by decide))
              have hd11 := dw_grow (dw_below HD10.out (box_below w10 _)) (own_alloc HO10.out) (by decide) hg11
              obtain ⟨w12, hrun, hd12, hg12⟩ := DW.store hd11 (a := k0) (by have := lkT_le T; have := HTL.out; omega) HQ.out.1.1 HQ.out.1.2 ⟨k3, k4, 0, A5, j, c5⟩ ⟨k4, 0, pths g j⟩ rfl rfl (by have h := own_base hp11 (Nat.zero_le _); rw [show (pths g j).length = j from pths_len g j]; exact h)
                (L' := addL (lkT T) ⟨k0, k1, k2⟩) (D' := putD D k0 k3 ⟨k4, 0, pths g j⟩) (fun x => is_add _ _ x) (add_len _ _) (fun x => putD_fd D k0 k3 ⟨k4, 0, pths g j⟩ HPZ.out x)
              have HX12 : Hid (Below w.heap.size w w12) := Lib.hid (((HX10.out.alloc hz10 _).grown hg11 (by simp; omega) (fun q hq => (HO.out.lt q hq).1)).grown hg12 (by have := hg11.size; simp at this; omega) (fun q hq => by injection hq with hq; rw [← hq, EMB.out]; exact Nat.le_refl _))
              have hnc : ∀ cs t fr, w11.heap[mb]? ≠ some (.cells cs t fr) := fun cs t fr e => by
                obtain ⟨es, ck, hm⟩ := hd11.is_map
                rw [hm] at e; cases e
              have HO12 : Hid (w12.ownsRow w.heap.size 100 3 v11 (k + 1) (Lq.lcells (T ++ [⟨k0, k1, k2⟩]))) := Lib.hid (by
                rw [Lq.lcells_append]
                exact row_gb hown11 hg12 hnc)
              have HD12 : Hid (DW w12 mb (lkT (T ++ [⟨k0, k1, k2⟩])) (putD D k0 k3 ⟨k4, 0, pths g j⟩)) := Lib.hid (by rw [lkT_snoc]; exact hd12)
              have HDO12 : Hid (DOk (lkT (T ++ [⟨k0, k1, k2⟩])) (putD D k0 k3 ⟨k4, 0, pths g j⟩)) := Lib.hid (by
                rw [lkT_snoc]
                exact putD_ok HDO.out ⟨k0, k1, k2⟩ HQ.out.2.1 (by show (pths g j).length ≤ 6; rw [pths_len]; exact hm6) rfl)
              have z0 := cell_of hr11 (j := 0) rfl
              have z1 := cell_of hr11 (j := 1) rfl
              have z2 := cell_of hr11 (j := 2) rfl
              have z3 := cell_of hr11 (j := 3) rfl
              have x0 := cell_of hx11 (j := 0) rfl
              clear hr11 hx11 hp11 hd11 hd12 hg12 hnc hown11 hg11 hnil11 ho10 t0 t1 t2
              go_wp2_with fail
              go_roundw
              case rel => exact ⟨k + 1, T ++ [⟨k0, k1, k2⟩], _, hlt, by go_num, Lib.hid (by rw [List.length_append, HTL.out]; rfl), HO12, HD12, HDO12, HX12⟩
              case measure => simp [intOf]; omega
    · obtain rfl : k = n := by omega
      have hki : ¬ (k : Int) < (k : Int) := by omega
      have HLO := Lib.hid (Lq.load_any (c := e3) (lq_rd (Rd.of_own (cell := Lq.lcell) (l := T) ho (fun _ _ => rfl) (by omega))) (by omega))
      clear ho
      go_wp2_with fail
      refine HLO.out.mono ?_
      intro e w2 hcs
      have hsz := HX.out.size
      rcases hcs with ⟨hg, tp, v, rfl, ht, hb2⟩ | ⟨hg, rfl, hb2⟩
      · have HE : Hid (LlPost w (.returned (.tuple #[.pointer (some ⟨tp, 0, none⟩), .map (some mb), .bool true])) w2) := Lib.hid ⟨HX.out.trans (hb2.mono hsz), .inr ⟨T, D, tp, v, mb, rfl, tab_base ht hsz, hg, (HD.out.keep (hb2.block _ HD.out.lt) (fun _ _ _ hv => own_below hv hb2)).same (fun x => (is_lkT T x).symm) (lkT_len hg).symm, HDO.out.same (fun x => (is_lkT T x).symm), by rw [EMB.out]; exact Nat.le_refl _⟩⟩
        clear ht hb2
        go_wp2_with fail
        exact bodyPost_ret (v := .tuple #[.pointer (some ⟨tp, 0, none⟩), .map (some mb), .bool true]) (by simp [results, Tryz.results64, go_sem]) rfl HE.out
      · have HE : Hid (LlPost w (.returned (.tuple #[.pointer none, .map (some mb), .bool false])) w2) := Lib.hid ⟨HX.out.trans (hb2.mono hsz), .inl ⟨_, _, rfl⟩⟩
        clear hb2
        go_wp2_with fail
        exact bodyPost_ret (v := .tuple #[.pointer none, .map (some mb), .bool false]) (by simp [results, Tryz.results64, go_sem]) rfl HE.out
end Go.Proofs.YtflgemlhocjipaaGreatDoor
