/-
  What ZstateApart answers. Condition: memory holds both scripts; no path is very long.
-/
import Derived.Test.YtflgemlhocjipaaGreatDoorSLaw1
namespace Go.Proofs.YtflgemlhocjipaaGreatDoor
set_option maxRecDepth 100000
open Go.ChangeShapes Go.WideShapes Go.ChangeAt Go.RowKit Go.Proofs.Zn Go.Proofs.Zt
open Go.Proofs.Zs (St Lst Rep Tx)

def mineP : Txt := [47, 109, 105, 110, 101]
def mine : Chg := ⟨1, mineP, [], 0, false, false⟩
theorem Tg.up {w : World} {B B' : Nat} {A : Option Addr} {n : Nat} (h : Tg w B A n) (hB : B ≤ B') : Tg w B' A n := fun h0 a e => by
  rcases h h0 a e with h1 | h1
  · exact .inl (by omega)
  · exact .inr h1
theorem RW.up {w : World} {B B' : Nat} {vT vL vD : Value} {S : St} (h : RW w B vT vL vD S) (hB : B ≤ B') : RW w B' vT vL vD S := by
  obtain ⟨⟨A1, c1, e1, r1, t1⟩, ⟨A2, c2, e2, ⟨r2, t2⟩⟩, ⟨A3, c3, l3, e3, h3, m3⟩⟩ := h
  refine ⟨⟨A1, c1, e1, r1, t1.up hB⟩, ⟨A2, c2, e2, ⟨r2, fun h0 a e => ?_⟩⟩, ⟨A3, c3, l3, e3, ⟨h3.rd, h3.tg.up hB, fun x hx => ⟨(h3.each x hx).rd, (h3.each x hx).tg.up hB⟩⟩, m3⟩⟩
  rcases t2 h0 a e with h1 | h1
  · exact .inl (by omega)
  · exact .inr h1
theorem okL_rng {x : Le.Ls} (h : Le.okL x = true) : 0 ≤ x.i ∧ x.i ≤ 4611686018427387904 := by
  unfold Le.okL at h
  simp at h
  omega
/-- Texts of the call's own that are written into. -/
def OwS (w : World) (b0 : Nat) (A : Option Addr) (m : Nat) : Prop := 0 < m → ∃ g cur, A = some ⟨g, 0, none⟩ ∧ w.heap[g]? = some (.cells cur 9 (0, 0)) ∧ m ≤ cur.size ∧ b0 ≤ g
theorem OwS.of_own {w : World} {base m c b0 : Nat} {A : Option Addr} {xs : List Value} (h : w.ownsRow base 9 1 (.slice A m c) m xs) (hb : b0 ≤ base) : OwS w b0 A m := fun h0 => by
  rcases h.2 with ⟨e, e2⟩ | ⟨g, cap, cur, e, hbg, hg, hn, hc, hs, ht⟩
  · omega
  · injection e with e1 _ e3
    exact ⟨g, cur, e1, hg, by omega, by omega⟩
theorem OwS.below {w w' : World} {b0 m : Nat} {A : Option Addr} (h : OwS w b0 A m) (hb : Below w.heap.size w w') : OwS w' b0 A m := fun h0 => by
  obtain ⟨g, cur, e, hg, h1, h2⟩ := h h0
  exact ⟨g, cur, e, blk_below hg hb, h1, h2⟩
set_option maxHeartbeats 16000000 in
theorem apart_law {w : World} {A A2 : Option Addr} {n c n2 c2 : Nat} {l l2 : List Opc} (h : Scr w A n l) (hn : n ≤ 9223372036854775807) (hP : ∀ o ∈ l, ∀ ch ∈ o.l, ch.path.length ≤ 2097152) (h2 : Scr w A2 n2 l2) (hn2 : n2 ≤ 9223372036854775807) (hP2 : ∀ o ∈ l2, ∀ ch ∈ o.l, ch.path.length ≤ 2097152) :
    Calls Tryz.prog 8 #[.slice A n c, .slice A2 n2 c2] w fun e w' => e = .returned (.bool true) ∧ Below w.heap.size w w' := by
  have HN := Lib.hid (snew_any w)
  have HF1 : Hid (∀ (W : World), Below w.heap.size w W → Calls Tryz.prog 11 #[.slice A n c] W (FwPost l W)) := Lib.hid (fun W hW => few_any (h.below hW) hn)
  have HF2 : Hid (∀ (W : World), Below w.heap.size w W → Calls Tryz.prog 11 #[.slice A2 n2 c2] W (FwPost l2 W)) := Lib.hid (fun W hW => few_any (h2.below hW) hn2)
  have HAL := Lib.hid (fun W => alive_any W)
  have HSC := Lib.hid h
  have HPP := Lib.hid hP
  have HSC2 := Lib.hid h2
  have HPP2 := Lib.hid hP2
  clear h hn hP h2 hn2 hP2
  go_enter Tryz.func8, Tryz.ntmps8
  go_wp2_with fail
  refine HN.out.mono ?_
  rintro e w2 ⟨sp, rfl, hst2, hb2⟩
  have HST2 := Lib.hid hst2
  have HB2 := Lib.hid hb2
  clear hst2 hb2
  go_wp2_with fail
  refine (HF1.out w2 HB2.out).mono ?_
  rintro e w3 ⟨b1, rfl, hf1, hb3⟩
  have HB3 : Hid (Below w.heap.size w w3) := Lib.hid (HB2.out.trans (hb3.mono HB2.out.size))
  have HST3 := Lib.hid (HST2.out.below hb3)
  have HFW := Lib.hid hf1
  clear hf1 hb3
  cases b1 with
  | false =>
    go_wp2_with fail
    refine (HAL.out _).mono ?_
    rintro e w4 ⟨rfl, hb4⟩
    have HB4 := Lib.hid (HB3.out.trans (hb4.mono HB3.out.size))
    clear hb4
    go_wp2_with fail
    go_ret
    exact ⟨rfl, HB4.out⟩
  | true =>
    have HFP := Lib.hid (HFW.out rfl)
    clear HFW
    go_wp2_with fail
    refine (HF2.out w3 HB3.out).mono ?_
    rintro e w3b ⟨b2, rfl, hf2, hb3b⟩
    have HB3b : Hid (Below w.heap.size w w3b) := Lib.hid (HB3.out.trans (hb3b.mono HB3.out.size))
    have HST3b := Lib.hid (HST3.out.below hb3b)
    have HFW2 := Lib.hid hf2
    clear hf2 hb3b
    cases b2 with
    | false =>
      go_wp2_with fail
      refine (HAL.out _).mono ?_
      rintro e w4 ⟨rfl, hb4⟩
      have HB4 := Lib.hid (HB3b.out.trans (hb4.mono HB3b.out.size))
      clear hb4
      go_wp2_with fail
      go_ret
      exact ⟨rfl, HB4.out⟩
    | true =>
      have HFP2 := Lib.hid (HFW2.out rfl)
      have HV := Lib.hid (vnew_any w3b w.heap.size)
      clear HFW2
      go_wp2_with fail
      refine HV.out.mono ?_
      rintro e w4 ⟨vT, rfl, hr4, hb4⟩
      have hB4 : Below w.heap.size w w4 := HB3b.out.trans (hb4.mono HB3b.out.size)
      have hln : l.length = n := HSC.out.rd.len
      have HPLY : Hid (Calls Tryz.prog 13 #[.pointer (some ⟨sp, 0, none⟩), .agg #[.int .i64 0, vT, .slice none 0 0, .slice none 0 0], .slice A n c] w4 (SyPost w.heap.size sp (Zs.run Zs.new (l.map clO)) w4)) := Lib.hid
        (plays_any (S := Zs.new) (HST3b.out.below hb4) Zs.new_gd hB4.size hr4 hln (fun W hW => by
          have hWW : Below w.heap.size w W := hB4.trans (hW.below hB4.size)
          exact ⟨HSC.out.below hWW, fun o ho => (Tg.old (HSC.out.ok o ho).rd (fun c => ⟨_, rfl⟩) (Nat.le_refl w.heap.size)).below hWW⟩) HPP.out (by
          have h9 := HFP.out.2
          show 0 + n ≤ 10000
          omega))
      have HGD : Hid (Zs.Gd (Zs.run Zs.new (l.map clO)) ∧ (Zs.run Zs.new (l.map clO)).D.length ≤ 200) := Lib.hid ⟨Zs.run_gd Zs.new_gd _, by
        have h1 := Zs.run_D Zs.new (l.map clO)
        have h2 : (l.map clO).length = l.length := List.length_map _
        have h9 := HFP.out.2
        have h3 : Zs.new.D.length = 0 := rfl
        omega⟩
      obtain ⟨S, hS⟩ : ∃ s, Zs.run Zs.new (l.map clO) = s := ⟨_, rfl⟩
      rw [hS] at HPLY HGD
      have HB4 := Lib.hid hB4
      clear hr4 hb4 hB4 hln hS
      go_wp2_with fail
      refine HPLY.out.mono ?_
      rintro e w5 ⟨v1, v2, v3, rfl, hst5, hr5, hk5⟩
      obtain ⟨⟨A1, c1, rfl, -, -⟩, ⟨A3, c3, rfl, -⟩, ⟨A4, c4, l3, rfl, -, -⟩⟩ := id hr5
      obtain ⟨nT, hnT⟩ : ∃ n, S.T.length = n := ⟨_, rfl⟩
      obtain ⟨nL, hnL⟩ : ∃ n, S.L.length = n := ⟨_, rfl⟩
      obtain ⟨nD, hnD⟩ : ∃ n, l3.length = n := ⟨_, rfl⟩
      rw [hnT, hnL, hnD] at hr5 ⊢
      obtain ⟨w6, hw6⟩ : ∃ xx, xx = w5.alloc (.cells #[.int .i64 S.z, .slice A1 nT c1, .slice A3 nL c3, .slice A4 nD c4] 31) := ⟨_, rfl⟩
      obtain ⟨q, eq⟩ : ∃ xx, xx = w5.heap.size := ⟨_, rfl⟩
      have hbw6 : Below w5.heap.size w5 w6 := by rw [hw6]; exact box_below w5 _
      have hkq : w6.heap[q]? = some (.cells #[.int .i64 S.z, .slice A1 nT c1, .slice A3 nL c3, .slice A4 nD c4] 31 (0, 0)) := by rw [hw6, eq]; exact new_block w5 _
      have HB6 : Hid (Below w.heap.size w w6) := Lib.hid ((HB4.out.trans (hk5.below HB4.out.size)).trans (hbw6.mono (Nat.le_trans HB4.out.size (hk5.size))))
      have HST6 := Lib.hid (hst5.below hbw6)
      have HR6 := Lib.hid (hr5.below hbw6)
      have HQ6 := Lib.hid hkq
      have HNL := Lib.hid hnL
      have HRL : Hid (Lq.Rd Lq.lcell 3 w6 A3 nL S.L) := Lib.hid (by
        obtain ⟨A9, c9, e9, h9⟩ := HR6.out.tab
        injection e9 with e1 _ e3
        subst e1
        have := h9.rd
        rw [hnL] at this
        exact this)
      have HW6 := Lib.hid hw6
      have EQ := Lib.hid eq
      clear hst5 hr5 hk5 hw6 eq hbw6 hkq hnT hnL hnD
      go_upto_region 5 with fail
      rw [← HW6.out, ← EQ.out]
      have HCL := Lib.hid (sclone_st HST6.out HGD.out.1.L)
      go_wp2_with fail
      refine HCL.out.mono ?_
      rintro e w7 ⟨su, rfl, hu7, hb7⟩
      have HU7 := Lib.hid hu7
      have HB67 := Lib.hid hb7
      have HTRE := Lib.hid (stree_any (HST6.out.below hb7))
      clear hu7 hb7
      go_wp2_with fail
      refine HTRE.out.mono ?_
      rintro e w8 ⟨tp, tmb, rfl, ht8, hb8, hge, -⟩
      have HT8 := Lib.hid ht8
      have HB78 := Lib.hid hb8
      have HGE := Lib.hid hge
      have HLSE := Lib.hid (sleases_any ((HST6.out.below HB67.out).below hb8) HGD.out.1.L)
      clear ht8 hb8 hge
      go_wp2_with fail
      refine HLSE.out.mono ?_
      rintro e w9 ⟨lp, lv, rfl, hl9, hb9, hlt9, hlv9⟩
      obtain ⟨w10, hw10⟩ : ∃ xx, xx = w9.alloc (.cells #[.int .i64 1, .string ⟨#[47, 109, 105, 110, 101]⟩, .string ⟨#[]⟩, .int .i64 0, .bool false, .bool false] 79) := ⟨_, rfl⟩
      have hb10 : Below w9.heap.size w9 w10 := by rw [hw10]; exact box_below w9 _
      have hk10 : w10.heap[w9.heap.size]? = some (.cells #[.int .i64 1, .string ⟨#[47, 109, 105, 110, 101]⟩, .string ⟨#[]⟩, .int .i64 0, .bool false, .bool false] 79 (0, 0)) := by rw [hw10]; exact new_block w9 _
      have HT10 := Lib.hid ((HT8.out.below hb9).below hb10)
      have HL10 := Lib.hid (hl9.below hb10)
      have HB810 : Hid (Below w8.heap.size w8 w10) := Lib.hid (hb9.trans (hb10.mono hb9.size))
      have hrd10 : Rd ccell 6 w10 (some ⟨w9.heap.size, 0, none⟩) 1 [mine] := ⟨rfl, fun _ => ⟨w9.heap.size, 0, rfl, fun i hi j v hv => by
        have hi0 : i = 0 := by simpa using hi
        subst hi0
        have hj : j < 6 := by
          have := (List.getElem?_eq_some_iff.1 hv).1
          simpa [ccell] using this
        have hj' : j = 0 ∨ j = 1 ∨ j = 2 ∨ j = 3 ∨ j = 4 ∨ j = 5 := by omega
        rcases hj' with rfl | rfl | rfl | rfl | rfl | rfl
        · exact cell_of hk10 (j := 0) (show some (Value.int .i64 1) = some v from hv)
        · exact cell_of hk10 (j := 1) (show some (Value.string ⟨#[47, 109, 105, 110, 101]⟩) = some v from hv)
        · exact cell_of hk10 (j := 2) (show some (Value.string ⟨#[]⟩) = some v from hv)
        · exact cell_of hk10 (j := 3) (show some (Value.int .i64 0) = some v from hv)
        · exact cell_of hk10 (j := 4) (show some (Value.bool false) = some v from hv)
        · exact cell_of hk10 (j := 5) (show some (Value.bool false) = some v from hv)⟩⟩
      have HDO := Lib.hid (do_any HT10.out HGD.out.1.T 1 0 (cp := 1) hrd10 (by omega) (fun c hc => by simp at hc; rw [hc]; show mineP.length ≤ _; decide))
      have HW10 := Lib.hid hw10
      have HLT9 := Lib.hid hlt9
      have HLV9 := Lib.hid hlv9
      have HLP8 : Hid (w8.heap.size ≤ lp) := Lib.hid hl9.ge
      have HLV8 := Lib.hid (own_ge hl9.row)
      clear hl9 hb9 hlt9 hlv9 hw10 hb10 hk10 hrd10
      go_wp2_with fail
      rw [← HW10.out]
      refine HDO.out.mono ?_
      rintro e w11 ⟨u1, u2, tmb', rfl, -, hg11, -, -⟩
      have HL11 : Hid (Lq.TabW w11 w8.heap.size lp lv S.L) := Lib.hid (by
        have ht := HL10.out
        have htp := HT8.out.lt
        have h8 := HLP8.out
        exact ⟨gb_cells hg11 (by omega) ht.here, own_gb ht.row hg11 (fun e => by have := HLV8.out tp e; omega), ht.ge⟩)
      have HB811 : Hid (w8.heap.size ≤ w11.heap.size) := Lib.hid (Nat.le_trans HB810.out.size hg11.size)
      have HB711 : Hid (Below w7.heap.size w7 w11) := Lib.hid ((HB78.out.trans (HB810.out.mono HB78.out.size)).trans (gb_to hg11 HGE.out (Nat.le_trans HB78.out.size HB810.out.size)))
      have HOP := Lib.hid (Lq.open_any HL11.out HB811.out HGD.out.1.L ⟨4611686018427387904, 1, 1⟩)
      clear hg11
      go_wp2_with fail
      refine HOP.out.mono ?_
      rintro e w12 ⟨rfl, hk12⟩
      have HB712 : Hid (Below w7.heap.size w7 w12) := Lib.hid (HB711.out.trans ((Lq.kp_below hk12 HL11.out HB811.out).mono HB78.out.size))
      clear hk12
      have hq12 := blk_below (blk_below HQ6.out HB67.out) HB712.out
      have s0 := cell_of hq12 (j := 0) rfl
      have s1 := cell_of hq12 (j := 1) rfl
      have s2 := cell_of hq12 (j := 2) rfl
      have s3 := cell_of hq12 (j := 3) rfl
      go_wp2_with fail
      go_loopw [73] (fun i wr => ∃ (k : Nat), k ≤ nL ∧ i = .int .i64 k ∧ Hid (Below w7.heap.size w7 wr)) (fun i _ => nL - (intOf i).toNat)
      case atStart => exact ⟨0, Nat.zero_le _, rfl, HB712⟩
      case round =>
        obtain ⟨k, hk, rfl, HX⟩ := hrel
        by_cases hlt : k < nL
        · have HX6 : Hid (Below w6.heap.size w6 wr) := Lib.hid (HB67.out.trans (HX.out.mono HB67.out.size))
          obtain ⟨b, off, x, hA, hx, hcc⟩ := (HRL.out.below HX6.out).at hlt
          subst hA
          have c0 : wr.cell? ⟨b, off + k * 3, none⟩ = some (.int .i64 x.i) := hcc 0 _ rfl
          have c1 : wr.cell? ⟨b, off + k * 3 + 1, none⟩ = some (.int .i64 x.s) := hcc 1 _ rfl
          have c2' : wr.cell? ⟨b, off + k * 3 + 2, none⟩ = some (.int .i64 x.l) := hcc 2 _ rfl
          have hxm : x ∈ S.L := List.mem_of_getElem? hx
          have hxr := okL_rng (HGD.out.1.L.each x hxm)
          obtain ⟨w13, hw13⟩ : ∃ xx, xx = wr.alloc (.cells #[.int .i64 x.i, .int .i64 x.s, .int .i64 x.l] 82) := ⟨_, rfl⟩
          obtain ⟨r, er⟩ : ∃ xx, xx = wr.heap.size := ⟨_, rfl⟩
          have hb13 : Below wr.heap.size wr w13 := by rw [hw13]; exact box_below wr _
          have hr : w13.heap[r]? = some (.cells #[.int .i64 x.i, .int .i64 x.s, .int .i64 x.l] 82 (0, 0)) := by rw [hw13, er]; exact new_block wr _
          have HX13 : Hid (Below w7.heap.size w7 w13) := Lib.hid (HX.out.trans (hb13.mono HX.out.size))
          obtain ⟨rn, hrn⟩ : ∃ xx, (Zs.fd S.D x.i).n = xx := ⟨_, rfl⟩
          obtain ⟨rc, hrc⟩ : ∃ xx, (Zs.fd S.D x.i).r.c = xx := ⟨_, rfl⟩
          obtain ⟨rs, hrs⟩ : ∃ xx, (Zs.fd S.D x.i).r.s = xx := ⟨_, rfl⟩
          obtain ⟨rp, hrp⟩ : ∃ xx, (Zs.fd S.D x.i).r.ps = xx := ⟨_, rfl⟩
          obtain ⟨rb, hrb⟩ : ∃ xx, (Le.has S.L x.i).isSome = xx := ⟨_, rfl⟩
          have hla := slast_any ((HST6.out.below HB67.out).below HX13.out) hxr.1 hxr.2 (by have := (fd_ps HGD.out.1 x.i).1; omega)
          have hla' : Calls Tryz.prog 36 #[.pointer (some ⟨sp, 0, none⟩), .int .i64 x.i] w13 fun e w' => ∃ v, e = .returned (.tuple #[.int .i64 rn, .agg #[.int .i64 rc, .int .i64 rs, v], .bool rb]) ∧ w'.ownsRow w13.heap.size 9 1 v rp.length (scells rp) ∧ Below w13.heap.size w13 w' := by
            rw [← hrn, ← hrc, ← hrs, ← hrp, ← hrb]
            exact hla
          have HLA := Lib.hid hla'
          have r0 := cell_of hr (j := 0) rfl
          have r1 := cell_of hr (j := 1) rfl
          have r2 := cell_of hr (j := 2) rfl
          have hk0 : (0 : Int) ≤ (k : Int) := by omega
          have hki : (k : Int) < (nL : Int) := by omega
          have HNL2 : Hid (nL ≤ 100) := Lib.hid (by rw [← HNL.out]; exact HGD.out.1.L.len)
          have hwk : IntKind.i64.wrap ((k : Int) + 1) = (k : Int) + 1 := by rw [IntKind.wrap_i64]; have := HNL2.out; omega
          have HRP : Hid (rp.length ≤ 6) := Lib.hid (by rw [← hrp]; exact (fd_ps HGD.out.1 x.i).1)
          have HW13 := Lib.hid hw13
          have ER := Lib.hid er
          clear hx hcc hxm hxr hw13 er hb13 hr hrn hrc hrs hrp hrb hla hla'
          go_upto_region 13 with fail
          rw [← HW13.out, ← ER.out]
          clear c0 c1 c2'
          go_wp2_with fail
          refine HLA.out.mono ?_
          rintro e w14 ⟨v, rfl, ho14, hb14⟩
          obtain ⟨A5, c5, rfl, -, -, -⟩ := own_form ho14
          obtain ⟨m, hm⟩ : ∃ xx, rp.length = xx := ⟨_, rfl⟩
          rw [hm] at ho14 HRP ⊢
          obtain ⟨w15, hw15⟩ : ∃ xx, xx = w14.alloc (.cells #[.int .i64 rc, .int .i64 rs, .slice A5 m c5] 42) := ⟨_, rfl⟩
          obtain ⟨t, et⟩ : ∃ xx, xx = w14.heap.size := ⟨_, rfl⟩
          have hb15 : Below w14.heap.size w14 w15 := by rw [hw15]; exact box_below w14 _
          have ht : w15.heap[t]? = some (.cells #[.int .i64 rc, .int .i64 rs, .slice A5 m c5] 42 (0, 0)) := by rw [hw15, et]; exact new_block w14 _
          have HX15 : Hid (Below w7.heap.size w7 w15) := Lib.hid ((HX13.out.trans (hb14.mono HX13.out.size)).trans (hb15.mono (Nat.le_trans HX13.out.size hb14.size)))
          have HOW : Hid (OwS w15 w7.heap.size A5 m) := Lib.hid ((OwS.of_own ho14 HX13.out.size).below hb15)
          have HT15 := Lib.hid ht
          have HW15 := Lib.hid hw15
          have ET := Lib.hid et
          clear ho14 hb14 hw15 et hb15 ht hm r0 r1 r2
          go_upto_region 14 with fail
          rw [← HW15.out, ← ET.out]
          have ht15 := HT15.out
          have u0 := cell_of ht15 (j := 0) rfl
          have u1 := cell_of ht15 (j := 1) rfl
          have u2 := cell_of ht15 (j := 2) rfl
          clear ht15
          go_wp2_with fail
          clear u0 u1 u2
          go_loopw [88] (fun i wz => ∃ (j : Nat), j ≤ m ∧ i = .int .i64 j ∧ Hid (wz.heap[t]? = some (.cells #[.int .i64 rc, .int .i64 rs, .slice A5 m c5] 42 (0, 0))) ∧ Hid (OwS wz w7.heap.size A5 m) ∧ Hid (Below w7.heap.size w7 wz)) (fun i _ => m - (intOf i).toNat)
          case atStart => exact ⟨0, Nat.zero_le _, rfl, HT15, HOW, HX15⟩
          case round =>
            obtain ⟨j, hj, rfl, HTZ, HOZ, HXZ⟩ := hrel
            by_cases hlt2 : j < m
            · obtain ⟨g, cur, rfl, hg, hms, hge⟩ := HOZ.out (by omega)
              have htz := HTZ.out
              have u0 := cell_of htz (j := 0) rfl
              have u1 := cell_of htz (j := 1) rfl
              have u2 := cell_of htz (j := 2) rfl
              have hj0 : (0 : Int) ≤ (j : Int) := by omega
              have hji : (j : Int) < (m : Int) := by omega
              have hwj : IntKind.i64.wrap ((j : Int) + 1) = (j : Int) + 1 := by rw [IntKind.wrap_i64]; have := HRP.out; omega
              obtain ⟨cv, hcv⟩ : ∃ cv, cur[j]? = some cv := ⟨_, Array.getElem?_eq_getElem (by omega)⟩
              have cg := cell_of hg hcv
              have fg := frozen_of_row wr g j _ _ hg
              have hne : t ≠ g := fun e => by rw [e, hg] at htz; injection htz with htz; injection htz with _ e2 _; exact absurd e2 (by decide)
              have hg2 := heap_setCell_same wr g j _ 9 (.string ⟨#[109, 105, 110, 101]⟩) hg
              have HTN : Hid ((wr.setCell ⟨g, j, none⟩ (.string ⟨#[109, 105, 110, 101]⟩)).heap[t]? = some (.cells #[.int .i64 rc, .int .i64 rs, .slice (some ⟨g, 0, none⟩) m c5] 42 (0, 0))) := Lib.hid ((Go.Deep.blk_setCell_other wr _ _ t hne).trans htz)
              have HON : Hid (OwS (wr.setCell ⟨g, j, none⟩ (.string ⟨#[109, 105, 110, 101]⟩)) w7.heap.size (some ⟨g, 0, none⟩) m) := Lib.hid (fun _ => ⟨g, _, rfl, hg2, by simpa using hms, hge⟩)
              have HXN : Hid (Below w7.heap.size w7 (wr.setCell ⟨g, j, none⟩ (.string ⟨#[109, 105, 110, 101]⟩))) := Lib.hid (HXZ.out.setCell hge _)
              clear htz hg hms hge hcv hne hg2
              go_wp2_with fail
              go_roundw
              case rel => exact ⟨j + 1, by omega, by go_num, HTN, HON, HXN⟩
              case measure => simp [intOf]; omega
            · obtain rfl : j = m := by omega
              have hji : ¬ (j : Int) < (j : Int) := by omega
              go_wp2_with fail
              go_roundw
              case rel => exact ⟨k + 1, by omega, by go_num, HXZ⟩
              case measure => simp [intOf]; omega
        · obtain rfl : k = nL := by omega
          have hki : ¬ (k : Int) < (k : Int) := by omega
          have HX6 : Hid (Below w6.heap.size w6 wr) := Lib.hid (HB67.out.trans (HX.out.mono HB67.out.size))
          have HUR := Lib.hid (HU7.out.below HX.out)
          have HRR := Lib.hid ((HR6.out.up HB6.out.size).below HX6.out)
          have HXW : Hid (Below w.heap.size w wr) := Lib.hid (HB6.out.trans (HX6.out.mono HB6.out.size))
          have hqr := blk_below HQ6.out HX6.out
          clear s0 s1 s2 s3 hq12
          have s0 := cell_of hqr (j := 0) rfl
          have s1 := cell_of hqr (j := 1) rfl
          have s2 := cell_of hqr (j := 2) rfl
          have s3 := cell_of hqr (j := 3) rfl
          have hln2 : l2.length = n2 := HSC2.out.rd.len
          have hws : w.heap.size ≤ w6.heap.size := HB6.out.size
          have hwr : w6.heap.size ≤ wr.heap.size := HX6.out.size
          have hply := plays_any (S := S) (c := c2) HUR.out HGD.out.1 hwr HRR.out hln2 (fun W hW => by
            have hWW : Below w.heap.size w W := HXW.out.trans ((hW.below hwr).mono hws)
            exact ⟨HSC2.out.below hWW, fun o ho => ((Tg.old (HSC2.out.ok o ho).rd (fun c => ⟨_, rfl⟩) (Nat.le_refl w.heap.size)).up hws).below hWW⟩) HPP2.out (by
            have h9 := HFP2.out.2
            have h8 := HGD.out.2
            omega)
          have HGD2 : Hid (Zs.Gd (Zs.run S (l2.map clO)) ∧ (Zs.run S (l2.map clO)).D.length ≤ 100000) := Lib.hid ⟨Zs.run_gd HGD.out.1 _, by
            have h1 := Zs.run_D S (l2.map clO)
            have h2 : (l2.map clO).length = l2.length := List.length_map _
            have h9 := HFP2.out.2
            have h8 := HGD.out.2
            omega⟩
          obtain ⟨S2, hS2⟩ : ∃ s, Zs.run S (l2.map clO) = s := ⟨_, rfl⟩
          rw [hS2] at hply HGD2
          have HPLY2 := Lib.hid hply
          have HWR := Lib.hid hwr
          have HWS := Lib.hid hws
          clear hply hS2 hln2 hws hwr hqr
          go_wp2_with fail
          refine HPLY2.out.mono ?_
          rintro e w15 ⟨v1, v2, v3, rfl, hst15, hr15, hk15⟩
          obtain ⟨⟨B1, d1, rfl, -, -⟩, ⟨B2, d2, rfl, -⟩, ⟨B3, d3, m3, rfl, -, -⟩⟩ := id hr15
          obtain ⟨mT, hmT⟩ : ∃ n, S2.T.length = n := ⟨_, rfl⟩
          obtain ⟨mL, hmL⟩ : ∃ n, S2.L.length = n := ⟨_, rfl⟩
          obtain ⟨mD, hmD⟩ : ∃ n, m3.length = n := ⟨_, rfl⟩
          rw [hmT, hmL, hmD] at hr15 ⊢
          obtain ⟨w16, hw16⟩ : ∃ xx, xx = w15.alloc (.cells #[.int .i64 S2.z, .slice B1 mT d1, .slice B2 mL d2, .slice B3 mD d3] 31) := ⟨_, rfl⟩
          obtain ⟨p, ep⟩ : ∃ xx, xx = w15.heap.size := ⟨_, rfl⟩
          have hbw16 : Below w15.heap.size w15 w16 := by rw [hw16]; exact box_below w15 _
          have hkp : w16.heap[p]? = some (.cells #[.int .i64 S2.z, .slice B1 mT d1, .slice B2 mL d2, .slice B3 mD d3] 31 (0, 0)) := by rw [hw16, ep]; exact new_block w15 _
          have HB616 : Hid (Below w6.heap.size w6 w16) := Lib.hid ((HX6.out.trans (hk15.below HWR.out)).trans (hbw16.mono (Nat.le_trans HWR.out hk15.size)))
          have HU16 := Lib.hid (hst15.below hbw16)
          have HR16 := Lib.hid (hr15.below hbw16)
          have HP16 := Lib.hid hkp
          have HW16 := Lib.hid hw16
          have EP := Lib.hid ep
          clear hst15 hr15 hk15 hw16 ep hbw16 hkp hmT hmL hmD s0 s1 s2 s3
          go_upto_region 21 with fail
          rw [← HW16.out, ← EP.out]
          go_wp2_with fail
          refine (HAL.out w16).mono ?_
          rintro e w17 ⟨rfl, hb17⟩
          have hp17 := blk_below HP16.out hb17
          have HSD := Lib.hid (stands_any (HU16.out.below hb17) HGD2.out.1 HGD2.out.2 (HR16.out.below hb17))
          have HB617 : Hid (Below w6.heap.size w6 w17) := Lib.hid (HB616.out.trans (hb17.mono HB616.out.size))
          have s0 := cell_of hp17 (j := 0) rfl
          have s1 := cell_of hp17 (j := 1) rfl
          have s2 := cell_of hp17 (j := 2) rfl
          have s3 := cell_of hp17 (j := 3) rfl
          clear hb17 hp17
          go_wp2_with fail
          refine HSD.out.mono ?_
          rintro e w18 ⟨rfl, hb18⟩
          have HB618 : Hid (Below w6.heap.size w6 w18) := Lib.hid (HB617.out.trans (hb18.mono HB617.out.size))
          clear hb18 s0 s1 s2 s3
          have hq18 := blk_below HQ6.out HB618.out
          have HSD2 := Lib.hid (stands_any (HST6.out.below HB618.out) HGD.out.1 (Nat.le_trans HGD.out.2 (by omega)) (HR6.out.below HB618.out))
          have s0 := cell_of hq18 (j := 0) rfl
          have s1 := cell_of hq18 (j := 1) rfl
          have s2 := cell_of hq18 (j := 2) rfl
          have s3 := cell_of hq18 (j := 3) rfl
          clear hq18
          go_wp2_with fail
          refine HSD2.out.mono ?_
          rintro e w19 ⟨rfl, hb19⟩
          have HB19 : Hid (Below w.heap.size w w19) := Lib.hid (HB6.out.trans ((HB618.out.trans (hb19.mono HB618.out.size)).mono HB6.out.size))
          clear hb19
          go_wp2_with fail
          go_ret
          exact ⟨rfl, HB19.out⟩
end Go.Proofs.YtflgemlhocjipaaGreatDoor
