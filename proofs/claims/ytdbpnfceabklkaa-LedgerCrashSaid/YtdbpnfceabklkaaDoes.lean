/-
  What the law's does leaves: the ledger behind a call. Conditions: not too many writes wait; no more than 100000 records are given, none longer than an int tells.
-/
import Derived.Test.YtdbpnfceabklkaaRDo2
namespace Go.Proofs.Ytdbpnfceabklkaa
set_option maxRecDepth 100000
open Go.ChangeShapes Go.WideShapes Go.ChangeAt Go.RowKit

/-- What a Sync or a Replace that is done makes. -/
def putL (G : Lg) (D : Dk) (half there : Nat) (b : List Int) : Lg × Dk × Int :=
  (if (runW D (setW G.fr G.sz G.m half there b)).2 = 0 then { G with m := nextMk G.m half b.length, bs := b } else G, (runW D (setW G.fr G.sz G.m half there b)).1, (runW D (setW G.fr G.sz G.m half there b)).2)
/-- What a call makes. -/
def stepL (G : Lg) (D : Dk) (k : Int) (s : List Int) (all : List (List Int)) : Lg × Dk × Int :=
  if k = 0 then (if amissL D.dead G.bs.length [s] G.sz = 0 then { G with bs := G.bs ++ le4 s.length ++ s } else G, D, amissL D.dead G.bs.length [s] G.sz)
  else if k = 1 then putL G D G.m.half G.m.used G.bs
  else if k = 2 then (if amissL D.dead 0 all G.sz = 0 then putL G D (1 - G.m.half) 0 (enc all) else (G, D, amissL D.dead 0 all G.sz))
  else (G, D, 0)
def DsPost (B q p : Nat) (w : World) (r : Lg × Dk × Int) (e : Ending) (w' : World) : Prop :=
  ∃ bv', e = .returned (.int .i64 r.2.2) ∧ PL w' B q p r.1 bv' r.2.1 ∧ Kl B w w'
theorem se_ds {B q p half there : Nat} {G : Lg} {bv bb : Value} {D : Dk} {b : List Int} {w : World} {e : Ending} {w' : World} (h : SePost ⟨B, q, p, G, bv, half, there, bb, b, D⟩ w e w') : DsPost B q p w (putL G D half there b) e w' := by
  obtain ⟨h1, h2, h3⟩ := h
  unfold putL
  rcases h3 with ⟨h0, h3⟩ | ⟨h0, h3⟩
  · have h0' : (runW D (setW G.fr G.sz G.m half there b)).2 = 0 := h0
    refine ⟨bb, h1, ?_, h2⟩
    show PL w' B q p (if (runW D (setW G.fr G.sz G.m half there b)).2 = 0 then _ else G) bb _
    rw [if_pos h0']
    exact h3
  · have h0' : ¬ (runW D (setW G.fr G.sz G.m half there b)).2 = 0 := h0
    refine ⟨bv, h1, ?_, h2⟩
    show PL w' B q p (if (runW D (setW G.fr G.sz G.m half there b)).2 = 0 then _ else G) bv _
    rw [if_neg h0']
    exact h3
set_option maxHeartbeats 1000000 in
theorem does_any (B q p : Nat) (G : Lg) (bv : Value) (D : Dk) (k : Int) (S : ByteArray) (A : Option Addr) (n c : Nat) (all : List (List Int)) (w : World) (h : PL w B q p G bv D) (hs : S.size ≤ 9223372036854775807) (h3 : STr B w A n all) (hn : n ≤ 100000) (hz : ∀ s ∈ all, s.length ≤ 9223372036854775807) (hwt : D.wait.length ≤ 30000) :
    Calls Try.prog 14 #[.pointer (some ⟨q, 0, none⟩), .agg #[.int .i64 k, .string S, .slice A n c]] w (DsPost B q p w (stepL G D k (sb S) all)) := by
  have hB := h.size
  obtain ⟨w1, hw1⟩ : ∃ w1, w1 = w.alloc (.cells #[.int .i64 k, .string S, .slice A n c] 33) := ⟨_, rfl⟩
  have hb1 : Below w.heap.size w w1 := by rw [hw1]; exact box_below w _
  have hbx : w1.heap[w.heap.size]? = some (.cells #[.int .i64 k, .string S, .slice A n c] 33 (0, 0)) := by rw [hw1]; exact new_block w _
  have HW1 := Lib.hid hw1
  have HBX := Lib.hid hbx
  have HPL := Lib.hid (h.kept hb1)
  have HST := Lib.hid (h3.kept hb1 hB)
  have HKL := Lib.hid (Kl.of_below hb1 hB)
  have HZ := Lib.hid hz
  have hds : ∀ (r : Lg × Dk × Int) e w', DsPost B q p w1 r e w' → DsPost B q p w r e w' := fun r e w' ⟨bv', h1, h2, h3⟩ => ⟨bv', h1, h2, HKL.out.trans h3⟩
  have HDS := Lib.hid hds
  clear h h3 hb1 hbx hw1 hz hds
  by_cases k0 : k = 0
  · subst k0
    have HA := Lib.hid (append_led B q p G bv D S w1 HPL.out hs)
    have HE : Hid (stepL G D 0 (sb S) all = (if amissL D.dead G.bs.length [sb S] G.sz = 0 then { G with bs := G.bs ++ le4 (sb S).length ++ sb S } else G, D, amissL D.dead G.bs.length [sb S] G.sz)) := Lib.hid (by unfold stepL; rw [if_pos rfl])
    go_enter Try.func14, Try.ntmps14
    go_upto_region 1 with fail
    rw [← HW1.out]
    have o0 := cell_of HBX.out (j := 0) rfl
    have o1 := cell_of HBX.out (j := 1) rfl
    go_wp2_with fail
    refine HA.out.mono ?_
    rintro e w2 ⟨he, hkl, hpl⟩
    obtain ⟨a, ha⟩ : ∃ a, a = amissL D.dead G.bs.length [sb S] G.sz := ⟨_, rfl⟩
    rw [← ha] at he hpl HE
    subst he
    have HP : Hid (DsPost B q p w (stepL G D 0 (sb S) all) (.returned (.int .i64 a)) w2) := Lib.hid (by
      rw [HE.out]
      rcases hpl with ⟨h0, hpl⟩ | ⟨h0, bv', hpl⟩
      · exact ⟨bv, rfl, by show PL w2 B q p (if a = 0 then _ else G) bv D; rw [if_neg h0]; exact hpl, HKL.out.trans hkl⟩
      · exact ⟨bv', rfl, by show PL w2 B q p (if a = 0 then _ else G) bv' D; rw [if_pos h0]; exact hpl, HKL.out.trans hkl⟩)
    clear hkl hpl ha o0 o1
    go_wp2_with fail
    go_ret
    exact HP.out
  · by_cases k1 : k = 1
    · subst k1
      have HA := Lib.hid (sync_led B q p G bv D w1 HPL.out hwt)
      have HE : Hid (stepL G D 1 (sb S) all = putL G D G.m.half G.m.used G.bs) := Lib.hid (by unfold stepL; rw [if_neg (by decide), if_pos rfl])
      go_enter Try.func14, Try.ntmps14
      go_upto_region 1 with fail
      rw [← HW1.out]
      have o0 := cell_of HBX.out (j := 0) rfl
      have o1 := cell_of HBX.out (j := 1) rfl
      go_wp2_with fail
      refine HA.out.mono ?_
      intro e w2 hse
      have hp := HDS.out _ _ _ (se_ds hse)
      have he := hse.ret
      obtain ⟨r, hr⟩ : ∃ r, r = (runW D (sgS B q p G bv D).ws).2 := ⟨_, rfl⟩
      have he' : e = .returned (.int .i64 r) := by rw [hr]; exact he
      subst he'
      have HP : Hid (DsPost B q p w (stepL G D 1 (sb S) all) (.returned (.int .i64 r)) w2) := Lib.hid (by rw [HE.out]; exact hp)
      clear hse hp he hr o0 o1
      go_wp2_with fail
      go_ret
      exact HP.out
    · by_cases k2 : k = 2
      · subst k2
        have HA := Lib.hid (replace_any B q p G bv D A n c all w1 HPL.out HST.out.1 hn HZ.out hwt)
        have HE : Hid (stepL G D 2 (sb S) all = if amissL D.dead 0 all G.sz = 0 then putL G D (1 - G.m.half) 0 (enc all) else (G, D, amissL D.dead 0 all G.sz)) := Lib.hid (by unfold stepL; rw [if_neg (by decide), if_neg (by decide), if_pos rfl])
        go_enter Try.func14, Try.ntmps14
        go_upto_region 1 with fail
        rw [← HW1.out]
        have o0 := cell_of HBX.out (j := 0) rfl
        have o2 := cell_of HBX.out (j := 2) rfl
        go_wp2_with fail
        refine HA.out.mono ?_
        intro e w2 hrp
        have hx : ∃ r, e = .returned (.int .i64 r) ∧ DsPost B q p w (stepL G D 2 (sb S) all) e w2 := by
          rw [HE.out]
          rcases hrp with ⟨h0, he, hw⟩ | ⟨h0, bb, hse⟩
          · subst hw
            rw [if_neg h0]
            exact ⟨_, he, HDS.out _ _ _ ⟨bv, he, HPL.out, Kl.refl _ _⟩⟩
          · rw [if_pos h0]
            exact ⟨_, hse.ret, HDS.out _ _ _ (se_ds hse)⟩
        obtain ⟨r, rfl, hp⟩ := hx
        have HP := Lib.hid hp
        clear hrp hp o0 o2
        go_wp2_with fail
        go_ret
        exact HP.out
      · have HE : Hid (stepL G D k (sb S) all = (G, D, 0)) := Lib.hid (by unfold stepL; rw [if_neg k0, if_neg k1, if_neg k2])
        have b0 : (k == 0) = false := by simpa using k0
        have b1 : (k == 1) = false := by simpa using k1
        have b2 : (k == 2) = false := by simpa using k2
        go_enter Try.func14, Try.ntmps14
        go_upto_region 1 with fail
        rw [← HW1.out]
        have o0 := cell_of HBX.out (j := 0) rfl
        go_wp2_with fail
        go_ret
        rw [HE.out]
        exact ⟨bv, rfl, HPL.out, HKL.out⟩
end Go.Proofs.Ytdbpnfceabklkaa
