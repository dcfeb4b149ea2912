/-
  LedgerAll: the law returns true of every number of sectors and every script. No condition.
-/
import Derived.Test.YtdbpnfceabklkaaBox
import Derived.Deep.RegionHeld3
namespace Go.Proofs.Ytdbpnfceabklkaa
set_option maxRecDepth 100000
open Go.ChangeShapes Go.WideShapes Go.ChangeAt Go.RowKit

theorem run_most {w wr : World} {q p sz n : Nat} {G : Lg} {bv : Value} {D : Dk} {now firm : List (List Int)} (h : Run w q p sz n G bv D now firm wr) : G.bs.length = need now ∧ need now ≤ sz * 64 ∧ now.length ≤ sz * 64 := by
  have h2 := h.al.inv.room
  have h1 := need_len now
  rw [enc_length, h.size] at h2
  exact ⟨by rw [h.al.inv.bs, enc_length], h2, by omega⟩
/-- What a round's comparison reads. -/
def AS (w : World) (q p sz nn : Nat) (G : Lg) (bv : Value) (D : Dk) (now firm : List (List Int)) (bo : Nat) (o : Ov) (sb0 : Nat) (A6 : Option Addr) (n6 c6 : Nat) (v7 : Value) (A7 : Option Addr) (n7 : Nat) (w' : World) : Prop :=
  Run w q p sz nn G bv D now firm w' ∧ w'.heap[bo]? = some (.cells #[.int .i64 o.k, .string o.S, .slice o.A o.len o.cap] 33 (0, 0)) ∧ w'.heap[sb0]? = some (.cells #[.slice A6 n6 c6, v7] 31 (0, 0)) ∧ STr w.heap.size w' A6 n6 now ∧ STr w.heap.size w' A7 n7 firm
theorem as_below {w : World} {q p sz nn : Nat} {G : Lg} {bv : Value} {D : Dk} {now firm : List (List Int)} {bo : Nat} {o : Ov} {sb0 : Nat} {A6 : Option Addr} {n6 c6 : Nat} {v7 : Value} {A7 : Option Addr} {n7 : Nat} {w' w'' : World} (h : AS w q p sz nn G bv D now firm bo o sb0 A6 n6 c6 v7 A7 n7 w') (hb : Below w'.heap.size w' w'') : AS w q p sz nn G bv D now firm bo o sb0 A6 n6 c6 v7 A7 n7 w'' :=
  ⟨h.1.below hb, (hb.block _ (Array.getElem?_eq_some_iff.1 h.2.1).1).trans h.2.1, (hb.block _ (Array.getElem?_eq_some_iff.1 h.2.2.1).1).trans h.2.2.1, h.2.2.2.1.kept hb h.1.kl.below.size, h.2.2.2.2.kept hb h.1.kl.below.size⟩
/-- The same, with the cells that are loaded. -/
def AC (bo : Nat) (o : Ov) (sb0 : Nat) (A6 : Option Addr) (n6 c6 : Nat) (R : World → Prop) (w' : World) : Prop :=
  w'.cell? ⟨bo, 0, none⟩ = some (.int .i64 o.k) ∧ w'.cell? ⟨bo, 1, none⟩ = some (.string o.S) ∧ w'.cell? ⟨bo, 2, none⟩ = some (.slice o.A o.len o.cap) ∧ w'.cell? ⟨sb0, 0, none⟩ = some (.slice A6 n6 c6) ∧ R w'
theorem as_ac {w : World} {q p sz nn : Nat} {G : Lg} {bv : Value} {D : Dk} {now firm : List (List Int)} {bo : Nat} {o : Ov} {sb0 : Nat} {A6 : Option Addr} {n6 c6 : Nat} {v7 : Value} {A7 : Option Addr} {n7 : Nat} {w' : World} (h : AS w q p sz nn G bv D now firm bo o sb0 A6 n6 c6 v7 A7 n7 w') : AC bo o sb0 A6 n6 c6 (AS w q p sz nn G bv D now firm bo o sb0 A6 n6 c6 v7 A7 n7) w' :=
  ⟨cell_of h.2.1 (j := 0) rfl, cell_of h.2.1 (j := 1) rfl, cell_of h.2.1 (j := 2) rfl, cell_of h.2.2.1 (j := 0) rfl, h⟩
theorem as_fair {w : World} {q p sz nn : Nat} {G : Lg} {bv : Value} {D : Dk} {now firm : List (List Int)} {bo : Nat} {o : Ov} {sb0 : Nat} {A6 : Option Addr} {n6 c6 : Nat} {v7 : Value} {A7 : Option Addr} {n7 : Nat} {w' : World} {many : Nat} {r e : Int} (h : AS w q p sz nn G bv D now firm bo o sb0 A6 n6 c6 v7 A7 n7 w') (ho : OvOk w o) (hl : o.len ≤ 60) (hm : many ≤ 400) (hF : FairOk o.k o.S.size o.all many r e) :
    Calls Try.prog 16 #[.agg #[.int .i64 o.k, .string o.S, .slice o.A o.len o.cap], .int .i64 (many : Int), .int .i64 r, .int .i64 e] w' fun e' w'' => e' = .returned (.bool true) ∧ AS w q p sz nn G bv D now firm bo o sb0 A6 n6 c6 v7 A7 n7 w'' :=
  (fair_any o.k o.S o.A o.len o.cap o.all many r e w' (ov_str ho h.1.kl).1 (by omega) ho.long ho.size (by omega) hF).mono fun _ _ ⟨h1, h2⟩ => ⟨h1, as_below h h2⟩
theorem as_all {w : World} {q p sz nn : Nat} {G : Lg} {bv : Value} {D : Dk} {now firm : List (List Int)} {bo : Nat} {o : Ov} {sb0 : Nat} {A6 : Option Addr} {n6 c6 : Nat} {v7 : Value} {A7 : Option Addr} {n7 : Nat} {w' : World} (h : AS w q p sz nn G bv D now firm bo o sb0 A6 n6 c6 v7 A7 n7 w') :
    Calls Try.prog 18 #[.pointer (some ⟨q, 0, none⟩)] w' fun e' w'' => ∃ A c, e' = .returned (.slice A now.length c) ∧ SReads w'' A now.length now ∧ AS w q p sz nn G bv D now firm bo o sb0 A6 n6 c6 v7 A7 n7 w'' :=
  (all_any w.heap.size q p G bv D now w' h.1.pl h.1.al.inv.bs h.1.al.inv.rn).mono fun _ _ ⟨v, h1, h2, h3⟩ => by
    obtain ⟨A, c, rfl, hs, -, -⟩ := own_sreads h2 (fun s hs => (h.1.al.inv.rn s hs).2)
    exact ⟨A, c, h1, hs, as_below h h3⟩
theorem as_same {w : World} {q p sz nn : Nat} {G : Lg} {bv : Value} {D : Dk} {now firm : List (List Int)} {bo : Nat} {o : Ov} {sb0 : Nat} {A6 : Option Addr} {n6 c6 : Nat} {v7 : Value} {A7 : Option Addr} {n7 : Nat} {w' : World} {A : Option Addr} {m c : Nat} (h : AS w q p sz nn G bv D now firm bo o sb0 A6 n6 c6 v7 A7 n7 w') (hs : SReads w' A m now) (hm : m ≤ 100000) :
    Calls Try.prog 17 #[.slice A m c, .slice A6 n6 c6] w' fun e' w'' => e' = .returned (.bool true) ∧ AS w q p sz nn G bv D now firm bo o sb0 A6 n6 c6 v7 A7 n7 w'' :=
  (same_true A A6 m n6 c c6 now w' hs h.2.2.2.1.1 (by omega)).mono fun _ _ ⟨h1, k, h2⟩ => ⟨h1, by rw [h2]; exact as_below h (below_drewN (Below.refl _ _) _)⟩
theorem as_len {w : World} {q p sz nn : Nat} {G : Lg} {bv : Value} {D : Dk} {now firm : List (List Int)} {bo : Nat} {o : Ov} {sb0 : Nat} {A6 : Option Addr} {n6 c6 : Nat} {v7 : Value} {A7 : Option Addr} {n7 : Nat} {w' : World} (h : AS w q p sz nn G bv D now firm bo o sb0 A6 n6 c6 v7 A7 n7 w') :
    Calls Try.prog 19 #[.pointer (some ⟨q, 0, none⟩)] w' fun e' w'' => e' = .returned (.int .i64 (n6 : Int)) ∧ AS w q p sz nn G bv D now firm bo o sb0 A6 n6 c6 v7 A7 n7 w'' :=
  (len_any w.heap.size q p G bv D now w' h.1.pl h.1.al.inv.bs h.1.al.inv.rn).mono fun _ _ ⟨h1, h2⟩ => ⟨by rw [← h.2.2.2.1.1.1]; exact h1, as_below h h2⟩
/-- What the law's last comparison reads. -/
def AT (w : World) (q p : Nat) (G : Lg) (bv : Value) (D : Dk) (now : List (List Int)) (sb0 : Nat) (A6 : Option Addr) (n6 c6 : Nat) (v7 : Value) (w' : World) : Prop :=
  PL w' w.heap.size q p G bv D ∧ w'.heap[sb0]? = some (.cells #[.slice A6 n6 c6, v7] 31 (0, 0)) ∧ STr w.heap.size w' A6 n6 now ∧ Below w.heap.size w w'
theorem at_below {w : World} {q p : Nat} {G : Lg} {bv : Value} {D : Dk} {now : List (List Int)} {sb0 : Nat} {A6 : Option Addr} {n6 c6 : Nat} {v7 : Value} {w' w'' : World} (h : AT w q p G bv D now sb0 A6 n6 c6 v7 w') (hb : Below w'.heap.size w' w'') : AT w q p G bv D now sb0 A6 n6 c6 v7 w'' :=
  ⟨h.1.kept hb, (hb.block _ (Array.getElem?_eq_some_iff.1 h.2.1).1).trans h.2.1, h.2.2.1.kept hb h.2.2.2.size, h.2.2.2.trans (hb.mono h.2.2.2.size)⟩
theorem at_cell {w : World} {q p : Nat} {G : Lg} {bv : Value} {D : Dk} {now : List (List Int)} {sb0 : Nat} {A6 : Option Addr} {n6 c6 : Nat} {v7 : Value} {w' : World} (h : AT w q p G bv D now sb0 A6 n6 c6 v7 w') : w'.cell? ⟨sb0, 0, none⟩ = some (.slice A6 n6 c6) ∧ AT w q p G bv D now sb0 A6 n6 c6 v7 w' :=
  ⟨cell_of h.2.1 (j := 0) rfl, h⟩
theorem at_alive {w : World} {q p : Nat} {G : Lg} {bv : Value} {D : Dk} {now : List (List Int)} {sb0 : Nat} {A6 : Option Addr} {n6 c6 : Nat} {v7 : Value} {w' : World} (h : AT w q p G bv D now sb0 A6 n6 c6 v7 w') :
    Calls Try.prog 11 #[] w' fun e w'' => e = .returned (.bool true) ∧ AT w q p G bv D now sb0 A6 n6 c6 v7 w'' :=
  (alive_any w').mono fun _ _ ⟨h1, h2⟩ => ⟨h1, at_below h h2⟩
theorem at_all {w : World} {q p : Nat} {G : Lg} {bv : Value} {D : Dk} {now : List (List Int)} {sb0 : Nat} {A6 : Option Addr} {n6 c6 : Nat} {v7 : Value} {w' : World} (h : AT w q p G bv D now sb0 A6 n6 c6 v7 w') (he : G.bs = enc now) (hk : Rok now) :
    Calls Try.prog 18 #[.pointer (some ⟨q, 0, none⟩)] w' fun e' w'' => ∃ A c, e' = .returned (.slice A now.length c) ∧ SReads w'' A now.length now ∧ AT w q p G bv D now sb0 A6 n6 c6 v7 w'' :=
  (all_any w.heap.size q p G bv D now w' h.1 he hk).mono fun _ _ ⟨v, h1, h2, h3⟩ => by
    obtain ⟨A, c, rfl, hs, -, -⟩ := own_sreads h2 (fun s hs => (hk s hs).2)
    exact ⟨A, c, h1, hs, at_below h h3⟩
theorem at_same {w : World} {q p : Nat} {G : Lg} {bv : Value} {D : Dk} {now : List (List Int)} {sb0 : Nat} {A6 : Option Addr} {n6 c6 : Nat} {v7 : Value} {w' : World} {A : Option Addr} {m c : Nat} (h : AT w q p G bv D now sb0 A6 n6 c6 v7 w') (hs : SReads w' A m now) (hm : m ≤ 100000) :
    Calls Try.prog 17 #[.slice A m c, .slice A6 n6 c6] w' fun e' w'' => e' = .returned (.bool true) ∧ AT w q p G bv D now sb0 A6 n6 c6 v7 w'' :=
  (same_true A A6 m n6 c c6 now w' hs h.2.2.1.1 (by omega)).mono fun _ _ ⟨h1, k, h2⟩ => ⟨h1, by rw [h2]; exact at_below h (below_drewN (Below.refl _ _) _)⟩
set_option maxHeartbeats 8000000 in
theorem law_all (x : Int) (A : Option Addr) (n c : Nat) (l : List Ov) (w : World) (hR : OReads w A n l) :
    Calls Try.prog 3 #[.int .i64 x, .slice A n c] w fun e w' => e = .returned (.bool true) ∧ Below w.heap.size w w' := by
  have HF := Lib.hid (few_any A n c l w hR)
  have HR := Lib.hid hR
  obtain ⟨f, hf⟩ : ∃ f, f = fewL l := ⟨_, rfl⟩
  rw [← hf] at HF
  have HFW := Lib.hid hf
  clear hR hf
  by_cases hx1 : x < 4
  · go_enter Try.func3, Try.ntmps3
    go_wp2_with fail
    refine (alive_any w).mono ?_
    rintro e w2 ⟨rfl, hb2⟩
    have HB2 := Lib.hid hb2
    clear hb2
    go_wp2_with fail
    go_ret
    exact ⟨rfl, HB2.out⟩
  by_cases hx2 : 400 < x
  · go_enter Try.func3, Try.ntmps3
    go_wp2_with fail
    refine (alive_any w).mono ?_
    rintro e w2 ⟨rfl, hb2⟩
    have HB2 := Lib.hid hb2
    clear hb2
    go_wp2_with fail
    go_ret
    exact ⟨rfl, HB2.out⟩
  cases f with
  | false =>
    go_enter Try.func3, Try.ntmps3
    go_wp2_with fail
    refine HF.out.mono ?_
    rintro e w1 ⟨rfl, hb1⟩
    have HB1 := Lib.hid hb1
    clear hb1
    go_wp2_with fail
    refine (alive_any w1).mono ?_
    rintro e w2 ⟨rfl, hb2⟩
    have HB2 := Lib.hid (HB1.out.trans (hb2.mono HB1.out.size))
    clear hb2
    go_wp2_with fail
    go_ret
    exact ⟨rfl, HB2.out⟩
  | true =>
    obtain ⟨many, rfl⟩ : ∃ m : Nat, x = (m : Int) := ⟨x.toNat, by omega⟩
    have hfew := few_ok HFW.out.symm
    rw [HR.out.len] at hfew
    have HFEW := Lib.hid hfew
    have hn120 : n ≤ 120 := hfew.1
    have h4 : 4 ≤ many := by omega
    have h400 : many ≤ 400 := by omega
    obtain ⟨sz, hsz⟩ : ∃ s, s = (many - 2) / 2 := ⟨_, rfl⟩
    have HSZ := Lib.hid hsz
    have hs1 : sz ≤ 200 := by omega
    have HON : Hid (∀ w1, Calls Try.prog 12 #[.int .i64 (many : Int)] w1 (OnPost w1 many)) := Lib.hid (fun w1 => opened_any many w1 h4 (by omega))
    clear hfew hsz
    go_enter Try.func3, Try.ntmps3
    go_wp2_with fail
    refine HF.out.mono ?_
    rintro e w1 ⟨rfl, hb1⟩
    have HB1 := Lib.hid hb1
    clear hb1
    go_wp2_with fail
    refine (HON.out w1).mono ?_
    rintro e w2 ⟨p, q, bv, rfl, hpl, hb2⟩
    have HRUN : Hid (Run w q p sz (many + 4) ⟨2, sz, mk0, []⟩ bv (newD (many + 4)) [] [] w2) := Lib.hid (by rw [HSZ.out]; exact run_open (by omega) h4 HB1.out hpl hb2)
    obtain ⟨sb0, hsb⟩ : ∃ s, s = w2.heap.size := ⟨_, rfl⟩
    obtain ⟨w3, hw3⟩ : ∃ w3, w3 = w2.alloc (.cells #[.slice none 0 0, .slice none 0 0] 31) := ⟨_, rfl⟩
    have HR3 : Hid (Run w q p sz (many + 4) ⟨2, sz, mk0, []⟩ bv (newD (many + 4)) [] [] w3) := Lib.hid (HRUN.out.below (by rw [hw3]; exact box_below w2 _))
    have HX3 : Hid (w3.heap[sb0]? = some (.cells #[.slice none 0 0, .slice none 0 0] 31 (0, 0))) := Lib.hid (by rw [hw3, hsb]; exact new_block w2 _)
    have HSB : Hid (w.heap.size ≤ sb0) := Lib.hid (by rw [hsb]; exact HRUN.out.kl.below.size)
    have HSBE := Lib.hid hsb
    have HW3 := Lib.hid hw3
    clear hpl hb2 hsb hw3
    go_upto_region 7 with fail
    rw [← HW3.out, ← HSBE.out]
    go_wp2_with fail
    go_loopw [35] (fun vk wr => ∃ (k : Nat) (G : Lg) (bv : Value) (D : Dk) (now firm : List (List Int)) (A1 A2 : Option Addr) (n1 c1 n2 c2 : Nat), k ≤ n ∧ vk = .int .i64 k ∧ Run w q p sz (many + 4) G bv D now firm wr ∧ wr.heap[sb0]? = some (.cells #[.slice A1 n1 c1, .slice A2 n2 c2] 31 (0, 0)) ∧ STr w.heap.size wr A1 n1 now ∧ STr w.heap.size wr A2 n2 firm) (fun vk _ => n - (intOf vk).toNat)
    case atStart => exact ⟨0, _, bv, _, [], [], none, none, 0, 0, 0, 0, Nat.zero_le _, rfl, HR3.out, HX3.out, STr.none _ _, STr.none _ _⟩
    case round =>
      obtain ⟨k, G, bv, D, now, firm, A1, A2, n1, c1, n2, c2, hk, rfl, hrun, hxr, hs1, hs2⟩ := hrel
      have HRU := Lib.hid hrun
      have HXR := Lib.hid hxr
      have HS1 := Lib.hid hs1
      have HS2 := Lib.hid hs2
      clear hrun hxr hs1 hs2
      by_cases hlt : k < n
      · obtain ⟨b, off, o, rfl, hmem, -, hok, h0, h1, h2⟩ := ov_round HR.out hlt HRU.out.kl.below
        have hol : o.len ≤ 60 := HFEW.out.2 o hmem
        obtain ⟨bo, hbo'⟩ : ∃ bo, bo = wr.heap.size := ⟨_, rfl⟩
        obtain ⟨wo, hwo⟩ : ∃ wo, wo = wr.alloc (.cells #[.int .i64 o.k, .string o.S, .slice o.A o.len o.cap] 33) := ⟨_, rfl⟩
        have hbo : Below wr.heap.size wr wo := by rw [hwo]; exact box_below wr _
        have HRO := Lib.hid (HRU.out.below hbo)
        have hbo2 : wo.heap[bo]? = some (.cells #[.int .i64 o.k, .string o.S, .slice o.A o.len o.cap] 33 (0, 0)) := by rw [hwo, hbo']; exact new_block wr _
        have HBO2 := Lib.hid hbo2
        have HXO : Hid (wo.heap[sb0]? = some (.cells #[.slice A1 n1 c1, .slice A2 n2 c2] 31 (0, 0))) := Lib.hid ((hbo.block _ (Array.getElem?_eq_some_iff.1 HXR.out).1).trans HXR.out)
        have HS1O := Lib.hid (HS1.out.kept hbo HRU.out.kl.below.size)
        have HS2O := Lib.hid (HS2.out.kept hbo HRU.out.kl.below.size)
        have HWO := Lib.hid hwo
        have HBE := Lib.hid hbo'
        have HOK := Lib.hid hok
        obtain ⟨hg1, hg2, hg3⟩ := run_most HRU.out
        obtain ⟨r, hr⟩ : ∃ r, r = roomL sz (need now) := ⟨_, rfl⟩
        have HRM : Hid (Calls Try.prog 13 #[.pointer (some ⟨q, 0, none⟩)] wo fun e w' => e = .returned (.int .i64 r) ∧ ∃ n, w' = wo.drewN n) := Lib.hid (by
          have h := room_any w.heap.size q p G bv D wo HRO.out.pl
          rw [HRU.out.size, hg1, ← hr] at h
          exact h)
        have HRR := Lib.hid hr
        have HG1 := Lib.hid hg1
        have HG2 := Lib.hid hg2
        have HG3 := Lib.hid hg3
        have hk0 : (0 : Int) ≤ (k : Int) := by omega
        have hk1 : (k : Int) < (n : Int) := by omega
        clear hwo hbo hbo2 hok hmem hbo' hr hg1 hg2 hg3
        go_upto_region 10 with fail
        rw [← HWO.out, ← HBE.out]
        go_wp2_with fail
        refine HRM.out.mono ?_
        rintro e w4 ⟨rfl, n4, hw4⟩
        have hb4 : Below wo.heap.size wo w4 := by rw [hw4]; exact below_drewN (Below.refl _ _) _
        have HR4 := Lib.hid (HRO.out.below hb4)
        have HBO4 : Hid (w4.heap[bo]? = some (.cells #[.int .i64 o.k, .string o.S, .slice o.A o.len o.cap] 33 (0, 0))) := Lib.hid ((hb4.block _ (Array.getElem?_eq_some_iff.1 HBO2.out).1).trans HBO2.out)
        have HX4 : Hid (w4.heap[sb0]? = some (.cells #[.slice A1 n1 c1, .slice A2 n2 c2] 31 (0, 0))) := Lib.hid ((hb4.block _ (Array.getElem?_eq_some_iff.1 HXO.out).1).trans HXO.out)
        have HS14 := Lib.hid (HS1O.out.kept hb4 HRO.out.kl.below.size)
        have HS24 := Lib.hid (HS2O.out.kept hb4 HRO.out.kl.below.size)
        have HD := Lib.hid (run_does_at HR4.out HOK.out (by omega))
        have o0 := cell_of HBO4.out (j := 0) rfl
        have o1 := cell_of HBO4.out (j := 1) rfl
        have o2 := cell_of HBO4.out (j := 2) rfl
        clear hw4 hb4
        go_wp2_with fail
        refine HD.out.mono ?_
        rintro e w5 ⟨rfl, bv5, hr5, hk5⟩
        obtain ⟨e5, he5⟩ : ∃ e5, e5 = (stepL G D o.k (sb o.S) o.all).2.2 := ⟨_, rfl⟩
        obtain ⟨G5, hG5⟩ : ∃ G5, G5 = (stepL G D o.k (sb o.S) o.all).1 := ⟨_, rfl⟩
        obtain ⟨D5, hD5⟩ : ∃ D5, D5 = (stepL G D o.k (sb o.S) o.all).2.1 := ⟨_, rfl⟩
        have hst := (step_alive HRU.out.al o.k (sb o.S) o.all (sb_bys _) HOK.out.reads.2.2).2.2.2.2
        rw [HRU.out.size, HG1.out, ← he5] at hst
        have HFO := Lib.hid (fair_ok (all := o.all) (many := many) HSZ.out h4 HG2.out hst (sb_len o.S))
        rw [← HRR.out] at HFO
        rw [← he5, ← hG5, ← hD5] at hr5
        rw [← he5]
        have HR5 := Lib.hid hr5
        have HBO5 : Hid (w5.heap[bo]? = some (.cells #[.int .i64 o.k, .string o.S, .slice o.A o.len o.cap] 33 (0, 0))) := Lib.hid (hk5.tag _ _ _ _ HBO4.out (by decide))
        have HX5 : Hid (w5.heap[sb0]? = some (.cells #[.slice A1 n1 c1, .slice A2 n2 c2] 31 (0, 0))) := Lib.hid (hk5.tag _ _ _ _ HX4.out (by decide))
        have HS15 := Lib.hid (HS14.out.kl hk5)
        have HS25 := Lib.hid (HS24.out.kl hk5)
        have HRD := Lib.hid (rdo_any w.heap.size A1 A2 o.A n1 c1 n2 c2 o.len o.cap o.k e5 o.S now firm o.all w5 hr5.kl.below.size HS15.out HS25.out (ov_str HOK.out hr5.kl) (by rw [← HS1.out.1.1]; have := HG3.out; omega))
        have p0 := cell_of HBO5.out (j := 0) rfl
        have p1 := cell_of HBO5.out (j := 1) rfl
        have p2 := cell_of HBO5.out (j := 2) rfl
        have s0 := cell_of HX5.out (j := 0) rfl
        have s1 := cell_of HX5.out (j := 1) rfl
        clear hr5 hk5 o0 o1 o2 h0 h1 h2 he5 hG5 hD5 hst
        go_wp2_with fail
        refine HRD.out.mono ?_
        rintro e w6 ⟨A6, n6, c6, A7, n7, c7, rfl, hs6, hs7, hb6⟩
        obtain ⟨now6, hnow6⟩ : ∃ x, x = doNow o.k e5 (sb o.S) o.all now := ⟨_, rfl⟩
        obtain ⟨firm6, hfirm6⟩ : ∃ x, x = doFirm o.k e5 o.all now firm := ⟨_, rfl⟩
        rw [← hnow6] at hs6
        rw [← hfirm6] at hs7
        have HR6 : Hid (Run w q p sz (many + 4) G5 bv5 D5 now6 firm6 w6) := Lib.hid (by rw [hnow6, hfirm6]; exact HR5.out.below hb6)
        have HBO6 : Hid (w6.heap[bo]? = some (.cells #[.int .i64 o.k, .string o.S, .slice o.A o.len o.cap] 33 (0, 0))) := Lib.hid ((hb6.block _ (Array.getElem?_eq_some_iff.1 HBO5.out).1).trans HBO5.out)
        have hx6 : w6.heap[sb0]? = some (.cells #[.slice A1 n1 c1, .slice A2 n2 c2] 31 (0, 0)) := (hb6.block _ (Array.getElem?_eq_some_iff.1 HX5.out).1).trans HX5.out
        obtain ⟨w7, hw7⟩ : ∃ w7, w7 = (w6.setCell ⟨sb0, 0, none⟩ (.slice A6 n6 c6)).setCell ⟨sb0, 1, none⟩ (.slice A7 n7 c7) := ⟨_, rfl⟩
        obtain ⟨hot, hx7⟩ := oth_set2 hx6 (by decide) (.slice A6 n6 c6) (.slice A7 n7 c7)
        rw [← hw7] at hot hx7
        have HR7 := Lib.hid (hot.run HR6.out HSB.out)
        have HS67 := Lib.hid (hot.str hs6 HSB.out)
        have HS77 := Lib.hid (hot.str hs7 HSB.out)
        have HX7 := Lib.hid hx7
        have HBO7 : Hid (w7.heap[bo]? = some (.cells #[.int .i64 o.k, .string o.S, .slice o.A o.len o.cap] 33 (0, 0))) := Lib.hid ((hot.rest _ (fun e => by
          have h := HBO6.out
          rw [e, hx6] at h
          injection h with h
          injection h with _ h _
          exact absurd h (by decide))).trans HBO6.out)
        have HAS : Hid (AC bo o sb0 A6 n6 c6 (AS w q p sz (many + 4) G5 bv5 D5 now6 firm6 bo o sb0 A6 n6 c6 (.slice A7 n7 c7) A7 n7) w7.drew) := Lib.hid (as_ac (as_below ⟨HR7.out, HBO7.out, HX7.out, HS67.out, HS77.out⟩ (Below.refl _ _).drew))
        have HN6 : Hid (now6.length = n6) := Lib.hid hs6.1.1
        have hn6 : n6 ≤ 100000 := by have := (run_most HR6.out).2.2; have := HN6.out; omega
        have f0 := frozen_of_row w6 sb0 0 _ _ hx6
        have f1 := frozen_of_row w6 sb0 1 _ _ hx6
        have z0 := cell_of hx6 (j := 0) rfl
        have z1 := cell_of hx6 (j := 1) rfl
        have HW7 := Lib.hid hw7
        clear hs6 hs7 hb6 hnow6 hfirm6 hx6 hw7 hot hx7 p0 p1 p2 s0 s1
        go_upto_region 13 with fail
        rw [← HW7.out]
        clear f0 f1 z0 z1
        go_region_held3 (fun w' => w'.cell? ⟨bo, 0, none⟩ = some (.int .i64 o.k) ∧ w'.cell? ⟨bo, 1, none⟩ = some (.string o.S) ∧ w'.cell? ⟨bo, 2, none⟩ = some (.slice o.A o.len o.cap) ∧ w'.cell? ⟨sb0, 0, none⟩ = some (.slice A6 n6 c6) ∧ AS w q p sz (many + 4) G5 bv5 D5 now6 firm6 bo o sb0 A6 n6 c6 (.slice A7 n7 c7) A7 n7 w') (first | exact HAS.out | assumption)
          (first
            | (go_at_call 16; (with_reducible refine (as_fair (w := w) (q := q) (p := p) (sz := sz) (nn := many + 4) (G := G5) (bv := bv5) (D := D5) (now := now6) (firm := firm6) (bo := bo) (o := o) (sb0 := sb0) (A6 := A6) (n6 := n6) (c6 := c6) (v7 := .slice A7 n7 c7) (A7 := A7) (n7 := n7) ?_ HOK.out hol h400 HFO.out).mono ?_); exact HAS.out.2.2.2.2; rintro e w8 ⟨rfl, hs8⟩; have hc8 := as_ac hs8)
            | (go_at_call 18; (with_reducible refine (as_all hs8).mono ?_); rintro e w9 ⟨A9, c9, rfl, hr9, hs9⟩; rw [HN6.out] at hr9 ⊢; have HRN := Lib.hid hr9; have hc9 := as_ac hs9; clear hr9)
            | (go_at_call 17; (with_reducible refine (as_same hs9 HRN.out hn6).mono ?_); rintro e w10 ⟨rfl, hs10⟩; have hc10 := as_ac hs10)
            | (go_at_call 19; (with_reducible refine (as_len hs10).mono ?_); rintro e w11 ⟨rfl, hs11⟩; have hc11 := as_ac hs11))
        have HR11 := Lib.hid hs11
        clear hs8 hs9 hs10 hs11 hc8 hc9 hc10 hc11
        go_wp2_with fail
        go_round
        case rel => exact ⟨k + 1, G5, bv5, D5, now6, firm6, A6, A7, n6, c6, n7, c7, by omega, by go_num, HR11.out.1, HR11.out.2.2.1, HR11.out.2.2.2.1, HR11.out.2.2.2.2⟩
        case measure => simp [intOf]; omega
      · obtain rfl : k = n := by omega
        have hk1 : ¬ (k : Int) < (k : Int) := by omega
        have HSY := Lib.hid (sync_ok w.heap.size q p G bv D now firm wr HRU.out.pl HRU.out.al HRU.out.wait)
        go_wp2_with fail
        refine HSY.out.mono ?_
        rintro e w5 ⟨rfl, G5, bv5, D5, hpl5, ha5, hfr5, hsz5, hlen5, hk5⟩
        have hh := ha5.inv.hold
        rw [hfr5, hsz5, HRU.out.fr, HRU.out.size] at hh
        have hl5 : D5.firm.length = many + 4 := by rw [hlen5]; exact HRU.out.len
        have HKL := Lib.hid (HRU.out.kl.trans hk5)
        have HOP := Lib.hid (open_found w.heap.size p 2 many sz _ now D5 w5 hpl5.disk (Nat.le_trans HRU.out.kl.below.size hk5.below.size) ha5.dead (by rw [hl5]; omega) h4 (by rw [hl5]; omega) HSZ.out hh ha5.inv.rf)
        have HRF := Lib.hid ha5.inv.rf
        have HX5 : Hid (w5.heap[sb0]? = some (.cells #[.slice A1 n1 c1, .slice A2 n2 c2] 31 (0, 0))) := Lib.hid (hk5.tag _ _ _ _ HXR.out (by decide))
        have HS15 := Lib.hid (HS1.out.kl hk5)
        have HN1 : Hid (now.length = n1) := Lib.hid HS1.out.1.1
        have hn1 : n1 ≤ 100000 := by have := (run_most HRU.out).2.2; have := HN1.out; omega
        clear hpl5 ha5 hfr5 hsz5 hlen5 hk5 hh hl5
        go_wp2_with fail
        refine HOP.out.mono ?_
        rintro e w6 ⟨q6, bv6, rfl, hpl6, -, hb6⟩
        have HAT := Lib.hid (at_cell (at_below (w := w) (q := q6) (p := p) (sb0 := sb0) (A6 := A1) (n6 := n1) (c6 := c1) (v7 := .slice A2 n2 c2) (now := now) ⟨hpl6, (hb6.block _ (Array.getElem?_eq_some_iff.1 HX5.out).1).trans HX5.out, HS15.out.kept hb6 HKL.out.below.size, HKL.out.below.trans (hb6.mono HKL.out.below.size)⟩ (Below.refl _ _).drew))
        have HAL := Lib.hid (fun w' (h : AT w q6 p ⟨2, sz, G5.m, enc now⟩ bv6 D5 now sb0 A1 n1 c1 (.slice A2 n2 c2) w') => at_all h rfl HRF.out)
        clear hpl6 hb6
        go_upto_region 19 with fail
        go_region_held3 (fun w' => w'.cell? ⟨sb0, 0, none⟩ = some (.slice A1 n1 c1) ∧ AT w q6 p ⟨2, sz, G5.m, enc now⟩ bv6 D5 now sb0 A1 n1 c1 (.slice A2 n2 c2) w') (first | exact HAT.out | assumption)
          (first
            | (go_at_call 11; (with_reducible refine (at_alive HAT.out.2).mono ?_); rintro e w8 ⟨rfl, hs8⟩; have hc8 := at_cell hs8)
            | (go_at_call 18; (with_reducible refine (HAL.out _ hs8).mono ?_); rintro e w9 ⟨A9, c9, rfl, hr9, hs9⟩; rw [HN1.out] at hr9 ⊢; have HRN := Lib.hid hr9; have hc9 := at_cell hs9; clear hr9)
            | (go_at_call 17; (with_reducible refine (at_same hs9 HRN.out hn1).mono ?_); rintro e w10 ⟨rfl, hs10⟩; have hc10 := at_cell hs10))
        all_goals
          have HB10 := Lib.hid hs10.2.2.2
          clear hs8 hs9 hs10 hc8 hc9 hc10
          go_wp2_with fail
          go_ret
          exact ⟨rfl, HB10.out⟩
end Go.Proofs.Ytdbpnfceabklkaa
