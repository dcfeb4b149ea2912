/-
  ParcelsAll: the law returns true of every script. No condition.
-/
import Derived.Test.YtdlhjpcofldfnaaRef7
import Derived.Test.YtdlhjpcofldfnaaLaw4
namespace Go.Proofs.Ytdlhjpcofldfnaa
set_option maxRecDepth 100000
open Go.ChangeShapes Go.WideShapes Go.ChangeAt Go.RowKit

/-! ### Both make the same -/
def apOf (qs : List (Int × Int)) : List (Int × Int) := (qs.map fun p => (min p.1 p.2, max p.1 p.2)).reverse
theorem any_eq (qs : List (Int × Int)) (a b : Int) : decide ((min a b, max a b) ∈ apOf qs) = qs.any (mtq a b) := by
  rw [Bool.eq_iff_iff, decide_eq_true_eq, List.any_eq_true]
  unfold apOf mtq
  rw [List.mem_reverse, List.mem_map]
  constructor
  · rintro ⟨p, hp, e⟩
    injection e with e1 e2
    refine ⟨p, hp, ?_⟩
    simp only [Bool.or_eq_true, Bool.and_eq_true, beq_iff_eq]
    omega
  · rintro ⟨p, hp, e⟩
    simp only [Bool.or_eq_true, Bool.and_eq_true, beq_iff_eq] at e
    refine ⟨p, hp, ?_⟩
    rw [show min p.1 p.2 = min a b by omega, show max p.1 p.2 = max a b by omega]
def Clean (L : List Pk) (ap : List (Int × Int)) : Prop := ∀ x ∈ L, (min x.f x.t, max x.f x.t) ∉ ap
theorem send_eq (L : List Pk) (qs : List (Int × Int)) (x : Pk) : canSend L (apOf qs) x = rsend L qs x := by
  unfold canSend rsend
  rw [← any_eq, Bool.eq_iff_iff]
  simp
theorem at_mem {L : List Pk} {k : Int} (h : (atL L k).2 = true) : (atL L k).1 ∈ L := by
  obtain ⟨n, rfl, hn⟩ := at_true h
  unfold atL
  rw [if_pos ⟨by omega, by omega⟩]
  show L.getD n pk0 ∈ L
  rw [getD_eq pk0 hn]
  exact List.getElem_mem hn
theorem dbl_eq {L : List Pk} {ap : List (Int × Int)} (h : Clean L ap) (k : Int) : canDouble L ap k = rdbl L k := by
  unfold canDouble rdbl canSend
  cases hb : (atL L k).2 with
  | false => rfl
  | true =>
    have := h _ (at_mem hb)
    rw [Bool.true_and, Bool.true_and, Bool.eq_iff_iff]
    simp [this]
structure Same (L : List Pk) (qs : List (Int × Int)) (o : Po) : Prop where
  l : (rdo L qs o).L = (doL L (apOf qs) o).L
  x : (rdo L qs o).x = (doL L (apOf qs) o).x
  is : (rdo L qs o).is = (doL L (apOf qs) o).is
  ap : (doL L (apOf qs) o).ap = apOf (rdo L qs o).qs
  clean : Clean (doL L (apOf qs) o).L (doL L (apOf qs) o).ap
  len : (rdo L qs o).qs.length ≤ qs.length + 1
theorem clean_more {L : List Pk} {ap : List (Int × Int)} {x : Pk} (h : Clean L ap) (hx : (min x.f x.t, max x.f x.t) ∉ ap) : Clean (L ++ [x]) ap := fun y hy => by
  rcases List.mem_append.1 hy with h1 | h1
  · exact h y h1
  · rw [List.mem_singleton.1 h1]; exact hx
theorem same_do {L : List Pk} {qs : List (Int × Int)} (h : Clean L (apOf qs)) (o : Po) : Same L qs o := by
  by_cases k0 : o.k = 0
  · have e1 : doL L (apOf qs) o = ⟨if canSend L (apOf qs) o.p = true then L ++ [o.p] else L, apOf qs, pk0, canSend L (apOf qs) o.p⟩ := by unfold doL; rw [if_pos k0]
    have e2 : rdo L qs o = ⟨if rsend L qs o.p = true then L ++ [o.p] else L, qs, pk0, rsend L qs o.p⟩ := by unfold rdo; rw [if_pos k0]
    rw [← send_eq] at e2
    refine ⟨by rw [e1, e2], by rw [e1, e2], by rw [e1, e2], by rw [e1, e2], ?_, by rw [e2]; exact Nat.le_succ _⟩
    rw [e1]
    show Clean (if canSend L (apOf qs) o.p = true then L ++ [o.p] else L) (apOf qs)
    by_cases hc : canSend L (apOf qs) o.p = true
    · rw [if_pos hc]; exact clean_more h (of_decide_eq_true hc).2
    · rw [if_neg hc]; exact h
  by_cases k1 : o.k = 1
  · have e1 : doL L (apOf qs) o = ⟨tkL L o.K, apOf qs, (atL L o.K).1, (atL L o.K).2⟩ := by unfold doL; rw [if_neg k0, if_pos k1]
    have e2 : rdo L qs o = ⟨tkL L o.K, qs, (atL L o.K).1, (atL L o.K).2⟩ := by unfold rdo; rw [if_neg k0, if_pos k1]
    refine ⟨by rw [e1, e2], by rw [e1, e2], by rw [e1, e2], by rw [e1, e2], ?_, by rw [e2]; exact Nat.le_succ _⟩
    rw [e1]
    show Clean (tkL L o.K) (apOf qs)
    unfold tkL
    by_cases hc : (atL L o.K).2 = true
    · rw [if_pos hc]; exact fun x hx => h x (List.mem_of_mem_eraseIdx hx)
    · rw [if_neg hc]; exact h
  by_cases k2 : o.k = 2
  · have e1 : doL L (apOf qs) o = ⟨if canDouble L (apOf qs) o.K = true then L ++ [(atL L o.K).1] else L, apOf qs, pk0, canDouble L (apOf qs) o.K⟩ := by unfold doL; rw [if_neg k0, if_neg k1, if_pos k2]
    have e2 : rdo L qs o = ⟨if rdbl L o.K = true then L ++ [(atL L o.K).1] else L, qs, pk0, rdbl L o.K⟩ := by unfold rdo; rw [if_neg k0, if_neg k1, if_pos k2]
    rw [← dbl_eq h] at e2
    refine ⟨by rw [e1, e2], by rw [e1, e2], by rw [e1, e2], by rw [e1, e2], ?_, by rw [e2]; exact Nat.le_succ _⟩
    rw [e1]
    show Clean (if canDouble L (apOf qs) o.K = true then L ++ [(atL L o.K).1] else L) (apOf qs)
    by_cases hc : canDouble L (apOf qs) o.K = true
    · rw [if_pos hc]
      refine clean_more h (h _ (at_mem ?_))
      unfold canDouble at hc
      rw [Bool.and_eq_true] at hc
      exact hc.1
    · rw [if_neg hc]; exact h
  by_cases k3 : o.k = 3
  · have e1 : doL L (apOf qs) o = ⟨keepF (min o.K o.J) (max o.K o.J) L, (min o.K o.J, max o.K o.J) :: apOf qs, pk0, false⟩ := by unfold doL; rw [if_neg k0, if_neg k1, if_neg k2, if_pos k3]
    have e2 : rdo L qs o = ⟨keepF (min o.K o.J) (max o.K o.J) L, qs ++ [(o.K, o.J)], pk0, false⟩ := by unfold rdo; rw [if_neg k0, if_neg k1, if_neg k2, if_pos k3]
    refine ⟨by rw [e1, e2], by rw [e1, e2], by rw [e1, e2], by rw [e1, e2]; simp [apOf], ?_, by rw [e2]; simp⟩
    rw [e1]
    show Clean (keepF (min o.K o.J) (max o.K o.J) L) ((min o.K o.J, max o.K o.J) :: apOf qs)
    intro x hx hm
    obtain ⟨h1, h2⟩ := List.mem_filter.1 hx
    rcases List.mem_cons.1 hm with e | e
    · injection e with e3 e4
      unfold btw at h2
      rw [e3, e4] at h2
      simp at h2
    · exact h x h1 e
  by_cases k4 : o.k = 4
  · have e1 : doL L (apOf qs) o = ⟨L, [], pk0, false⟩ := by unfold doL; rw [if_neg k0, if_neg k1, if_neg k2, if_neg k3, if_pos k4]
    have e2 : rdo L qs o = ⟨L, [], pk0, false⟩ := by unfold rdo; rw [if_neg k0, if_neg k1, if_neg k2, if_neg k3, if_pos k4]
    exact ⟨by rw [e1, e2], by rw [e1, e2], by rw [e1, e2], by rw [e1, e2]; rfl, (by rw [e1]; exact fun x _ hx => (by cases hx)), (by rw [e2]; exact Nat.zero_le _)⟩
  · have e1 : doL L (apOf qs) o = ⟨L, apOf qs, pk0, false⟩ := by unfold doL; rw [if_neg k0, if_neg k1, if_neg k2, if_neg k3, if_neg k4]
    have e2 : rdo L qs o = ⟨L, qs, pk0, false⟩ := by unfold rdo; rw [if_neg k0, if_neg k1, if_neg k2, if_neg k3, if_neg k4]
    exact ⟨by rw [e1, e2], by rw [e1, e2], by rw [e1, e2], by rw [e1, e2], by rw [e1]; exact h, by rw [e2]; exact Nat.le_succ _⟩
/-! ### Where the laws' own net lies -/
def Fa (w : World) (np mb : Nat) (rv : Value) (bn : Nat) (A : Option Addr) : Prop := ∀ a, A = some a → a.block < w.heap.size ∧ a.block ≠ np ∧ a.block ≠ mb ∧ rv.ownBlock ≠ some a.block ∧ a.block ≠ bn
theorem Fa.below {w w' : World} {np mb bn : Nat} {rv : Value} {A : Option Addr} (h : Fa w np mb rv bn A) (hs : w.heap.size ≤ w'.heap.size) : Fa w' np mb rv bn A := fun a e => ⟨Nat.lt_of_lt_of_le (h a e).1 hs, (h a e).2⟩
theorem Fa.kn {w w' : World} {B np mb bn : Nat} {r1 r2 : Value} {A : Option Addr} (h : Fa w np mb r1 bn A) (k : Kn B np mb r1 r2 w w') : Fa w' np mb r2 bn A := fun a e => by
  obtain ⟨h1, h2, h3, h4, h5⟩ := h a e
  refine ⟨Nat.lt_of_lt_of_le h1 k.below.size, h2, h3, fun e2 => ?_, h5⟩
  rcases k.row _ e2 with e3 | e3
  · exact h4 e3
  · omega
theorem Fa.next {w w' : World} {B np mb bn : Nat} {rv : Value} {L : List Pk} {ap : List (Int × Int)} {A A' : Option Addr} (hn : NetW w B np mb rv L ap) (hb : bn < w.heap.size) (h : Fa w np mb rv bn A) (hs : w.heap.size ≤ w'.heap.size) (ht : ∀ a, A' = some a → A = some a ∨ (w.heap.size ≤ a.block ∧ a.block < w'.heap.size)) : Fa w' np mb rv bn A' := fun a e => by
  rcases ht a e with e1 | ⟨e1, e2⟩
  · exact (h.below hs) a e1
  · have h1 := hn.lt
    exact ⟨e2, by omega, by omega, fun e3 => by have := own_block_lt hn.row _ e3; omega, by omega⟩
theorem Fa.pk {w w' : World} {B np mb bn n : Nat} {r1 r2 : Value} {A : Option Addr} {l : List Pk} (hp : PReads w A n l) (h : Fa w np mb r1 bn A) (k : Kn B np mb r1 r2 w w') : PReads w' A n l := hp.stay (fun a e => k.kept a.block (h a e).1 (h a e).2.1 (h a e).2.2.1 (h a e).2.2.2.1)
theorem Fa.qk {w w' : World} {B np mb bn n : Nat} {r1 r2 : Value} {A : Option Addr} {l : List (Int × Int)} (hp : QReads w A n l) (h : Fa w np mb r1 bn A) (k : Kn B np mb r1 r2 w w') : QReads w' A n l := hp.stay (fun a e => k.kept a.block (h a e).1 (h a e).2.1 (h a e).2.2.1 (h a e).2.2.2.1)
structure Al (w : World) (np mb bn : Nat) (n k : Nat) (wr : World) (rv : Value) (L : List Pk) (qs : List (Int × Int)) (A1 : Option Addr) (c1 : Nat) (A2 : Option Addr) (n2 c2 : Nat) : Prop where
  le : k ≤ n
  net : NetW wr w.heap.size np mb rv L (apOf qs)
  box : Bx np mb rv wr bn (.cells #[.slice A1 L.length c1, .slice A2 n2 c2] 29 (0, 0))
  low : w.heap.size ≤ bn
  pk : PReads wr A1 L.length L
  qk : QReads wr A2 n2 qs
  f1 : Fa wr np mb rv bn A1
  f2 : Fa wr np mb rv bn A2
  many : n2 ≤ k
  clean : Clean L (apOf qs)
  below : Below w.heap.size w wr
theorem Al.kept {w wr w' : World} {np mb bn n k c1 n2 c2 : Nat} {rv : Value} {L : List Pk} {qs : List (Int × Int)} {A1 A2 : Option Addr} (h : Al w np mb bn n k wr rv L qs A1 c1 A2 n2 c2) (hb : Below wr.heap.size wr w') : Al w np mb bn n k w' rv L qs A1 c1 A2 n2 c2 :=
  ⟨h.le, h.net.kept hb, h.box.kn (Kn.of_below hb h.net.size), h.low, h.pk.kept hb, h.qk.kept hb, h.f1.below hb.size, h.f2.below hb.size, h.many, h.clean, h.below.trans (hb.mono h.below.size)⟩
set_option maxHeartbeats 8000000 in
theorem law_all (A : Option Addr) (n c : Nat) (l : List Po) (w : World) (hR : SReads w A n l) :
    Calls Try.prog 3 #[.slice A n c] w fun e w' => e = .returned (.bool true) ∧ Below w.heap.size w w' := by
  have HR := Lib.hid hR
  clear hR
  by_cases hlong : (200 : Int) < (n : Int)
  · go_enter Try.func3, Try.ntmps3
    go_wp2_with fail
    refine (new_any w).mono ?_
    rintro e w1 ⟨np, mb, rfl, hn, hb⟩
    have HB := Lib.hid hb
    clear hn hb
    go_wp2_with fail
    refine (alive_any w1).mono ?_
    rintro e w2 ⟨rfl, hb2⟩
    have HB3 := Lib.hid (HB.out.trans (hb2.mono HB.out.size))
    clear hb2
    go_wp2_with fail
    go_ret
    exact ⟨rfl, HB3.out⟩
  have hn200 : n ≤ 200 := by omega
  go_enter Try.func3, Try.ntmps3
  go_wp2_with fail
  refine (new_any w).mono ?_
  rintro e w1 ⟨np, mb, rfl, hn, hb⟩
  obtain ⟨bn, hbn⟩ : ∃ b, b = w1.heap.size := ⟨_, rfl⟩
  obtain ⟨w2, hw2⟩ : ∃ w2, w2 = w1.alloc (.cells #[.slice none 0 0, .slice none 0 0] 29) := ⟨_, rfl⟩
  have hb2 : Below w1.heap.size w1 w2 := by rw [hw2]; exact box_below w1 _
  have HAL : Hid (Al w np mb bn n 0 w2 (.slice none 0 0) [] [] none 0 none 0 0) := Lib.hid ⟨Nat.zero_le _, hn.kept hb2, by rw [hw2, hbn]; exact Bx.new hn _, by rw [hbn]; exact hb.size, ⟨rfl, fun h => absurd h (by decide), fun x hx => by cases hx⟩, ⟨rfl, fun h => absurd h (by decide)⟩, (fun a e => by cases e), (fun a e => by cases e), Nat.le_refl _, (fun x hx => by cases hx), hb.trans (hb2.mono hb.size)⟩
  have HW2 := Lib.hid hw2
  have HBN := Lib.hid hbn
  clear hn hb hw2 hbn hb2
  go_upto_region 5 with fail
  rw [← HW2.out, ← HBN.out]
  go_wp2_with fail
  go_loopw [27] (fun vk wr => ∃ (k : Nat) (rv : Value) (L : List Pk) (qs : List (Int × Int)) (A1 : Option Addr) (c1 : Nat) (A2 : Option Addr) (n2 c2 : Nat), vk = .int .i64 k ∧ Al w np mb bn n k wr rv L qs A1 c1 A2 n2 c2) (fun vk _ => n - (intOf vk).toNat)
  case atStart => exact ⟨0, _, _, _, _, _, _, _, _, rfl, HAL.out⟩
  case round =>
    obtain ⟨k, rv, L, qs, A1, c1, A2, n2, c2, rfl, hal⟩ := hrel
    have hk : k ≤ n := hal.le
    have HA := Lib.hid hal
    have hm := hal.many
    clear hal
    by_cases hlt : k < n
    · obtain ⟨b1, off, o, rfl, -, -, hok, hoc⟩ := (HR.out.kept HA.out.below).round hlt
      obtain ⟨bo, hbe⟩ : ∃ bo, bo = wr.heap.size := ⟨_, rfl⟩
      obtain ⟨wo, hwo⟩ : ∃ wo, wo = wr.alloc (.cells #[.int .i64 o.k, .int .i64 o.K, .int .i64 o.J, .int .i64 o.p.f, .int .i64 o.p.t, .string o.p.b] 33) := ⟨_, rfl⟩
      have hbo : Below wr.heap.size wr wo := by rw [hwo]; exact box_below wr _
      have HBX : Hid (Bx np mb rv wo bo (.cells #[.int .i64 o.k, .int .i64 o.K, .int .i64 o.J, .int .i64 o.p.f, .int .i64 o.p.t, .string o.p.b] 33)) := Lib.hid (by rw [hwo, hbe]; exact Bx.new HA.out.net _)
      have HAO := Lib.hid (HA.out.kept hbo)
      have HWO := Lib.hid hwo
      have HBE := Lib.hid hbe
      have HOK := Lib.hid hok
      have HNN : Hid (bo ≠ bn) := Lib.hid (by have := (Array.getElem?_eq_some_iff.1 HA.out.box.here).1; omega)
      obtain ⟨h0, h1, h2, h3, h4, h5⟩ := hoc
      have hk0 : (0 : Int) ≤ (k : Int) := by omega
      have hk1 : (k : Int) < (n : Int) := by omega
      have HSM := Lib.hid (same_do HA.out.clean o)
      obtain ⟨D, hd⟩ : ∃ D, D = rdo L qs o := ⟨_, rfl⟩
      have HRD := Lib.hid (rdo_any (c1 := c1) (c2 := c2) HAO.out.pk HAO.out.qk HA.out.net.small.1 (by omega) (fun a e => (HAO.out.f1 a e).1) (fun a e => (HAO.out.f2 a e).1) o hok)
      rw [← hd] at HRD
      have HD := Lib.hid hd
      clear hok hwo hbo hbe hd
      go_upto_region 8 with fail
      rw [← HWO.out, ← HBE.out]
      clear h0 h1 h2 h3 h4 h5
      have o0 := cell_of HBX.out.here (j := 0) rfl
      have o1 := cell_of HBX.out.here (j := 1) rfl
      have o2 := cell_of HBX.out.here (j := 2) rfl
      have o3 := cell_of HBX.out.here (j := 3) rfl
      have o4 := cell_of HBX.out.here (j := 4) rfl
      have o5 := cell_of HBX.out.here (j := 5) rfl
      have z0 := cell_of HAO.out.box.here (j := 0) rfl
      have z1 := cell_of HAO.out.box.here (j := 1) rfl
      go_wp2_with fail
      refine HRD.out.mono ?_
      rintro e w3 ⟨A1', m, c1', A2', n2', c2', rfl, hnet⟩
      go_upto_region 9 with fail
      obtain rfl : m = D.L.length := hnet.pk.len.symm
      obtain ⟨bs, hbs⟩ : ∃ b, b = w3.heap.size := ⟨_, rfl⟩
      obtain ⟨bq, hbq⟩ : ∃ b, b = w3.heap.size + 1 := ⟨_, rfl⟩
      obtain ⟨w4, hw4⟩ : ∃ q, q = w3.alloc (.cells #[.slice A1' D.L.length c1', .slice A2' n2' c2'] 29) := ⟨_, rfl⟩
      obtain ⟨w5, hw5⟩ : ∃ q, q = w4.alloc (.cells #[.int .i64 D.x.f, .int .i64 D.x.t, .string D.x.b] 31) := ⟨_, rfl⟩
      have hbq4 : bq = w4.heap.size := by rw [hbq, hw4]; simp
      have hb4 : Below w3.heap.size w3 w4 := by rw [hw4]; exact box_below w3 _
      have hb5 : Below w4.heap.size w4 w5 := by rw [hw5]; exact box_below w4 _
      have hb35 := hb4.trans (hb5.mono hb4.size)
      have hA3 := HAO.out.kept hnet.below
      have hA4 := hA3.kept hb4
      have hA5 := hA4.kept hb5
      have hxs4 : w4.heap[bs]? = some (.cells #[.slice A1' D.L.length c1', .slice A2' n2' c2'] 29 (0, 0)) := by rw [hw4, hbs]; exact new_block w3 _
      have HXS5 := Lib.hid ((hb5.block _ (Array.getElem?_eq_some_iff.1 hxs4).1).trans hxs4)
      have hxq5 : Bx np mb rv w5 bq (.cells #[.int .i64 D.x.f, .int .i64 D.x.t, .string D.x.b] 31) := by rw [hw5, hbq4]; exact Bx.new hA4.net _
      have hbnl : bn < wo.heap.size := (Array.getElem?_eq_some_iff.1 HAO.out.box.here).1
      have hqn : bq ≠ bn := by have := hnet.below.size; omega
      have hsn : bs ≠ bn := by have := hnet.below.size; omega
      have hf1 := (Fa.next HAO.out.net hbnl HAO.out.f1 hnet.below.size hnet.at1).below hb35.size
      have hf2 := (Fa.next HAO.out.net hbnl HAO.out.f2 hnet.below.size hnet.at2).below hb35.size
      obtain ⟨hwr, hx6⟩ := set_two hA5.box.here (.slice A1' D.L.length c1') (.slice A2' n2' c2')
      obtain ⟨w6, hw6⟩ : ∃ q, q = (w5.setCell ⟨bn, 0, none⟩ (.slice A1' D.L.length c1')).setCell ⟨bn, 1, none⟩ (.slice A2' n2' c2') := ⟨_, rfl⟩
      rw [← hw6] at hwr hx6
      have hsz6 : w5.heap.size ≤ w6.heap.size := by rw [hw6]; simp only [Go.Deep.nblk_setCell]; exact Nat.le_refl _
      have hbo5 := (HBX.out.kn (Kn.of_below (hnet.below.trans (hb35.mono hnet.below.size)) HAO.out.net.size))
      have HO6 := Lib.hid (hbo5.wr hwr HNN.out)
      have HQ6 := Lib.hid (hxq5.wr hwr hqn)
      have HN6 := Lib.hid (hA5.net.wr hwr hA5.box)
      have HX6 : Hid (Bx np mb rv w6 bn (.cells #[.slice A1' D.L.length c1', .slice A2' n2' c2'] 29 (0, 0))) := Lib.hid ⟨hx6, hA5.box.n, hA5.box.m, hA5.box.r⟩
      have HP6 := Lib.hid ((hnet.pk.kept hb35).stay (fun a e => hwr.rest a.block (hf1 a e).2.2.2.2))
      have HK6 := Lib.hid ((hnet.qk.kept hb35).stay (fun a e => hwr.rest a.block (hf2 a e).2.2.2.2))
      have HF1 := Lib.hid (hf1.below hsz6)
      have HF2 := Lib.hid (hf2.below hsz6)
      have HB6 := Lib.hid (hA5.below.trans (hwr.below.mono hA5.low))
      have HXN5 := Lib.hid hA5.box.here
      have HLOW := Lib.hid hA5.low
      have HQL := Lib.hid hnet.qk.len
      have HW4 := Lib.hid hw4
      have HW5 := Lib.hid hw5
      have HW6 := Lib.hid hw6
      have HBS := Lib.hid hbs
      have HBQ := Lib.hid hbq
      have HSN := Lib.hid hsn
      rw [← HW4.out, ← HW5.out, ← HBQ.out, ← HBS.out]
      have HDO := Lib.hid (does_any HN6.out o HOK.out (by have := HA.out.net.map; have := HA.out.qk.len; simp [apOf]; omega))
      clear hbs hbq hw4 hw5 hbq4 hb4 hb5 hb35 hA3 hA4 hA5 hxs4 hxq5 hbnl hqn hsn hf1 hf2 hwr hx6 hw6 hsz6 hbo5 hnet o0 o1 o2 o3 o4 o5 z0 z1
      have s0 := cell_of HXS5.out (j := 0) rfl
      have s1 := cell_of HXS5.out (j := 1) rfl
      have z0 := cell_of HXN5.out (j := 0) rfl
      have z1 := cell_of HXN5.out (j := 1) rfl
      have fz0 := frozen_of_row w5 bn 0 _ _ HXN5.out
      have fz1 := frozen_of_row w5 bn 1 _ _ HXN5.out
      go_upto_region 10 with fail
      rw [← HW6.out]
      clear s0 s1 z0 z1 fz0 fz1
      have o0 := cell_of HO6.out.here (j := 0) rfl
      have o1 := cell_of HO6.out.here (j := 1) rfl
      have o2 := cell_of HO6.out.here (j := 2) rfl
      have o3 := cell_of HO6.out.here (j := 3) rfl
      have o4 := cell_of HO6.out.here (j := 4) rfl
      have o5 := cell_of HO6.out.here (j := 5) rfl
      go_wp2_with fail
      refine HDO.out.mono ?_
      rintro e w7 ⟨rfl, rv7, hn7, hk7⟩
      rw [← HSM.out.l, HSM.out.ap, ← HD.out] at hn7
      rw [← HSM.out.x, ← HSM.out.is, ← HD.out]
      have hcl := HSM.out.clean
      rw [← HSM.out.l, HSM.out.ap, ← HD.out] at hcl
      have hln := HSM.out.len
      rw [← HD.out] at hln
      have HA7 : Hid (Al w np mb bn n (k + 1) w7 rv7 D.L D.qs A1' c1' A2' n2' c2') := Lib.hid ⟨by omega, hn7, HX6.out.kn hk7, HLOW.out, HF1.out.pk HP6.out hk7, HF2.out.qk HK6.out hk7, HF1.out.kn hk7, HF2.out.kn hk7, by have := HQL.out; have := HA.out.qk.len; omega, hcl, HB6.out.trans hk7.below⟩
      have HQ7 := Lib.hid (HQ6.out.kn hk7)
      clear hn7 hk7 hcl hln o0 o1 o2 o3 o4 o5
      obtain ⟨x, hx⟩ : ∃ x, x = D.x := ⟨_, rfl⟩
      obtain ⟨is, his⟩ : ∃ q, q = D.is := ⟨_, rfl⟩
      rw [← hx, ← his]
      rw [← hx] at HQ7
      obtain ⟨bp, hbp⟩ : ∃ b, b = w7.heap.size := ⟨_, rfl⟩
      obtain ⟨w8, hw8⟩ : ∃ q, q = w7.alloc (.cells #[.int .i64 x.f, .int .i64 x.t, .string x.b] 31) := ⟨_, rfl⟩
      have hb8 : Below w7.heap.size w7 w8 := by rw [hw8]; exact box_below w7 _
      have HXP8 : Hid (w8.heap[bp]? = some (.cells #[.int .i64 x.f, .int .i64 x.t, .string x.b] 31 (0, 0))) := Lib.hid (by rw [hw8, hbp]; exact new_block w7 _)
      have HXQ8 := Lib.hid ((hb8.block _ (Array.getElem?_eq_some_iff.1 HQ7.out.here).1).trans HQ7.out.here)
      have hA8 := HA7.out.kept hb8
      have HA8 := Lib.hid hA8
      have HW8 := Lib.hid hw8
      have HBP := Lib.hid hbp
      have HLQ : Hid (∀ W, Below w8.heap.size w8 W → Calls Try.prog 12 #[.pointer (some ⟨np, 0, none⟩)] W fun e w' => e = .returned (.int .i64 (D.L.length : Int)) ∧ W = w') := Lib.hid (fun W hW => len_quiet hA8.net W hW)
      clear hx his hbp hw8 hb8 hA8
      unfold pv
      go_upto_region 11 with fail
      rw [← HW8.out, ← HBP.out]
      have HSS : Hid (∀ W, Below w8.heap.size w8 W → W.cell? ⟨bq, 0, none⟩ = some (.int .i64 x.f) ∧ W.cell? ⟨bq, 1, none⟩ = some (.int .i64 x.t) ∧ W.cell? ⟨bq, 2, none⟩ = some (.string x.b) ∧ W.cell? ⟨bp, 0, none⟩ = some (.int .i64 x.f) ∧ W.cell? ⟨bp, 1, none⟩ = some (.int .i64 x.t) ∧ W.cell? ⟨bp, 2, none⟩ = some (.string x.b) ∧ W.cell? ⟨bn, 0, none⟩ = some (.slice A1' D.L.length c1') ∧ Below w8.heap.size w8 W) := Lib.hid (fun W hW => by
        have hq := (hW.block _ (Array.getElem?_eq_some_iff.1 HXQ8.out).1).trans HXQ8.out
        have hp := (hW.block _ (Array.getElem?_eq_some_iff.1 HXP8.out).1).trans HXP8.out
        have hz := (hW.block _ (Array.getElem?_eq_some_iff.1 HA8.out.box.here).1).trans HA8.out.box.here
        exact ⟨cell_of hq (j := 0) rfl, cell_of hq (j := 1) rfl, cell_of hq (j := 2) rfl, cell_of hp (j := 0) rfl, cell_of hp (j := 1) rfl, cell_of hp (j := 2) rfl, cell_of hz (j := 0) rfl, hW⟩)
      have hne := neq31 x x
      rw [same_refl] at hne
      have hS0 := HSS.out _ (Below.refl _ _)
      cases is
      all_goals
        go_region_held3 (fun W => W.cell? ⟨bq, 0, none⟩ = some (.int .i64 x.f) ∧ W.cell? ⟨bq, 1, none⟩ = some (.int .i64 x.t) ∧ W.cell? ⟨bq, 2, none⟩ = some (.string x.b) ∧ W.cell? ⟨bp, 0, none⟩ = some (.int .i64 x.f) ∧ W.cell? ⟨bp, 1, none⟩ = some (.int .i64 x.t) ∧ W.cell? ⟨bp, 2, none⟩ = some (.string x.b) ∧ W.cell? ⟨bn, 0, none⟩ = some (.slice A1' D.L.length c1') ∧ Below w8.heap.size w8 W)
          (first
            | exact HSS.out _ (Below.refl _ _).drew
            | assumption)
          (first
            | (go_at_call 12; (with_reducible refine (HLQ.out _ (by first | exact (Below.refl _ _).drew | assumption)).mono ?_); rintro e w9 ⟨rfl, rfl⟩))
        all_goals
          have HA9 := Lib.hid (HA8.out.kept (Below.refl _ _).drew)
          clear hne hS0
          go_wp2_with fail
          go_round
          case rel => exact ⟨k + 1, rv7, D.L, D.qs, A1', c1', A2', n2', c2', by go_num, HA9.out⟩
          case measure => simp [intOf]; omega
    · obtain rfl : k = n := by omega
      have hk1 : ¬ (k : Int) < (k : Int) := by omega
      go_wp2_with fail
      refine (alive_any wr).mono ?_
      rintro e w9 ⟨rfl, hb9⟩
      have HA9 := Lib.hid (HA.out.kept hb9)
      have HST := Lib.hid (stands_any (c1 := c1) (c2 := c2) HA9.out.net HA9.out.pk HA9.out.qk (by omega) (any_eq qs))
      have z0 := cell_of HA9.out.box.here (j := 0) rfl
      have z1 := cell_of HA9.out.box.here (j := 1) rfl
      clear hb9
      go_wp2_with fail
      refine HST.out.mono ?_
      rintro e w10 ⟨rfl, hb10⟩
      have HB10 := Lib.hid (HA9.out.below.trans (hb10.mono HA9.out.below.size))
      clear hb10 z0 z1
      go_wp2_with fail
      go_ret
      exact ⟨rfl, HB10.out⟩
end Go.Proofs.Ytdlhjpcofldfnaa
