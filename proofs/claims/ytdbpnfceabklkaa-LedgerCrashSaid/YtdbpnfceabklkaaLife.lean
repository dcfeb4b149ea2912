/-
  That the laws' own test of life returns true. No condition.
-/
import Derived.Test.YtdbpnfceabklkaaOpened
namespace Go.Proofs.Ytdbpnfceabklkaa
set_option maxRecDepth 100000
open Go.ChangeShapes Go.WideShapes Go.ChangeAt Go.RowKit

theorem append_alive {G : Lg} {D : Dk} {now firm : List (List Int)} {s : List Int} (h : Alive G D now firm) (hs : Bys s) (h0 : amissL false G.bs.length [s] G.sz = 0) : Alive { G with bs := G.bs ++ le4 s.length ++ s } D (now ++ [s]) firm := by
  have h1 := (step_alive h 0 s [] hs (fun x hx => by cases hx)).1
  have e : stepL G D 0 s [] = ({ G with bs := G.bs ++ le4 s.length ++ s }, D, 0) := by
    unfold stepL
    rw [if_pos rfl, h.dead, h0, if_pos rfl]
  rw [e] at h1
  exact h1
theorem sync_alive {G : Lg} {D : Dk} {now firm : List (List Int)} (h : Alive G D now firm) : (putL G D G.m.half G.m.used G.bs).2.2 = 0 ∧ Alive (putL G D G.m.half G.m.used G.bs).1 (putL G D G.m.half G.m.used G.bs).2.1 now now ∧
    (putL G D G.m.half G.m.used G.bs).1.fr = G.fr ∧ (putL G D G.m.half G.m.used G.bs).1.sz = G.sz ∧ (putL G D G.m.half G.m.used G.bs).2.1.firm.length = D.firm.length := by
  have hF := inv_fits_sync h.inv
  rw [h.inv.bs] at hF ⊢
  obtain ⟨p1, p2, p3, p4, p5, p6, p7, p8⟩ := put_alive h.inv h.dead h.arm hF h.inv.rn
  exact ⟨p1, ⟨p2, p3, p4⟩, p6, p7, by rw [p8, ups_length, cur_len]⟩
/-- A Sync, where nothing dies. -/
theorem sync_ok (B q p : Nat) (G : Lg) (bv : Value) (D : Dk) (now firm : List (List Int)) (w : World) (h : PL w B q p G bv D) (ha : Alive G D now firm) (hwt : D.wait.length ≤ 30000) :
    Calls Try.prog 20 #[.pointer (some ⟨q, 0, none⟩)] w fun e w' => e = .returned (.int .i64 0) ∧ ∃ G' bv' D', PL w' B q p G' bv' D' ∧ Alive G' D' now now ∧ G'.fr = G.fr ∧ G'.sz = G.sz ∧ D'.firm.length = D.firm.length ∧ Kl B w w' := by
  refine (sync_led B q p G bv D w h hwt).mono ?_
  intro e w' hse
  obtain ⟨bv', h1, h2, h3⟩ := se_ds hse
  obtain ⟨s1, s2, s3, s4, s5⟩ := sync_alive ha
  rw [s1] at h1
  exact ⟨h1, _, bv', _, h2, s2, s3, s4, s5, h3⟩
theorem same_true (A A' : Option Addr) (n n' c c' : Nat) (l : List (List Int)) (w : World) (hS : SReads w A n l) (hS' : SReads w A' n' l) (hn : n ≤ 100000000) :
    Calls Try.prog 17 #[.slice A n c, .slice A' n' c'] w fun e w' => e = .returned (.bool true) ∧ ∃ k, w' = w.drewN k := by
  refine (same_any A A' n n' c c' l l w hS hS' hn).mono ?_
  rintro e w' ⟨h1, h2⟩
  exact ⟨h1.trans (ret_b (decide_eq_true rfl)), h2⟩
def sA : ByteArray := { data := #[97] }
def sB : ByteArray := { data := #[98] }
theorem sbA : sb sA = [97] := rfl
theorem sbB : sb sB = [98] := rfl
set_option maxHeartbeats 1000000 in
theorem alive_any (w : World) : Calls Try.prog 11 #[] w fun e w' => e = .returned (.bool true) ∧ Below w.heap.size w w' := by
  have HN := Lib.hid (new_any 8 8 w (by decide) (.inr rfl))
  go_enter Try.func11, Try.ntmps11
  go_wp2_with fail
  refine HN.out.mono ?_
  rintro e w1 ⟨p, rfl, hp, hb⟩
  have ha0 := alive_new 8 0 3 (by decide) (by decide)
  have HO := Lib.hid (open_found w.heap.size p 0 8 3 mk0 [] (newD 8) w1 hp hb.size rfl (by rw [newD_len]; decide) (by decide) (by rw [newD_len]; decide) rfl (holds_new (by decide)) rok_nil)
  have HB := Lib.hid hb
  have HA0 := Lib.hid ha0
  clear hp hb ha0 HN
  go_wp2_with fail
  refine HO.out.mono ?_
  rintro e w2 ⟨q, bv, rfl, hpl, -, hb2⟩
  have HAP := Lib.hid (append_led w.heap.size q p ⟨0, 3, mk0, enc []⟩ bv (newD 8) sA w2 hpl (by decide))
  have HB2 := Lib.hid (HB.out.trans (hb2.mono HB.out.size))
  clear hpl hb2 HO
  go_wp2_with fail
  refine HAP.out.mono ?_
  rintro e w3 ⟨he, hk3, h3⟩
  have e3 : amissL (newD 8).dead (enc []).length [sb sA] 3 = 0 := by decide
  rcases h3 with ⟨h3, -⟩ | ⟨-, bv3, h3⟩
  · exact absurd e3 h3
  have he' : e = .returned (.int .i64 0) := by rw [he]; exact congrArg _ (congrArg _ e3)
  subst he'
  have ha1 := append_alive HA0.out (s := sb sA) (sb_bys _) e3
  have HA1 := Lib.hid ha1
  have HAP2 := Lib.hid (append_led w.heap.size q p _ bv3 (newD 8) sB w3 h3 (by decide))
  have HB3 := Lib.hid (HB2.out.trans hk3.below)
  clear he hk3 h3 e3 ha1 HAP HA0
  go_wp2_with fail
  refine HAP2.out.mono ?_
  rintro e w4 ⟨he, hk4, h4⟩
  have e4 : amissL (newD 8).dead (enc [] ++ le4 (sb sA).length ++ sb sA).length [sb sB] 3 = 0 := by decide
  rcases h4 with ⟨h4, -⟩ | ⟨-, bv4, h4⟩
  · exact absurd e4 h4
  have he' : e = .returned (.int .i64 0) := by rw [he]; exact congrArg _ (congrArg _ e4)
  subst he'
  have ha2 := append_alive HA1.out (s := sb sB) (sb_bys _) e4
  have HA2 := Lib.hid ha2
  have HSY := Lib.hid (sync_ok w.heap.size q p _ bv4 (newD 8) _ _ w4 h4 ha2 (by decide))
  have HB4 := Lib.hid (HB3.out.trans hk4.below)
  clear he hk4 h4 e4 ha2 HAP2 HA1
  go_wp2_with fail
  refine HSY.out.mono ?_
  rintro e w5 ⟨rfl, G5, bv5, D5, hpl5, ha5, hfr5, hsz5, hlen5, hk5⟩
  have hh := ha5.inv.hold
  have hl5 : D5.firm.length = 8 := by rw [hlen5]; exact newD_len 8
  rw [hfr5, hsz5] at hh
  have HO5 := Lib.hid (open_found w.heap.size p 0 8 3 _ _ D5 w5 hpl5.disk (Nat.le_trans HB4.out.size hk5.below.size) ha5.dead (by rw [hl5]; decide) (by decide) (by rw [hl5]; decide) rfl hh ha5.inv.rf)
  have HB5 := Lib.hid (HB4.out.trans hk5.below)
  clear hpl5 ha5 hfr5 hsz5 hlen5 hk5 hh hl5 HSY HA2
  go_wp2_with fail
  refine HO5.out.mono ?_
  rintro e w6 ⟨q6, bv6, rfl, hpl6, -, hb6⟩
  have hrk : Rok ([] ++ [sb sA] ++ [sb sB]) := fun s hs => by
    simp only [List.nil_append, List.cons_append, List.mem_cons, List.not_mem_nil, or_false] at hs
    rcases hs with rfl | rfl
    · exact ⟨by decide, sb_bys _⟩
    · exact ⟨by decide, sb_bys _⟩
  have HAL := Lib.hid (all_any w.heap.size q6 p _ bv6 D5 _ w6 hpl6 rfl hrk)
  have HB6 := Lib.hid (HB5.out.trans (hb6.mono HB5.out.size))
  clear hpl6 hb6 HO5
  go_wp2_with fail
  refine HAL.out.mono ?_
  rintro e w7 ⟨v7, rfl, ho7, hb7⟩
  obtain ⟨A7, c7, rfl, hr7, -, -⟩ := own_sreads ho7 (fun s hs => (hrk s hs).2)
  have HR7 := Lib.hid hr7
  have HB7 := Lib.hid (HB6.out.trans (hb7.mono HB6.out.size))
  have HS7 : Hid (SReads (w7.alloc (.cells #[.string sA, .string sB] 9)) (some ⟨w7.heap.size, 0, none⟩) 2 ([] ++ [sb sA] ++ [sb sB])) := Lib.hid ⟨rfl, fun _ => ⟨_, _, rfl, fun i hi => by
    have hi' : i = 0 ∨ i = 1 := by omega
    rw [Nat.zero_add, cell_of_row _ _ i _ 9 _ (new_block w7 _)]
    rcases hi' with rfl | rfl <;> rfl⟩, fun s hs => (hrk s hs).2⟩
  have HSM := Lib.hid (same_true A7 (some ⟨w7.heap.size, 0, none⟩) 2 2 c7 2 _ _ (hr7.kept (box_below w7 _)) HS7.out (by decide))
  clear ho7 hb7 hr7 hrk HAL
  go_wp2_with fail
  refine HSM.out.mono ?_
  rintro e w8 ⟨rfl, m8, rfl⟩
  go_wp2_with fail
  go_ret
  exact ⟨rfl, below_drewN (HB7.out.trans ((box_below w7 _).mono HB7.out.size)) _⟩
end Go.Proofs.Ytdbpnfceabklkaa
