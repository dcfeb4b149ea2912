/-
 What pack.greatest and pack.amiss return: the greatest number of a kind,and what is amiss with a field. No condition.
-/
import Derived.Test.YtlppinfjdnhlbaaGreatDoorHd
import Derived.Test.YtlppinfjdnhlbaaGreatDoorQKinds
import Derived.BigQuiet
import Derived.Deep.QuietTactic
namespace Go.Proofs.YtlppinfjdnhlbaaGreatDoor.Pq
set_option maxRecDepth 100000
open Go.ChangeShapes Go.WideShapes Go.ChangeAt Go.RowKit
theorem below_drewN {B : Nat} {a w : World} (h : Below B a w) (n : Nat) : Below B a (w.drewN n):=⟨h.os,h.tape,h.output,h.size,h.block⟩
theorem ret_i64 {a b : Int} (h : a = b) : Ending.returned (.int .i64 a) = .returned (.int .i64 b):=by rw [h]
theorem greatest_any (k : Int) (w : World) : Calls Tryz.prog 171 #[.int .i64 k] w fun e w' => e = .returned (.int .i64 (grt k)) /\ w' = w:=by
 by_cases k1 : k = 1
 ·subst k1
  go_enter Tryz.func171,Tryz.ntmps171
  go_wp2
  go_ret
  exact ⟨rfl,rfl⟩
 by_cases k2 : k = 2
 ·subst k2
  go_enter Tryz.func171,Tryz.ntmps171
  go_wp2
  go_ret
  exact ⟨rfl,rfl⟩
 by_cases k3 : k = 3
 ·subst k3
  go_enter Tryz.func171,Tryz.ntmps171
  go_wp2
  go_ret
  exact ⟨rfl,rfl⟩
 by_cases k4 : k = 4
 ·subst k4
  go_enter Tryz.func171,Tryz.ntmps171
  go_wp2
  go_ret
  exact ⟨rfl,rfl⟩
 ·have HG : Hid (grt k = -1):=hJQ (by unfold grt; rw [if_neg k1,if_neg k2,if_neg k3,if_neg k4])
  have t1 : (k == 1) = false:=by simpa using k1
  have t2 : (k == 2) = false:=by simpa using k2
  have t3 : (k == 3) = false:=by simpa using k3
  have t4 : (k == 4) = false:=by simpa using k4
  go_enter Tryz.func171,Tryz.ntmps171
  go_wp2
  go_ret
  exact ⟨ret_i64 HG.out.symm,rfl⟩
theorem below_box {w : World} {o : Obj} {n : Nat} : Below w.heap.size w ((w.alloc o).drewN n):=below_drewN ((Below.refl _ _).alloc (Nat.le_refl _) _) n
theorem amiss_neg (f : Fld) (w : World) (h : f.n < 0) :
  Calls Tryz.prog 146 #[.agg #[.int .i64 f.k,.int .i64 f.n,.string f.s]] w fun e w' => e = .returned (.int .i64 21) /\ Below w.heap.size w w':=by
 go_enter Tryz.func146,Tryz.ntmps146
 go_wp2
 go_quiet (fail)
 go_wp2
 go_ret
 exact ⟨rfl,below_box⟩
theorem amiss_great (f : Fld) (w : World) (h0 : 0 <= f.n) (h : grt f.k < f.n) :
  Calls Tryz.prog 146 #[.agg #[.int .i64 f.k,.int .i64 f.n,.string f.s]] w fun e w' => e = .returned (.int .i64 21) /\ Below w.heap.size w w':=by
 have h1 : decide (f.n < 0) = false:=by simpa using h0
 go_enter Tryz.func146,Tryz.ntmps146
 go_wp2
 go_quiet ((go_at_call 171; exact Calls.quiet_of_same (greatest_any _ _)))
 go_wp2
 go_ret
 exact ⟨rfl,below_box⟩
theorem amiss_text (f : Fld) (w : World) (h0 : 0 <= f.n) (h : f.n <= grt f.k) (hs : f.s.size ≠ 0) (hk : f.k ≠ 3) :
  Calls Tryz.prog 146 #[.agg #[.int .i64 f.k,.int .i64 f.n,.string f.s]] w fun e w' => e = .returned (.int .i64 21) /\ Below w.heap.size w w':=by
 have h1 : decide (f.n < 0) = false:=by simpa using h0
 have h2 : decide (grt f.k < f.n) = false:=by simpa using h
 have h3 : f.s.toList.isEmpty = false:=by
  rw [ByteArray.toList_eq]
  have : 0 < f.s.data.toList.length:=by show 0 < f.s.size; omega
  cases hh : f.s.data.toList with
  | nil => rw [hh] at this; simp at this
  | cons a l => rfl
 have h4 : (f.k != 3) = true:=by simpa using hk
 clear hk hs
 go_enter Tryz.func146,Tryz.ntmps146
 go_wp2
 go_quiet ((go_at_call 171; exact Calls.quiet_of_same (greatest_any _ _)))
 go_wp2
 go_ret
 exact ⟨rfl,below_box⟩
theorem amiss_short (f : Fld) (w : World) (h0 : 0 <= f.n) (h : f.n <= grt f.k) (hs : f.s.size = 0) :
  Calls Tryz.prog 146 #[.agg #[.int .i64 f.k,.int .i64 f.n,.string f.s]] w fun e w' => e = .returned (.int .i64 0) /\ Below w.heap.size w w':=by
 have h1 : decide (f.n < 0) = false:=by simpa using h0
 have h2 : decide (grt f.k < f.n) = false:=by simpa using h
 have h3 : f.s = ⟨#[]⟩:=size_zero hs
 rw [h3]
 clear hs
 go_enter Tryz.func146,Tryz.ntmps146
 go_wp2
 go_quiet ((go_at_call 171; exact Calls.quiet_of_same (greatest_any _ _)))
 go_wp2
 go_ret
 exact ⟨rfl,below_box⟩
theorem amiss_three (f : Fld) (w : World) (h0 : 0 <= f.n) (h : f.n <= grt f.k) (hs : f.s.size ≠ 0) (hk : f.k = 3) :
  Calls Tryz.prog 146 #[.agg #[.int .i64 f.k,.int .i64 f.n,.string f.s]] w fun e w' => e = .returned (.int .i64 (if 1024 < f.s.size then 22 else 0)) /\ Below w.heap.size w w':=by
 have h1 : decide (f.n < 0) = false:=by simpa using h0
 have h2 : decide (grt f.k < f.n) = false:=by simpa using h
 have h3 : f.s.toList.isEmpty = false:=by
  rw [ByteArray.toList_eq]
  have : 0 < f.s.data.toList.length:=by show 0 < f.s.size; omega
  cases hh : f.s.data.toList with
  | nil => rw [hh] at this; simp at this
  | cons a l => rfl
 have h4 : (f.k != 3) = false:=by simpa using hk
 clear hk hs
 by_cases hl : 1024 < f.s.size
 ·rw [if_pos hl]
  go_enter Tryz.func146,Tryz.ntmps146
  go_wp2
  go_quiet ((go_at_call 171; exact Calls.quiet_of_same (greatest_any _ _)))
  go_wp2
  go_ret
  exact ⟨rfl,below_box⟩
 ·rw [if_neg hl]
  go_enter Tryz.func146,Tryz.ntmps146
  go_wp2
  go_quiet ((go_at_call 171; exact Calls.quiet_of_same (greatest_any _ _)))
  go_wp2
  go_ret
  exact ⟨rfl,below_box⟩
theorem amiss_any (f : Fld) (w : World) :
  Calls Tryz.prog 146 #[.agg #[.int .i64 f.k,.int .i64 f.n,.string f.s]] w fun e w' => e = .returned (.int .i64 (ams f)) /\ Below w.heap.size w w':=by
 by_cases h0 : f.n < 0
 ·have e : ams f = 21:=by unfold ams; rw [if_pos (.inl h0)]
  rw [e]; exact amiss_neg f w h0
 by_cases h1 : grt f.k < f.n
 ·have e : ams f = 21:=by unfold ams; rw [if_pos (.inr (.inl h1))]
  rw [e]; exact amiss_great f w (by omega) h1
 by_cases hs : f.s.size = 0
 ·have e : ams f = 0:=by
   unfold ams
   rw [if_neg (fun h => by rcases h with h | h | h; exact h0 h; exact h1 h; exact h.1 hs),if_neg (by omega)]
  rw [e]; exact amiss_short f w (by omega) (by omega) hs
 by_cases hk : f.k = 3
 ·have e : ams f = if 1024 < f.s.size then 22 else 0:=by
   unfold ams
   rw [if_neg (fun h => by rcases h with h | h | h; exact h0 h; exact h1 h; exact h.2 hk)]
  rw [e]; exact amiss_three f w (by omega) (by omega) hs hk
 ·have e : ams f = 21:=by unfold ams; rw [if_pos (.inr (.inr ⟨hs,hk⟩))]
  rw [e]; exact amiss_text f w (by omega) (by omega) hs hk
end Go.Proofs.YtlppinfjdnhlbaaGreatDoor.Pq
