/-
 What lastView,isLogTo,isPartTo,isMessage and the copy of a log return. Conditions: memory holds the entries; numbers fit.
 What isMessage returns. Conditions: memory holds the entries; numbers fit.
-/
import Derived.Test.YtlppinfjdnhlbaaGreatDoorHd
import Derived.Test.YtlppinfjdnhlbaaGreatDoorORow
import Derived.Test.YtlppinfjdnhlbaaGreatDoorKRight2
namespace Go.Proofs.YtlppinfjdnhlbaaGreatDoor
set_option maxRecDepth 100000
open Go.ChangeShapes Go.WideShapes Go.ChangeAt Go.RowKit Go.Proofs.Rk

theorem infoE : (Tryz.prog.info? 45).map (fun i => (i.zero,i.size,i.bytes)) = some (some (.agg #[.int .i64 0,.int .i64 0,.string ⟨#[]⟩]),3,32):=by kernel_rfl
theorem ecell_one (x : En) : ∀ u ∈ ecell x,u.oneCell' = true:=fun u hu => by
 simp only [ecell,List.mem_cons,List.not_mem_nil,or_false] at hu
 rcases hu with rfl | rfl | rfl <;> rfl
theorem own_setc {w : World} {base e sz n g c : Nat} {xs : List Value} (h : w.ownsRow base e sz (.slice (some ⟨g,0,none⟩) n c) n xs) (k : Nat) (x : Value) : (w.setCell ⟨g,k,none⟩ x).ownsRow base e sz (.slice (some ⟨g,0,none⟩) n c) n (xs.set k x) /\ w.grownBy (w.setCell ⟨g,k,none⟩ x) (some g):=by
 have hg : w.grownBy (w.setCell ⟨g,k,none⟩ x) (some g):=((Wr.refl g w).set k x).gb
 refine ⟨?_,hg⟩
 rcases h.2 with ⟨h0,_⟩ | ⟨g',cap,cur,e1,hbg,hgg,hnc,hcm,hcs,ht⟩
 ·cases h0
 ·simp only [Value.slice.injEq,Option.some.injEq,Addr.mk.injEq] at e1
  obtain ⟨⟨rfl,_⟩,_,rfl⟩:=e1
  refine ⟨by rw [List.length_set]; exact h.1,.inr ⟨g,c,_,rfl,hbg,heap_setCell_same w g k cur e x hgg,hnc,hcm,by simpa using hcs,?_⟩⟩
  rw [Array.toList_setIfInBounds,List.take_set,ht]
theorem ecells_set : ∀ (l : List En) (k : Nat) (x : En) (y : Int),l[k]? = some x -> (l.flatMap ecell).set (k * 3 + 1) (.int .i64 y) = (l.set k ⟨x.v,y,x.b⟩).flatMap ecell
 | [],k,x,y,h => by simp at h
 | a :: l,0,x,y,h => by
  simp at h; subst h; rfl
 | a :: l,k + 1,x,y,h => by
  have ih:=ecells_set l k x y (by simpa using h)
  rw [List.set_cons_succ,List.flatMap_cons,List.flatMap_cons,<- ih,show (k + 1) * 3 + 1 = (ecell a).length + (k * 3 + 1) by show _ = 3 + _; omega,List.set_append_right _ _ (by omega)]
  congr 2
  omega
theorem lastview_any {w : World} {A : Option Addr} {N c : Nat} {l : List En} (h : Rd ecell 3 w A N l) (hn : N <= 9223372036854775807) : Calls Tryz.prog 145 #[.slice A N c] w fun e w' => e = .returned (.int .i64 (lastV l)) /\ w = w':=by
 by_cases h0 : N = 0
 ·subst h0
  have hl : l = []:=List.eq_nil_of_length_eq_zero h.len
  subst hl
  clear h
  go_enter Tryz.func145,Tryz.ntmps145
  go_wp2_with fail
  go_ret
  exact ⟨rfl,rfl⟩
 ·obtain ⟨k,hk⟩ : ∃ k,N = k + 1:=⟨N - 1,by omega⟩
  subst hk
  obtain ⟨b,off,x,rfl,hx,hc⟩:=h.at (Nat.lt_succ_self k)
  have c0 : w.cell? ⟨b,off + k * 3,none⟩ = some (.int .i64 x.v):=hc 0 _ rfl
  have HL : Hid (lastV l = x.v):=hJQ (lastV_get (by rw [h.len]; exact hx))
  obtain ⟨n,hn'⟩ : ∃ n : Nat,n = k + 1:=⟨_,rfl⟩
  rw [<- hn'] at hn h0 ⊢
  have hw : IntKind.i64.wrap ((n : Int) - 1) = (k : Int):=by rw [IntKind.wrap_i64]; omega
  have h1 : (k : Int) < (n : Int):=by omega
  have h2 : (0 : Int) <= (k : Int):=by omega
  have h3 : ¬ (n : Int) = 0:=by omega
  clear h hx hc hn'
  go_enter Tryz.func145,Tryz.ntmps145
  go_wp2_with fail
  go_ret
  exact ⟨ret_i HL.out.symm,rfl⟩
noncomputable def logTo (v : Int) (l : List En) : Bool:=rgtB l && decide (lastV l <= v)
theorem islogto_any {w : World} {A : Option Addr} {N c : Nat} {l : List En} (h : Rd ecell 3 w A N l) (hn : N <= 9223372036854775807) (v : Int) : Calls Tryz.prog 112 #[.int .i64 v,.slice A N c] w fun e w' => e = .returned (.bool (logTo v l)) /\ Below w.heap.size w w':=by
 have HR:=hJQ (right_any (c:=c) h hn)
 have HL:=hJQ (fun W (hW : Below w.heap.size w W) => lastview_any (c:=c) (h.below hW) hn)
 obtain ⟨r,hr⟩ : ∃ r,rgtB l = r:=⟨_,rfl⟩
 obtain ⟨y,hy⟩ : ∃ y,lastV l = y:=⟨_,rfl⟩
 have HE : Hid (logTo v l = (r && decide (y <= v))):=hJQ (by unfold logTo; rw [hr,hy])
 rw [hr] at HR
 rw [hy] at HL
 clear h hr hy
 cases r with
 | false =>
  go_enter Tryz.func112,Tryz.ntmps112
  go_wp2_with fail
  refine HR.out.mono ?_
  rintro e w1 ⟨rfl,hb⟩
  have HB:=hJQ hb
  clear hb
  go_wp2_with fail
  go_ret
  exact ⟨ret_b (by rw [HE.out]; rfl),HB.out⟩
 | true =>
  obtain ⟨t,ht⟩ : ∃ t,decide (y <= v) = t:=⟨_,rfl⟩
  have HT : Hid (logTo v l = t):=hJQ (by rw [HE.out,ht]; rfl)
  go_enter Tryz.func112,Tryz.ntmps112
  go_wp2_with fail
  refine HR.out.mono ?_
  rintro e w1 ⟨rfl,hb⟩
  have HB:=hJQ hb
  clear hb
  go_wp2_with fail
  refine (HL.out w1 HB.out).mono ?_
  rintro e w2 ⟨rfl,hw2⟩
  have HB2 : Hid (Below w.heap.size w w2):=hJQ (by rw [<- hw2]; exact HB.out)
  clear hw2
  go_wp2_with fail
  go_ret
  exact ⟨ret_b HT.out.symm,HB2.out⟩
theorem clone_any {w : World} {A : Option Addr} {N c : Nat} {l : List En} (h : Rd ecell 3 w A N l) (hA : A = none -> c = 0) (hn : N <= 4000000000) : Calls Tryz.prog 60 #[.slice A N c] w fun e w' => ∃ v,e = .returned v /\ w'.ownsRow w.heap.size 45 3 v N (l.flatMap ecell) /\ Below w.heap.size w w':=by
 have HL:=hJQ h.len
 rcases A with _ | ad
 ·have hc:=hA rfl
  subst hc
  have hN : N = 0:=by
   rcases Nat.eq_zero_or_pos N with h0 | h0
   ·exact h0
   ·obtain ⟨b,off,e,_⟩:=h.cells h0; cases e
  subst hN
  have hl : l = []:=List.eq_nil_of_length_eq_zero h.len
  subst hl
  have heq : ∀ W : World,(binOp .eql 32 (.slice none 0 0) (.slice none 0 0)).run Tryz.prog W = .ok (.bool true) W:=fun W => by kernel_rfl
  clear h hA
  go_enter Tryz.func60,Tryz.ntmps60
  go_wp2_with fail
  go_ret
  exact ⟨_,rfl,World.ownsRow_nil _ _ _ _,Below.refl _ _⟩
 ·have heq : ∀ W : World,(binOp .eql 32 (.slice (some ad) N c) (.slice none 0 0)).run Tryz.prog W = .ok (.bool false) W:=fun W => by kernel_rfl
  obtain ⟨i0,hi,hz0,hz1,hz2⟩:=info_parts infoE
  obtain ⟨w1,hw1⟩ : ∃ xx,xx = w.alloc (.cells #[] 45):=⟨_,rfl⟩
  obtain ⟨q,eq⟩ : ∃ xx,xx = w.heap.size:=⟨_,rfl⟩
  have hbw1 : Below w.heap.size w w1:=by rw [hw1]; exact box_below w _
  have hkq : w1.heap[q]? = some (.cells #[] 45 (0,0)):=by rw [hw1,eq]; exact new_block w _
  have HO : Hid (w1.ownsRow w.heap.size 45 3 (.slice (some ⟨q,0,none⟩) 0 0) 0 []):=hJQ (by
   have:=own_new (n:=0) (sz:=3) hkq (Nat.le_of_eq eq.symm) (Nat.zero_le _) rfl
   exact this)
  have HR:=hJQ (h.below hbw1)
  have HB:=hJQ hbw1
  have hsz : w.heap.size <= w1.heap.size:=hbw1.size
  have HW1:=hJQ hw1
  have EQ:=hJQ eq
  clear h hw1 eq hkq hbw1 hA
  go_enter Tryz.func60,Tryz.ntmps60
  go_wp2_with (at_builtin; rw [<- HW1.out,<- EQ.out]; refine wpList_append_rd rfl (.tmp 5) (.tmp 6) 32 rfl w.heap.size 45 i0 _ 3 32 Tryz.underlying32 hi hz0 hz1 hz2 rfl (by decide) _ _ _ rfl HO.out _ _ c l rfl HR.out (fun _ _ => rfl) ecell_one (fun h => by cases h) (by unfold maxLen; omega) (by omega) hsz ?_; intro v2 w2 hown2 hg2)
  have HE : Hid (w2.ownsRow w.heap.size 45 3 v2 N (l.flatMap ecell) /\ Below w.heap.size w w2):=hJQ (by
   rw [Nat.zero_add,List.nil_append] at hown2
   exact ⟨hown2,HB.out.trans (gb_own HO.out hg2 (Nat.le_refl _) hsz)⟩)
  obtain ⟨A2,c2,rfl,-,-,-⟩:=own_form hown2
  clear hown2 hg2
  go_wp2_with fail
  go_ret
  exact ⟨_,rfl,HE.out.1,HE.out.2⟩
noncomputable def partTo (v a : Int) (l : List En) : Bool:=decide (0 <= a) && decide ((l.length : Int) <= 150 - a) && logTo v (l.map (down a))
theorem part_next {l : List En} {a : Int} {j : Nat} {x : En} (hx : l[j]? = some x) : ((l.take j).map (down a) ++ l.drop j).set j (down a x) = (l.take (j + 1)).map (down a) ++ l.drop (j + 1):=by
 have hj:=(List.getElem?_eq_some_iff.1 hx).1
 have e : l[j] = x:=by rw [List.getElem?_eq_getElem hj] at hx; injection hx
 rw [List.take_succ_eq_append_getElem hj,List.map_append,List.drop_eq_getElem_cons hj,List.set_append_right _ _ (by simp; omega),e]
 simp [List.length_take,Nat.min_eq_left (Nat.le_of_lt hj)]
theorem part_at2 {l : List En} {a : Int} {j : Nat} {x : En} (hx : l[j]? = some x) : ((l.take j).map (down a) ++ l.drop j)[j]? = some x:=by
 have hj:=(List.getElem?_eq_some_iff.1 hx).1
 rw [List.getElem?_append_right (by simp; omega)]
 simp [List.length_take,Nat.min_eq_left (Nat.le_of_lt hj),hx]
set_option maxHeartbeats 1000000 in
theorem isparto_any {w : World} {A : Option Addr} {N c : Nat} {l : List En} (h : Rd ecell 3 w A N l) (hA : A = none -> c = 0) (hn : N <= 4000000000) (v a : Int) (h63 : a <= 9223372036854775807) : Calls Tryz.prog 113 #[.int .i64 v,.int .i64 a,.slice A N c] w fun e w' => e = .returned (.bool (partTo v a l)) /\ Below w.heap.size w w':=by
 have hl:=h.len
 by_cases ha : a < 0
 ·have HE : Hid (partTo v a l = false):=hJQ (by unfold partTo; rw [decide_eq_false (by omega)]; rfl)
  have hd : decide (a < 0) = true:=by simpa using ha
  clear h hA
  go_enter Tryz.func113,Tryz.ntmps113
  go_wp2_with fail
  go_ret
  exact ⟨ret_b HE.out.symm,Below.refl _ _⟩
 have hd : decide (a < 0) = false:=by simpa using ha
 by_cases hg : 150 - a < (N : Int)
 ·have HE : Hid (partTo v a l = false):=hJQ (by unfold partTo; rw [decide_eq_false (p:=(l.length : Int) <= 150 - a) (by omega)]; simp)
  have hw : IntKind.i64.wrap (150 - a) = 150 - a:=by rw [IntKind.wrap_i64]; omega
  clear h hA
  go_enter Tryz.func113,Tryz.ntmps113
  go_wp2_with fail
  go_ret
  exact ⟨ret_b HE.out.symm,Below.refl _ _⟩
 ·have hw : IntKind.i64.wrap (150 - a) = 150 - a:=by rw [IntKind.wrap_i64]; omega
  have HE : Hid (partTo v a l = logTo v (l.map (down a))):=hJQ (by unfold partTo; rw [decide_eq_true (by omega),decide_eq_true (by omega)]; rfl)
  have HC:=hJQ (clone_any h hA hn)
  have HL:=hJQ hl
  clear h hA hl
  go_enter Tryz.func113,Tryz.ntmps113
  go_wp2_with fail
  refine HC.out.mono ?_
  rintro e w1 ⟨u,rfl,ho1,hb1⟩
  obtain ⟨A2,c2,rfl,-,-,hg2⟩:=own_form ho1
  have HO1 : Hid (w1.ownsRow w.heap.size 45 3 (.slice A2 N c2) N (((l.take 0).map (down a) ++ l.drop 0).flatMap ecell)):=hJQ ho1
  have HB1:=hJQ hb1
  have HG:=hJQ hg2
  clear ho1 hb1 hg2
  go_wp2_with fail
  go_loopw [22] (fun i wr => ∃ j : Nat,j <= N /\ i = .int .i64 j /\ Hid (wr.ownsRow w.heap.size 45 3 (.slice A2 N c2) N (((l.take j).map (down a) ++ l.drop j).flatMap ecell)) /\ Hid (Below w.heap.size w wr)) (fun i _ => N - (intOf i).toNat)
  case atStart => exact ⟨0,Nat.zero_le _,rfl,HO1,HB1⟩
  case round =>
   obtain ⟨j,hj,rfl,HO,HX⟩:=hrel
   by_cases hlt : j < N
   ·obtain ⟨g,rfl⟩:=HG.out (by omega)
    obtain ⟨x,hx⟩ : ∃ x,l[j]? = some x:=⟨_,List.getElem?_eq_getElem (by rw [HL.out]; exact hlt)⟩
    obtain ⟨y,hy⟩ : ∃ y,IntKind.i64.wrap (x.n - a) = y:=⟨_,rfl⟩
    have hsp:=own_setc HO.out (j * 3 + 1) (.int .i64 y)
    rw [ecells_set _ j x _ (part_at2 hx)] at hsp
    have hnx : ((l.take j).map (down a) ++ l.drop j).set j ⟨x.v,y,x.b⟩ = (l.take (j + 1)).map (down a) ++ l.drop (j + 1):=by rw [<- hy]; exact part_next hx
    rw [hnx] at hsp
    have hc1 : wr.cell? ⟨g,j * 3 + 1,none⟩ = some (.int .i64 x.n):=by
     have:=part_get ecell 3 ((l.take j).map (down a) ++ l.drop j) j (by rw [List.length_append,List.length_map,List.length_take,List.length_drop,HL.out]; omega) (fun _ _ => rfl) 1 (by decide)
     have hx2:=part_at2 (a:=a) hx
     rw [List.getElem?_eq_getElem (by rw [List.length_append,List.length_map,List.length_take,List.length_drop,HL.out]; omega)] at hx2
     injection hx2 with hx2
     rw [hx2] at this
     exact own_cell HO.out _ _ this
    have hf1 : wr.frozen? ⟨g,j * 3 + 1,none⟩ = false:=by
     rcases HO.out.2 with ⟨h0,_⟩ | ⟨g',cap,cur,e1,hbg,hgg,_⟩
     ·cases h0
     ·simp only [Value.slice.injEq,Option.some.injEq,Addr.mk.injEq] at e1
      obtain ⟨⟨rfl,_⟩,_,rfl⟩:=e1
      exact frozen_of_row wr g _ _ _ hgg
    have hge : w.heap.size <= g:=own_ge HO.out g rfl
    have HS : Hid ((wr.setCell ⟨g,j * 3 + 1,none⟩ (.int .i64 y)).ownsRow w.heap.size 45 3 (.slice (some ⟨g,0,none⟩) N c2) N (((l.take (j + 1)).map (down a) ++ l.drop (j + 1)).flatMap ecell) /\ Below w.heap.size w (wr.setCell ⟨g,j * 3 + 1,none⟩ (.int .i64 y))):=hJQ ⟨hsp.1,HX.out.trans (gb_to hsp.2 hge HX.out.size)⟩
    have hji : (j : Int) < (N : Int):=by omega
    have hj0 : (0 : Int) <= (j : Int):=by omega
    have hwj : IntKind.i64.wrap ((j : Int) + 1) = (j : Int) + 1:=by rw [IntKind.wrap_i64]; omega
    clear hsp hnx hx hge
    go_wp2_with fail
    go_roundw
    case rel => exact ⟨j + 1,hlt,by go_num,hJQ HS.out.1,hJQ HS.out.2⟩
    case measure => simp [intOf]; omega
   ·obtain rfl : j = N:=by omega
    have hji : ¬ (j : Int) < (j : Int):=by omega
    have ho:=HO.out
    have HLL : Hid (l.length = j):=HL
    rw [List.take_of_length_le (Nat.le_of_eq HL.out),List.drop_eq_nil_of_le (Nat.le_of_eq HL.out),List.append_nil] at ho
    have HIL:=hJQ (islogto_any (c:=c2) (Rd.of_own ho (fun _ _ => rfl) (by decide)) (by omega) v)
    clear ho
    go_wp2_with fail
    refine HIL.out.mono ?_
    rintro e w9 ⟨rfl,hb9⟩
    have HB9 : Hid (Below w.heap.size w w9):=hJQ (HX.out.trans (hb9.mono HX.out.size))
    obtain ⟨t,ht⟩ : ∃ t,logTo v (l.map (down a)) = t:=⟨_,rfl⟩
    have HT : Hid (partTo v a l = t):=hJQ (HE.out.trans ht)
    rw [ht]
    clear hb9 ht
    go_wp2_with fail
    go_ret
    exact ⟨ret_b HT.out.symm,HB9.out⟩
open Go.ChangeShapes Go.WideShapes Go.ChangeAt Go.RowKit Go.Proofs.Rk

open Classical in
noncomputable def msB (m : Ms) : Bool:=decide (MsOk m)
theorem msB_yes {m : Ms} (h : MsOk m) : msB m = true:=by unfold msB; simp [h]
theorem msB_no {m : Ms} (h : ¬ MsOk m) : msB m = false:=by unfold msB; simp [h]
theorem logTo_iff {v : Int} {l : List En} (h0 : 0 <= v) (h1 : v <= 4611686018427387904) : logTo v l = true ↔ Rw 0 v l:=by
 rw [row_right h0 h1]
 unfold logTo
 rw [Bool.and_eq_true,rgtB_iff,decide_eq_true_eq]
theorem partTo_iff {v a : Int} {l : List En} (h0 : 1 <= v) (h1 : v <= 4611686018427387904) (hn : In64 l) : partTo v a l = true ↔ 0 <= a /\ a <= 150 /\ Rw a v l:=by
 unfold partTo
 rw [Bool.and_eq_true,Bool.and_eq_true,decide_eq_true_eq,decide_eq_true_eq,logTo_iff (by omega) h1]
 constructor
 ·rintro ⟨⟨h2,h3⟩,h4⟩
  have h5 : a <= 150:=by omega
  exact ⟨h2,h5,(part_right h2 h5 (by omega) h1 hn).2 ⟨h3,h4⟩⟩
 ·rintro ⟨h2,h3,h4⟩
  obtain ⟨h5,h6⟩:=(part_right h2 h3 (by omega) h1 hn).1 h4
  exact ⟨⟨h2,h5⟩,h6⟩
theorem msv_no {m : Ms} (h : ¬ (1 <= m.v /\ m.v <= 4611686018427387904)) : msB m = false:=msB_no (fun hh => h ⟨hh.1,hh.2.1⟩)
section
variable {v m n : Int} {l : List En} (h0 : 1 <= v) (h1 : v <= 4611686018427387904)
include h0 h1
theorem ms1 : MsOk ⟨1,v,m,n,l⟩ ↔ m = 0 /\ n = 0 /\ l = []:=by
 unfold MsOk big
 simp only
 constructor
 ·rintro ⟨-,-,-,-,-,-,⟨h,_⟩ | ⟨hm,⟨-,hn,hl⟩ | ⟨h,_⟩ | ⟨h,_⟩ | ⟨h | h,_⟩⟩⟩
  ·omega
  ·exact ⟨hm,hn,hl⟩
  all_goals omega
 ·rintro ⟨rfl,rfl,rfl⟩
  exact ⟨h0,h1,by omega,by omega,by omega,by omega,.inr ⟨rfl,.inl ⟨by trivial,rfl,rfl⟩⟩⟩
theorem ms2 : MsOk ⟨2,v,m,n,l⟩ ↔ 0 <= m /\ m < v /\ n = 0 /\ logTo m l = true:=by
 unfold MsOk big
 simp only
 constructor
 ·rintro ⟨-,-,hm0,hm1,-,-,⟨h,hn,hr⟩ | ⟨hm,⟨h,_⟩ | ⟨h,_⟩ | ⟨h,_⟩ | ⟨h | h,_⟩⟩⟩
  ·exact ⟨hm0,hm1,hn,(logTo_iff hm0 (by omega)).2 hr⟩
  all_goals omega
 ·rintro ⟨hm0,hm1,rfl,hr⟩
  exact ⟨h0,h1,hm0,hm1,by omega,by omega,.inl ⟨by trivial,rfl,(logTo_iff hm0 (by omega)).1 hr⟩⟩
theorem ms3 : MsOk ⟨3,v,m,n,l⟩ ↔ m = 0 /\ n = 0 /\ logTo (v - 1) l = true:=by
 unfold MsOk big
 simp only
 constructor
 ·rintro ⟨-,-,-,-,-,-,⟨h,_⟩ | ⟨hm,⟨h,_⟩ | ⟨-,hn,hr⟩ | ⟨h,_⟩ | ⟨h | h,_⟩⟩⟩
  ·omega
  ·omega
  ·exact ⟨hm,hn,(logTo_iff (by omega) (by omega)).2 hr⟩
  all_goals omega
 ·rintro ⟨rfl,rfl,hr⟩
  exact ⟨h0,h1,by omega,by omega,by omega,by omega,.inr ⟨rfl,.inr (.inl ⟨by trivial,rfl,(logTo_iff (by omega) (by omega)).1 hr⟩)⟩⟩
theorem ms4 (hn : In64 l) : MsOk ⟨4,v,m,n,l⟩ ↔ m = 0 /\ partTo v n l = true:=by
 rw [partTo_iff h0 h1 hn]
 unfold MsOk big
 simp only
 constructor
 ·rintro ⟨-,-,-,-,hn0,hn1,⟨h,_⟩ | ⟨hm,⟨h,_⟩ | ⟨h,_⟩ | ⟨-,hr⟩ | ⟨h | h,_⟩⟩⟩
  ·omega
  ·omega
  ·omega
  ·exact ⟨hm,hn0,hn1,hr⟩
  all_goals omega
 ·rintro ⟨rfl,hn0,hn1,hr⟩
  exact ⟨h0,h1,by omega,by omega,hn0,hn1,.inr ⟨rfl,.inr (.inr (.inl ⟨by trivial,hr⟩))⟩⟩
theorem ms56 {k : Int} (hk : k = 5 ∨ k = 6) : MsOk ⟨k,v,m,n,l⟩ ↔ m = 0 /\ 0 <= n /\ n <= 150 /\ l = []:=by
 unfold MsOk big
 simp only
 constructor
 ·rintro ⟨-,-,-,-,hn0,hn1,⟨h,_⟩ | ⟨hm,⟨h,_⟩ | ⟨h,_⟩ | ⟨h,_⟩ | ⟨-,hl⟩⟩⟩
  ·omega
  ·omega
  ·omega
  ·omega
  ·exact ⟨hm,hn0,hn1,hl⟩
 ·rintro ⟨rfl,hn0,hn1,rfl⟩
  exact ⟨h0,h1,by omega,by omega,hn0,hn1,.inr ⟨rfl,.inr (.inr (.inr ⟨hk,rfl⟩))⟩⟩
end
theorem ms_none {k v m n : Int} {l : List En} (h : k < 1 ∨ 6 < k) : ¬ MsOk ⟨k,v,m,n,l⟩:=by
 unfold MsOk big
 simp only
 rintro ⟨-,-,-,-,-,-,⟨h,_⟩ | ⟨hm,⟨h,_⟩ | ⟨h,_⟩ | ⟨h,_⟩ | ⟨h | h,_⟩⟩⟩
 all_goals omega
set_option maxHeartbeats 4000000 in
theorem ismsg_any {w : World} {A : Option Addr} {N c : Nat} {l : List En} (h : Rd ecell 3 w A N l) (hA : A = none -> c = 0) (hn : N <= 4000000000) (hi : In64 l) (k v m n : Int) (h63 : n <= 9223372036854775807) :
  Calls Tryz.prog 65 #[.agg #[.int .i64 k,.int .i64 v,.int .i64 m,.int .i64 n,.slice A N c]] w fun e w' => e = .returned (.bool (msB ⟨k,v,m,n,l⟩)) /\ Below w.heap.size w w':=by
 obtain ⟨w1,hw1⟩ : ∃ xx,xx = w.alloc (.cells #[.int .i64 k,.int .i64 v,.int .i64 m,.int .i64 n,.slice A N c] 69):=⟨_,rfl⟩
 obtain ⟨q,eq⟩ : ∃ xx,xx = w.heap.size:=⟨_,rfl⟩
 have hbw1 : Below w.heap.size w w1:=by rw [hw1]; exact box_below w _
 have hkq : w1.heap[q]? = some (.cells #[.int .i64 k,.int .i64 v,.int .i64 m,.int .i64 n,.slice A N c] 69 (0,0)):=by rw [hw1,eq]; exact new_block w _
 have HR:=hJQ (h.below hbw1)
 have HL:=hJQ h.len
 have HI:=hJQ hi
 have HA:=hJQ hA
 have HB1:=hJQ hbw1
 have HW1:=hJQ hw1
 have EQ:=hJQ eq
 have q0:=cell_of hkq (j:=0) rfl
 have q1:=cell_of hkq (j:=1) rfl
 have q2:=cell_of hkq (j:=2) rfl
 have q3:=cell_of hkq (j:=3) rfl
 have q4:=cell_of hkq (j:=4) rfl
 have hl0 : l = [] ↔ N = 0:=⟨fun e => by rw [<- h.len,e]; rfl,fun e => List.eq_nil_of_length_eq_zero (by rw [h.len]; exact e)⟩
 have HLN:=hJQ hl0
 obtain ⟨R,hR⟩ : ∃ R,msB ⟨k,v,m,n,l⟩ = R:=⟨_,rfl⟩
 have HRR:=hJQ hR
 rw [hR]
 clear h hi hA hw1 eq hkq hbw1 hl0 hR
 by_cases hv1 : v < 1
 ·have HE : Hid (R = false):=hJQ (by rw [<- HRR.out]; exact msv_no (by simp only; omega))
  go_enter Tryz.func65,Tryz.ntmps65
  go_upto_region 1 with fail
  rw [<- HW1.out,<- EQ.out]
  go_wp2_with fail
  go_ret
  exact ⟨ret_b (by first | exact HE.out.symm | (rw [HE.out]; simp; omega)),HB1.out⟩
 by_cases hv2 : 4611686018427387904 < v
 ·have HE : Hid (R = false):=hJQ (by rw [<- HRR.out]; exact msv_no (by simp only; omega))
  go_enter Tryz.func65,Tryz.ntmps65
  go_upto_region 1 with fail
  rw [<- HW1.out,<- EQ.out]
  go_wp2_with fail
  go_ret
  exact ⟨ret_b (by first | exact HE.out.symm | (rw [HE.out]; simp; omega)),HB1.out⟩
 have h0 : 1 <= v:=by omega
 have h1 : v <= 4611686018427387904:=by omega
 by_cases hk : k = 1
 ·subst hk
  by_cases a1 : m = 0
  ·by_cases a2 : n = 0
   ·by_cases a3 : (N : Int) = 0
    ·have HE : Hid (R = true):=hJQ (by rw [<- HRR.out]; exact msB_yes ((ms1 h0 h1).2 ⟨a1,a2,(HLN.out.2 (by omega))⟩))
     have Ha1:=hJQ a1
     have Ha2:=hJQ a2
     have Ha3:=hJQ a3
     clear a1 a2 a3
     go_enter Tryz.func65,Tryz.ntmps65
     go_upto_region 1 with fail
     rw [<- HW1.out,<- EQ.out]
     have a1:=Ha1.out
     have a2:=Ha2.out
     have a3:=Ha3.out
     go_wp2_with fail
     go_ret
     exact ⟨ret_b (by first | exact HE.out.symm | (rw [HE.out]; simp; omega)),HB1.out⟩
    ·have HE : Hid (R = false):=hJQ (by rw [<- HRR.out]; exact msB_no (fun hh => by have:=(ms1 h0 h1).1 hh; have h9:=HLN.out.1 this.2.2; omega))
     have Ha1:=hJQ a1
     have Ha2:=hJQ a2
     clear a1 a2
     go_enter Tryz.func65,Tryz.ntmps65
     go_upto_region 1 with fail
     rw [<- HW1.out,<- EQ.out]
     have a1:=Ha1.out
     have a2:=Ha2.out
     go_wp2_with fail
     go_ret
     exact ⟨ret_b (by first | exact HE.out.symm | (rw [HE.out]; simp; omega)),HB1.out⟩
   ·have HE : Hid (R = false):=hJQ (by rw [<- HRR.out]; exact msB_no (fun hh => by have:=(ms1 h0 h1).1 hh; simp_all))
    have Ha1:=hJQ a1
    clear a1
    go_enter Tryz.func65,Tryz.ntmps65
    go_upto_region 1 with fail
    rw [<- HW1.out,<- EQ.out]
    have a1:=Ha1.out
    go_wp2_with fail
    go_ret
    exact ⟨ret_b (by first | exact HE.out.symm | (rw [HE.out]; simp; omega)),HB1.out⟩
  ·have HE : Hid (R = false):=hJQ (by rw [<- HRR.out]; exact msB_no (fun hh => by have:=(ms1 h0 h1).1 hh; simp_all))
   go_enter Tryz.func65,Tryz.ntmps65
   go_upto_region 1 with fail
   rw [<- HW1.out,<- EQ.out]
   go_wp2_with fail
   go_ret
   exact ⟨ret_b (by first | exact HE.out.symm | (rw [HE.out]; simp; omega)),HB1.out⟩
 by_cases hk : k = 2
 ·subst hk
  by_cases a1 : 0 <= m
  ·by_cases a2 : m < v
   ·by_cases a3 : n = 0
    ·obtain ⟨t,ht⟩ : ∃ t,logTo m l = t:=⟨_,rfl⟩
     have HE : Hid (R = t):=hJQ (by
      rw [<- HRR.out]
      cases t with
      | true => exact msB_yes ((ms2 h0 h1).2 ⟨a1,a2,a3,ht⟩)
      | false => exact msB_no (fun hh => by have:=(ms2 h0 h1).1 hh; simp_all))
     have HC:=hJQ (islogto_any (c:=c) HR.out (by omega) m)
     rw [ht] at HC
     have Ha3:=hJQ a3
     clear a3
     go_enter Tryz.func65,Tryz.ntmps65
     go_upto_region 1 with fail
     rw [<- HW1.out,<- EQ.out]
     have a3:=Ha3.out
     go_wp2_with fail
     refine HC.out.mono ?_
     rintro e w2 ⟨rfl,hb2⟩
     have HB2 : Hid (Below w.heap.size w w2):=hJQ (HB1.out.trans (hb2.mono HB1.out.size))
     clear hb2
     go_wp2_with fail
     go_ret
     exact ⟨ret_b HE.out.symm,HB2.out⟩
    ·have HE : Hid (R = false):=hJQ (by rw [<- HRR.out]; exact msB_no (fun hh => by have:=(ms2 h0 h1).1 hh; simp_all))
     go_enter Tryz.func65,Tryz.ntmps65
     go_upto_region 1 with fail
     rw [<- HW1.out,<- EQ.out]
     go_wp2_with fail
     go_ret
     exact ⟨ret_b (by first | exact HE.out.symm | (rw [HE.out]; simp; omega)),HB1.out⟩
   ·have HE : Hid (R = false):=hJQ (by rw [<- HRR.out]; exact msB_no (fun hh => by have:=(ms2 h0 h1).1 hh; omega))
    go_enter Tryz.func65,Tryz.ntmps65
    go_upto_region 1 with fail
    rw [<- HW1.out,<- EQ.out]
    go_wp2_with fail
    go_ret
    exact ⟨ret_b (by first | exact HE.out.symm | (rw [HE.out]; simp; omega)),HB1.out⟩
  ·have HE : Hid (R = false):=hJQ (by rw [<- HRR.out]; exact msB_no (fun hh => by have:=(ms2 h0 h1).1 hh; omega))
   go_enter Tryz.func65,Tryz.ntmps65
   go_upto_region 1 with fail
   rw [<- HW1.out,<- EQ.out]
   go_wp2_with fail
   go_ret
   exact ⟨ret_b (by first | exact HE.out.symm | (rw [HE.out]; simp; omega)),HB1.out⟩
 by_cases hk : k = 3
 ·subst hk
  by_cases a1 : m = 0
  ·by_cases a2 : n = 0
   ·obtain ⟨t,ht⟩ : ∃ t,logTo (v - 1) l = t:=⟨_,rfl⟩
    have HE : Hid (R = t):=hJQ (by
     rw [<- HRR.out]
     cases t with
     | true => exact msB_yes ((ms3 h0 h1).2 ⟨a1,a2,ht⟩)
     | false => exact msB_no (fun hh => by have:=(ms3 h0 h1).1 hh; simp_all))
    have hwv : IntKind.i64.wrap (v - 1) = v - 1:=by rw [IntKind.wrap_i64]; omega
    have HC:=hJQ (islogto_any (c:=c) HR.out (by omega) (v - 1))
    rw [ht] at HC
    have Ha1:=hJQ a1
    have Ha2:=hJQ a2
    clear a1 a2
    go_enter Tryz.func65,Tryz.ntmps65
    go_upto_region 1 with fail
    rw [<- HW1.out,<- EQ.out]
    have a1:=Ha1.out
    have a2:=Ha2.out
    go_wp2_with fail
    refine HC.out.mono ?_
    rintro e w2 ⟨rfl,hb2⟩
    have HB2 : Hid (Below w.heap.size w w2):=hJQ (HB1.out.trans (hb2.mono HB1.out.size))
    clear hb2
    go_wp2_with fail
    go_ret
    exact ⟨ret_b HE.out.symm,HB2.out⟩
   ·have HE : Hid (R = false):=hJQ (by rw [<- HRR.out]; exact msB_no (fun hh => by have:=(ms3 h0 h1).1 hh; simp_all))
    have Ha1:=hJQ a1
    clear a1
    go_enter Tryz.func65,Tryz.ntmps65
    go_upto_region 1 with fail
    rw [<- HW1.out,<- EQ.out]
    have a1:=Ha1.out
    go_wp2_with fail
    go_ret
    exact ⟨ret_b (by first | exact HE.out.symm | (rw [HE.out]; simp; omega)),HB1.out⟩
  ·have HE : Hid (R = false):=hJQ (by rw [<- HRR.out]; exact msB_no (fun hh => by have:=(ms3 h0 h1).1 hh; simp_all))
   go_enter Tryz.func65,Tryz.ntmps65
   go_upto_region 1 with fail
   rw [<- HW1.out,<- EQ.out]
   go_wp2_with fail
   go_ret
   exact ⟨ret_b (by first | exact HE.out.symm | (rw [HE.out]; simp; omega)),HB1.out⟩
 by_cases hk : k = 4
 ·subst hk
  by_cases a1 : m = 0
  ·obtain ⟨t,ht⟩ : ∃ t,partTo v n l = t:=⟨_,rfl⟩
   have HE : Hid (R = t):=hJQ (by
    rw [<- HRR.out]
    cases t with
    | true => exact msB_yes ((ms4 h0 h1 HI.out).2 ⟨a1,ht⟩)
    | false => exact msB_no (fun hh => by have:=(ms4 h0 h1 HI.out).1 hh; simp_all))
   have HC:=hJQ (isparto_any (c:=c) HR.out HA.out hn v n h63)
   rw [ht] at HC
   have Ha1:=hJQ a1
   clear a1
   go_enter Tryz.func65,Tryz.ntmps65
   go_upto_region 1 with fail
   rw [<- HW1.out,<- EQ.out]
   have a1:=Ha1.out
   go_wp2_with fail
   refine HC.out.mono ?_
   rintro e w2 ⟨rfl,hb2⟩
   have HB2 : Hid (Below w.heap.size w w2):=hJQ (HB1.out.trans (hb2.mono HB1.out.size))
   clear hb2
   go_wp2_with fail
   go_ret
   exact ⟨ret_b HE.out.symm,HB2.out⟩
  ·have HE : Hid (R = false):=hJQ (by rw [<- HRR.out]; exact msB_no (fun hh => by have:=(ms4 h0 h1 HI.out).1 hh; simp_all))
   go_enter Tryz.func65,Tryz.ntmps65
   go_upto_region 1 with fail
   rw [<- HW1.out,<- EQ.out]
   go_wp2_with fail
   go_ret
   exact ⟨ret_b (by first | exact HE.out.symm | (rw [HE.out]; simp; omega)),HB1.out⟩
 by_cases hk : k = 5
 ·subst hk
  by_cases a1 : m = 0
  ·by_cases a2 : 0 <= n
   ·by_cases a3 : n <= 150
    ·by_cases a4 : (N : Int) = 0
     ·have HE : Hid (R = true):=hJQ (by rw [<- HRR.out]; exact msB_yes ((ms56 h0 h1 (by omega)).2 ⟨a1,a2,a3,(HLN.out.2 (by omega))⟩))
      have Ha1:=hJQ a1
      have Ha4:=hJQ a4
      clear a1 a4
      go_enter Tryz.func65,Tryz.ntmps65
      go_upto_region 1 with fail
      rw [<- HW1.out,<- EQ.out]
      have a1:=Ha1.out
      have a4:=Ha4.out
      go_wp2_with fail
      go_ret
      exact ⟨ret_b (by first | exact HE.out.symm | (rw [HE.out]; simp; omega)),HB1.out⟩
     ·have HE : Hid (R = false):=hJQ (by rw [<- HRR.out]; exact msB_no (fun hh => by have:=(ms56 h0 h1 (by omega)).1 hh; have h9:=HLN.out.1 this.2.2.2; omega))
      have Ha1:=hJQ a1
      clear a1
      go_enter Tryz.func65,Tryz.ntmps65
      go_upto_region 1 with fail
      rw [<- HW1.out,<- EQ.out]
      have a1:=Ha1.out
      go_wp2_with fail
      go_ret
      exact ⟨ret_b (by first | exact HE.out.symm | (rw [HE.out]; simp; omega)),HB1.out⟩
    ·have HE : Hid (R = false):=hJQ (by rw [<- HRR.out]; exact msB_no (fun hh => by have:=(ms56 h0 h1 (by omega)).1 hh; omega))
     have Ha1:=hJQ a1
     clear a1
     go_enter Tryz.func65,Tryz.ntmps65
     go_upto_region 1 with fail
     rw [<- HW1.out,<- EQ.out]
     have a1:=Ha1.out
     go_wp2_with fail
     go_ret
     exact ⟨ret_b (by first | exact HE.out.symm | (rw [HE.out]; simp; omega)),HB1.out⟩
   ·have HE : Hid (R = false):=hJQ (by rw [<- HRR.out]; exact msB_no (fun hh => by have:=(ms56 h0 h1 (by omega)).1 hh; omega))
    have Ha1:=hJQ a1
    clear a1
    go_enter Tryz.func65,Tryz.ntmps65
    go_upto_region 1 with fail
    rw [<- HW1.out,<- EQ.out]
    have a1:=Ha1.out
    go_wp2_with fail
    go_ret
    exact ⟨ret_b (by first | exact HE.out.symm | (rw [HE.out]; simp; omega)),HB1.out⟩
  ·have HE : Hid (R = false):=hJQ (by rw [<- HRR.out]; exact msB_no (fun hh => by have:=(ms56 h0 h1 (by omega)).1 hh; simp_all))
   go_enter Tryz.func65,Tryz.ntmps65
   go_upto_region 1 with fail
   rw [<- HW1.out,<- EQ.out]
   go_wp2_with fail
   go_ret
   exact ⟨ret_b (by first | exact HE.out.symm | (rw [HE.out]; simp; omega)),HB1.out⟩
 by_cases hk : k = 6
 ·subst hk
  by_cases a1 : m = 0
  ·by_cases a2 : 0 <= n
   ·by_cases a3 : n <= 150
    ·by_cases a4 : (N : Int) = 0
     ·have HE : Hid (R = true):=hJQ (by rw [<- HRR.out]; exact msB_yes ((ms56 h0 h1 (by omega)).2 ⟨a1,a2,a3,(HLN.out.2 (by omega))⟩))
      have Ha1:=hJQ a1
      have Ha4:=hJQ a4
      clear a1 a4
      go_enter Tryz.func65,Tryz.ntmps65
      go_upto_region 1 with fail
      rw [<- HW1.out,<- EQ.out]
      have a1:=Ha1.out
      have a4:=Ha4.out
      go_wp2_with fail
      go_ret
      exact ⟨ret_b (by first | exact HE.out.symm | (rw [HE.out]; simp; omega)),HB1.out⟩
     ·have HE : Hid (R = false):=hJQ (by rw [<- HRR.out]; exact msB_no (fun hh => by have:=(ms56 h0 h1 (by omega)).1 hh; have h9:=HLN.out.1 this.2.2.2; omega))
      have Ha1:=hJQ a1
      clear a1
      go_enter Tryz.func65,Tryz.ntmps65
      go_upto_region 1 with fail
      rw [<- HW1.out,<- EQ.out]
      have a1:=Ha1.out
      go_wp2_with fail
      go_ret
      exact ⟨ret_b (by first | exact HE.out.symm | (rw [HE.out]; simp; omega)),HB1.out⟩
    ·have HE : Hid (R = false):=hJQ (by rw [<- HRR.out]; exact msB_no (fun hh => by have:=(ms56 h0 h1 (by omega)).1 hh; omega))
     have Ha1:=hJQ a1
     clear a1
     go_enter Tryz.func65,Tryz.ntmps65
     go_upto_region 1 with fail
     rw [<- HW1.out,<- EQ.out]
     have a1:=Ha1.out
     go_wp2_with fail
     go_ret
     exact ⟨ret_b (by first | exact HE.out.symm | (rw [HE.out]; simp; omega)),HB1.out⟩
   ·have HE : Hid (R = false):=hJQ (by rw [<- HRR.out]; exact msB_no (fun hh => by have:=(ms56 h0 h1 (by omega)).1 hh; omega))
    have Ha1:=hJQ a1
    clear a1
    go_enter Tryz.func65,Tryz.ntmps65
    go_upto_region 1 with fail
    rw [<- HW1.out,<- EQ.out]
    have a1:=Ha1.out
    go_wp2_with fail
    go_ret
    exact ⟨ret_b (by first | exact HE.out.symm | (rw [HE.out]; simp; omega)),HB1.out⟩
  ·have HE : Hid (R = false):=hJQ (by rw [<- HRR.out]; exact msB_no (fun hh => by have:=(ms56 h0 h1 (by omega)).1 hh; simp_all))
   go_enter Tryz.func65,Tryz.ntmps65
   go_upto_region 1 with fail
   rw [<- HW1.out,<- EQ.out]
   go_wp2_with fail
   go_ret
   exact ⟨ret_b (by first | exact HE.out.symm | (rw [HE.out]; simp; omega)),HB1.out⟩
 have HE : Hid (R = false):=hJQ (by rw [<- HRR.out]; exact msB_no (ms_none (by omega)))
 go_enter Tryz.func65,Tryz.ntmps65
 go_upto_region 1 with fail
 rw [<- HW1.out,<- EQ.out]
 go_wp2_with fail
 go_ret
 exact ⟨ret_b (by first | exact HE.out.symm | (rw [HE.out]; simp; omega)),HB1.out⟩
end Go.Proofs.YtlppinfjdnhlbaaGreatDoor
