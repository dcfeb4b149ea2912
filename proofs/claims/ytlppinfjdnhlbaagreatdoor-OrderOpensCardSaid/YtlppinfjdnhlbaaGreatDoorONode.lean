/-
 A node in memory,and the methods that tell of it alone. Condition: the node lies there.
-/
import Derived.Test.YtlppinfjdnhlbaaGreatDoorHd
import Derived.Test.YtlppinfjdnhlbaaGreatDoorOOpen
import Derived.Test.YtlppinfjdnhlbaaGreatDoorOMath
namespace Go.Proofs.YtlppinfjdnhlbaaGreatDoor
set_option maxRecDepth 100000
open Go.ChangeShapes Go.WideShapes Go.ChangeAt Go.RowKit Go.Proofs.Rk
open Pq (Fld FReads errL bytL fcs)
open Gq (Bz Mine PL PDisk Kp Kl Lg Dk)

def pkt (self : Nat) (x : Nat × Ms) : List Value:=[.int .i64 (self : Int),.int .i64 (x.1 : Int),.string (strOfNums (enM x.2))]
def rgc (jp : Nat -> Value) (r : Rg) : List Value:=(List.range 7).map jp ++ ([.bool r.st,.int .i64 (r.bg : Int)] ++ ((List.range 7).map (fun i => .bool (r.he i)) ++ (List.range 7).map (fun i => .int .i64 (r.ak i))))
def JnW (w : World) (z : Nat -> Prop) (v : Value) : Option (Int × List En) -> Prop
 | none => v = .pointer none
 | some j => ∃ b k vw num lv,v = .pointer (some ⟨b,0,none⟩) /\ w.heap[b]? = some (.cells #[k,vw,.int .i64 j.1,num,lv] 69 (0,0)) /\ w.ownsRow 0 45 3 lv j.2.length (j.2.flatMap ecell) /\ Mine ⟨0,z⟩ lv /\ ¬ z b
def RgW (w : World) (z : Nat -> Prop) (rp : Value) : Option Rg -> Prop
 | none => rp = .pointer none
 | some r => ∃ b jp,rp = .pointer (some ⟨b,0,none⟩) /\ w.heap[b]? = some (.cells (rgc jp r).toArray 111 (0,0)) /\ ¬ z b /\ ∀ i,i < 7 -> JnW w z (jp i) (r.js i)
structure NdW (w : World) (z : Nat -> Prop) (x st q p : Nat) (lv rp ov : Value) (s : Bool) (G : Lg) (D : Dk) (n : Nd) : Prop where
 here : w.heap[x]? = some (.cells #[.int .i64 (n.self : Int),.int .i64 (n.many : Int),.int .i64 n.pr,.int .i64 n.nm,lv,.pointer (some ⟨st,0,none⟩),.int .i64 n.com,rp,ov] 105 (0,0))
 log : w.ownsRow 0 45 3 lv n.log.length (n.log.flatMap ecell)
 store : w.heap[st]? = some (.cells #[.pointer (some ⟨p,0,none⟩),.pointer (some ⟨q,0,none⟩),.bool s] 124 (0,0))
 out : w.ownsRow 0 28 3 ov n.out.length (n.out.flatMap (pkt n.self))
 pl : ∃ bv,PL w ⟨0,z⟩ q p G bv D
 rg : RgW w z rp n.rg
 zx : ¬ z x
 zst : ¬ z st
 zlog : Mine ⟨0,z⟩ lv
 zout : Mine ⟨0,z⟩ ov
theorem JnW.mono {w w' : World} {z : Nat -> Prop} {v : Value} {j : Option (Int × List En)} (h : JnW w z v j) (h1 : ∀ (k : Nat) (cs : Array Value),w.heap[k]? = some (.cells cs 69 (0,0)) -> w'.heap[k]? = some (.cells cs 69 (0,0))) (h2 : ∀ (lv : Value) (l : List En),w.ownsRow 0 45 3 lv l.length (l.flatMap ecell) -> w'.ownsRow 0 45 3 lv l.length (l.flatMap ecell)) : JnW w' z v j:=by
 cases j with
 | none => exact h
 | some j =>
  obtain ⟨b,k,vw,num,lv,e,hb,ho,hm,hz⟩:=h
  exact ⟨b,k,vw,num,lv,e,h1 _ _ hb,h2 _ _ ho,hm,hz⟩
theorem RgW.mono {w w' : World} {z : Nat -> Prop} {v : Value} {r : Option Rg} (h : RgW w z v r) (h0 : ∀ (k : Nat) (cs : Array Value),w.heap[k]? = some (.cells cs 111 (0,0)) -> w'.heap[k]? = some (.cells cs 111 (0,0))) (h1 : ∀ (k : Nat) (cs : Array Value),w.heap[k]? = some (.cells cs 69 (0,0)) -> w'.heap[k]? = some (.cells cs 69 (0,0))) (h2 : ∀ (lv : Value) (l : List En),w.ownsRow 0 45 3 lv l.length (l.flatMap ecell) -> w'.ownsRow 0 45 3 lv l.length (l.flatMap ecell)) : RgW w' z v r:=by
 cases r with
 | none => exact h
 | some r =>
  obtain ⟨b,jp,e,hb,hz,hj⟩:=h
  exact ⟨b,jp,e,h0 _ _ hb,hz,fun i hi => (hj i hi).mono h1 h2⟩
theorem NdW.below {w w' : World} {z : Nat -> Prop} {x st q p : Nat} {lv rp ov : Value} {s : Bool} {G : Lg} {D : Dk} {n : Nd} (h : NdW w z x st q p lv rp ov s G D n) (hb : Below w.heap.size w w') : NdW w' z x st q p lv rp ov s G D n:=by
 obtain ⟨bv,hp⟩:=h.pl
 exact ⟨blk_below h.here hb,own_below h.log hb,blk_below h.store hb,own_below h.out hb,⟨bv,hp.kept hb⟩,h.rg.mono (fun k cs hk => blk_below hk hb) (fun k cs hk => blk_below hk hb) (fun lv l ho => own_below ho hb),h.zx,h.zst,h.zlog,h.zout⟩
theorem NdW.zl {w : World} {z : Nat -> Prop} {x st q p : Nat} {lv rp ov : Value} {s : Bool} {G : Lg} {D : Dk} {n : Nd} (h : NdW w z x st q p lv rp ov s G D n) : ∀ k,z k -> k < w.heap.size:=by
 obtain ⟨bv,hp⟩:=h.pl
 obtain ⟨sv,wv,left,hd⟩:=hp.disk
 exact hd.zl
theorem NdW.disk {w : World} {z : Nat -> Prop} {x st q p : Nat} {lv rp ov : Value} {s : Bool} {G : Lg} {D : Dk} {n : Nd} (h : NdW w z x st q p lv rp ov s G D n) : PDisk w ⟨0,z⟩ p D:=by
 obtain ⟨bv,hp⟩:=h.pl
 exact hp.disk
section
variable {w : World} {z : Nat -> Prop} {x st q p : Nat} {lv rp ov : Value} {s : Bool} {G : Lg} {D : Dk} {n : Nd}
theorem ndead_any (h : NdW w z x st q p lv rp ov s G D n) : Calls Tryz.prog 22 #[.pointer (some ⟨x,0,none⟩)] w fun e w' => e = .returned (.bool D.dead) /\ w = w':=by
 have c5:=cell_of h.here (j:=5) rfl
 have d0:=cell_of h.store (j:=0) rfl
 have HD:=hJQ (Gq.dead_any ⟨0,z⟩ p D w h.disk)
 clear h
 go_enter Tryz.func22,Tryz.ntmps22
 go_wp2_with fail
 refine HD.out.mono ?_
 rintro e w' ⟨rfl,rfl⟩
 go_wp2_with fail
 go_ret
 exact ⟨rfl,rfl⟩
theorem nviews_any (h : NdW w z x st q p lv rp ov s G D n) : Calls Tryz.prog 14 #[.pointer (some ⟨x,0,none⟩)] w fun e w' => e = .returned (.tuple #[.int .i64 n.pr,.int .i64 n.nm]) /\ Below w.heap.size w w':=by
 have c2:=cell_of h.here (j:=2) rfl
 have c3:=cell_of h.here (j:=3) rfl
 have HB:=hJQ (fun n => below_drewN (Below.refl w.heap.size w) n)
 clear h
 go_enter Tryz.func14,Tryz.ntmps14
 go_upto_region 1 with fail
 go_quiet (fail)
 go_wp2_with fail
 go_ret2
 exact ⟨rfl,HB.out _⟩
theorem nleads_any (h : NdW w z x st q p lv rp ov s G D n) : Calls Tryz.prog 17 #[.pointer (some ⟨x,0,none⟩)] w fun e w' => e = .returned (.bool n.rg.isSome) /\ w = w':=by
 have c7:=cell_of h.here (j:=7) rfl
 have hr:=h.rg
 clear h
 cases hn : n.rg with
 | none =>
  rw [hn] at hr
  obtain rfl : rp = .pointer none:=hr
  clear hn
  go_enter Tryz.func17,Tryz.ntmps17
  go_wp2_with fail
  go_ret
  exact ⟨rfl,rfl⟩
 | some r =>
  rw [hn] at hr
  obtain ⟨b,jp,rfl,-,-,-⟩:=hr
  clear hn
  go_enter Tryz.func17,Tryz.ntmps17
  go_wp2_with fail
  go_ret
  exact ⟨rfl,rfl⟩
theorem nlog_any (h : NdW w z x st q p lv rp ov s G D n) (hn : n.log.length <= 4000000000) : Calls Tryz.prog 16 #[.pointer (some ⟨x,0,none⟩)] w fun e w' => ∃ v,e = .returned v /\ w'.ownsRow w.heap.size 45 3 v n.log.length (n.log.flatMap ecell) /\ Below w.heap.size w w':=by
 have c4:=cell_of h.here (j:=4) rfl
 have hrow:=h.log
 obtain ⟨A,c,rfl,h1,h2,h3⟩:=own_form hrow
 have hA : A = none -> c = 0:=fun e => by
  subst e
  rcases hrow.2 with ⟨e2,_⟩ | ⟨g,cap,cur,e2,_⟩
  ·injection e2
  ·injection e2 with e2; cases e2
 have HC:=hJQ (clone_any (c:=c) (Rd.of_own hrow (fun _ _ => rfl) (by omega)) hA hn)
 clear h hrow h1 h2 h3 hA
 go_enter Tryz.func16,Tryz.ntmps16
 go_wp2_with fail
 refine HC.out.mono ?_
 rintro e w1 ⟨v,rfl,ho,hb⟩
 have HE:=hJQ (And.intro ho hb)
 clear ho hb
 go_wp2_with fail
 go_ret
 exact ⟨v,rfl,HE.out.1,HE.out.2⟩
def Nd.stB (n : Nd) : Bool:=match n.rg with | some r => r.st | none => false
theorem rgc_st (jp : Nat -> Value) (r : Rg) : (rgc jp r)[7]? = some (.bool r.st):=by simp [rgc]
theorem rgc_js (jp : Nat -> Value) (r : Rg) (i : Nat) (hi : i < 7) : (rgc jp r)[i]? = some (jp i):=by
 unfold rgc
 rw [List.getElem?_append_left (by simp; omega)]
 simp [hi]
theorem rgc_he (jp : Nat -> Value) (r : Rg) (i : Nat) (hi : i < 7) : (rgc jp r)[9 + i]? = some (.bool (r.he i)):=by
 unfold rgc
 rw [List.getElem?_append_right (by simp; omega),List.getElem?_append_right (by simp; omega),List.getElem?_append_left (by simp; omega)]
 have e : 9 + i - ((List.range 7).map jp).length - [Value.bool r.st,.int .i64 (r.bg : Int)].length = i:=by simp; omega
 rw [e]
 simp [hi]
theorem rgc_ak (jp : Nat -> Value) (r : Rg) (i : Nat) (hi : i < 7) : (rgc jp r)[16 + i]? = some (.int .i64 (r.ak i)):=by
 unfold rgc
 rw [List.getElem?_append_right (by simp; omega),List.getElem?_append_right (by simp; omega),List.getElem?_append_right (by simp; omega)]
 have e : 16 + i - ((List.range 7).map jp).length - [Value.bool r.st,.int .i64 (r.bg : Int)].length - ((List.range 7).map (fun i => Value.bool (r.he i))).length = i:=by simp; omega
 rw [e]
 simp [hi]
theorem nstarted_any (h : NdW w z x st q p lv rp ov s G D n) : Calls Tryz.prog 53 #[.pointer (some ⟨x,0,none⟩)] w fun e w' => e = .returned (.bool n.stB) /\ w = w':=by
 have c7:=cell_of h.here (j:=7) rfl
 have hr:=h.rg
 clear h
 unfold Nd.stB
 cases hn : n.rg with
 | none =>
  rw [hn] at hr
  obtain rfl : rp = .pointer none:=hr
  clear hn
  go_enter Tryz.func53,Tryz.ntmps53
  go_wp2_with fail
  go_ret
  exact ⟨rfl,rfl⟩
 | some r =>
  rw [hn] at hr
  obtain ⟨b,jp,rfl,hb,-,-⟩:=hr
  have d7 : w.cell? ⟨b,7,none⟩ = some (.bool r.st):=cell_of hb (j:=7) (rgc_st jp r)
  obtain ⟨t,ht⟩ : ∃ t,r.st = t:=⟨_,rfl⟩
  rw [ht] at d7
  have HT:=hJQ ht
  clear hn hb ht
  go_enter Tryz.func53,Tryz.ntmps53
  go_wp2_with fail
  go_ret
  exact ⟨by rw [<- HT.out]; rfl,rfl⟩
def Nd.inB (n : Nd) (v : Int) : Bool:=decide (n.pr = v) && decide (n.nm = v)
theorem nisin_any (h : NdW w z x st q p lv rp ov s G D n) (v : Int) : Calls Tryz.prog 159 #[.pointer (some ⟨x,0,none⟩),.int .i64 v] w fun e w' => e = .returned (.bool (n.inB v)) /\ w = w':=by
 have c2:=cell_of h.here (j:=2) rfl
 have c3:=cell_of h.here (j:=3) rfl
 unfold Nd.inB
 obtain ⟨a,ha⟩ : ∃ a,n.pr = a:=⟨_,rfl⟩
 obtain ⟨b,hb⟩ : ∃ b,n.nm = b:=⟨_,rfl⟩
 rw [ha] at c2 ⊢
 rw [hb] at c3 ⊢
 clear h ha hb
 by_cases h1 : a = v
 ·subst h1
  by_cases h2 : b = a
  ·subst h2
   go_enter Tryz.func159,Tryz.ntmps159
   go_wp2_with fail
   go_ret
   exact ⟨by simp,rfl⟩
  ·have h3 : (b == a) = false:=by simpa using h2
   go_enter Tryz.func159,Tryz.ntmps159
   go_wp2_with fail
   go_ret
   exact ⟨by simp [h2],rfl⟩
 ·have h3 : (a == v) = false:=by simpa using h1
  go_enter Tryz.func159,Tryz.ntmps159
  go_wp2_with fail
  go_ret
  exact ⟨by simp [h1],rfl⟩
end
end Go.Proofs.YtlppinfjdnhlbaaGreatDoor
