/-
 What slices.Chunk of bytes returns,and what the function that it returns does: it hands over parts of 64 bytes,one behind the other,the last one as long as it is,till the body of the loop returns. No condition.
 Words for ledger.settle: what its loop keeps,and what is left when it returns out of it; that neither hangs on what is no cells. No condition.
 Words for the end of ledger.settle. No condition.
 What ledger.settle leaves: the bytes,and the mark that makes them count,written and synced; or what the disk's death left. Conditions: the half is 0 or 1; the bytes are not fewer than those that are there,nor more than a half has; not too many writes wait.
 What the ledger's Sync,Replace and Append leave. Conditions: not too many writes wait; no more than 100000 records are given.
-/
import Derived.Test.YtlppinfjdnhlbaaGreatDoorHd
import Derived.Test.YtlppinfjdnhlbaaGreatDoorGAmissL
import Derived.Test.YtlppinfjdnhlbaaGreatDoorORange
import Derived.Shelf.Abstract
import Derived.Shelf.RegionOpen
import Derived.OwnWalkIn
import Derived.TacticsInMore
import Derived.LoopNIn
import Derived.LoopIn
import Derived.Sort.QuietIn
import Derived.StillTailTactics
namespace Go.Proofs.YtlppinfjdnhlbaaGreatDoor.Gq
set_option maxRecDepth 100000
open Go.ChangeShapes Go.WideShapes Go.ChangeAt Go.RowKit Go.Shelf

attribute [local go_sem] Oper.semAt_some

theorem chunk_any (A : Option Addr) (len cap : Nat) (w : World) :
  Calls Tryz.prog 184 #[.slice A len cap,.int .i64 64] w fun e w' => e = .returned (.func (.func 203) #[] #[.pointer (some ⟨w.heap.size,0,none⟩),.pointer (some ⟨w.heap.size + 1,0,none⟩)]) /\ w' = (w.alloc (.cells #[.slice A len cap] 82)).alloc (.cells #[.int .i64 64] 3):=by
 go_enter Tryz.func184,Tryz.ntmps184
 go_wp2
 go_ret
 exact ⟨rfl,rfl⟩
abbrev Ck:=Option Addr × Nat
def encC (x : Ck) : Array Value:=#[.slice x.1 x.2 x.2]
def RC (A : Option Addr) (len : Nat) (pre : List Ck) (x : Ck) : Prop :=
 64 * pre.length < len /\ x.2 = min 64 (len - 64 * pre.length) /\ ∀ W zs,Reads W A len zs -> Reads W x.1 x.2 ((zs.drop (64 * pre.length)).take 64)
def SC (len : Nat) (xs : List Ck) : Prop:=len <= 64 * xs.length /\ 64 * xs.length < len + 64
theorem sub3 (A : Option Addr) (len cap : Nat) (hc : len <= cap) (l e : Nat) (hh : l + e <= len) (he : 0 < e) :
  ∃ A',(∀ W : World,(Instr.slice 82 (.slice A len cap) (some (.int .i64 (l : Int))) (some (.int .i64 ((l : Int) + (e : Int)))) (some (.int .i64 ((l : Int) + (e : Int))))).run Tryz.prog W = .ok (.slice A' e e) W) /\
   ∀ W zs,Reads W A len zs -> Reads W A' e ((zs.drop l).take e):=by
 obtain ⟨i0,hi,hz0,hz1,hz2⟩:=info_parts info5
 refine ⟨A.map (·.add (l * 1)),fun W => ?_,fun W zs hR => ?_⟩
 ·rw [run_slice_lhm (P:=Tryz.prog) (w:=W) 82 A len cap Tryz.underlying82 .i64 .i64 .i64 (l : Int) ((l : Int) + (e : Int)) ((l : Int) + (e : Int)) (by omega) (by omega) (by omega) (by omega)]
  have e1 : Tryz.prog.elem 82 = 5:=by kernel_rfl
  have e2 : ((l : Int) + (e : Int)).toNat = l + e:=by omega
  rw [e1,e2]
  simp [sizeOf,typeInfo,hi,hz1,sliced]
  omega
 ·have hB:=hR.bys
  obtain ⟨h1,h2,_⟩:=hR
  refine reads_mk (by rw [List.length_take,List.length_drop]; omega) (fun hp => ?_) (bys_take _ (bys_drop _ hB))
  obtain ⟨b,off,rfl,hcell⟩:=h2 (by omega)
  refine ⟨b,off + l,by simp [Go.WideShapes.add_plain],fun i hi => ?_⟩
  rw [Nat.add_assoc,hcell (l + i) (by omega),take_getD _ _ _ hi,drop_getD]
theorem sub_len (A : Option Addr) (len cap : Nat) (hc : len <= cap) (l : Nat) (hl : l <= len) :
  ∃ A' c',(∀ W : World,(Instr.slice 82 (.slice A len cap) (some (.int .i64 (l : Int))) none none).run Tryz.prog W = .ok (.slice A' (len - l) c') W) /\ len - l <= c' /\ ∀ W zs,Reads W A len zs -> Reads W A' (len - l) (zs.drop l):=by
 obtain ⟨i0,hi,hz0,hz1,hz2⟩:=info_parts info5
 refine ⟨if cap = l then A else A.map (·.add (l * 1)),cap - l,fun W => ?_,by omega,fun W zs hR => ?_⟩
 ·rw [run_slice_l (P:=Tryz.prog) (w:=W) 82 A len cap Tryz.underlying82 .i64 (l : Int) (by omega) (by omega)]
  have e1 : Tryz.prog.elem 82 = 5:=by kernel_rfl
  simp [e1,sizeOf,typeInfo,hi,hz1,sliced]
 ·have hB:=hR.bys
  obtain ⟨h1,h2,_⟩:=hR
  refine reads_mk (by rw [List.length_drop]; omega) (fun hp => ?_) (bys_drop _ hB)
  obtain ⟨b,off,rfl,hcell⟩:=h2 (by omega)
  rw [if_neg (by omega)]
  refine ⟨b,off + l,by simp [Go.WideShapes.add_plain],fun i hi => ?_⟩
  rw [Nat.add_assoc,hcell (l + i) (by omega),drop_getD]
set_option maxHeartbeats 1000000 in
theorem iter54 (n l bs bn : Nat) (hn : 1 <= n) (A : Option Addr) (len cap : Nat) (hc : len <= cap) (hm : len <= 4194304) (J JX : List Ck -> World -> Prop)
  (hJ : ∀ pre X Y,J pre X -> Below X.heap.size X Y -> J pre Y) (hJc : ∀ pre X,J pre X -> X.cell? ⟨bs,0,none⟩ = some (.slice A len cap) /\ X.cell? ⟨bn,0,none⟩ = some (.int .i64 64))
  (hY : ∀ pre x X,J pre X -> RC A len pre x -> YieldAt Fence.wide (n - 1) Tryz.prog l (encC x) X fun e Y => (e = .returned (.bool true) /\ J (pre ++ [x]) Y) ∨ (e = .returned (.bool false) /\ JX (pre ++ [x]) Y))
  (W : World) (h0 : J [] W) :
  CallsIn Fence.wide n Tryz.prog 203 #[.func (.yield l) #[] #[],.pointer (some ⟨bs,0,none⟩),.pointer (some ⟨bn,0,none⟩)] W fun e Y => (∃ v,e = .returned v) /\ ((∃ xs,SC len xs /\ J xs Y) ∨ ∃ xs,JX xs Y):=by
 have HJ:=hJQ hJ
 have HJC:=hJQ hJc
 have HY:=hJQ hY
 have H0:=hJQ h0
 clear hJ hJc hY h0
 refine callsIn_of_wp Tryz.func203 rfl trivial ?_ rfl
 simp only [Tryz.ntmps203,List.size_toArray,List.length_cons,List.length_nil,Nat.reduceAdd,Nat.reduceSub,Array.replicate_succ,Array.replicate_zero,List.push_toArray,List.append_toArray,List.nil_append,List.cons_append]
 gi_wp2
 gi_loopw [4,5] (fun vi _ wr => ∃ (pre : List Ck) (t : Nat),t = 64 * pre.length /\ vi = .int .i64 (t : Int) /\ t < len + 64 /\ J pre wr) (fun vi _ _ => len + 64 - (intOf vi).toNat)
 case atStart => exact ⟨[],0,rfl,rfl,by omega,H0.out⟩
 case round =>
  obtain ⟨pre,t,ht,rfl,htl,hj⟩:=hrel
  obtain ⟨j1,j2⟩:=HJC.out pre wr hj
  have HJJ:=hJQ hj
  have HT:=hJQ ht
  have ht0 : (0 : Int) <= (t : Int):=by omega
  clear hj ht
  by_cases hlt : t < len
  ·have hlt' : (t : Int) < (len : Int):=by omega
   have hle' : (t : Int) <= (len : Int):=by omega
   obtain ⟨e,he⟩ : ∃ e,e = min 64 (len - t):=⟨_,rfl⟩
   obtain ⟨A',hs3,hr3⟩:=sub3 A len cap hc t e (by omega) (by omega)
   obtain ⟨A2,c2,hs2,-,-⟩:=sub_len A len cap hc t (by omega)
   have hmn : min (64 : Int) ((len - t : Nat) : Int) = (e : Int):=by omega
   have w1 : IntKind.i64.wrap ((t : Int) + (e : Int)) = (t : Int) + (e : Int):=by rw [IntKind.wrap_i64]; omega
   obtain ⟨k,hk⟩ : ∃ k,k = len - t:=⟨_,rfl⟩
   rw [<- hk] at hs2 hmn
   have hrc : RC A len pre (A',e):=by
    have hT:=HT.out
    refine ⟨by omega,by show e = _; omega,fun W zs hR => ?_⟩
    rw [<- hT]
    have h:=hr3 W zs hR
    have e1 : (zs.drop t).take 64 = (zs.drop t).take e:=by
     by_cases h64 : 64 <= len - t
     ·rw [show e = 64 by omega]
     ·rw [List.take_of_length_le (by rw [List.length_drop,hR.1]; omega),List.take_of_length_le (by rw [List.length_drop,hR.1]; omega)]
    show Reads W A' e ((zs.drop t).take 64)
    rw [e1]; exact h
   have HRC:=hJQ hrc
   clear hrc
   have HE : Hid (e <= 64 /\ (e = 64 ∨ t + e = len)):=hJQ (by omega)
   have he0 : (0 : Int) <= (e : Int):=by omega
   clear hr3 he hk
   gi_wp2
   gi_quiet (fail)
   have hj2:=HJ.out pre wr (wr.drewN nq) HJJ.out (below_drewN (Below.refl _ _) nq)
   obtain ⟨fn,tmps,assign,body,hy,hyr⟩:=HY.out pre (A',e) (wr.drewN nq) hj2 HRC.out
   have hy' : (Instr.yield l #[.slice A' e e]).run Tryz.prog (wr.drewN nq) = .ok (.round l fn tmps assign body) (wr.drewN nq):=hy
   have HYR:=hJQ hyr
   clear hj2 hy hyr
   gi_wp2
   refine HYR.out.mono ?_
   rintro ex w3 (⟨rfl,hJ3⟩ | ⟨rfl,hJ3⟩)
   ·have HJ3:=hJQ hJ3
    obtain ⟨j31,j32⟩:=HJC.out _ w3 hJ3
    clear hJ3
    gi_wp2
    go_roundw
    case rel => exact ⟨pre ++ [(A',e)],t + 64,by rw [List.length_append]; have:=HT.out; simp; omega,by go_num,by omega,HJ3.out⟩
    case measure => simp only [intOf]; omega
   ·have HJ3:=hJQ hJ3
    clear hJ3
    gi_wp2
    refine bodyPost_ret (results_none rfl _ _ _) rfl ?_
    exact ⟨⟨_,rfl⟩,.inr ⟨_,HJ3.out⟩⟩
  ·have hge : ¬ (t : Int) < (len : Int):=by omega
   have HS : Hid (SC len pre):=hJQ ⟨by have:=HT.out; omega,by have:=HT.out; omega⟩
   gi_wp2
   refine bodyPost_end (results_none rfl _ _ _) rfl ?_
   exact ⟨⟨_,rfl⟩,.inl ⟨pre,HS.out,HJJ.out⟩⟩
open Go.ChangeShapes Go.WideShapes Go.ChangeAt Go.RowKit

def KC (W W' : World) : Prop:=W.heap.size <= W'.heap.size /\ ∀ (k : Nat) (cs : Array Value) (t : TypeId) (fr : Nat × Nat),W.heap[k]? = some (Obj.cells cs t fr) -> W'.heap[k]? = some (Obj.cells cs t fr)
theorem kc_of {W W' : World} {row : Option Nat} (hg : W.grownBy W' row) (hr : ∀ r,row = some r -> ∃ o : Obj,W.heap[r]? = some o /\ o.isCells = false) : KC W W':=⟨hg.size,fun k cs t fr hk => by
 refine (hg.block k (Array.getElem?_eq_some_iff.1 hk).1 (fun e => ?_)).trans hk
 obtain ⟨o,ho,hc⟩:=hr k e.symm
 rw [hk] at ho
 cases ho
 cases hc⟩
theorem PL.kc {W W' : World} {B : Bz} {q p : Nat} {G : Lg} {bv : Value} {D : Dk} (h : PL W B q p G bv D) (hk : KC W W') : PL W' B q p G bv D :=
 ⟨hk.2 _ _ _ _ h.here,h.base,own_tag h.row (fun _ _ hx => hk.2 _ _ _ _ hx),h.disk.tags hk.1 (fun _ _ _ _ hx _ => hk.2 _ _ _ _ hx),h.gok,h.zq,h.zb⟩
theorem kp_keeps {B : Bz} {B' : Nat} {W W' : World} (h : Kp B W W') : KeepsFrom B' W W':=⟨h.below.size,fun k o _ hk ho => h.kept k o hk (.inr fun cs t fr e => by subst e; cases ho)⟩
theorem kp_on {B : Bz} {w W W' : World} {row : Option Nat} (h : Kp B w W) (hB : B <= w.heap.size) (hg : W.grownBy W' row) (hr : ∀ r,row = some r -> w.heap.size <= r) : Kp B w W' :=
 ⟨h.below.grown hg (Nat.le_trans hB h.below.size) (fun k e => Nat.le_trans hB (hr k e)),fun k o hk ht => by
  refine (hg.block k (Nat.lt_of_lt_of_le (Array.getElem?_eq_some_iff.1 hk).1 h.below.size) (fun e => ?_)).trans (h.kept k o hk ht)
  have h1:=hr k e.symm
  have h2:=(Array.getElem?_eq_some_iff.1 hk).1
  omega⟩
structure SG where
 B : Bz
 q : Nat
 p : Nat
 G : Lg
 bv : Value
 half : Nat
 there : Nat
 bb : Value
 b : List Int
 D : Dk
structure SBox (s : SG) (b4 : Nat) (n : Nat) (er : Int) (W : World) : Prop where
 x4 : W.heap[b4]? = some (.cells #[.pointer (some ⟨s.q,0,none⟩)] 122 (0,0))
 x8 : W.heap[b4 + 1]? = some (.cells #[.int .i64 er] 66 (0,0))
 x10 : W.heap[b4 + 2]? = some (.cells #[.int .i64 (n : Int)] 3 (0,0))
theorem SBox.kc {s : SG} {b4 n : Nat} {er : Int} {W W' : World} (h : SBox s b4 n er W) (hk : KC W W') : SBox s b4 n er W':=⟨hk.2 _ _ _ _ h.x4,hk.2 _ _ _ _ h.x8,hk.2 _ _ _ _ h.x10⟩
def SG.ws (s : SG) : List Wr:=setW s.G.fr s.G.sz s.G.m s.half s.there s.b
def SI (s : SG) (w : World) (n0 : Nat) (A : Option Addr) (len cap : Nat) (pre : List Ck) (W : World) : Prop :=
 ∃ Dk,SBox s w.heap.size (n0 + pre.length) 0 W /\ W.heap[w.heap.size + 3]? = some (.cells #[.slice A len cap] 82 (0,0)) /\ W.heap[w.heap.size + 4]? = some (.cells #[.int .i64 64] 3 (0,0)) /\
  PL W s.B s.q s.p s.G s.bv Dk /\ W.ownsRow s.B 5 1 s.bb s.b.length (ints s.b) /\ Kp s.B w W /\ runW s.D s.ws = runW Dk (s.ws.drop pre.length) /\ Dk.wait.length <= s.D.wait.length + pre.length /\ Dk.firm.length = s.D.firm.length
def SX (s : SG) (w : World) (W : World) : Prop :=
 ∃ Dk er n,SBox s w.heap.size n er W /\ PL W s.B s.q s.p s.G s.bv Dk /\ Kp s.B w W /\ runW s.D s.ws = (Dk,er) /\ er ≠ 0
theorem si_own (s : SG) (w : World) (n0 : Nat) (A : Option Addr) (len cap B' : Nat) (hB' : w.heap.size <= B') (hB : s.B <= w.heap.size) : OwnFrom B' (SI s w n0 A len cap):=by
 rintro pre X Y row ⟨Dk,h1,h2,h3,h4,h5,h6,h7⟩ hg hr
 have hk:=kc_of hg (fun r e => (hr r e).2)
 exact ⟨Dk,h1.kc hk,hk.2 _ _ _ _ h2,hk.2 _ _ _ _ h3,h4.kc hk,own_tag h5 (fun k cs hx => hk.2 _ _ _ _ hx),kp_on h6 hB hg (fun r e => Nat.le_trans hB' (hr r e).1),h7⟩
theorem sx_own {β : Type} (s : SG) (w : World) (B' : Nat) (hB' : w.heap.size <= B') (hB : s.B <= w.heap.size) : OwnFrom B' (fun (_ : β) W => SX s w W):=by
 rintro _ X Y row ⟨Dk,er,n,h1,h4,h6,h7⟩ hg hr
 have hk:=kc_of hg (fun r e => (hr r e).2)
 exact ⟨Dk,er,n,h1.kc hk,h4.kc hk,kp_on h6 hB hg (fun r e => Nat.le_trans hB' (hr r e).1),h7⟩
theorem runW_cons (D : Dk) (x : Wr) (ws : List Wr) : runW D (x :: ws) = if (doD D 0 (x.1 : Int) 0 x.2).2.2 = 0 then runW (doD D 0 (x.1 : Int) 0 x.2).1 ws else ((doD D 0 (x.1 : Int) 0 x.2).1,(doD D 0 (x.1 : Int) 0 x.2).2.2):=rfl
theorem drop_at {l : List Wr} {k : Nat} (h : k < l.length) : l.drop k = l[k] :: l.drop (k + 1):=List.drop_eq_getElem_cons h
theorem ws_at (s : SG) (k : Nat) (h : s.there / 64 * 64 + 64 * k < s.b.length) : ∃ hk : k < s.ws.length,s.ws[k] = (s.G.fr + 2 + s.half * s.G.sz + s.there / 64 + k,((s.b.drop (s.there / 64 * 64)).drop (64 * k)).take 64):=by
 have hc : k < (chunkW (s.G.fr + 2 + s.half * s.G.sz + s.there / 64) (s.b.drop (s.there / 64 * 64))).length:=by rw [chunkW_length,List.length_drop]; omega
 refine ⟨by unfold SG.ws; rw [setW_length]; omega,?_⟩
 unfold SG.ws setW
 exact (List.getElem_append_left hc).trans (chunkW_at _ _ _ (by rw [List.length_drop]; omega))
theorem ws_last (s : SG) (c : Nat) (hc : c = (s.b.length - s.there / 64 * 64 + 63) / 64) : s.ws.drop c = [(s.G.fr + (1 - s.G.m.slot),secOf (nextMk s.G.m s.half s.b.length))]:=by
 unfold SG.ws setW
 rw [List.drop_append,List.drop_eq_nil_of_le (by rw [chunkW_length,List.length_drop]; omega),chunkW_length,List.length_drop,show c - (s.b.length - s.there / 64 * 64 + 63) / 64 = 0 by omega]
 rfl
theorem do_wait' (D : Dk) (n : Int) (b : List Int) : (doD D 0 n 0 b).1.wait.length <= D.wait.length + 1:=do_wait D 0 n 0 b
theorem PL.write {W W' : World} {B : Bz} {q p : Nat} {G : Lg} {bv : Value} {D D' : Dk} (h : PL W B q p G bv D) (hk : Kp B W W') (hd : PDisk W' B p D') (hf : D'.firm.length = D.firm.length) : PL W' B q p G bv D' :=
 ⟨hk.tag _ _ _ _ h.here (by decide) (by decide) (by decide),h.base,own_tag h.row (fun k cs hx => hk.tag _ _ _ _ hx (by decide) (by decide) (by decide)),hd,by rw [hf]; exact h.gok,h.zq,h.zb⟩
theorem SBox.kp {s : SG} {b4 n : Nat} {B : Bz} {er : Int} {W W' : World} (h : SBox s b4 n er W) (hk : Kp B W W') : SBox s b4 n er W' :=
 ⟨hk.tag _ _ _ _ h.x4 (by decide) (by decide) (by decide),hk.tag _ _ _ _ h.x8 (by decide) (by decide) (by decide),hk.tag _ _ _ _ h.x10 (by decide) (by decide) (by decide)⟩
theorem si_next {s : SG} {w W W' : World} {n0 len cap : Nat} {A : Option Addr} {pre : List Ck} {x : Ck} {Dk : Dk} {e : Ending} (hB : s.B <= w.heap.size) (hn0 : n0 = s.G.fr + 2 + s.half * s.G.sz + s.there / 64) (hlen : len = s.b.length - s.there / 64 * 64) (hx : 64 * pre.length < len)
  (hbx : SBox s w.heap.size (n0 + pre.length) 0 W) (hs : W.heap[w.heap.size + 3]? = some (.cells #[.slice A len cap] 82 (0,0))) (hn : W.heap[w.heap.size + 4]? = some (.cells #[.int .i64 64] 3 (0,0))) (hpl : PL W s.B s.q s.p s.G s.bv Dk) (hrow : W.ownsRow s.B 5 1 s.bb s.b.length (ints s.b)) (hkp : Kp s.B w W)
  (hrun : runW s.D s.ws = runW Dk (s.ws.drop pre.length)) (hwt : Dk.wait.length <= s.D.wait.length + pre.length) (hfl : Dk.firm.length = s.D.firm.length) (h : WrPost W s.B s.p Dk ((n0 + pre.length : Nat) : Int) (((s.b.drop (s.there / 64 * 64)).drop (64 * pre.length)).take 64) e W') :
  ((doD Dk 0 ((n0 + pre.length : Nat) : Int) 0 (((s.b.drop (s.there / 64 * 64)).drop (64 * pre.length)).take 64)).2.2 = 0 -> SI s w n0 A len cap (pre ++ [x]) (W'.setCell ⟨w.heap.size + 2,0,none⟩ (.int .i64 (((n0 + pre.length : Nat) : Int) + 1)))) /\
  (∀ er,er = (doD Dk 0 ((n0 + pre.length : Nat) : Int) 0 (((s.b.drop (s.there / 64 * 64)).drop (64 * pre.length)).take 64)).2.2 -> er ≠ 0 -> SX s w (W'.setCell ⟨w.heap.size + 1,0,none⟩ (.int .i64 er))):=by
 obtain ⟨_,hpd,hk⟩:=h
 obtain ⟨hlt,hat⟩:=ws_at s pre.length (by omega)
 rw [drop_at hlt,hat,<- hn0,runW_cons] at hrun
 have hbx':=hbx.kp hk
 have hpl':=hpl.write hk hpd (do_len _ _ _ _ _)
 have hkp' : Kp s.B w W':=hkp.trans hk
 have hset : ∀ (j : Nat) (v : Value) (cs : Array Value) (t : TypeId),W'.heap[w.heap.size + j]? = some (.cells cs t (0,0)) -> t ≠ 219 -> t ≠ 121 -> t ≠ 152 -> t ≠ 154 -> t ≠ 5 -> PL (W'.setCell ⟨w.heap.size + j,0,none⟩ v) s.B s.q s.p s.G s.bv (doD Dk 0 ((n0 + pre.length : Nat) : Int) 0 (((s.b.drop (s.there / 64 * 64)).drop (64 * pre.length)).take 64)).1 /\ Kp s.B w (W'.setCell ⟨w.heap.size + j,0,none⟩ v):=by
  intro j v cs t hj h1 h2 h3 h4 h5
  refine ⟨⟨?_,hpl'.base,ownsRow_setCell_other hpl'.row (own_ne hpl'.row hj h5) v,hpl'.disk.setCell hj h2 h3 h4 v,hpl'.gok,hpl'.zq,hpl'.zb⟩,kp_on hkp' hB (setCells_grown [v] 0 W') (fun r e => by injection e with e; omega)⟩
  rw [heap_setCell_other W' _ _ _ (fun e => ?_)]
  ·exact hpl'.here
  ·have hh:=hpl'.here
   simp only at e
   rw [e,hj] at hh
   injection hh with hh
   injection hh with _ hh _
   exact h1 hh
 have hother : ∀ (j k : Nat) (v : Value) (o : Obj),k ≠ j -> W'.heap[w.heap.size + k]? = some o -> (W'.setCell ⟨w.heap.size + j,0,none⟩ v).heap[w.heap.size + k]? = some o:=fun j k v o hne ho => by
  rw [heap_setCell_other W' _ _ _ (by show w.heap.size + k ≠ w.heap.size + j; omega)]; exact ho
 refine ⟨fun he => ?_,fun er her hne => ?_⟩
 ·rw [if_pos he] at hrun
  obtain ⟨p1,p2⟩:=hset 2 (.int .i64 (((n0 + pre.length : Nat) : Int) + 1)) _ _ hbx'.x10 (by decide) (by decide) (by decide) (by decide) (by decide)
  refine ⟨_,⟨hother 2 0 _ _ (by decide) hbx'.x4,hother 2 1 _ _ (by decide) hbx'.x8,?_⟩,hother 2 3 _ _ (by decide) (hk.tag _ _ _ _ hs (by decide) (by decide) (by decide)),hother 2 4 _ _ (by decide) (hk.tag _ _ _ _ hn (by decide) (by decide) (by decide)),p1,?_,p2,?_,?_,?_⟩
  ·have:=one_setCell (u:=.int .i64 (((n0 + pre.length : Nat) : Int) + 1)) hbx'.x10
   rw [List.length_append,this]
   congr 1
  ·exact ownsRow_setCell_other (own_tag hrow (fun k cs hx => hk.tag _ _ _ _ hx (by decide) (by decide) (by decide))) (own_ne (own_tag hrow (fun k cs hx => hk.tag _ _ _ _ hx (by decide) (by decide) (by decide))) hbx'.x10 (by decide)) _
  ·rw [List.length_append]; exact hrun
  ·have:=do_wait' Dk ((n0 + pre.length : Nat) : Int) (((s.b.drop (s.there / 64 * 64)).drop (64 * pre.length)).take 64)
   rw [List.length_append]; show _ <= _ + (_ + 1); omega
  ·rw [do_len]; exact hfl
 ·subst her
  rw [if_neg hne] at hrun
  obtain ⟨p1,p2⟩:=hset 1 (.int .i64 (doD Dk 0 ((n0 + pre.length : Nat) : Int) 0 (((s.b.drop (s.there / 64 * 64)).drop (64 * pre.length)).take 64)).2.2) _ _ hbx'.x8 (by decide) (by decide) (by decide) (by decide) (by decide)
  exact ⟨_,_,_,⟨hother 1 0 _ _ (by decide) hbx'.x4,one_setCell hbx'.x8,hother 1 2 _ _ (by decide) hbx'.x10⟩,p1,p2,hrun,hne⟩
open Go.ChangeShapes Go.WideShapes Go.ChangeAt Go.RowKit

def SG.next (s : SG) : Lg:=⟨s.G.fr,s.G.sz,nextMk s.G.m s.half s.b.length,s.b⟩
structure SePost (s : SG) (w : World) (e : Ending) (w' : World) : Prop where
 ret : e = .returned (.int .i64 (runW s.D s.ws).2)
 kl : Kl s.B w w'
 pl : ((runW s.D s.ws).2 = 0 /\ PL w' s.B s.q s.p s.next s.bb (runW s.D s.ws).1) ∨ ((runW s.D s.ws).2 ≠ 0 /\ PL w' s.B s.q s.p s.G s.bv (runW s.D s.ws).1)
theorem put_kc {W : World} {D : Nat} {o : Obj} (h : W.heap[D]? = some (.deferred (some []))) : KC W (W.putObj D o) :=
 kc_of (row:=some D) (grownBy_putObj' W D o) (fun r e => by cases e; exact ⟨_,h,rfl⟩)
theorem put_kp {B : Bz} {w W : World} {D : Nat} {o : Obj} (h : Kp B w W) (hB : B <= w.heap.size) (hD : w.heap.size <= D) : Kp B w (W.putObj D o) :=
 kp_on h hB (grownBy_putObj' W D o) (fun r e => by cases e; exact hD)
theorem results_i {fn : Func} {p : Tmp} (h : fn.results = #[.cell p 66]) (tmps : Array Value) (w : World) (g : Nat) (v : Value) (hp : tmps.getD p undef = .pointer (some ⟨g,0,none⟩)) (hg : w.cell? ⟨g,0,none⟩ = some v) : (results fn tmps).run Tryz.prog w = .ok v w:=by
 have hp' : tmps[p]?.getD undef = .pointer (some ⟨g,0,none⟩):=by simpa using hp
 simp [results,h,hp',asAddr,go_sem,hg]
theorem se_stop {s : SG} {w W : World} {D : Nat} (hB : s.B <= w.heap.size) (hD : w.heap.size <= D) (h : SX s w W) (hK : W.heap[D]? = some (.deferred (some []))) :
  ∃ er,(W.putObj D (.deferred none)).cell? ⟨w.heap.size + 1,0,none⟩ = some (.int .i64 er) /\ SePost s w (.returned (.int .i64 er)) (W.putObj D (.deferred none)):=by
 obtain ⟨Dk,er,n,hbx,hpl,hkp,hrun,hne⟩:=h
 have hk:=put_kc (o:=.deferred none) hK
 refine ⟨er,cell_of (hbx.kc hk).x8 rfl,by rw [hrun],Kl.of_kp (put_kp hkp hB hD),.inr ⟨by rw [hrun]; exact hne,by rw [hrun]; exact hpl.kc hk⟩⟩
structure S9 (s : SG) (b4 : Nat) (W : World) : Prop where
 x4 : W.heap[b4]? = some (.cells #[.pointer (some ⟨s.q,0,none⟩)] 122 (0,0))
 lq : W.heap[s.q]? = some (.cells (lcells s.p s.G s.bv).toArray 219 (0,0))
theorem S9.kept {s : SG} {b4 : Nat} {W W' : World} (h : S9 s b4 W) (hb : Below W.heap.size W W') : S9 s b4 W' :=
 ⟨(hb.block _ (Array.getElem?_eq_some_iff.1 h.x4).1).trans h.x4,(hb.block _ (Array.getElem?_eq_some_iff.1 h.lq).1).trans h.lq⟩
structure S10 (s : SG) (b4 g : Nat) (m' : Mk) (W : World) : Prop where
 s9 : S9 s b4 W
 mg : W.heap[g]? = some (.cells (mcells m').toArray 217 (0,0))
theorem S10.kept {s : SG} {b4 g : Nat} {m' : Mk} {W W' : World} (h : S10 s b4 g m' W) (hb : Below W.heap.size W W') : S10 s b4 g m' W' :=
 ⟨h.s9.kept hb,(hb.block _ (Array.getElem?_eq_some_iff.1 h.mg).1).trans h.mg⟩
theorem S10.kp {s : SG} {b4 g : Nat} {B : Bz} {m' : Mk} {W W' : World} (h : S10 s b4 g m' W) (hb : Kp B W W') : S10 s b4 g m' W' :=
 ⟨⟨hb.tag _ _ _ _ h.s9.x4 (by decide) (by decide) (by decide),hb.tag _ _ _ _ h.s9.lq (by decide) (by decide) (by decide)⟩,hb.tag _ _ _ _ h.mg (by decide) (by decide) (by decide)⟩
structure M9 (wB : World) (m' : Mk) (v : Value) (W : World) : Prop where
 g : ∃ g,v = .pointer (some ⟨g,0,none⟩) /\ W.heap[g]? = some (.cells (mcells m').toArray 217 (0,0))
 below : Below wB.heap.size wB W
theorem m9_of {wB W : World} {m' : Mk} {g : Nat} (hN : Nok m'.num) (hg : W.heap[g]? = some (.cells Z11 217 (0,0))) (hge : wB.heap.size <= g) (hb : Below wB.heap.size wB W) : M9 wB m' (.pointer (some ⟨g,0,none⟩)) (W.setCells g 0 (mcells m')) :=
 ⟨⟨g,rfl,set_whole hg (by rw [mcells_len hN,z11_size])⟩,hb.grown (setCells_grown _ _ _) hb.size (fun k e => by injection e with e; omega)⟩
structure SL (s : SG) (w : World) (E : Dk) (n : Nat) (er : Int) (W : World) : Prop where
 bx : SBox s w.heap.size n er W
 pl : PL W s.B s.q s.p s.G s.bv E
 row : W.ownsRow s.B 5 1 s.bb s.b.length (ints s.b)
 kp : Kp s.B w W
theorem SL.below {s : SG} {w W W' : World} {Dk : Dk} {n : Nat} {er : Int} (h : SL s w Dk n er W) (hb : Below W.heap.size W W') : SL s w Dk n er W' :=
 ⟨⟨(hb.block _ (Array.getElem?_eq_some_iff.1 h.bx.x4).1).trans h.bx.x4,(hb.block _ (Array.getElem?_eq_some_iff.1 h.bx.x8).1).trans h.bx.x8,(hb.block _ (Array.getElem?_eq_some_iff.1 h.bx.x10).1).trans h.bx.x10⟩,h.pl.kept hb,own_below h.row hb,h.kp.trans (Kp.of_below hb h.pl.size)⟩
theorem SL.disk {s : SG} {w W W' : World} {D' E : Dk} {n : Nat} {er : Int} (h : SL s w E n er W) (hk : Kp s.B W W') (hd : PDisk W' s.B s.p D') (hf : D'.firm.length = E.firm.length) : SL s w D' n er W' :=
 ⟨h.bx.kp hk,h.pl.write hk hd hf,own_tag h.row (fun _ _ hx => hk.tag _ _ _ _ hx (by decide) (by decide) (by decide)),h.kp.trans hk⟩
theorem SL.ret {s : SG} {w W : World} {Dk : Dk} {n : Nat} {er : Int} (h : SL s w Dk n er W) (hB : s.B <= w.heap.size) (x : Int) : SL s w Dk n x (W.setCell ⟨w.heap.size + 1,0,none⟩ (.int .i64 x)):=by
 have ho : ∀ (k : Nat) (o : Obj),k ≠ w.heap.size + 1 -> W.heap[k]? = some o -> (W.setCell ⟨w.heap.size + 1,0,none⟩ (.int .i64 x)).heap[k]? = some o:=fun k o hne hk => by
  rw [heap_setCell_other W _ _ _ hne]; exact hk
 have hq : s.q ≠ w.heap.size + 1:=fun e => by
  have:=h.pl.here
  rw [e,h.bx.x8] at this
  injection this with this
  injection this with _ this _
  cases this
 exact ⟨⟨ho _ _ (by omega) h.bx.x4,one_setCell h.bx.x8,ho _ _ (by omega) h.bx.x10⟩,⟨ho _ _ hq h.pl.here,h.pl.base,ownsRow_setCell_other h.pl.row (own_ne h.pl.row h.bx.x8 (by decide)) _,h.pl.disk.setCell h.bx.x8 (by decide) (by decide) (by decide) _,h.pl.gok,h.pl.zq,h.pl.zb⟩,
  ownsRow_setCell_other h.row (own_ne h.row h.bx.x8 (by decide)) _,kp_on h.kp hB (setCells_grown [_] 0 W) (fun r e => by injection e with e; omega)⟩
theorem se_bad {s : SG} {w W : World} {Dk : Dk} {D n : Nat} {er : Int} (hB : s.B <= w.heap.size) (hD : w.heap.size <= D) (h : SL s w Dk n er W) (hK : W.heap[D]? = some (.deferred (some []))) (hrun : runW s.D s.ws = (Dk,er)) (hne : er ≠ 0) :
  (W.putObj D (.deferred none)).cell? ⟨w.heap.size + 1,0,none⟩ = some (.int .i64 er) /\ SePost s w (.returned (.int .i64 er)) (W.putObj D (.deferred none)):=by
 have hk:=put_kc (o:=.deferred none) hK
 exact ⟨cell_of (h.bx.kc hk).x8 rfl,by rw [hrun],Kl.of_kp (put_kp h.kp hB hD),.inr ⟨by rw [hrun]; exact hne,by rw [hrun]; exact h.pl.kc hk⟩⟩
theorem sl_turn {s : SG} {w W : World} {Dk : Dk} {n : Nat} (h : SL s w Dk n 0 W) (hhf : s.half <= 1) (hbl : s.b.length <= s.G.sz * 64) (hby : Bys s.b) (hzb : Mine s.B s.bb) :
  PL ((W.setCells s.q 3 (mcells (nextMk s.G.m s.half s.b.length))).setCell ⟨s.q,14,none⟩ s.bb) s.B s.q s.p s.next s.bb Dk /\ Kl s.B w ((W.setCells s.q 3 (mcells (nextMk s.G.m s.half s.b.length))).setCell ⟨s.q,14,none⟩ s.bb) /\
   ∀ (k : Nat) (o : Obj),k ≠ s.q -> W.heap[k]? = some o -> ((W.setCells s.q 3 (mcells (nextMk s.G.m s.half s.b.length))).setCell ⟨s.q,14,none⟩ s.bb).heap[k]? = some o:=by
 have hN:=h.pl.gok.num
 have hN' : Nok (nextMk s.G.m s.half s.b.length).num:=nok_nxt hN
 have h1:=set_mark hN hN' h.pl.here
 have h2:=set_bytes (v:=s.bb) hN' h1
 have hg : W.grownBy ((W.setCells s.q 3 (mcells (nextMk s.G.m s.half s.b.length))).setCell ⟨s.q,14,none⟩ s.bb) (some s.q):=(setCells_grown _ _ _).trans (setCells_grown [s.bb] 14 _)
 have hg':=h.pl.gok
 refine ⟨⟨h2,h.pl.base,?_,h.pl.disk.grown h.pl.here hg,⟨hg'.fit,hg'.n,by show 1 - s.G.m.slot <= 1; omega,hN',hhf,Nat.le_refl _,hbl,hby⟩,h.pl.zq,hzb⟩,(Kl.of_kp h.kp).trans (Kl.of_grown h.pl.here h.pl.base h.pl.zq hg),fun k o hk ho => (hg.block k (Array.getElem?_eq_some_iff.1 ho).1 (fun e => hk (Option.some.inj e))).trans ho⟩
 refine h.row.kept hg ?_
 rcases h.row.2 with ⟨e,_⟩ | ⟨g,cap,cur,e,_,hgg,_⟩
 ·rw [e]; exact .inl rfl
 ·refine .inr fun e' => ?_
  rw [e] at e'
  simp only [Value.ownBlock,Option.some.injEq] at e'
  rw [e',h.pl.here] at hgg
  injection hgg with hgg
  injection hgg with _ hgg _
  cases hgg
theorem se_good {s : SG} {w W W' : World} {Dk : Dk} {D n : Nat} (hB : s.B <= w.heap.size) (hD : w.heap.size <= D) (h : SL s w Dk n 0 W) (hhf : s.half <= 1) (hbl : s.b.length <= s.G.sz * 64) (hby : Bys s.b) (hzb : Mine s.B s.bb) (hK : W.heap[D]? = some (.deferred (some []))) (hrun : runW s.D s.ws = (Dk,0))
  (hW : W' = (((W.setCells s.q 3 (mcells (nextMk s.G.m s.half s.b.length))).setCell ⟨s.q,14,none⟩ s.bb).setCell ⟨w.heap.size + 1,0,none⟩ (.int .i64 0))) :
  (W'.putObj D (.deferred none)).cell? ⟨w.heap.size + 1,0,none⟩ = some (.int .i64 0) /\ SePost s w (.returned (.int .i64 0)) (W'.putObj D (.deferred none)) /\ W'.heap[D]? = some (.deferred (some [])):=by
 obtain ⟨t1,t2,t3⟩:=sl_turn h hhf hbl hby hzb
 obtain ⟨W2,hW2⟩ : ∃ W2,W2 = (W.setCells s.q 3 (mcells (nextMk s.G.m s.half s.b.length))).setCell ⟨s.q,14,none⟩ s.bb:=⟨_,rfl⟩
 rw [<- hW2] at t1 t2 t3 hW
 have hne8 : w.heap.size + 1 ≠ s.q:=fun e => by
  have:=h.pl.here
  rw [<- e,h.bx.x8] at this
  injection this with this
  injection this with _ this _
  cases this
 have x8:=t3 _ _ hne8 h.bx.x8
 have hDq : D ≠ s.q:=fun e => by
  have:=h.pl.here
  rw [<- e,hK] at this
  cases this
 have hK2:=t3 _ _ hDq hK
 have hD8 : D ≠ w.heap.size + 1:=fun e => by rw [<- e,hK2] at x8; cases x8
 have hK3 : W'.heap[D]? = some (.deferred (some [])):=by rw [hW,heap_setCell_other W2 _ _ _ hD8]; exact hK2
 have x8' : W'.heap[w.heap.size + 1]? = some (.cells #[.int .i64 0] 66 (0,0)):=by rw [hW]; exact one_setCell x8
 have p3 : PL W' s.B s.q s.p s.next s.bb Dk:=by
  rw [hW]
  refine ⟨?_,t1.base,ownsRow_setCell_other t1.row (own_ne t1.row x8 (by decide)) _,t1.disk.setCell x8 (by decide) (by decide) (by decide) _,t1.gok,t1.zq,t1.zb⟩
  rw [heap_setCell_other W2 _ _ _ (fun e => hne8 e.symm)]; exact t1.here
 have k3 : Kl s.B w W':=by
  rw [hW]
  refine ⟨t2.below.setCell (p:=⟨w.heap.size + 1,0,none⟩) (show s.B <= w.heap.size + 1 by omega) _,fun k o hk ht => ?_⟩
  have hkl:=(Array.getElem?_eq_some_iff.1 hk).1
  rw [heap_setCell_other W2 _ _ _ (by show k ≠ w.heap.size + 1; omega)]
  exact t2.kept k o hk ht
 have hk:=put_kc (o:=.deferred none) hK3
 have hk2:=put_kc (o:=.deferred none) hK3
 refine ⟨cell_of (hk.2 _ _ _ _ x8') rfl,⟨by rw [hrun],?_,.inl ⟨by rw [hrun],by rw [hrun]; exact p3.kc hk⟩⟩,hK3⟩
 refine ⟨k3.below.grown (grownBy_putObj' W' D (.deferred none)) (Nat.le_trans hB k3.below.size) (fun r e => by cases e; omega),fun k o hk' ht => ?_⟩
 have hkl:=(Array.getElem?_eq_some_iff.1 hk').1
 exact (World.putObj_heap_other (by omega)).trans (k3.kept k o hk' ht)
open Go.ChangeShapes Go.WideShapes Go.ChangeAt Go.RowKit Go.Shelf

attribute [local go_sem] Oper.semAt_some

theorem s9_box {s : SG} {q b4 : Nat} {W : World} (hq : q = s.q) (h : S9 s b4 W) : W.cell? ⟨b4,0,none⟩ = some (.pointer (some ⟨q,0,none⟩)):=by subst hq; exact cell_of h.x4 rfl
theorem s9_slot {s : SG} {q b4 sl : Nat} {W : World} (hq : q = s.q) (hsl : sl = s.G.m.slot) (hN : Nok s.G.m.num) (h : S9 s b4 W) : W.cell? ⟨q,3,none⟩ = some (.int .i64 (sl : Int)):=by subst hq hsl; exact (LCells.of h.lq hN).c3
theorem s9_num {s : SG} {q b4 : Nat} {W : World} (hq : q = s.q) (hN : Nok s.G.m.num) (h : S9 s b4 W) : W.rangeAt q 4 (ints s.G.m.num):=by subst hq; exact (LCells.of h.lq hN).num
theorem s9_disk {s : SG} {q b4 : Nat} {W : World} (hq : q = s.q) (hN : Nok s.G.m.num) (h : S9 s b4 W) : W.cell? ⟨q,0,none⟩ = some (.pointer (some ⟨s.p,0,none⟩)):=by subst hq; exact (LCells.of h.lq hN).c0
theorem s9_from {s : SG} {q b4 fr : Nat} {W : World} (hq : q = s.q) (hf : fr = s.G.fr) (hN : Nok s.G.m.num) (h : S9 s b4 W) : W.cell? ⟨q,1,none⟩ = some (.int .i64 (fr : Int)):=by subst hq hf; exact (LCells.of h.lq hN).c1
theorem s10_slot {s : SG} {b4 g sl2 : Nat} {m' : Mk} {W : World} (hsl : sl2 = 1 - s.G.m.slot) (hm : m' = nextMk s.G.m s.half s.b.length) (h : S10 s b4 g m' W) : W.cell? ⟨g,0,none⟩ = some (.int .i64 (sl2 : Int)):=by
 rw [cell_of_row W g 0 _ _ _ h.mg,List.getElem?_toArray,mcells_slot,hm,hsl]; rfl
structure S16 (s : SG) (b4 g : Nat) (m' : Mk) (W : World) : Prop where
 x4 : W.heap[b4]? = some (.cells #[.pointer (some ⟨s.q,0,none⟩)] 122 (0,0))
 mg : W.heap[g]? = some (.cells (mcells m').toArray 217 (0,0))
theorem s16_box {s : SG} {q b4 g : Nat} {m' : Mk} {W : World} (hq : q = s.q) (h : S16 s b4 g m' W) : W.cell? ⟨b4,0,none⟩ = some (.pointer (some ⟨q,0,none⟩)):=by subst hq; exact cell_of h.x4 rfl
theorem alloc72_l {l : List Value} {ds : List Deferred} {o : Oper} {w : World} {K : Act -> World -> Prop} {Q : Exit -> Act -> World -> Prop} (d : Nat) (hd : o.dst = some d) (ho : o.op = .alloc 217)
  (h : K (Act.mk (l.set d (.pointer (some ⟨w.heap.size,0,none⟩))).toArray ds) (w.alloc (.cells Z11 217))) : o.wp Tryz.prog (Act.mk l.toArray ds) w K Q:=by
 unfold Oper.wp execOp
 simp only [ho]
 rw [Sem.run_bind,run_alloc72 w]
 have e:=put_lit l ds o.dst d (.pointer (some ⟨w.heap.size,0,none⟩)) hd
 show K ((Act.mk l.toArray ds).put o.dst _) _
 rw [e]; exact h
def LvQ (s : SG) (w : World) : Exit -> Act -> World -> Prop
 | .ret,a,w' => bodyPostM Fence.wide 3 Tryz.prog Tryz.f168 (SePost s w) .ret a w'
 | .normal,a,w' => bodyPostM Fence.wide 3 Tryz.prog Tryz.f168 (SePost s w) .normal a w'
 | _,_,_ => False
theorem lvq_mono (s : SG) (w : World) : ∀ e a w',LvQ s w e a w' -> bodyPostM Fence.wide 3 Tryz.prog Tryz.f168 (SePost s w) e a w'
 | .ret,_,_,h => h
 | .normal,_,_,h => h
theorem settle_start {w : World} {s : SG} {nb n0 len cap : Nat} {A : Option Addr} {W : World} (hL : PL w s.B s.q s.p s.G s.bv s.D) (hrow : w.ownsRow s.B 5 1 s.bb s.b.length (ints s.b))
  (hW : W = (((((w.alloc (.cells #[.pointer (some ⟨s.q,0,none⟩)] 122)).alloc (.cells #[.int .i64 0] 66)).drewN nb).alloc (.cells #[.int .i64 (n0 : Int)] 3)).alloc (.cells #[.slice A len cap] 82)).alloc (.cells #[.int .i64 64] 3)) :
  SI s w n0 A len cap [] W /\ W.heap.size = w.heap.size + 5:=by
 obtain ⟨w1,h1⟩ : ∃ w1,w1 = w.alloc (.cells #[.pointer (some ⟨s.q,0,none⟩)] 122):=⟨_,rfl⟩
 rw [<- h1] at hW
 have s1 : w1.heap.size = w.heap.size + 1:=by rw [h1]; simp
 have g1 : w1.heap[w.heap.size]? = some (.cells #[.pointer (some ⟨s.q,0,none⟩)] 122 (0,0)):=by rw [h1]; exact new_block w _
 have b1 : Below w.heap.size w w1:=by rw [h1]; exact box_below w _
 obtain ⟨w2,h2⟩ : ∃ w2,w2 = w1.alloc (.cells #[.int .i64 0] 66):=⟨_,rfl⟩
 rw [<- h2] at hW
 have s2 : w2.heap.size = w.heap.size + 2:=by rw [h2]; simp [s1]
 have g2 : w2.heap[w.heap.size + 1]? = some (.cells #[.int .i64 0] 66 (0,0)):=by rw [h2,<- s1]; exact new_block w1 _
 have b2 : Below w1.heap.size w1 w2:=by rw [h2]; exact box_below w1 _
 obtain ⟨w3,h3⟩ : ∃ w3,w3 = (w2.drewN nb).alloc (.cells #[.int .i64 (n0 : Int)] 3):=⟨_,rfl⟩
 rw [<- h3] at hW
 have s3 : w3.heap.size = w.heap.size + 3:=by rw [h3]; simp [s2]
 have g3 : w3.heap[w.heap.size + 2]? = some (.cells #[.int .i64 (n0 : Int)] 3 (0,0)):=by rw [h3,<- s2]; exact new_block (w2.drewN nb) _
 have b3 : Below w2.heap.size w2 w3:=by rw [h3]; exact (below_drewN (Below.refl _ _) nb).alloc (Nat.le_refl _) _
 obtain ⟨w4,h4⟩ : ∃ w4,w4 = w3.alloc (.cells #[.slice A len cap] 82):=⟨_,rfl⟩
 rw [<- h4] at hW
 have s4 : w4.heap.size = w.heap.size + 4:=by rw [h4]; simp [s3]
 have g4 : w4.heap[w.heap.size + 3]? = some (.cells #[.slice A len cap] 82 (0,0)):=by rw [h4,<- s3]; exact new_block w3 _
 have b4 : Below w3.heap.size w3 w4:=by rw [h4]; exact box_below w3 _
 have s5 : W.heap.size = w.heap.size + 5:=by rw [hW]; simp [s4]
 have g5 : W.heap[w.heap.size + 4]? = some (.cells #[.int .i64 64] 3 (0,0)):=by rw [hW,<- s4]; exact new_block w4 _
 have b5 : Below w4.heap.size w4 W:=by rw [hW]; exact box_below w4 _
 have k1 : ∀ {o : Obj},w1.heap[w.heap.size]? = some o -> W.heap[w.heap.size]? = some o:=fun {o} h => (b5.block _ (by omega)).trans ((b4.block _ (by omega)).trans ((b3.block _ (by omega)).trans ((b2.block _ (by omega)).trans h)))
 have hb : Below w.heap.size w W:=b1.trans ((b2.trans ((b3.trans ((b4.trans (b5.mono (by omega))).mono (by omega))).mono (by omega))).mono (by omega))
 refine ⟨⟨s.D,⟨k1 g1,(b5.block _ (by omega)).trans ((b4.block _ (by omega)).trans ((b3.block _ (by omega)).trans g2)),(b5.block _ (by omega)).trans ((b4.block _ (by omega)).trans g3)⟩,(b5.block _ (by omega)).trans g4,g5,hL.kept hb,own_below hrow hb,Kp.of_below hb hL.size,by rw [List.length_nil,List.drop_zero],Nat.le_add_right _ _,rfl⟩,s5⟩
set_option maxHeartbeats 4000000 in
theorem settle_any (s : SG) (Ab : Option Addr) (cb : Nat) (w : World) (hL : PL w s.B s.q s.p s.G s.bv s.D) (hbb : s.bb = .slice Ab s.b.length cb) (hcb : s.b.length <= cb) (hrow : w.ownsRow s.B 5 1 s.bb s.b.length (ints s.b)) (hhf : s.half <= 1) (hth : s.there <= s.b.length) (hbl : s.b.length <= s.G.sz * 64) (hby : Bys s.b) (hzb : Mine s.B s.bb) (hwt : s.D.wait.length <= 30000) :
  Calls Tryz.prog 168 #[.pointer (some ⟨s.q,0,none⟩),.int .i64 (s.half : Int),.int .i64 (s.there : Int),.slice Ab s.b.length cb] w (SePost s w):=by
 have HZB:=hJQ hzb
 clear hzb
 have hsm:=hL.gok.small
 obtain ⟨q,hq⟩ : ∃ q,q = s.q:=⟨_,rfl⟩
 obtain ⟨half,hhalf⟩ : ∃ half,half = s.half:=⟨_,rfl⟩
 obtain ⟨there,hthere⟩ : ∃ there,there = s.there:=⟨_,rfl⟩
 obtain ⟨bl,hbl'⟩ : ∃ bl,bl = s.b.length:=⟨_,rfl⟩
 obtain ⟨k0,hk0⟩ : ∃ k0,k0 = there / 64:=⟨_,rfl⟩
 have hth' : there <= bl:=by omega
 have hbl2 : bl <= 4194304:=by have:=hsm.2.1; have:=hL.gok.fit; have:=hL.gok.n; omega
 have hd1 : (there : Int) / 64 = (k0 : Int):=by omega
 have hth0 : (0 : Int) <= (there : Int):=by omega
 have hth1 : (there : Int) <= 4194304:=by omega
 have hk1 : (k0 : Int) <= 65536:=by omega
 have hk64 : k0 * 64 <= bl:=by omega
 have hc:=hL.cells
 have hb4:=box_below w (.cells #[.pointer (some ⟨q,0,none⟩)] 122)
 have hb8:=box_below (w.alloc (.cells #[.pointer (some ⟨q,0,none⟩)] 122)) (.cells #[.int .i64 0] 66)
 rw [<- hq] at hc
 have hbg:=begin_any q s.p s.G s.bv half _ ((hc.kept hb4).kept hb8) hsm.1 hsm.2.1 (by omega)
 obtain ⟨b0,hb0⟩ : ∃ b0,b0 = s.G.fr + 2 + half * s.G.sz:=⟨_,rfl⟩
 rw [<- hb0] at hbg
 have HBG:=hJQ hbg
 obtain ⟨n0,hn0⟩ : ∃ n0,n0 = b0 + k0:=⟨_,rfl⟩
 have hsum : (b0 : Int) + (k0 : Int) = (n0 : Int):=by omega
 have hb065 : (b0 : Int) <= 200000:=by have:=half_le (h:=half) (sz:=s.G.sz) (by omega); omega
 obtain ⟨A',c',hsl,hc',hsub⟩:=sub_len Ab bl cb (by omega) (k0 * 64) hk64
 have hsl' : ∀ W : World,(Instr.slice 82 (.slice Ab bl cb) (some (.int .i64 ((k0 : Int) * 64))) none none).run Tryz.prog W = .ok (.slice A' (bl - k0 * 64) c') W:=fun W => by
  have:=hsl W
  rwa [show ((k0 * 64 : Nat) : Int) = (k0 : Int) * 64 by omega] at this
 obtain ⟨ln,hln⟩ : ∃ ln,ln = bl - k0 * 64:=⟨_,rfl⟩
 rw [<- hln] at hsl' hc' hsub
 have hln2 : ln <= 4194304:=by omega
 have HST:=hJQ (fun nb (W : World) => settle_start (s:=s) (nb:=nb) (n0:=n0) (len:=ln) (cap:=c') (A:=A') (W:=W) hL hrow)
 have HN0 : Hid (n0 = s.G.fr + 2 + s.half * s.G.sz + s.there / 64):=hJQ (by rw [hn0,hb0,hk0,hhalf,hthere])
 have HLN : Hid (ln = s.b.length - s.there / 64 * 64):=hJQ (by rw [hln,hk0,hbl',hthere])
 have HSUB:=hJQ hsub
 have HK : Hid (k0 * 64 = s.there / 64 * 64):=hJQ (by rw [hk0,hthere])
 have HL:=hJQ hL
 have HROW:=hJQ hrow
 have HBB:=hJQ hbb
 have HQ:=hJQ hq
 have HHF:=hJQ hhalf
 have HBL:=hJQ hbl'
 rw [<- hq] at HST
 refine (callsIn_wide (n:=3)).1 ?_
 refine callsIn_of_wp_marks Tryz.func168 rfl trivial ?_ rfl
 simp only [Tryz.ntmps168,List.size_toArray,List.length_cons,List.length_nil,Nat.reduceAdd,Nat.reduceSub,Array.replicate_succ,Array.replicate_zero,List.push_toArray,List.append_toArray,List.nil_append,List.cons_append]
 refine wpIn_mono (Q:=LvQ s w) ?_ (lvq_mono s w)
 refine wpIn_wide.2 ?_
 rw [<- hq,<- hhalf,<- hthere,<- hbl']
 clear hc hb4 hb8 hk0 hL hrow hbg hb0 hn0 hsl hsub hln hq hhalf hthere hbl' hbb
 go_wp2_with fail
 refine HBG.out.mono ?_
 rintro e w' ⟨rfl,nb,rfl⟩
 go_wp2_with fail
 refine (chunk_any A' ln c' _).mono ?_
 rintro e w' ⟨rfl,hw'⟩
 have HS0:=hJQ (HST.out nb w' hw')
 clear hw'
 go_wp2_with fail
 obtain ⟨b8,hb8⟩ : ∃ b8,b8 = w.heap.size + 1:=⟨_,rfl⟩
 obtain ⟨b10,hb10⟩ : ∃ b10,b10 = w.heap.size + 1 + 1:=⟨_,rfl⟩
 obtain ⟨bs,hbs⟩ : ∃ bs,bs = w.heap.size + 1 + 1 + 1:=⟨_,rfl⟩
 obtain ⟨bn,hbn⟩ : ∃ bn,bn = w.heap.size + 1 + 1 + 1 + 1:=⟨_,rfl⟩
 try rw [<- hbn]
 try rw [<- hbs]
 rw [<- hb10,<- hb8]
 have HB8:=hJQ hb8
 have HB10:=hJQ hb10
 have HBS:=hJQ hbs
 have HBN:=hJQ hbn
 have hBw : s.B <= w.heap.size:=HL.out.size
 clear hb8 hb10 hbs hbn
 refine wpIn_wide.1 (range_two (n:=3) (gf:=203) (lb:=#[.pointer (some ⟨bs,0,none⟩),.pointer (some ⟨bn,0,none⟩)]) (encs:=encC) rfl (enters_of Tryz.func203 (by kernel_rfl) rfl) (fun _ => rfl) (R:=RC A' ln) (S:=SC ln) (I:=SI s w n0 A' ln c') (X:=fun _ W => SX s w W) (si_own s w n0 A' ln c' _ (by rw [HS0.out.2]; omega) hBw) (sx_own s w _ (by rw [HS0.out.2]; omega) hBw) HS0.out.1 ?seq
  (fun x => { tmps:=#[.pointer (some ⟨q,0,none⟩),.int .i64 (half : Int),.int .i64 (there : Int),.slice Ab bl cb,.pointer (some ⟨w.heap.size,0,none⟩),undef,undef,undef,.pointer (some ⟨b8,0,none⟩),.int .i64 (k0 : Int),.pointer (some ⟨b10,0,none⟩),.slice x.1 x.2 x.2,undef,undef,undef,undef,.int .i64 (there : Int),.int .i64 (k0 : Int),.pointer (some ⟨q,0,none⟩),.int .i64 (half : Int),.int .i64 (b0 : Int),.int .i64 (k0 : Int),.int .i64 (n0 : Int),.slice Ab bl cb,.int .i64 (k0 : Int),.int .i64 ((k0 : Int) * 64),Value.slice A' ln c',.func (.func 203) #[] #[.pointer (some ⟨bs,0,none⟩),.pointer (some ⟨bn,0,none⟩)],.slice x.1 x.2 x.2,undef,undef,undef,undef,undef,undef,undef,undef,undef,undef,undef,undef,undef,undef,undef,undef,undef,undef,undef,undef,undef,undef,undef,undef,undef,undef,undef,undef,undef,undef,undef,undef,undef,undef,undef,undef,undef,undef,undef,undef,undef,undef,undef,undef,undef,undef,undef,undef,undef,undef,undef,undef,undef,undef,undef,undef,undef,undef,undef,undef,undef],defers:=[] }) ?assign ?body ?done ?stop)
 case seq =>
  intro l J JX hJ hJI hY W hb h0
  exact iter54 2 l bs bn (by omega) A' ln c' hc' hln2 J JX hJ (fun pre X h => by
   obtain ⟨Dk,-,h1,h2,-⟩:=hJI pre X h
   rw [HBS.out,HBN.out]
   exact ⟨cell_of h1 rfl,cell_of h2 rfl⟩) hY W h0
 case assign =>
  intro l x W K hK
  unfold encC
  gi_wp2
  exact hK
 case body =>
  rintro l pre ⟨xA,xn⟩ W ⟨Dk,hbx,hs,hn,hpl,hrow,hkp,hrun,hwt',hfl⟩ hrc
  obtain ⟨t,ht⟩ : ∃ t,t = n0 + pre.length:=⟨_,rfl⟩
  obtain ⟨zs,hzs⟩ : ∃ zs,zs = ((s.b.drop (s.there / 64 * 64)).drop (64 * pre.length)).take 64:=⟨_,rfl⟩
  obtain ⟨er,her⟩ : ∃ er,er = (doD Dk 0 (t : Int) 0 zs).2.2:=⟨_,rfl⟩
  have hpre : pre.length <= 65536:=by have:=hrc.1; omega
  have hR : ∀ W',Kp s.B W W' -> Reads W' xA xn zs:=fun W' hk => by
   have h1:=own_tag hrow (fun k cs hx => hk.tag k cs 5 (0,0) hx (by decide) (by decide) (by decide))
   obtain ⟨A1,c1,e1,h2,-,-⟩:=own_reads h1 hby
   rw [HBB.out] at e1
   injection e1 with e1 _ _
   subst e1
   rw [hzs]
   have h3:=HSUB.out W' s.b (by rw [HBL.out]; exact h2)
   have e3 : k0 * 64 = s.there / 64 * 64:=HK.out
   rw [e3] at h3
   exact hrc.2.2 W' _ h3
  have HWR : Hid (Calls Tryz.prog 36 #[.pointer (some ⟨s.p,0,none⟩),.int .i64 (t : Int),.slice xA xn xn] W.drew (fun e W' => e = .returned (.int .i64 er) /\ WrPost W s.B s.p Dk (t : Int) zs e W')):=hJQ (by
   have hd : Kp s.B W W.drew:=Kp.of_below (Below.refl _ _).drew hpl.size
   refine (write_any s.B s.p Dk (t : Int) xA xn xn zs W.drew (hpl.disk.kept (Below.refl _ _).drew) (fun W' hk => hR W' (hd.trans hk)) (by omega)).mono fun e W' ⟨h1,h2,h3⟩ => ⟨by rw [h1,her],h1,h2,hd.trans h3⟩)
  have HNX:=hJQ (fun e W' => si_next (x:=(xA,xn)) (e:=e) (W':=W') hBw HN0.out HLN.out hrc.1 hbx hs hn hpl hrow hkp hrun hwt' hfl)
  rw [<- hzs,<- ht,<- her] at HNX
  have HHB:=hJQ hbx
  rw [<- ht] at HHB
  have d4:=cell_of HHB.out.x4 (j:=0) rfl
  have d10:=cell_of HHB.out.x10 (j:=0) rfl
  have d0:=hpl.cells.c0
  rw [<- HQ.out] at d4 d0
  rw [show w.heap.size + 2 = b10 by rw [HB10.out]] at d10
  have ht0 : (0 : Int) <= (t : Int):=by omega
  have ht1 : (t : Int) <= 1000000:=by omega
  have HMID:=hJQ (fun W' (hk : Kp s.B W W') => (HHB.out).kp hk)
  clear hbx hs hn hpl hrow hkp hrun hwt' hfl hrc hR hzs her ht
  gi_wp2
  gi_region_with (first
   | (refine ⟨trivial,?_⟩; refine (CallsIn.inRound l (callsIn_wide.2 HWR.out)).mono ?_; rintro e W5 ⟨rfl,h5⟩; have HW5:=hJQ h5; clear h5)
   | fail)
  all_goals
   have h5:=HMID.out W5 HW5.out.2.2
   have c8:=cell_of h5.x8 (j:=0) rfl
   have c10:=cell_of h5.x10 (j:=0) rfl
   have f8:=frozen_of_row _ _ 0 _ _ h5.x8
   have f10:=frozen_of_row _ _ 0 _ _ h5.x10
   rw [<- HB8.out] at c8 f8
   rw [show w.heap.size + 2 = b10 by rw [HB10.out]] at c10 f10
   have HX:=hJQ (HNX.out _ W5 HW5.out)
   have HKP:=hJQ HW5.out.2.2
   clear h5 d4 d10 d0
   by_cases hz : er = 0
   ·subst hz
    gi_wp2
    refine ⟨(kp_keeps HKP.out).trans ((KeepsOthers.setCell _ _ _).from _),?_⟩
    have h:=HX.out.1 (by trivial)
    rw [show w.heap.size + 2 = b10 by rw [HB10.out]] at h
    exact h
   ·have hne : (er != 0) = true:=by simpa using hz
    have HZ:=hJQ hz
    clear hz
    gi_wp2
    refine ⟨(kp_keeps HKP.out).trans ((KeepsOthers.setCell _ _ _).from _),?_⟩
    have h:=HX.out.2 er rfl HZ.out
    rw [<- HB8.out] at h
    exact h
 case done =>
  rintro Dd xs W hD hS ⟨Dk,hbx,hs,hn,hpl,hrow,hkp,hrun,hwt',hfl⟩ hK
  have hxs : xs.length = (s.b.length - s.there / 64 * 64 + 63) / 64:=by have h1:=hS.1; have h2:=hS.2; have h3:=HLN.out; omega
  rw [ws_last s xs.length hxs,runW_cons] at hrun
  have hDw : w.heap.size <= Dd:=by have:=HS0.out.2; omega
  have HSL:=hJQ (show SL s w Dk (n0 + xs.length) 0 W from ⟨hbx,hpl,hrow,hkp⟩)
  have HK0:=hJQ hK
  have hgk:=hpl.gok
  have hNG:=hgk.num
  obtain ⟨sl,hsl1⟩ : ∃ sl,sl = s.G.m.slot:=⟨_,rfl⟩
  obtain ⟨sl2,hsl2⟩ : ∃ sl2,sl2 = 1 - s.G.m.slot:=⟨_,rfl⟩
  have hsl3:=hgk.slot
  obtain ⟨m',hm'⟩ : ∃ m',m' = nextMk s.G.m s.half s.b.length:=⟨_,rfl⟩
  have HM:=hJQ hm'
  have HNG:=hJQ hNG
  have HNM : Hid (Nok m'.num):=hJQ (by rw [hm']; exact nok_nxt hNG)
  have e46 : IntKind.i64.wrap ((1 : Int) - (sl : Int)) = (sl2 : Int):=by rw [IntKind.wrap_i64]; omega
  have HSLT:=hJQ hsl1
  have HSL2:=hJQ hsl2
  obtain ⟨nn,hnn⟩ : ∃ nn,nn = s.G.fr + (1 - s.G.m.slot):=⟨_,rfl⟩
  obtain ⟨fr,hfr⟩ : ∃ fr,fr = s.G.fr:=⟨_,rfl⟩
  have e67 : IntKind.i64.wrap ((fr : Int) + (sl2 : Int)) = (nn : Int):=by have:=hgk.small.1; rw [IntKind.wrap_i64]; omega
  have HFR:=hJQ hfr
  rw [<- hm',<- hnn] at hrun
  obtain ⟨e1,he1⟩ : ∃ e1,e1 = (doD Dk 0 (nn : Int) 0 (secOf m')).2.2:=⟨_,rfl⟩
  obtain ⟨D1,hD1⟩ : ∃ D1,D1 = (doD Dk 0 (nn : Int) 0 (secOf m')).1:=⟨_,rfl⟩
  rw [<- he1,<- hD1] at hrun
  have HRUN:=hJQ hrun
  have HE1:=hJQ he1
  have HD1:=hJQ hD1
  have HLEN1 : Hid (D1.firm.length = Dk.firm.length):=hJQ (by rw [hD1]; exact do_len _ _ _ _ _)
  have hS9 : ∀ W',Below W.heap.size W W' -> S9 s w.heap.size W':=fun W' hb => (S9.kept ⟨hbx.x4,hpl.here⟩ hb)
  have HS9:=hJQ hS9
  have HU : Hid (m'.used <= 2147483647 /\ m'.half <= 1):=hJQ (by rw [hm']; exact ⟨by show s.b.length <= _; omega,hhf⟩)
  have HFL : Hid ((Tryz.prog.info? 215).map (·.size) = some (ints s.G.m.num).length):=hJQ (by rw [ints_length,hNG.1]; exact size70)
  have HNX:=hJQ (fun W0 => next_any (ints s.G.m.num).toArray s.G.m.num W0 hNG rfl)
  have HN8 : Hid ((ints (nxt s.G.m.num)).toArray.size = 8):=hJQ (by rw [List.size_toArray,ints_length,nxt_len,hNG.1])
  have HMC : Hid (#[Value.int .i64 (sl2 : Int)] ++ (ints (nxt s.G.m.num)).toArray ++ #[.int .i64 (half : Int),.int .i64 (bl : Int)] = (mcells m').toArray):=hJQ (by
   rw [hm',HHF.out,HBL.out,hsl2]
   simp [mcells,nextMk])
  have HSA : Hid ((Tryz.prog.info? 217).map (·.size) = some (mcells m').toArray.size):=hJQ (by rw [List.size_toArray,mcells_len HNM.out]; exact size72)
  have HSI : Hid ((Tryz.prog.info? 217).map (·.size) = some (mcells m').length):=hJQ (by rw [mcells_len HNM.out]; exact size72)
  have HSO : Hid ((mcells m').toArray.all (·.oneCell') = true):=hJQ (all_oneCell_toArray (mcells_one _))
  have HZ11 : Hid ((mcells m').toArray.size <= Z11.size):=hJQ (by rw [List.size_toArray,mcells_len HNM.out,z11_size]; exact Nat.le_refl _)
  have HWT : Hid (Dk.wait.length <= 100000):=hJQ (by have:=hS.2; omega)
  have hn3 : n0 + xs.length <= 10000000:=by have:=hS.2; omega
  obtain ⟨nx,hnx⟩ : ∃ nx,nx = n0 + xs.length:=⟨_,rfl⟩
  rw [<- hnx] at HSL
  clear hbx hs hn hpl hrow hkp hrun hwt' hfl hxs hgk hNG hsl1 hsl2 hsl3 hm' hnn he1 hD1 hS9 hfr hS hnx hn3 hK
  go_wp2_with fail
  go_cut [13] from 41 to 56 (fun v13 wx => M9 W m' v13 wx)
  case first =>
   refine wp_region_held_drew (S:=S9 s w.heap.size) (by kernel_rfl) (HS9.out _ (Below.refl _ _).drew) (fun hHeld => ?_)
   refine take_op 0 41 (.pointer (some ⟨q,0,none⟩)) rfl rfl (by kernel_rfl) (by kernel_rfl) (by kernel_rfl) (fun _ _ _ h => h) (.inl ⟨by rfl,fun w' hw' => by have hf:=s9_box HQ.out hw'; go_simp⟩) hHeld ?_
   simp only [List.set_cons_zero,List.set_cons_succ]
   refine take_op 1 42 (.pointer (some ⟨q,0,none⟩)) rfl rfl (by kernel_rfl) (by kernel_rfl) (by kernel_rfl) (fun _ _ _ h => h) (.inl ⟨by rfl,fun w' hw' => by go_simp⟩) hHeld ?_
   simp only [List.set_cons_zero,List.set_cons_succ]
   refine take_op 2 43 (.pointer (some ⟨q,3,none⟩)) rfl rfl (by kernel_rfl) (by kernel_rfl) (by kernel_rfl) (fun _ _ _ h => h) (.inl ⟨by rfl,fun w' hw' => by go_simp⟩) hHeld ?_
   simp only [List.set_cons_zero,List.set_cons_succ]
   refine take_op 3 44 (.pointer (some ⟨q,3,none⟩)) rfl rfl (by kernel_rfl) (by kernel_rfl) (by kernel_rfl) (fun _ _ _ h => h) (.inl ⟨by rfl,fun w' hw' => by go_simp⟩) hHeld ?_
   simp only [List.set_cons_zero,List.set_cons_succ]
   refine take_op 4 45 (.int .i64 (sl : Int)) rfl rfl (by kernel_rfl) (by kernel_rfl) (by kernel_rfl) (fun _ _ _ h => h) (.inl ⟨by rfl,fun w' hw' => by have hf:=s9_slot HQ.out HSLT.out HNG.out hw'; go_simp⟩) hHeld ?_
   simp only [List.set_cons_zero,List.set_cons_succ]
   refine take_op 5 46 (.int .i64 (sl2 : Int)) rfl rfl (by kernel_rfl) (by kernel_rfl) (by kernel_rfl) (fun _ _ _ h => h) (.inl ⟨by rfl,fun w' hw' => by go_simp⟩) hHeld ?_
   simp only [List.set_cons_zero,List.set_cons_succ]
   refine take_op 6 47 (.pointer (some ⟨q,0,none⟩)) rfl rfl (by kernel_rfl) (by kernel_rfl) (by kernel_rfl) (fun _ _ _ h => h) (.inl ⟨by rfl,fun w' hw' => by have hf:=s9_box HQ.out hw'; go_simp⟩) hHeld ?_
   simp only [List.set_cons_zero,List.set_cons_succ]
   refine take_op 7 48 (.pointer (some ⟨q,0,none⟩)) rfl rfl (by kernel_rfl) (by kernel_rfl) (by kernel_rfl) (fun _ _ _ h => h) (.inl ⟨by rfl,fun w' hw' => by go_simp⟩) hHeld ?_
   simp only [List.set_cons_zero,List.set_cons_succ]
   refine take_op 8 49 (.pointer (some ⟨q,3,none⟩)) rfl rfl (by kernel_rfl) (by kernel_rfl) (by kernel_rfl) (fun _ _ _ h => h) (.inl ⟨by rfl,fun w' hw' => by go_simp⟩) hHeld ?_
   simp only [List.set_cons_zero,List.set_cons_succ]
   refine take_op 9 50 (.pointer (some ⟨q,4,none⟩)) rfl rfl (by kernel_rfl) (by kernel_rfl) (by kernel_rfl) (fun _ _ _ h => h) (.inl ⟨by rfl,fun w' hw' => by go_simp⟩) hHeld ?_
   simp only [List.set_cons_zero,List.set_cons_succ]
   refine take_op 10 51 (.agg (ints s.G.m.num).toArray) rfl rfl (by kernel_rfl) (by kernel_rfl) (by kernel_rfl) (fun _ _ _ h => h) (yieldsIf_load_mid (by rfl) 215 (.tmp 50) rfl q 4 rfl (ints s.G.m.num) (.array 8 5) (fun w h => s9_num HQ.out HNG.out h) Tryz.underlying215 rfl HFL.out) hHeld ?_
   simp only [List.set_cons_zero,List.set_cons_succ]
   refine take_op 12 53 (.int .i64 (half : Int)) rfl rfl (by kernel_rfl) (by kernel_rfl) (by kernel_rfl) (fun _ _ _ h => h) (.inl ⟨by rfl,fun w' hw' => by go_simp⟩) hHeld ?_
   simp only [List.set_cons_zero,List.set_cons_succ]
   refine take_op 13 54 (.slice Ab bl cb) rfl rfl (by kernel_rfl) (by kernel_rfl) (by kernel_rfl) (fun _ _ _ h => h) (.inl ⟨by rfl,fun w' hw' => by go_simp⟩) hHeld ?_
   simp only [List.set_cons_zero,List.set_cons_succ]
   refine take_op 14 55 (.int .i64 (bl : Int)) rfl rfl (by kernel_rfl) (by kernel_rfl) (by kernel_rfl) (fun _ _ _ h => h) (.inl ⟨by rfl,fun w' hw' => by go_simp⟩) hHeld ?_
   simp only [List.set_cons_zero,List.set_cons_succ]
   refine wpAnyH_ready (rs:=[11,16]) (by kernel_rfl) (by simp) (AllReadyH.cons rfl (fun K hK => ?_) (AllReadyH.cons rfl (fun K hK => ?_) AllReadyH.nil))
   ·go_simp
    refine (HNX.out _).mono ?_
    rintro e w5 ⟨rfl,hb5⟩
    have HB5 : Hid (Below W.heap.size W w5):=hJQ ((Below.refl _ _).drew.trans hb5)
    clear hb5
    go_wp2_with fail
    refine hK.out _ _ (HS9.out _ HB5.out) (fun hH2 => ?_)
    refine take_op 15 56 (.agg (#[.int .i64 (sl2 : Int)] ++ (ints (nxt s.G.m.num)).toArray ++ #[.int .i64 (half : Int),.int .i64 (bl : Int)])) rfl rfl (by kernel_rfl) (by kernel_rfl) (by kernel_rfl) (fun _ _ _ h => h) (yields_build72 (by rfl) (.tmp 46) (.tmp 52) (.tmp 53) (.tmp 55) rfl (sl2 : Int) (half : Int) (bl : Int) (ints (nxt s.G.m.num)).toArray rfl rfl rfl rfl HN8.out) hH2 ?_
    simp only [List.set_cons_zero,List.set_cons_succ]
    rw [HMC.out]
    refine wpAnyH_ready (rs:=[16]) (by kernel_rfl) (by simp) (AllReadyH.cons rfl (fun K2 hK2 => ?_) AllReadyH.nil)
    rw [if_pos (by rfl)]
    refine alloc72_l 13 rfl rfl ?_
    simp only [List.set_cons_zero,List.set_cons_succ]
    have HB6:=hJQ (HB5.out.trans ((box_below w5 (.cells Z11 217)).mono HB5.out.size))
    refine hK2.out _ _ (HS9.out _ HB6.out) (fun _ => ?_)
    refine wpAnyH_ready (rs:=[17]) (by kernel_rfl) (by simp) (AllReadyH.cons rfl (fun K3 hK3 => ?_) AllReadyH.nil)
    rw [if_pos (by rfl)]
    have HM9:=hJQ (m9_of HNM.out (new_block w5 (.cells Z11 217)) HB5.out.size HB6.out)
    refine store_l rfl 217 (.tmp 13) (.tmp 56) rfl w5.heap.size 0 (mcells m').toArray rfl rfl (there_whole (new_block w5 (.cells Z11 217)) HZ11.out) HSA.out HSO.out ?_
    refine hK3.out _ _ (HS9.out _ HM9.out.below) (fun _ => ?_)
    refine wpAnyH_done (by kernel_rfl) ?_ _
    go_wp2_with fail
    go_meet
    exact HM9.out
   ·rw [if_pos (by rfl)]
    refine alloc72_l 13 rfl rfl ?_
    simp only [List.set_cons_zero,List.set_cons_succ]
    have HB6 : Hid (Below W.heap.size W (W.drew.alloc (.cells Z11 217))):=hJQ ((Below.refl _ _).drew.alloc (Nat.le_refl _) _)
    refine hK.out _ _ (HS9.out _ HB6.out) (fun _ => ?_)
    refine wpAnyH_ready (rs:=[11]) (by kernel_rfl) (by simp) (AllReadyH.cons rfl (fun K2 hK2 => ?_) AllReadyH.nil)
    go_simp
    refine (HNX.out _).mono ?_
    rintro e w5 ⟨rfl,hb5⟩
    have HG5 : Hid (w5.heap[W.heap.size]? = some (.cells Z11 217 (0,0))):=hJQ ((hb5.block _ (by simp)).trans (new_block W.drew (.cells Z11 217)))
    have HB5 : Hid (Below W.heap.size W w5):=hJQ (HB6.out.trans (hb5.mono HB6.out.size))
    clear hb5
    go_wp2_with fail
    refine hK2.out _ _ (HS9.out _ HB5.out) (fun hH2 => ?_)
    refine take_op 15 56 (.agg (#[.int .i64 (sl2 : Int)] ++ (ints (nxt s.G.m.num)).toArray ++ #[.int .i64 (half : Int),.int .i64 (bl : Int)])) rfl rfl (by kernel_rfl) (by kernel_rfl) (by kernel_rfl) (fun _ _ _ h => h) (yields_build72 (by rfl) (.tmp 46) (.tmp 52) (.tmp 53) (.tmp 55) rfl (sl2 : Int) (half : Int) (bl : Int) (ints (nxt s.G.m.num)).toArray rfl rfl rfl rfl HN8.out) hH2 ?_
    simp only [List.set_cons_zero,List.set_cons_succ]
    rw [HMC.out]
    refine wpAnyH_ready (rs:=[17]) (by kernel_rfl) (by simp) (AllReadyH.cons rfl (fun K3 hK3 => ?_) AllReadyH.nil)
    rw [if_pos (by rfl)]
    have HM9:=hJQ (m9_of HNM.out HG5.out (Nat.le_refl _) HB5.out)
    refine store_l rfl 217 (.tmp 13) (.tmp 56) rfl W.heap.size 0 (mcells m').toArray rfl rfl (there_whole HG5.out HZ11.out) HSA.out HSO.out ?_
    refine hK3.out _ _ (HS9.out _ HM9.out.below) (fun _ => ?_)
    refine wpAnyH_done (by kernel_rfl) ?_ _
    go_wp2_with fail
    go_meet
    exact HM9.out
  case rest =>
   obtain ⟨⟨g,rfl,hg⟩,hb⟩:=hcut
   have HSC:=hJQ (HSL.out.below hb)
   have HKC : Hid (wc.heap[Dd]? = some (.deferred (some []))):=hJQ ((hb.block _ (Array.getElem?_eq_some_iff.1 HK0.out).1).trans HK0.out)
   have HSX : Hid (S10 s w.heap.size g m' wc):=hJQ ⟨HS9.out _ hb,hg⟩
   have HSE:=hJQ (sector_any (mcells m').toArray m' wc.drew HNM.out HU.out.2 HU.out.1 rfl)
   have hfr0 : (0 : Int) <= (fr : Int):=by omega
   clear hg hb
   go_wp2_with fail
   refine wp_region_held_drew (S:=S10 s w.heap.size g m') (by kernel_rfl) (HSX.out.kept (Below.refl _ _).drew) (fun hHeld => ?_)
   refine take_op 0 57 (.pointer (some ⟨q,0,none⟩)) rfl rfl (by kernel_rfl) (by kernel_rfl) (by kernel_rfl) (fun _ _ _ h => h) (.inl ⟨by rfl,fun w' hw' => by have hf:=s9_box HQ.out hw'.s9; go_simp⟩) hHeld ?_
   simp only [List.set_cons_zero,List.set_cons_succ]
   refine take_op 1 58 (.pointer (some ⟨q,0,none⟩)) rfl rfl (by kernel_rfl) (by kernel_rfl) (by kernel_rfl) (fun _ _ _ h => h) (.inl ⟨by rfl,fun w' hw' => by go_simp⟩) hHeld ?_
   simp only [List.set_cons_zero,List.set_cons_succ]
   refine take_op 2 59 (.pointer (some ⟨q,0,none⟩)) rfl rfl (by kernel_rfl) (by kernel_rfl) (by kernel_rfl) (fun _ _ _ h => h) (.inl ⟨by rfl,fun w' hw' => by go_simp⟩) hHeld ?_
   simp only [List.set_cons_zero,List.set_cons_succ]
   refine take_op 3 60 (.pointer (some ⟨s.p,0,none⟩)) rfl rfl (by kernel_rfl) (by kernel_rfl) (by kernel_rfl) (fun _ _ _ h => h) (.inl ⟨by rfl,fun w' hw' => by have hf:=s9_disk HQ.out HNG.out hw'.s9; go_simp⟩) hHeld ?_
   simp only [List.set_cons_zero,List.set_cons_succ]
   refine take_op 4 61 (.pointer (some ⟨q,0,none⟩)) rfl rfl (by kernel_rfl) (by kernel_rfl) (by kernel_rfl) (fun _ _ _ h => h) (.inl ⟨by rfl,fun w' hw' => by have hf:=s9_box HQ.out hw'.s9; go_simp⟩) hHeld ?_
   simp only [List.set_cons_zero,List.set_cons_succ]
   refine take_op 5 62 (.pointer (some ⟨q,0,none⟩)) rfl rfl (by kernel_rfl) (by kernel_rfl) (by kernel_rfl) (fun _ _ _ h => h) (.inl ⟨by rfl,fun w' hw' => by go_simp⟩) hHeld ?_
   simp only [List.set_cons_zero,List.set_cons_succ]
   refine take_op 6 63 (.pointer (some ⟨q,1,none⟩)) rfl rfl (by kernel_rfl) (by kernel_rfl) (by kernel_rfl) (fun _ _ _ h => h) (.inl ⟨by rfl,fun w' hw' => by go_simp⟩) hHeld ?_
   simp only [List.set_cons_zero,List.set_cons_succ]
   refine take_op 7 64 (.int .i64 (fr : Int)) rfl rfl (by kernel_rfl) (by kernel_rfl) (by kernel_rfl) (fun _ _ _ h => h) (.inl ⟨by rfl,fun w' hw' => by have hf:=s9_from HQ.out HFR.out HNG.out hw'.s9; go_simp⟩) hHeld ?_
   simp only [List.set_cons_zero,List.set_cons_succ]
   refine take_op 8 65 (.pointer (some ⟨g,0,none⟩)) rfl rfl (by kernel_rfl) (by kernel_rfl) (by kernel_rfl) (fun _ _ _ h => h) (.inl ⟨by rfl,fun w' hw' => by go_simp⟩) hHeld ?_
   simp only [List.set_cons_zero,List.set_cons_succ]
   refine take_op 9 66 (.int .i64 (sl2 : Int)) rfl rfl (by kernel_rfl) (by kernel_rfl) (by kernel_rfl) (fun _ _ _ h => h) (.inl ⟨by rfl,fun w' hw' => by have hf:=s10_slot HSL2.out HM.out hw'; go_simp⟩) hHeld ?_
   simp only [List.set_cons_zero,List.set_cons_succ]
   refine take_op 10 67 (.int .i64 (nn : Int)) rfl rfl (by kernel_rfl) (by kernel_rfl) (by kernel_rfl) (fun _ _ _ h => h) (.inl ⟨by rfl,fun w' hw' => by go_simp⟩) hHeld ?_
   simp only [List.set_cons_zero,List.set_cons_succ]
   refine take_op 11 68 (.agg (mcells m').toArray) rfl rfl (by kernel_rfl) (by kernel_rfl) (by kernel_rfl) (fun _ _ _ h => h) (yieldsIf_load_mid (by rfl) 217 (.tmp 13) rfl g 0 rfl (mcells m') _ (fun w h => range_whole h.mg) Tryz.underlying217 rfl HSI.out) hHeld ?_
   simp only [List.set_cons_zero,List.set_cons_succ]
   refine wpAnyH_ready (rs:=[12]) (by kernel_rfl) (by simp) (AllReadyH.cons rfl (fun K hK => ?_) AllReadyH.nil)
   go_simp
   refine HSE.out.mono ?_
   rintro e w6 ⟨g2,rfl,-,hg2,hb6⟩
   have HB6:=hJQ hb6
   have HS6:=hJQ ((HSC.out.below (Below.refl _ _).drew).below hb6)
   have hsok : Sok (secOf m'):=⟨sec_len' HNM.out,sec_bys HNM.out HU.out.2⟩
   have HWR:=hJQ (write_any s.B s.p Dk (nn : Int) (some ⟨g2,0,none⟩) 64 64 (secOf m') w6 HS6.out.pl.disk (fun w' hk => ints_read hsok (hk.tag _ _ _ _ hg2 (by decide) (by decide) (by decide))) HWT.out)
   have HKC6 : Hid (w6.heap[Dd]? = some (.deferred (some []))):=hJQ ((hb6.block _ (Array.getElem?_eq_some_iff.1 HKC.out).1).trans HKC.out)
   have HX6:=hJQ ((HSX.out.kept (Below.refl _ _).drew).kept hb6)
   clear hb6 hg2 hsok
   go_wp2_with fail
   refine hK.out _ _ HX6.out (fun _ => ?_)
   refine wpAnyH_ready (rs:=[13]) (by kernel_rfl) (by simp) (AllReadyH.cons rfl (fun K2 hK2 => ?_) AllReadyH.nil)
   go_simp
   refine HWR.out.mono ?_
   rintro e w8 ⟨rfl,hpd8,hkp8⟩
   rw [<- HE1.out]
   rw [<- HD1.out] at hpd8
   have HS8:=hJQ (HS6.out.disk hkp8 hpd8 HLEN1.out)
   have HX8:=hJQ (HX6.out.kp hkp8)
   have HKC8 : Hid (w8.heap[Dd]? = some (.deferred (some []))):=hJQ (hkp8.kept _ _ HKC6.out (.inr fun _ _ _ e => by cases e))
   clear hpd8 hkp8
   go_wp2_with fail
   refine hK2.out _ _ HX8.out (fun hHeld2 => ?_)
   refine take_op 14 14 (.int .i64 e1) rfl rfl (by kernel_rfl) (by kernel_rfl) (by kernel_rfl) (fun _ _ _ h => h) (.inl ⟨by rfl,fun w' hw' => by go_simp⟩) hHeld2 ?_
   simp only [List.set_cons_zero,List.set_cons_succ]
   refine wpAnyH_done (by kernel_rfl) ?_ _
   have y4:=cell_of HS8.out.bx.x4 (j:=0) rfl
   have y8:=cell_of HS8.out.bx.x8 (j:=0) rfl
   have yf8:=frozen_of_row _ _ 0 _ _ HS8.out.bx.x8
   have y0:=HS8.out.pl.cells.c0
   rw [<- HB8.out] at y8 yf8
   rw [<- HQ.out] at y4 y0
   by_cases h1 : e1 = 0
   ·subst h1
    have hru:=HRUN.out
    rw [if_pos rfl] at hru
    obtain ⟨e2,he2⟩ : ∃ e2,e2 = (doD D1 2 0 0 []).2.2:=⟨_,rfl⟩
    obtain ⟨D2,hD2⟩ : ∃ D2,D2 = (doD D1 2 0 0 []).1:=⟨_,rfl⟩
    have HRU2 : Hid (runW s.D s.ws = (D2,e2)):=hJQ (by rw [hru,hD2,he2]; rfl)
    have HSY:=hJQ (sync_any s.B s.p D1 w8 HS8.out.pl.disk)
    have HE2:=hJQ he2
    have HD2:=hJQ hD2
    have HLEN2 : Hid (D2.firm.length = D1.firm.length):=hJQ (by rw [hD2]; exact do_len _ _ _ _ _)
    clear hru he2 hD2
    go_wp2_with fail
    refine HSY.out.mono ?_
    rintro e w9 ⟨rfl,hpd9,hkp9⟩
    rw [<- HE2.out]
    rw [<- HD2.out] at hpd9
    have HS9':=hJQ (HS8.out.disk hkp9 hpd9 HLEN2.out)
    have HX9:=hJQ (HX8.out.kp hkp9)
    have HKC9 : Hid (w9.heap[Dd]? = some (.deferred (some []))):=hJQ (hkp9.kept _ _ HKC8.out (.inr fun _ _ _ e => by cases e))
    have z8:=cell_of HS9'.out.bx.x8 (j:=0) rfl
    have zf8:=frozen_of_row _ _ 0 _ _ HS9'.out.bx.x8
    rw [<- HB8.out] at z8 zf8
    clear hpd9 hkp9 y4 y8 yf8 y0
    by_cases h2 : e2 = 0
    ·subst h2
     have HST16 : Hid (S16 s w.heap.size g m' w9.drew):=hJQ ⟨HX9.out.s9.x4,HX9.out.mg⟩
     have HSD:=hJQ (HS9'.out.below (Below.refl _ _).drew)
     have HTH : Hid (w9.drew.there q 3 (mcells m').toArray.size):=hJQ (by
      have h:=HX9.out.s9.lq
      rw [<- HQ.out] at h
      exact there_part (w:=w9.drew) h (by rw [List.size_toArray,List.size_toArray,mcells_len HNM.out,lcells_len HNG.out]; decide))
     obtain ⟨wz,hwz⟩ : ∃ wz,wz = w9.drew.setCells q 3 (mcells m'):=⟨_,rfl⟩
     have hlz : wz.heap[q]? = some (.cells (lcells s.p { s.G with m:=m' } s.bv).toArray 219 (0,0)):=by
      have h:=HX9.out.s9.lq
      rw [<- HQ.out] at h
      rw [hwz]; exact set_mark (w:=w9.drew) HNG.out HNM.out h
     have HSZ16 : Hid (S16 s w.heap.size g m' wz):=hJQ (by
      have h:=HX9.out.s9.lq
      rw [hwz,HQ.out]
      exact ⟨(setCells_other (w:=w9.drew) _ _ _ (fun e => by have h4:=HX9.out.s9.x4; rw [e,h] at h4; injection h4 with h4; injection h4 with _ h4 _; cases h4)).trans HX9.out.s9.x4,
       (setCells_other (w:=w9.drew) _ _ _ (fun e => by have h4:=HX9.out.mg; rw [e,h] at h4; injection h4 with h4; injection h4 with _ h4 _; cases h4)).trans HX9.out.mg⟩)
     have HSY16 : Hid (S16 s w.heap.size g m' (wz.setCell ⟨q,14,none⟩ (.slice Ab bl cb))):=hJQ ⟨by
       rw [heap_setCell_other wz _ _ _ (fun e => by have h4:=HSZ16.out.x4; simp only at e; rw [e,hlz] at h4; injection h4 with h4; injection h4 with _ h4 _; cases h4)]; exact HSZ16.out.x4,by
       rw [heap_setCell_other wz _ _ _ (fun e => by have h4:=HSZ16.out.mg; simp only at e; rw [e,hlz] at h4; injection h4 with h4; injection h4 with _ h4 _; cases h4)]; exact HSZ16.out.mg⟩
     have q14 : wz.cell? ⟨q,14,none⟩ = some s.bv:=(LCells.of (G:={ s.G with m:=m' }) hlz HNM.out).c14
     have qf14:=frozen_of_row wz q 14 _ _ hlz
     have hGD:=se_good (W':=((wz.setCell ⟨q,14,none⟩ (.slice Ab bl cb)).setCell ⟨b8,0,none⟩ (.int .i64 0))) hBw hDw HSD.out hhf hbl hby HZB.out HKC9.out HRU2.out (by rw [hwz,<- HM.out,HQ.out,HB8.out,HBB.out,HBL.out])
     rw [<- HB8.out] at hGD
     have HGD:=hJQ hGD
     have r8 : (wz.setCell ⟨q,14,none⟩ (.slice Ab bl cb)).heap[b8]? = some (.cells #[.int .i64 0] 66 (0,0)):=by
      have hb8':=HS9'.out.bx.x8
      rw [<- HB8.out] at hb8'
      have hne : b8 ≠ q:=fun e => by
       have h:=HX9.out.s9.lq
       rw [<- HQ.out,<- e,hb8'] at h
       injection h with h; injection h with _ h _; cases h
      rw [heap_setCell_other wz _ _ _ hne,hwz,setCells_other _ _ _ _ hne]; exact hb8'
     have r8c:=cell_of r8 (j:=0) rfl
     have r8f:=frozen_of_row _ b8 0 _ _ r8
     have HWZ:=hJQ hwz
     clear hwz hlz hGD r8 z8 zf8
     go_wp2_with fail
     refine wp_region_held_drew (S:=S16 s w.heap.size g m') (by kernel_rfl) HST16.out (fun hHeld => ?_)
     refine take_op 0 82 (.pointer (some ⟨q,0,none⟩)) rfl rfl (by kernel_rfl) (by kernel_rfl) (by kernel_rfl) (fun _ _ _ h => h) (.inl ⟨by rfl,fun w' hw' => by have hf:=s16_box HQ.out hw'; go_simp⟩) hHeld ?_
     simp only [List.set_cons_zero,List.set_cons_succ]
     refine take_op 1 83 (.pointer (some ⟨q,0,none⟩)) rfl rfl (by kernel_rfl) (by kernel_rfl) (by kernel_rfl) (fun _ _ _ h => h) (.inl ⟨by rfl,fun w' hw' => by have hf:=s16_box HQ.out hw'; go_simp⟩) hHeld ?_
     simp only [List.set_cons_zero,List.set_cons_succ]
     refine take_op 2 84 (.agg (mcells m').toArray) rfl rfl (by kernel_rfl) (by kernel_rfl) (by kernel_rfl) (fun _ _ _ h => h) (yieldsIf_load_mid (by rfl) 217 (.tmp 13) rfl g 0 rfl (mcells m') _ (fun w h => range_whole h.mg) Tryz.underlying217 rfl HSI.out) hHeld ?_
     simp only [List.set_cons_zero,List.set_cons_succ]
     refine take_op 3 85 (.slice Ab bl cb) rfl rfl (by kernel_rfl) (by kernel_rfl) (by kernel_rfl) (fun _ _ _ h => h) (.inl ⟨by rfl,fun w' hw' => by go_simp⟩) hHeld ?_
     simp only [List.set_cons_zero,List.set_cons_succ]
     refine take_op 4 86 (.pointer (some ⟨q,0,none⟩)) rfl rfl (by kernel_rfl) (by kernel_rfl) (by kernel_rfl) (fun _ _ _ h => h) (.inl ⟨by rfl,fun w' hw' => by go_simp⟩) hHeld ?_
     simp only [List.set_cons_zero,List.set_cons_succ]
     refine take_op 5 87 (.pointer (some ⟨q,3,none⟩)) rfl rfl (by kernel_rfl) (by kernel_rfl) (by kernel_rfl) (fun _ _ _ h => h) (.inl ⟨by rfl,fun w' hw' => by go_simp⟩) hHeld ?_
     simp only [List.set_cons_zero,List.set_cons_succ]
     refine wpAnyH_ready (rs:=[6]) (by kernel_rfl) (by simp) (AllReadyH.cons rfl (fun K3 hK3 => ?_) AllReadyH.nil)
     rw [if_pos (by rfl)]
     refine store_l rfl 217 (.tmp 87) (.tmp 84) rfl q 3 (mcells m').toArray rfl rfl HTH.out HSA.out HSO.out ?_
     rw [show w9.drew.setCells q 3 (mcells m').toArray.toList = wz from HWZ.out.symm]
     refine hK3.out _ _ HSZ16.out (fun hHeld3 => ?_)
     refine take_op 7 88 (.pointer (some ⟨q,0,none⟩)) rfl rfl (by kernel_rfl) (by kernel_rfl) (by kernel_rfl) (fun _ _ _ h => h) (.inl ⟨by rfl,fun w' hw' => by go_simp⟩) hHeld3 ?_
     simp only [List.set_cons_zero,List.set_cons_succ]
     refine take_op 8 89 (.pointer (some ⟨q,14,none⟩)) rfl rfl (by kernel_rfl) (by kernel_rfl) (by kernel_rfl) (fun _ _ _ h => h) (.inl ⟨by rfl,fun w' hw' => by go_simp⟩) hHeld3 ?_
     simp only [List.set_cons_zero,List.set_cons_succ]
     refine wpAnyH_ready (rs:=[9]) (by kernel_rfl) (by simp) (AllReadyH.cons rfl (fun K4 hK4 => ?_) AllReadyH.nil)
     go_simp
     refine hK4.out _ _ HSY16.out (fun _ => ?_)
     refine wpAnyH_done (by kernel_rfl) ?_ _
     go_wp2_with fail
     show bodyPostM Fence.wide 3 Tryz.prog Tryz.f168 (SePost s w) .ret _ _
     refine ⟨by simp,.inl ⟨_,_,rfl,run_takeDeferred HGD.out.2.2,?_⟩⟩
     exact ⟨_,results_i rfl _ _ b8 _ rfl HGD.out.1,HGD.out.2.1⟩
    ·have hne : (e2 != 0) = true:=by simpa using h2
     have hBD:=se_bad hBw hDw (HS9'.out.ret hBw e2) (by
      rw [heap_setCell_other _ _ _ _ (fun e => by have h:=HKC9.out; simp only at e; rw [e,HS9'.out.bx.x8] at h; cases h)]; exact HKC9.out) HRU2.out h2
     have hKB : (w9.setCell ⟨b8,0,none⟩ (.int .i64 e2)).heap[Dd]? = some (.deferred (some [])):=by
      rw [HB8.out,heap_setCell_other _ _ _ _ (fun e => by have h:=HKC9.out; simp only at e; rw [e,HS9'.out.bx.x8] at h; cases h)]; exact HKC9.out
     rw [<- HB8.out] at hBD
     have HBD:=hJQ hBD
     have HKB:=hJQ hKB
     clear h2 hBD hKB
     go_wp2_with fail
     show bodyPostM Fence.wide 3 Tryz.prog Tryz.f168 (SePost s w) .ret _ _
     refine ⟨by simp,.inl ⟨_,_,rfl,run_takeDeferred HKB.out,?_⟩⟩
     exact ⟨_,results_i rfl _ _ b8 _ rfl HBD.out.1,HBD.out.2⟩
   ·have hne : (e1 != 0) = true:=by simpa using h1
    have hru:=HRUN.out
    rw [if_neg h1] at hru
    have hBD:=se_bad hBw hDw (HS8.out.ret hBw e1) (by
     rw [heap_setCell_other _ _ _ _ (fun e => by have h:=HKC8.out; simp only at e; rw [e,HS8.out.bx.x8] at h; cases h)]; exact HKC8.out) hru h1
    have hKB : (w8.setCell ⟨b8,0,none⟩ (.int .i64 e1)).heap[Dd]? = some (.deferred (some [])):=by
     rw [HB8.out,heap_setCell_other _ _ _ _ (fun e => by have h:=HKC8.out; simp only at e; rw [e,HS8.out.bx.x8] at h; cases h)]; exact HKC8.out
    rw [<- HB8.out] at hBD
    have HBD:=hJQ hBD
    have HKB:=hJQ hKB
    clear h1 hBD hKB hru
    go_wp2_with fail
    show bodyPostM Fence.wide 3 Tryz.prog Tryz.f168 (SePost s w) .ret _ _
    refine ⟨by simp,.inl ⟨_,_,rfl,run_takeDeferred HKB.out,?_⟩⟩
    exact ⟨_,results_i rfl _ _ b8 _ rfl HBD.out.1,HBD.out.2⟩
 case stop =>
  rintro Dd xs W hD hX hK
  have hDw : w.heap.size <= Dd:=by have:=HS0.out.2; omega
  obtain ⟨er,hc,hp⟩:=se_stop hBw hDw hX hK
  rw [<- HB8.out] at hc
  have HC:=hJQ hc
  have HP:=hJQ hp
  have HK1:=hJQ hK
  clear hX hK hc hp
  refine wpIn_wide.2 ?_
  go_wp2_with fail
  show bodyPostM Fence.wide 3 Tryz.prog Tryz.f168 (SePost s w) .ret _ _
  refine ⟨by simp,.inl ⟨_,_,rfl,run_takeDeferred (w:=W) HK1.out,?_⟩⟩
  exact ⟨_,results_i rfl _ _ b8 _ rfl HC.out,HP.out⟩
open Go.ChangeShapes Go.WideShapes Go.ChangeAt Go.RowKit

def sgS (B : Bz) (q p : Nat) (G : Lg) (bv : Value) (D : Dk) : SG:=⟨B,q,p,G,bv,G.m.half,G.m.used,bv,G.bs,D⟩
def sgR (B : Bz) (q p : Nat) (G : Lg) (bv bb : Value) (D : Dk) (b : List Int) : SG:=⟨B,q,p,G,bv,1 - G.m.half,0,bb,b,D⟩
theorem sync_led (B : Bz) (q p : Nat) (G : Lg) (bv : Value) (D : Dk) (w : World) (h : PL w B q p G bv D) (hwt : D.wait.length <= 30000) :
  Calls Tryz.prog 142 #[.pointer (some ⟨q,0,none⟩)] w (SePost (sgS B q p G bv D) w):=by
 have hg:=h.gok
 obtain ⟨A,c,rfl,hnc,-,-⟩:=own_form h.row
 have hlc:=h.cells
 have hd : Below w.heap.size w w.drew:=(Below.refl _ _).drew
 have hse:=settle_any (sgS B q p G (.slice A G.bs.length c) D) A c w.drew (h.kept hd) rfl hnc (own_below h.row hd) hg.half hg.used hg.room hg.bys h.zb hwt
 have HSE : Hid (Calls Tryz.prog 168 #[.pointer (some ⟨q,0,none⟩),.int .i64 (G.m.half : Int),.int .i64 (G.m.used : Int),.slice A G.bs.length c] w.drew (SePost (sgS B q p G (.slice A G.bs.length c) D) w)):=hJQ (hse.mono fun e w' hp => ⟨hp.ret,(Kl.of_below hd h.size).trans hp.kl,hp.pl⟩)
 have HLC : Hid (∀ W,W.heap[q]? = w.heap[q]? -> LCells W q p G (.slice A G.bs.length c)):=hJQ (fun W e => LCells.of (e.trans h.here) hg.num)
 have HS0 : Hid (w.drew.heap[q]? = w.heap[q]?):=hJQ rfl
 clear h hg hlc hse hd
 go_enter Tryz.func142,Tryz.ntmps142
 go_wp2_with fail
 obtain ⟨hc12,hc13,hc14⟩ : (LCells w q p G (.slice A G.bs.length c)) /\ True /\ True:=⟨HLC.out w rfl,trivial,trivial⟩
 have hf12:=hc12.c12
 have hf13:=hc12.c13
 have hf14:=hc12.c14
 clear hc12 hc13 hc14
 go_still_tail 15,(by kernel_rfl)
 change wpList _ _ _ _ _ w.drew
 clear hf12 hf13 hf14
 generalize w.drew = w1 at HSE ⊢
 go_wp2_with fail
 refine HSE.out.mono ?_
 intro e w2 hp
 have HP:=hJQ hp
 obtain ⟨r,hr⟩ : ∃ r,r = (runW D (sgS B q p G (.slice A G.bs.length c) D).ws).2:=⟨_,rfl⟩
 have he : e = .returned (.int .i64 r):=by rw [hr]; exact hp.ret
 subst he
 clear hp hr
 go_wp2_with fail

 go_ret
 exact HP.out
end Go.Proofs.YtlppinfjdnhlbaaGreatDoor.Gq
