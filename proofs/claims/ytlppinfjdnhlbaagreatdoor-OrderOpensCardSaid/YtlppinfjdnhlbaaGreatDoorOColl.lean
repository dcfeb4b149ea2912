/-
 Chunk over at most 255 times three fields,and its iterator: the pieces,three by three. Condition: memory holds them.
-/
import Derived.Test.YtlppinfjdnhlbaaGreatDoorHd
import Derived.Test.YtlppinfjdnhlbaaGreatDoorORep
import Derived.Test.YtlppinfjdnhlbaaGreatDoorOToE
import Derived.Test.YtlppinfjdnhlbaaGreatDoorORange
import Derived.Shelf.Abstract
import Derived.Shelf.RegionOpen
import Derived.OwnWalkIn
import Derived.TacticsInMore
import Derived.LoopNIn
import Derived.LoopIn
import Derived.Maps.AppendAt
import Derived.Sort.QuietIn
import Derived.BigRegionIn
import Derived.Lib.MinMax
namespace Go.Proofs.YtlppinfjdnhlbaaGreatDoor
set_option maxRecDepth 100000
open Go.ChangeShapes Go.WideShapes Go.ChangeAt Go.RowKit Go.Proofs.Rk
open Pq (Fld FReads Reads fcs errL bytL)

attribute [local go_sem] Oper.semAt_some
def ck (b off p : Nat) : Value:=.slice (some ⟨b,off + p * 9,none⟩) 3 3
def cks (b off m : Nat) : List Value:=(List.range m).map (ck b off)
theorem cks_len (b off m : Nat) : (cks b off m).length = m:=by simp [cks]
theorem cks_succ (b off p : Nat) : cks b off (p + 1) = cks b off p ++ [ck b off p]:=by simp [cks,List.range_succ]
theorem chunk_any (ad : Option Addr) (N c : Nat) (w : World) : Calls Tryz.prog 75 #[.slice ad N c,.int .i64 3] w fun e w' => e = .returned (.func (.func 121) #[] #[.pointer (some ⟨w.heap.size,0,none⟩),.pointer (some ⟨w.heap.size + 1,0,none⟩)]) /\ w' = (w.alloc (.cells #[.slice ad N c] 129)).alloc (.cells #[.int .i64 3] 3):=by
 go_enter Tryz.func75,Tryz.ntmps75
 go_wp2
 go_ret
 exact ⟨rfl,rfl⟩
theorem fsl_from (b off k m c : Nat) (hk : k < m) (hc : m <= c) (W : World) : (Instr.slice 129 (.slice (some ⟨b,off,none⟩) m c) (some (.int .i64 (k : Int))) none none).run Tryz.prog W = .ok (.slice (some ⟨b,off + k * 3,none⟩) (m - k) (c - k)) W:=by
 obtain ⟨i0,hi,hz0,hz1,hz2⟩:=info_parts infoF
 have e : Tryz.prog.elem 129 = 135:=by kernel_rfl
 rw [run_slice_l (P:=Tryz.prog) (w:=W) 129 (some ⟨b,off,none⟩) m c Tryz.underlying129 .i64 (k : Int) (by omega) (by omega)]
 have hne : ¬ c = k:=by omega
 simp [e,sizeOf,typeInfo,hi,hz1,sliced,hne,Go.WideShapes.add_plain]
theorem fsl_six (b off k m c : Nat) (hk : k + 3 <= m) (hc : m <= c) (W : World) : (Instr.slice 129 (.slice (some ⟨b,off,none⟩) m c) (some (.int .i64 (k : Int))) (some (.int .i64 ((k : Int) + 3))) (some (.int .i64 ((k : Int) + 3)))).run Tryz.prog W = .ok (.slice (some ⟨b,off + k * 3,none⟩) 3 3) W:=by
 obtain ⟨i0,hi,hz0,hz1,hz2⟩:=info_parts infoF
 have e : Tryz.prog.elem 129 = 135:=by kernel_rfl
 rw [run_slice_lhm (P:=Tryz.prog) (w:=W) 129 (some ⟨b,off,none⟩) m c Tryz.underlying129 .i64 .i64 .i64 (k : Int) ((k : Int) + 3) ((k : Int) + 3) (by omega) (by omega) (Int.le_refl _) (by omega)]
 have e6 : k + 3 - k = 3:=by omega
 have e7 : ((k : Int) + 3).toNat = k + 3:=by omega
 simp [e,sizeOf,typeInfo,hi,hz1,sliced,e6,e7,Go.WideShapes.add_plain]
def Bx (B1 B2 : Nat) (ad : Option Addr) (N c : Nat) (X : World) : Prop:=Boxed X B1 129 (.slice ad N c) /\ Boxed X B2 3 (.int .i64 3)
def RC (b off m : Nat) (pre : List Value) (x : Value) (_ : World) : Prop:=x = ck b off pre.length /\ pre.length < m
set_option maxHeartbeats 1000000 in
theorem citer_in (n l B1 B2 : Nat) (hn : 1 <= n) (ad : Option Addr) (b off m c : Nat) (hm : m <= 255) (hA : 0 < m -> ad = some ⟨b,off,none⟩) (hc : m * 3 <= c) (J : List Value -> World -> Prop)
  (hJB : ∀ pre X,J pre X -> Bx B1 B2 ad (m * 3) c X) (hJd : ∀ pre X Y,J pre X -> Below X.heap.size X Y -> J pre Y)
  (hY : ∀ pre x X,J pre X -> RC b off m pre x X -> YieldAt Fence.wide (n - 1) Tryz.prog l #[x] X fun e Y => e = .returned (.bool true) /\ J (pre ++ [x]) Y)
  (W : World) (h0 : J [] W) :
  CallsIn Fence.wide n Tryz.prog 121 #[.func (.yield l) #[] #[],.pointer (some ⟨B1,0,none⟩),.pointer (some ⟨B2,0,none⟩)] W fun e Y => (∃ v,e = .returned v) /\ ∃ xs,xs = cks b off m /\ J xs Y:=by
 have HJB:=hJQ hJB
 have HJD:=hJQ hJd
 have HY:=hJQ hY
 have H0:=hJQ h0
 have HA:=hJQ hA
 clear hJB hJd hY h0 hA
 refine callsIn_of_wp Tryz.func121 rfl trivial ?_ rfl
 simp only [Tryz.ntmps121,List.size_toArray,List.length_cons,List.length_nil,Nat.reduceAdd,Nat.reduceSub,Array.replicate_succ,Array.replicate_zero,List.push_toArray,List.append_toArray,List.nil_append,List.cons_append]
 gi_wp2
 gi_loopw [4] (fun i wr => ∃ p : Nat,p <= m /\ i = .int .i64 ((p * 3 : Nat) : Int) /\ J (cks b off p) wr) (fun i _ => m * 3 - (intOf i).toNat)
 case atStart => exact ⟨0,by omega,rfl,H0.out⟩
 case round =>
  obtain ⟨p,hpm,rfl,hj⟩:=hrel
  obtain ⟨k,hk⟩ : ∃ k,k = p * 3:=⟨_,rfl⟩
  obtain ⟨N,hN⟩ : ∃ N,N = m * 3:=⟨_,rfl⟩
  have hbx:=HJB.out _ _ hj
  rw [<- hk]
  rw [<- hN] at hbx
  have hcN : N <= c:=by omega
  have c1:=hbx.1.cell
  have c2:=hbx.2.cell
  have HJJ:=hJQ hj
  by_cases hlt : p < m
  ·have hkN : (k : Int) < (N : Int):=by omega
   have hk0 : (0 : Int) <= (k : Int):=by omega
   have ha:=HA.out (by omega)
   subst ha
   have hs1:=fsl_from b off k N c (by omega) hcN
   have hs2:=fsl_six b off k N c (by omega) hcN
   obtain ⟨q,hq⟩ : ∃ q,q = N - k:=⟨_,rfl⟩
   rw [<- hq] at hs1
   have hmn : min (3 : Int) (q : Int) = 3:=by omega
   have hwp : IntKind.i64.wrap ((k : Int) + 3) = (k : Int) + 3:=by rw [IntKind.wrap_i64]; omega
   have HNN : Hid (N = m * 3):=hJQ hN
   have HP : Hid (k + 3 = (p + 1) * 3):=hJQ (by omega)
   have HPM : Hid (p + 1 <= m):=hJQ hlt
   have HME : Hid (N - (k + 3) < N - k):=hJQ (by omega)
   have hck : ck b off p = .slice (some ⟨b,off + k * 3,none⟩) 3 3:=by unfold ck; congr 3; omega
   have HYD : Hid (∀ X,J (cks b off p) X -> YieldAt Fence.wide (n - 1) Tryz.prog l #[.slice (some ⟨b,off + k * 3,none⟩) 3 3] X fun e Y => e = .returned (.bool true) /\ J (cks b off (p + 1)) Y /\ Bx B1 B2 (some ⟨b,off,none⟩) N c Y):=hJQ (fun X hX => by
    have h:=HY.out (cks b off p) (ck b off p) X hX ⟨by rw [cks_len],by rw [cks_len]; exact hlt⟩
    rw [hck] at h
    refine h.mono ?_
    rintro e Y ⟨e1,hj⟩
    rw [<- hck,<- cks_succ] at hj
    exact ⟨e1,hj,by rw [hN]; exact HJB.out _ _ hj⟩)
   obtain ⟨fn,tmps,assign,body,hy,hyr⟩:=HYD.out wr.drew (HJD.out _ _ _ HJJ.out (Below.refl _ wr).drew)
   have hy' : (Instr.yield l #[.slice (some ⟨b,off + k * 3,none⟩) 3 3]).run Tryz.prog wr.drew = .ok (.round l fn tmps assign body) wr.drew:=hy
   have HYR:=hJQ hyr
   clear hj hbx hk hN hq hck hlt hpm hy hyr
   gi_wp2
   gi_region
   all_goals
    gi_wp2
    refine HYR.out.mono ?_
    rintro e W3 ⟨rfl,hj3,hb3⟩
    have HJ3:=hJQ hj3
    have d1:=hb3.2.cell
    clear hj3 hb3
    gi_wp2
    go_roundw
    case rel => exact ⟨p + 1,HPM.out,by rw [<- HP.out]; first | rfl | go_num,HJ3.out⟩
    case measure => simp only [intOf]; have:=HME.out; have:=HNN.out; omega
  ·have hkN : ¬ (k : Int) < (N : Int):=by omega
   have hpm' : p = m:=by omega
   subst hpm'
   clear hj hbx hk hN hlt hpm
   gi_wp2
   go_end0
   exact ⟨⟨_,rfl⟩,HJJ.out⟩
end Go.Proofs.YtlppinfjdnhlbaaGreatDoor
