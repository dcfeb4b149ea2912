/-
 What pack.lay returns of a row of bytes of the call's own,a number,and places of bits: the row with those bytes of the number behind it. Condition: the row and the new bytes take together no more than 2^47 bytes.
-/
import Derived.Test.YtlppinfjdnhlbaaGreatDoorHd
import Derived.Test.YtlppinfjdnhlbaaGreatDoorQKinds
import Derived.Maps.AppendAt
namespace Go.Proofs.YtlppinfjdnhlbaaGreatDoor.Pq
set_option maxRecDepth 100000
open Go.ChangeShapes Go.WideShapes Go.ChangeAt Go.RowKit

theorem info5 : (Tryz.prog.info? 5).map (fun i => (i.zero,i.size,i.bytes)) = some (some (.int .u8 0),1,1):=by kernel_rfl
def Whole1 (w : World) (g : Nat) (t : TypeId) (cs : Array Value) : Prop:=w.heap[g]? = some (.cells cs t (0,0))
theorem Whole1.cell {w : World} {g : Nat} {t : TypeId} {cs : Array Value} (h : Whole1 w g t cs) (i : Nat) : w.cell? ⟨g,i,none⟩ = cs[i]?:=cell_of_row w g i cs t (0,0) h
theorem Whole1.lt {w : World} {g : Nat} {t : TypeId} {cs : Array Value} (h : Whole1 w g t cs) : g < w.heap.size:=(Array.getElem?_eq_some_iff.1 h).1
theorem Whole1.ne_own {w : World} {g base e size n : Nat} {t : TypeId} {cs : Array Value} {v : Value} {xs : List Value} (h : Whole1 w g t cs) (ho : w.ownsRow base e size v n xs) (hne : e ≠ t) : some g ≠ v.ownBlock:=by
 rcases ho.2 with ⟨rfl,_⟩ | ⟨g',cap,cur,rfl,_,hh,_⟩
 ·simp [Value.ownBlock]
 ·intro he
  simp only [Value.ownBlock,Option.some.injEq] at he
  subst he
  unfold Whole1 at h
  rw [h] at hh
  injection hh with hh
  injection hh with _ ht
  exact hne ht.symm
theorem Whole1.alloc {w : World} {g : Nat} {t : TypeId} {cs : Array Value} (h : Whole1 w g t cs) (o : Obj) : Whole1 (w.alloc o) g t cs:=(Below.heap_alloc w o g h.lt).trans h
theorem Whole1.grown {w w' : World} {g : Nat} {t : TypeId} {cs : Array Value} {row : Option Nat} (h : Whole1 w g t cs) (hb : w.grownBy w' row) (hg : some g ≠ row) : Whole1 w' g t cs:=(hb.block g h.lt hg).trans h
theorem own_ge {w : World} {base e size n : Nat} {v : Value} {xs : List Value} (h : w.ownsRow base e size v n xs) : ∀ k,v.ownBlock = some k -> base <= k:=by
 intro k hk
 rcases h.2 with ⟨rfl,_⟩ | ⟨g,cap,cur,rfl,hb,_⟩
 ·simp [Value.ownBlock] at hk
 ·simp [Value.ownBlock] at hk; omega
def lb (n : Int) (s : Nat) : Int:=n / (2 : Int) ^ s % (256 : Int)
def Lies (w : World) (r r' : Option Nat) : Prop:=r' = r ∨ ∃ k,r' = some k /\ w.heap.size <= k
theorem grown_on {w wr w1 : World} {r r' : Option Nat} (h : w.grownBy wr r) (hl : Lies w r r') (h1 : wr.grownBy w1 r') : w.grownBy w1 r:=by
 refine ⟨h1.os.trans h.os,h1.tape.trans h.tape,h1.output.trans h.output,Nat.le_trans h.size h1.size,fun i hi hne => ?_⟩
 refine (h1.block i (Nat.lt_of_lt_of_le hi h.size) (fun e => ?_)).trans (h.block i hi hne)
 rcases hl with hl | ⟨k,hk,hlt⟩
 ·exact hne (e.trans hl)
 ·rw [hk] at e; injection e with e; omega
theorem lies_on {w wr : World} {r r' r'' : Option Nat} (h : w.grownBy wr r) (hl : Lies w r r') (h1 : Lies wr r' r'') : Lies w r r'':=by
 rcases h1 with h1 | ⟨k,hk,hlt⟩
 ·rw [h1]; exact hl
 ·exact .inr ⟨k,hk,Nat.le_trans h.size hlt⟩
def LRel (w : World) (base g len : Nat) (v0 : Value) (zs : List Int) (n : Int) (bits : List Nat) (v i : Value) (wr : World) : Prop :=
 ∃ k : Nat,k <= bits.length /\ i = .int .i64 k /\ wr.ownsRow base 5 1 v (len + k) ((zs ++ (bits.take k).map (lb n)).map (Value.int .u8)) /\ Whole1 wr g 183 (bits.map fun (s : Nat) => Value.int .u64 (s : Int)).toArray /\ w.grownBy wr v0.ownBlock /\ Lies w v0.ownBlock v.ownBlock
theorem new_one (w : World) (u : Value) (t : TypeId) : ∀ j x,[u][j]? = some x -> (w.alloc (.cells #[u] t)).cell? ((⟨w.heap.size,0,none⟩ : Addr).add j) = some x:=by
 intro j x hx
 match j,hx with
 | 0,hx =>
  have e : u = x:=by simpa using hx
  subst e
  rw [Addr.add_zero',World.cell?_alloc_at (hn:=rfl)]; rfl
 | j + 1,hx => simp at hx
theorem one_one (K : IntKind) (z : Int) : ∀ u ∈ [Value.int K z],u.oneCell' = true:=by
 intro u hu
 simp only [List.mem_cons,List.not_mem_nil,or_false] at hu
 subst hu; rfl
theorem lay_round {w wr w1 : World} {base g len k s : Nat} {zs : List Int} {n : Int} {bits : List Nat} {v v0 v1 : Value} {o : Obj} (hk : k < bits.length) (hs : s = bits[k]) (hown : wr.ownsRow base 5 1 v (len + k) ((zs ++ (bits.take k).map (lb n)).map (Value.int .u8)))
  (hg : Whole1 wr g 183 (bits.map fun (s : Nat) => Value.int .u64 (s : Int)).toArray) (hb : w.grownBy wr v0.ownBlock) (hli : Lies w v0.ownBlock v.ownBlock) (hown1 : w1.ownsRow base 5 1 v1 (len + k + 1) ((zs ++ (bits.take k).map (lb n)).map (Value.int .u8) ++ [.int .u8 (n / 2 ^ s % 256)])) (hgrow : (wr.alloc o).grownBy w1 v.ownBlock) (hat : v1.ownBlock = v.ownBlock ∨ v1.ownBlock = some (wr.alloc o).heap.size) :
  LRel w base g len v0 zs n bits v1 (.int .i64 ((k : Int) + 1)) w1:=by
 refine ⟨k + 1,by omega,by go_num,?_,(hg.alloc o).grown hgrow (hg.ne_own hown (by decide)),grown_on hb hli ((World.grownBy_alloc wr o _).trans hgrow),lies_on hb hli (hat.imp id fun h => ⟨_,h,by simp⟩)⟩
 rw [List.take_succ_eq_append_getElem hk,List.map_append (f:=lb n),<- List.append_assoc,List.map_append (f:=Value.int .u8),<- hs]
 exact hown1
set_option maxHeartbeats 1000000 in
theorem lay_any (base g len : Nat) (v : Value) (zs : List Int) (n : Int) (bits : List Nat) (w : World) (hbits : ∀ s ∈ bits,s <= 56) (hlen : bits.length <= 8) (hown : w.ownsRow base 5 1 v len (zs.map (Value.int .u8)))
  (hg : Whole1 w g 183 (bits.map fun (s : Nat) => Value.int .u64 (s : Int)).toArray) (hbase : base <= w.heap.size) (hm : len + bits.length <= 140737488355328) :
  Calls Tryz.prog 172 #[v,.int .i64 n,.slice (some ⟨g,0,none⟩) bits.length bits.length] w fun e w' => ∃ v',e = .returned v' /\ w'.ownsRow base 5 1 v' (len + bits.length) ((zs ++ bits.map (lb n)).map (Value.int .u8)) /\ w.grownBy w' v.ownBlock /\ Lies w v.ownBlock v'.ownBlock:=by
 obtain ⟨i0,hi,hz0,hz1,hz2⟩:=info_parts info5
 have HO:=hJQ hown
 have HG:=hJQ hg
 have HB:=hJQ hbits
 clear hown hg hbits
 go_enter Tryz.func172,Tryz.ntmps172
 go_wp2
 go_loopw [0,11] (fun v' i wr => LRel w base g len v zs n bits v' i wr) (fun _ i _ => bits.length - (intOf i).toNat)
 case atStart => exact ⟨0,by omega,rfl,by simpa using HO.out,HG.out,World.grownBy.refl _ _,.inl rfl⟩
 case round =>
  obtain ⟨k,hk,rfl,hown,hgw,hb,hli⟩:=hrel
  have HO2:=hJQ hown
  have HG2:=hJQ hgw
  have HB2:=hJQ hb
  have HL:=hJQ hli
  clear hown hgw hb hli
  by_cases hlt : k < bits.length
  ·obtain ⟨s,hs⟩ : ∃ s,s = bits[k]:=⟨_,rfl⟩
   have hc : wr.cell? ⟨g,k,none⟩ = some (.int .u64 (s : Int)):=by
    rw [HG2.out.cell,List.getElem?_toArray,List.getElem?_map,List.getElem?_eq_getElem hlt,hs]; rfl
   have hs56 : s <= 56:=by rw [hs]; exact HB.out _ (List.getElem_mem hlt)
   have HS:=hJQ hs
   have h0 : (0 : Int) <= (s : Int):=by omega
   have h1 : (s : Int) <= 64:=by omega
   clear hs
   have hlk : 0 < bits.length:=by omega
   have h63 : len + k + 1 <= maxLen:=by unfold maxLen; omega
   have h47 : (len + k + 1) * 1 <= 140737488355328:=by omega
   have hsz : base <= (wr.alloc (.cells #[.int .u8 (n / 2 ^ s % 256)] 5)).heap.size:=by have:=HB2.out.size; simp; omega
   go_wp2_with (at_builtin; refine wpList_append_own_at _ rfl (.tmp 15) (.tmp 20) 82 rfl base 5 i0 (.int .u8 0) 1 1 Tryz.underlying82 hi hz0 hz1 hz2 rfl (by decide) u0 (len + k) ((zs ++ (bits.take k).map (lb n)).map (Value.int .u8)) rfl (HO2.out.alloc _) ⟨wr.heap.size,0,none⟩ 1 1 [.int .u8 (n / 2 ^ s % 256)] rfl rfl (new_one wr _ _) (one_one _ _) h63 h47 hsz ?_; intro v1 w1 hown1 hgrow1 _ hat1; have HX:=hJQ (lay_round hlt HS.out HO2.out HG2.out HB2.out HL.out hown1 hgrow1 hat1); clear hown1 hgrow1 hat1)
   go_roundw
   case rel => exact HX.out
   case measure => simp [intOf]; omega
  ·obtain rfl : k = bits.length:=by omega
   go_wp2
   go_ret
   have h:=HO2.out
   rw [List.take_length] at h
   exact ⟨_,rfl,h,HB2.out,HL.out⟩
end Go.Proofs.YtlppinfjdnhlbaaGreatDoor.Pq
