/-
 Rows beside rows: blocks of different types are different; what an append of a write leaves of the disk; what is laid over a sector. No condition.
 What Sync leaves of the program's disk: nothing waits; or it dies; or it is told that it is dead. No condition.
-/
import Derived.Test.YtlppinfjdnhlbaaGreatDoorHd
import Derived.Test.YtlppinfjdnhlbaaGreatDoorGArr
import Derived.OrdersHeld
namespace Go.Proofs.YtlppinfjdnhlbaaGreatDoor.Gq
set_option maxRecDepth 100000
open Go.ChangeShapes Go.WideShapes Go.ChangeAt Go.RowKit

theorem own_apart {w : World} {b1 b2 e1 e2 s1 s2 n1 n2 : Nat} {v1 v2 : Value} {x1 x2 : List Value} (h1 : w.ownsRow b1 e1 s1 v1 n1 x1) (h2 : w.ownsRow b2 e2 s2 v2 n2 x2) (he : e1 ≠ e2) : v1.ownBlock = none ∨ v1.ownBlock ≠ v2.ownBlock:=by
 rcases h1.2 with ⟨rfl,_⟩ | ⟨g,cap,cur,rfl,_,hg,_⟩
 ·exact .inl rfl
 ·refine .inr fun e => own_ne h2 hg he ?_
  rw [<- e]; rfl
theorem kp_grown {w w' : World} {B : Bz} {e size n : Nat} {v : Value} {xs : List Value} (h : w.ownsRow B e size v n xs) (he : e = 121 ∨ e = 152 ∨ e = 154) (hB : B <= w.heap.size) (hz : Mine B v) (hg : w.grownBy w' v.ownBlock) : Kp B w w' :=
 ⟨(Below.refl _ _).grown hg hB (own_ge h),fun k o hk h1 => by
  rw [hg.block k (Array.getElem?_eq_some_iff.1 hk).1 (fun e' => ?_)]
  ·exact hk
  ·rcases h.2 with ⟨rfl,_⟩ | ⟨g,cap,cur,rfl,_,hgg,_⟩
   ·simp [Value.ownBlock] at e'
   ·simp only [Value.ownBlock,Option.some.injEq] at e'
    subst e'
    rw [hgg] at hk
    injection hk with hk
    rcases h1 with h1 | h1
    ·exact hz _ rfl h1
    have:=h1 _ _ _ hk.symm
    rcases he with rfl | rfl | rfl
    ·exact absurd rfl this.1
    ·exact absurd rfl this.2.1
    ·exact absurd rfl this.2.2⟩
theorem PD.size {w : World} {B : Bz} {p : Nat} {D : Dk} {sv wv : Value} {left : Int} (h : PD w B p D sv wv left) : B <= w.heap.size:=Nat.le_of_lt (Nat.lt_of_le_of_lt h.base h.lt)
theorem PD.struct_kept {w w' : World} {B : Bz} {p : Nat} {D : Dk} {sv wv : Value} {left : Int} (h : PD w B p D sv wv left) {e size n : Nat} {v : Value} {xs : List Value} (hr : w.ownsRow B e size v n xs) (he : 121 ≠ e) (hg : w.grownBy w' v.ownBlock) :
  w'.heap[p]? = some (.cells #[sv,wv,.int .i64 left,.bool D.dead] 121 (0,0)):=by
 rw [hg.block p h.lt (fun e' => own_ne hr h.here he e'.symm)]
 exact h.here

structure AppPost (w : World) (B : Bz) (p : Nat) (D : Dk) (sv : Value) (left : Int) (n : Nat) (wx : World) (v2 : Value) : Prop where
 here : wx.heap[p]? = some (.cells #[sv,v2,.int .i64 left,.bool D.dead] 121 (0,0))
 secs : wx.ownsRow B 152 64 sv D.firm.length (flat (cur D))
 wrs : wx.ownsRow B 154 65 v2 (D.wait.length + 1) (wcells (was D.firm D.wait ++ [(n,(cur D).getD n [])]))
 kp : Kp B w wx
 zv : Mine B v2
structure AppMid (w : World) (B : Bz) (p : Nat) (D : Dk) (sv wv : Value) (left : Int) (n : Nat) (w2 : World) (v2 : Value) : Prop where
 here : w2.heap[p]? = some (.cells #[sv,wv,.int .i64 left,.bool D.dead] 121 (0,0))
 secs : w2.ownsRow B 152 64 sv D.firm.length (flat (cur D))
 wrs : w2.ownsRow B 154 65 v2 (D.wait.length + 1) (wcells (was D.firm D.wait ++ [(n,(cur D).getD n [])]))
 kp : Kp B w w2
 zv : Mine B v2
theorem app_mid {w w2 : World} {B : Bz} {p : Nat} {D : Dk} {sv wv v2 : Value} {left : Int} {n : Nat} (h : PD w B p D sv wv left)
  {C1 : Array Value} (hC1 : C1.toList = wcell (n,(cur D).getD n [])) (h2 : w2.ownsRow B 154 65 v2 (D.wait.length + 1) (wcells (was D.firm D.wait) ++ C1.toList)) (h3 : (w.drew.alloc (.cells C1 154)).grownBy w2 wv.ownBlock) (hat : ∀ k,v2.ownBlock = some k -> wv.ownBlock = some k ∨ (w.drew.alloc (.cells C1 154)).heap.size <= k) : AppMid w B p D sv wv left n w2 v2:=by
 have hb : Below w.heap.size w (w.drew.alloc (.cells C1 154)):=((Below.refl _ _).drew).alloc (Nat.le_refl _) _
 have h':=h.kept hb
 refine ⟨h'.struct_kept h'.wrs (by decide) h3,h'.secs.kept h3 (own_apart h'.secs h'.wrs (by decide)),?_,(Kp.of_below hb h.size).trans (kp_grown h'.wrs (.inr (.inr rfl)) h'.size h.zw h3),fun k hk hz => ?_⟩
 ·have e : wcells (was D.firm D.wait ++ [(n,(cur D).getD n [])]) = wcells (was D.firm D.wait) ++ C1.toList:=by
   rw [hC1]; simp [wcells]
  rw [e]; exact h2
 ·rcases hat k hk with h4 | h4
  ·exact h.zw k h4 hz
  ·have:=h'.zl k hz; omega
theorem AppMid.post {w w2 : World} {B : Bz} {p : Nat} {D : Dk} {sv wv v2 : Value} {left : Int} {n : Nat} (h : AppMid w B p D sv wv left n w2 v2) (hB : B <= p) (hz : ¬ B.z p) : AppPost w B p D sv left n (w2.setCell ⟨p,1,none⟩ v2) v2 :=
 ⟨struct_wait h.here v2,struct_row h.secs h.here (by decide) rfl _ _,struct_row h.wrs h.here (by decide) rfl _ _,h.kp.trans (struct_kp hB hz h.here 1 v2),h.zv⟩

theorem own_splice {w w' : World} {base e size n g c : Nat} {xs : List Value} {cur : List Value} (h : w.ownsRow base e size (.slice (some ⟨g,0,none⟩) n c) n xs) (hg : w.heap[g]? = some (.cells cur.toArray e (0,0))) (off : Nat) (cs : List Value) (hf : off + cs.length <= n * size)
  (hg' : w'.heap[g]? = some (.cells (splice cur off cs).toArray e (0,0))) : w'.ownsRow base e size (.slice (some ⟨g,0,none⟩) n c) n (splice xs off cs):=by
 rcases h.2 with ⟨h0,_⟩ | ⟨g',cap,cur',e1,hbg,hgg,hnc,hcm,hcs,ht⟩
 ·cases h0
 ·have hx:=h.1
  simp only [Value.slice.injEq,Option.some.injEq,Addr.mk.injEq] at e1
  obtain ⟨⟨rfl,_⟩,_,rfl⟩:=e1
  rw [hgg] at hg
  injection hg with hg
  injection hg with h1 _
  subst h1
  simp only [List.size_toArray] at hcs
  have hle : n * size <= c * size:=Nat.mul_le_mul_right _ hnc
  refine ⟨by rw [length_splice _ _ _ (by omega)]; exact hx,.inr ⟨g,c,_,rfl,hbg,hg',hnc,hcm,by rw [List.size_toArray,length_splice _ _ _ (by omega)]; exact hcs,?_⟩⟩
  have ht' : cur.take (n * size) = xs:=ht
  rw [<- ht']
  simp only [splice]
  rw [List.take_append,List.take_append,List.take_take,List.take_take,List.length_take,List.drop_take]
  rw [show min (n * size) off = off by omega,show min off (n * size) = off by omega,show min off cur.length = off by omega,List.take_of_length_le (show cs.length <= n * size - off by omega),show n * size - off - cs.length = n * size - (off + cs.length) by omega]
theorem own_block {w : World} {base e size n g c : Nat} {xs : List Value} (h : w.ownsRow base e size (.slice (some ⟨g,0,none⟩) n c) n xs) : ∃ cur : List Value,w.heap[g]? = some (.cells cur.toArray e (0,0)) /\ base <= g /\ g < w.heap.size /\ n * size <= cur.length /\ cur.take (n * size) = xs:=by
 rcases h.2 with ⟨h0,_⟩ | ⟨g',cap,cur',e1,hbg,hgg,hnc,hcm,hcs,ht⟩
 ·cases h0
 ·simp only [Value.slice.injEq,Option.some.injEq,Addr.mk.injEq] at e1
  obtain ⟨⟨rfl,_⟩,_,rfl⟩:=e1
  exact ⟨cur'.toList,hgg,hbg,(Array.getElem?_eq_some_iff.1 hgg).1,by rw [Array.length_toList,hcs]; exact Nat.mul_le_mul_right _ hnc,ht⟩
theorem setCells_splice {g : Nat} {t : TypeId} : ∀ (vs : List Value) (o : Nat) (cur : List Value) (w : World),w.heap[g]? = some (.cells cur.toArray t (0,0)) -> o + vs.length <= cur.length -> (w.setCells g o vs).heap[g]? = some (.cells (splice cur o vs).toArray t (0,0))
 | [],o,cur,w,hg,_ => by simpa [World.setCells,splice] using hg
 | v :: vs,o,cur,w,hg,hl => by
  have h1:=heap_setCell_same w g o cur.toArray t v hg
  rw [List.setIfInBounds_toArray] at h1
  rw [World.setCells,setCells_splice vs (o + 1) (cur.set o v) _ h1 (by simp at hl ⊢; omega)]
  have e:=list_seg_step cur o v vs (by simpa using hl)
  simp only [splice,List.length_cons,<- List.append_assoc]
  rw [e]
theorem setCells_other {g : Nat} : ∀ (vs : List Value) (o : Nat) (w : World) (k : Nat),k ≠ g -> (w.setCells g o vs).heap[k]? = w.heap[k]?
 | [],_,_,_,_ => rfl
 | v :: vs,o,w,k,h => by rw [World.setCells,setCells_other vs (o + 1) _ k h,heap_setCell_other w ⟨g,o,none⟩ k v h]
theorem setCells_grown {g : Nat} : ∀ (vs : List Value) (o : Nat) (w : World),w.grownBy (w.setCells g o vs) (some g)
 | [],_,w => World.grownBy.refl w _
 | v :: vs,o,w => by
  have h:=setCells_grown (g:=g) vs (o + 1) (w.setCell ⟨g,o,none⟩ v)
  refine ⟨h.os,h.tape,h.output,?_,fun k _ hk => setCells_other (v :: vs) o w k (fun e => hk (by rw [e]))⟩
  have:=h.size
  simpa [World.setCells] using this
theorem splice_over {X Z Y : List Value} {o : Nat} (hY : Y.length <= Z.length) (hX : o + Z.length <= X.length) : splice (splice X o Z) o Y = splice X o (Y ++ Z.drop Y.length):=by
 have h1 : (X.take o).length = o:=by rw [List.length_take]; omega
 simp only [splice]
 rw [List.take_append_of_le_length (by omega),List.take_of_length_le (show (X.take o).length <= o by omega),List.append_assoc Y]
 congr 1
 congr 1
 rw [List.drop_append,List.drop_eq_nil_of_le (by omega),List.nil_append,h1,Nat.add_sub_cancel_left,List.drop_append_of_le_length hY]
 congr 1
 rw [List.length_append,List.length_drop]
 congr 1
 omega
theorem setRow_grown {w : World} {g : Nat} (cs : Array Value) : w.grownBy (w.setRow g cs) (some g) :=
 ⟨rfl,rfl,rfl,by simp [World.setRow],fun k _ hk => setRow_other w g k cs (fun e => hk (by rw [e]))⟩
theorem run_copy_grown {w : World} (ty : TypeId) (dp sp : Option Addr) (dLen dCap sLen sCap : Nat) (g off : Nat) (cur : List Value) (t : TypeId) (hg : w.heap[g]? = some (.cells cur.toArray t (0,0))) (cs : List Value) (hn : cs.length = Nat.min sLen dLen)
  (hpos : 0 < cs.length -> dp = some ⟨g,off,none⟩ /\ ∃ ad,sp = some ad /\ ∀ j v,cs[j]? = some v -> w.cell? (ad.add j) = some v) (hfit : off + cs.length <= cur.length) (h1 : ∀ v ∈ cs,v.oneCell' = true) :
  ∃ w',(Builtin.copy_ #[82,82] ty #[.slice dp dLen dCap,.slice sp sLen sCap]).run Tryz.prog w = .ok (goInt cs.length) w' /\ w'.heap[g]? = some (.cells (splice cur off cs).toArray t (0,0)) /\ w.grownBy w' (some g):=by
 by_cases h0 : cs.length = 0
 ·obtain rfl : cs = []:=List.eq_nil_of_length_eq_zero h0
  exact ⟨w,run_copy_none (P:=Tryz.prog) w 82 82 ty 5 dp sp dLen dCap sLen sCap Tryz.underlying82 size5 (by simpa using hn.symm),by simpa [splice] using hg,World.grownBy.refl w _⟩
 ·obtain ⟨rfl,ad,rfl,hsrc⟩:=hpos (by omega)
  have hrun:=run_copy_row (P:=Tryz.prog) w 82 82 ty 5 g off dLen dCap ad sLen sCap cur.toArray t cs Tryz.underlying82 size5 hg hn hsrc (by simpa using hfit) h1
  exact ⟨_,hrun,by simpa [splice] using setRow_heap w g _ (cur.toArray.toList.take off ++ (cs ++ cur.toArray.toList.drop (off + cs.length))).toArray t _ hg,setRow_grown _⟩
theorem wpList_copy_grown {w : World} {ops : Array Oper} {rest : List Oper} {o : Oper} {a : Act} {Q : Exit -> Act -> World -> Prop} (hgd : o.guard = none) (d s : Operand)
  (ho : o.op = .call { callee:=.builtin .copy,args:=#[d,s],argTypes:=#[82,82] })
  (dp sp : Option Addr) (dLen dCap sLen sCap : Nat) (hd : a.eval d = .slice dp dLen dCap) (hs : a.eval s = .slice sp sLen sCap)
  (g off : Nat) (cur : List Value) (t : TypeId) (hg : w.heap[g]? = some (.cells cur.toArray t (0,0))) (cs : List Value) (hn : cs.length = Nat.min sLen dLen)
  (hpos : 0 < cs.length -> dp = some ⟨g,off,none⟩ /\ ∃ ad,sp = some ad /\ ∀ j v,cs[j]? = some v -> w.cell? (ad.add j) = some v) (hfit : off + cs.length <= cur.length) (h1 : ∀ v ∈ cs,v.oneCell' = true)
  (h : ∀ w',w'.heap[g]? = some (.cells (splice cur off cs).toArray t (0,0)) -> w.grownBy w' (some g) -> wpList Tryz.prog ops Q rest (a.put o.dst (goInt cs.length)) w') : wpList Tryz.prog ops Q (o :: rest) a w:=by
 refine wpList_plain hgd fun K hK => ?_
 obtain ⟨w',hrun,h2,h3⟩:=run_copy_grown o.type dp sp dLen dCap sLen sCap g off cur t hg cs hn hpos hfit h1
 unfold Oper.wp execOp
 simp only [ho,resolve,invoke,builtin,Sem.run_bind,Sem.run_pure,Result.andThen_ok,List.map_toArray,List.map_cons,List.map_nil,hd,hs,hrun]
 exact hK _ _ (h w' h2 h3)
theorem wpList_store_grown {w : World} {ops : Array Oper} {rest : List Oper} {o : Oper} {a : Act} {Q : Exit -> Act -> World -> Prop} (hgd : o.guard = none) (x y : Operand) (ho : o.op = .store 152 x y) (g off : Nat) (hx : a.eval x = .pointer (some ⟨g,off,none⟩)) (C : Array Value) (hy : a.eval y = .agg C)
  (cur : List Value) (t : TypeId) (hg : w.heap[g]? = some (.cells cur.toArray t (0,0))) (hC : C.size = 64) (hfit : off + 64 <= cur.length) (h1 : C.all (·.oneCell') = true)
  (h : ∀ w',w'.heap[g]? = some (.cells (splice cur off C.toList).toArray t (0,0)) -> w.grownBy w' (some g) -> wpList Tryz.prog ops Q rest (a.put o.dst undef) w') : wpList Tryz.prog ops Q (o :: rest) a w:=by
 refine wpList_store_mid hgd 152 x y ho g off C hx hy (fun j hj => ⟨?_,frozen_of_row w g _ _ _ hg⟩) (by rw [hC]; exact size66) h1 ?_
 ·rw [cell_of_row w g _ _ _ _ hg]
  simp
  omega
 ·exact h _ (setCells_splice C.toList off cur w hg (by rw [Array.length_toList]; omega)) (setCells_grown _ _ _)
theorem reads_cells {w : World} {A : Option Addr} {len : Nat} {zs : List Int} (hR : Reads w A len zs) (hp : 0 < len) : ∃ ad,A = some ad /\ ∀ j v,(ints zs)[j]? = some v -> w.cell? (ad.add j) = some v:=by
 obtain ⟨h1,h2,_⟩:=hR
 obtain ⟨b,off,rfl,hc⟩:=h2 hp
 refine ⟨_,rfl,fun j v hv => ?_⟩
 have hj : j < len:=by
  have:=(List.getElem?_eq_some_iff.1 hv).1
  rw [ints_length] at this; omega
 rw [Go.WideShapes.add_plain,hc j hj]
 unfold ints at hv
 rw [List.getElem?_map,List.getElem?_eq_getElem (by omega)] at hv
 rw [<- hv,getD_eq _ (by omega)]; rfl
theorem ints_zero_drop (k : Nat) : (ints (List.replicate 64 0)).drop k = ints (List.replicate (64 - k) 0):=by
 unfold ints; rw [List.map_replicate,List.map_replicate,List.drop_replicate]
theorem ints_pad (zs : List Int) : ints (pad zs) = ints zs ++ ints (List.replicate (64 - zs.length) 0):=by simp [ints,pad]
theorem flat_put {l : List (List Int)} {n : Nat} {zs : List Int} (hl : Lok l) (hn : n < l.length) (hz : zs.length <= 64) : splice (splice (flat l) (n * 64) (ints (List.replicate 64 0))) (n * 64) (ints zs) = flat (l.set n (pad zs)):=by
 have h1 : (ints (List.replicate 64 0)).length = 64:=by rw [ints_length,List.length_replicate]
 have h2:=flat_length hl
 have h3 : (n + 1) * 64 <= l.length * 64:=Nat.mul_le_mul_right _ hn
 rw [splice_over (by rw [ints_length,h1]; exact hz) (by rw [h1]; omega),ints_length,ints_zero_drop,<- ints_pad]
 exact part_set ints 64 l n hn _ (lok_parts hl) (by rw [ints_length,pad,List.length_append,List.length_replicate]; omega)
theorem spend_life {D : Dk} {left : Int} (hd : D.dead = false) (hl : D.armed = max left 0) :
  (dies D).dead = (if left = 1 then true else false) /\ ((dies D).dead = false -> (dies D).armed = max (if 1 < left then left - 1 else left) 0):=by
 unfold dies
 by_cases h1 : left = 1
 ·subst h1
  rw [if_pos (by omega)]
  have : D.armed = 1:=by omega
  simp [this]
 by_cases h2 : 1 < left
 ·rw [if_pos (by omega),if_neg h1,if_pos h2]
  have : D.armed = left:=by omega
  refine ⟨by simp only [this]; exact decide_eq_false (by omega),fun _ => by simp only [this]; omega⟩
 ·rw [if_neg (by omega),if_neg h1,if_neg h2]
  exact ⟨hd,fun _ => hl⟩
open Go.ChangeShapes Go.WideShapes Go.ChangeAt Go.RowKit

def SyPost (w : World) (B : Bz) (p : Nat) (D : Dk) (e : Ending) (w' : World) : Prop :=
 e = .returned (.int .i64 (doD D 2 0 0 []).2.2) /\ PDisk w' B p (doD D 2 0 0 []).1 /\ Kp B w w'
theorem do_sync_dead {D : Dk} (hd : D.dead = true) : doD D 2 0 0 [] = (D,[],40):=by
 unfold doD
 rw [if_neg (by decide),if_neg (by decide),if_neg (by decide),if_pos hd]
theorem do_sync {D : Dk} (hd : D.dead = false) : doD D 2 0 0 [] = if (dies D).dead = true then (dies D,[],40) else (syncD (dies D),[],0):=by
 unfold doD
 rw [if_neg (by decide),if_neg (by decide),if_neg (by decide),if_neg (by simp [hd]),if_pos rfl]
theorem spent_pd {w w6 : World} {B : Bz} {p : Nat} {D : Dk} {sv wv : Value} {left : Int} {e : Ending} (h : PD w B p D sv wv left) (hd : D.dead = false) (h6 : SpendPost w p sv wv left D.dead e w6) :
  PD w6 B p (dies D) sv wv (if 1 < left then left - 1 else left) /\ Kp B w w6 /\ (dies D).dead = (if left = 1 then true else false):=by
 obtain ⟨_,⟨v,j,hw⟩,hst⟩:=h6
 have hlife:=spend_life hd (h.life hd)
 have hk : Kp B w w6 /\ w6.ownsRow B 152 64 sv D.firm.length (flat (cur D)) /\ w6.ownsRow B 154 65 wv D.wait.length (wcells (was D.firm D.wait)):=by
  rcases hw with rfl | rfl
  ·exact ⟨struct_kp h.base h.zp h.here j v,struct_row h.secs h.here (by decide) rfl _ _,struct_row h.wrs h.here (by decide) rfl _ _⟩
  ·exact ⟨Kp.refl _ _,h.secs,h.wrs⟩
 refine ⟨⟨dies_dok h.ok,h.base,?_,?_,?_,?_,hlife.2,h.zp,h.zs,h.zw,fun k hz => Nat.lt_of_lt_of_le (h.zl k hz) hk.1.below.size⟩,hk.1,hlife.1⟩
 ·rw [hlife.1]; rw [hd] at hst; exact hst
 ·unfold cur; rw [dies_firm,dies_wait]; exact hk.2.1
 ·rw [dies_firm,dies_wait]; exact hk.2.2
 ·have:=h.left_hi
  split <;> omega
theorem sync_set {w : World} {B : Bz} {p : Nat} {D : Dk} {sv wv : Value} {left : Int} (h : PD w B p D sv wv left) : PDisk (w.setCell ⟨p,1,none⟩ (.slice none 0 0)) B p (syncD D) /\ Kp B w (w.setCell ⟨p,1,none⟩ (.slice none 0 0)):=by
 refine ⟨⟨sv,.slice none 0 0,left,sync_dok h.ok,h.base,struct_wait h.here _,?_,World.ownsRow_nil _ _ _ _,h.left_hi,h.life,h.zp,h.zs,Mine.nil _,fun k hz => by simpa using h.zl k hz⟩,struct_kp h.base h.zp h.here _ _⟩
 show (w.setCell _ _).ownsRow B 152 64 sv (cur D).length (flat (ups (cur D) []))
 rw [cur_len]
 exact struct_row h.secs h.here (by decide) rfl _ _
theorem sync_any (B : Bz) (p : Nat) (D : Dk) (w : World) (h : PDisk w B p D) : Calls Tryz.prog 187 #[.pointer (some ⟨p,0,none⟩)] w (SyPost w B p D):=by
 obtain ⟨sv,wv,left,h⟩:=h
 have H:=hJQ h
 obtain ⟨c0,c1,c2,c3⟩:=h.cell
 cases hd : D.dead with
 | true =>
  have HX:=hJQ (do_sync_dead hd)
  rw [hd] at c3
  clear h hd
  go_enter Tryz.func187,Tryz.ntmps187
  go_wp2_with fail
  go_ret
  exact ⟨by rw [HX.out]; rfl,by rw [HX.out]; exact ⟨_,_,_,H.out⟩,Kp.refl _ _⟩
 | false =>
  have HD:=hJQ hd
  have HX:=hJQ (do_sync hd)
  have HS:=hJQ (spend_any p sv wv left D.dead w h.here h.left_hi)
  rw [hd] at c3
  clear h hd
  go_enter Tryz.func187,Tryz.ntmps187
  go_wp2_with fail
  refine HS.out.mono ?_
  intro e w6 hs6
  have HP:=hJQ (spent_pd H.out HD.out hs6)
  obtain ⟨rfl,-⟩:=hs6
  have d1:=HP.out.1.cell.2.1
  have g1:=HP.out.1.free 1
  by_cases h1 : left = 1
  ·have HE : Hid (doD D 2 0 0 [] = (dies D,[],40)):=hJQ (by rw [HX.out,if_pos (by rw [HP.out.2.2,if_pos h1])])
   rw [if_pos h1]
   clear h1
   go_wp2
   go_ret
   exact ⟨by rw [HE.out]; rfl,by rw [HE.out]; exact ⟨_,_,_,HP.out.1⟩,HP.out.2.1⟩
  ·have HE : Hid (doD D 2 0 0 [] = (syncD (dies D),[],0)):=hJQ (by rw [HX.out,if_neg (by rw [HP.out.2.2,if_neg h1]; decide)])
   have HY:=hJQ (sync_set HP.out.1)
   rw [if_neg h1]
   clear h1
   go_wp2
   go_ret
   exact ⟨by rw [HE.out]; rfl,by rw [HE.out]; exact HY.out.1,HP.out.2.1.trans HY.out.2⟩
end Go.Proofs.YtlppinfjdnhlbaaGreatDoor.Gq
