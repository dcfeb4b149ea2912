/-
 What Write leaves of the program's disk: the write waits,the sector has the bytes,and bytes 0 behind them; or it is told what is amiss. Condition: not too many writes wait; the bytes are not the disk's own.
 What takeBack leaves of sectors on which writes wait: those of a crash. Condition: no more bytes are torn than a sector has.
 What Read returns: the sector's bytes in memory of their own; or what is amiss. No condition.
-/
import Derived.Test.YtlppinfjdnhlbaaGreatDoorHd
import Derived.Test.YtlppinfjdnhlbaaGreatDoorGSync
import Derived.Deep.RegionHeld3
import Derived.Deep.AppendLies
import Derived.Deep.DeepCutAuto
namespace Go.Proofs.YtlppinfjdnhlbaaGreatDoor.Gq
set_option maxRecDepth 100000
open Go.ChangeShapes Go.WideShapes Go.ChangeAt Go.RowKit

def WS (p g n m c : Nat) (cs : List Value) (w' : World) : Prop:=w'.cell? ⟨p,0,none⟩ = some (.slice (some ⟨g,0,none⟩) m c) /\ w'.frozen? ⟨p,1,none⟩ = false /\ w'.rangeAt g (n * 64) cs
theorem take_op {ops : Array Oper} {Q : Exit -> Act -> World -> Prop} {S : World -> Prop} {fuel : Nat} {listed : Array Bool} {l : List Value} {ds : List Deferred} {w : World} (i d : Nat) (v : Value) {o : Oper} (hi : ops[i]? = some o) (hd : o.dst = some d)
  (hs : Region.noSelect ops = true) (hf : Region.free .any ops listed i = true) (hr : (Region.ready .any ops listed).contains i = true) (hQ : ∀ c a w,Q (.panic c) (a.put o.dst v) w -> Q (.panic c) a w)
  (hy : YieldsIf Tryz.prog ops S o v (Act.mk l.toArray ds)) (hS : S w) (h : wpAnyH Tryz.prog .any ops Q S fuel (listed.setIfInBounds i true) (Act.mk (l.set d v).toArray ds) w) : wpAnyH Tryz.prog .any ops Q S (fuel + 1) listed (Act.mk l.toArray ds) w:=by
 refine wpAnyH_take hi hs hf hr hQ hy hS ?_
 rw [hd]
 simpa [Act.put] using h
theorem put_lit (l : List Value) (ds : List Deferred) (o : Option Tmp) (d : Nat) (v : Value) (hd : o = some d) : (Act.mk l.toArray ds).put o v = Act.mk (l.set d v).toArray ds:=by
 subst hd; simp [Act.put]
theorem row1_op {l : List Value} {ds : List Deferred} {o : Oper} {w : World} {K : Act -> World -> Prop} {Q : Exit -> Act -> World -> Prop} (d : Nat) (hd : o.dst = some d) (x : Operand) (ho : o.op = .buildSlice 119 1 #[(0,x)]) (C : Array Value) (hx : (Act.mk l.toArray ds).eval x = .agg C) (hC : C.size = 65)
  (h : K (Act.mk (l.set d (.slice (some ⟨w.heap.size,0,none⟩) 1 1)).toArray ds) (w.alloc (.cells C 154))) : o.wp Tryz.prog (Act.mk l.toArray ds) w K Q:=by
 refine wp_row1 x ho C hx hC ?_
 rw [put_lit l ds _ d _ hd]; exact h
theorem app_op {ops : Array Oper} {l : List Value} {ds : List Deferred} {o : Oper} {w : World} {K : Act -> World -> Prop} {Q : Exit -> Act -> World -> Prop} {E : Prop} (d : Nat) (hd : o.dst = some d) (hgd : o.guard = none) (s x : Operand)
  (ho : o.op = .call { callee:=.builtin .append,args:=#[s,x],argTypes:=#[119,119] }) (B : Nat) (v : Value) (n : Nat) (xs : List Value) (hs : (Act.mk l.toArray ds).eval s = v) (hown : w.ownsRow B 154 65 v n xs) (g : Nat) (C : Array Value)
  (hx : (Act.mk l.toArray ds).eval x = .slice (some ⟨g,0,none⟩) 1 1) (hC : C.size = 65) (hg : w.heap[g]? = some (.cells C 154 (0,0))) (h1 : ∀ u ∈ C.toList,u.oneCell' = true) (hn : n <= 100000) (hB : B <= w.heap.size)
  (h : ∀ v' w',w'.ownsRow B 154 65 v' (n + 1) (xs ++ C.toList) -> w.grownBy w' v.ownBlock -> (∀ k,v'.ownBlock = some k -> v.ownBlock = some k ∨ w.heap.size <= k) -> K (Act.mk (l.set d v').toArray ds) w') :
  if Region.wanted o (yielded ops (Act.mk l.toArray ds).tmps) = true then Oper.wp Tryz.prog o (Act.mk l.toArray ds) w K Q else E:=by
 obtain ⟨i0,hi,hz0,hz1,hz2⟩:=info_parts info74
 refine step_append_lies (P:=Tryz.prog) _ hgd s x 119 ho B 154 i0 (.agg (#[Value.int .i64 0] ++ Z64)) 65 72 Tryz.underlying119 hi hz0 hz1 hz2 (by kernel_rfl) (by decide) v n xs hs hown ⟨g,0,none⟩ 1 1 C.toList hx (by rw [Array.length_toList]; omega) (World.news_of_block hg) h1 (by decide) (by unfold maxLen; omega) (by omega) hB _ rfl ?_
 intro g2 cap2 w2 h2 h3 h4 _
 rw [put_lit l ds _ d _ hd]
 refine h _ _ h2 h3 (fun k hk => ?_)
 simp only [Value.ownBlock,Option.some.injEq] at hk
 subst hk
 rcases h4 with h4 | h4
 ·exact .inl h4
 ·exact .inr (Nat.le_of_eq h4.symm)
def WrPost (w : World) (B : Bz) (p : Nat) (D : Dk) (n : Int) (zs : List Int) (e : Ending) (w' : World) : Prop :=
 e = .returned (.int .i64 (doD D 0 n 0 zs).2.2) /\ PDisk w' B p (doD D 0 n 0 zs).1 /\ Kp B w w'
theorem do_write {D : Dk} {n : Nat} {zs : List Int} (hd : D.dead = false) (hn : n < D.firm.length) (hz : zs.length <= 64) :
  doD D 0 (n : Int) 0 zs = (dies (putD D n zs),[],if (dies (putD D n zs)).dead = true then 40 else 0):=by
 unfold doD
 rw [if_neg (by decide),if_neg (by decide),if_neg (by decide),if_neg (by simp [hd]),if_neg (by decide),if_neg (by omega),if_neg (by decide)]
 rfl
theorem write_end {w wc w5 w6 : World} {B : Bz} {p g c : Nat} {D : Dk} {wv v2 : Value} {left : Int} {n : Nat} {zs : List Int} {cur0 : List Value} {e : Ending} (h : PD w B p D (.slice (some ⟨g,0,none⟩) D.firm.length c) wv left) (hn : n < D.firm.length) (hd : D.dead = false) (hz : zs.length <= 64) (hb : Bys zs)
  (h1 : AppPost w B p D (.slice (some ⟨g,0,none⟩) D.firm.length c) left n wc v2) (hg : wc.heap[g]? = some (.cells cur0.toArray 152 (0,0))) (h5 : w5.heap[g]? = some (.cells (splice (splice cur0 (n * 64) (ints (List.replicate 64 0))) (n * 64) (ints zs)).toArray 152 (0,0))) (hgr : wc.grownBy w5 (some g))
  (h6 : SpendPost w5 p (.slice (some ⟨g,0,none⟩) D.firm.length c) v2 left D.dead e w6) : WrPost w B p D (n : Int) zs e w6:=by
 have hl:=cur_ok h.ok
 have hn' : n < (cur D).length:=by rw [cur_len]; exact hn
 have hfit : (n + 1) * 64 <= D.firm.length * 64:=Nat.mul_le_mul_right _ hn
 have hz64 : (ints (List.replicate 64 0)).length = 64:=by rw [ints_length,List.length_replicate]
 have hzl : (ints zs).length <= 64:=by rw [ints_length]; exact hz
 have hB : B <= wc.heap.size:=Nat.le_trans h.size h1.kp.below.size
 have hgr' : wc.grownBy w5 (Value.slice (some ⟨g,0,none⟩) D.firm.length c).ownBlock:=hgr
 have hst : w5.heap[p]? = some (.cells #[.slice (some ⟨g,0,none⟩) D.firm.length c,v2,.int .i64 left,.bool D.dead] 121 (0,0)):=by
  rw [hgr'.block p (Array.getElem?_eq_some_iff.1 h1.here).1 (fun e' => own_ne h1.secs h1.here (by decide) e'.symm)]
  exact h1.here
 have hrow : w5.ownsRow B 154 65 v2 (D.wait.length + 1) (wcells (was D.firm D.wait ++ [(n,(cur D).getD n [])])):=h1.wrs.kept hgr' (own_apart h1.wrs h1.secs (by decide))
 have hsec : w5.ownsRow B 152 64 (.slice (some ⟨g,0,none⟩) D.firm.length c) D.firm.length (flat ((cur D).set n (pad zs))):=by
  rw [<- flat_put hl hn' hz]
  rcases h1.secs.2 with ⟨h0,_⟩ | ⟨g',cap,cur',e1,hbg,hgg,hnc,hcm,hcs,ht⟩
  ·cases h0
  ·have hx:=h1.secs.1
   simp only [Value.slice.injEq,Option.some.injEq,Addr.mk.injEq] at e1
   obtain ⟨⟨rfl,_⟩,_,rfl⟩:=e1
   rw [hgg] at hg
   injection hg with hg
   injection hg with e2 _
   subst e2
   have hs1:=(setRow_heap wc g _ (splice cur0 (n * 64) (ints (List.replicate 64 0))).toArray 152 _ hgg)
   have r1:=own_splice h1.secs hgg (n * 64) (ints (List.replicate 64 0)) (by omega) hs1
   exact own_splice r1 hs1 (n * 64) (ints zs) (by omega) h5
 have hk5 : Kp B w w5:=h1.kp.trans (kp_grown h1.secs (.inr (.inl rfl)) hB h.zs hgr')
 obtain ⟨he,⟨v,j,hw⟩,hst6⟩:=h6
 have hlife:=spend_life (D:=putD D n zs) (left:=left) hd (h.life hd)
 have hk6 : Kp B w w6 /\ w6.ownsRow B 152 64 (.slice (some ⟨g,0,none⟩) D.firm.length c) D.firm.length (flat ((cur D).set n (pad zs))) /\ w6.ownsRow B 154 65 v2 (D.wait.length + 1) (wcells (was D.firm D.wait ++ [(n,(cur D).getD n [])])):=by
  rcases hw with rfl | rfl
  ·exact ⟨hk5.trans (struct_kp h.base h.zp hst j v),struct_row hsec hst (by decide) rfl _ _,struct_row hrow hst (by decide) rfl _ _⟩
  ·exact ⟨hk5,hsec,hrow⟩
 have hdo:=do_write hd hn hz
 have hok : Dok (dies (putD D n zs)):=dies_dok (put_dok h.ok hn hb hz)
 refine ⟨by rw [he,hdo]; exact ret_i (by rw [hlife.1]; by_cases h1 : left = 1 <;> simp [h1]),?_,hk6.1⟩
 rw [hdo]
 refine ⟨.slice (some ⟨g,0,none⟩) D.firm.length c,v2,if 1 < left then left - 1 else left,hok,h.base,?_,?_,?_,?_,hlife.2,h.zp,h.zs,h1.zv,fun k hk => Nat.lt_of_lt_of_le (h.zl k hk) hk6.1.below.size⟩
 ·show w6.heap[p]? = some (.cells #[_,v2,_,.bool (dies (putD D n zs)).dead] 121 (0,0))
  rw [hlife.1]
  rw [hd] at hst6
  exact hst6
 ·show w6.ownsRow B 152 64 _ (dies (putD D n zs)).firm.length (flat (ups (dies (putD D n zs)).firm (dies (putD D n zs)).wait))
  rw [dies_firm,dies_wait]
  show w6.ownsRow B 152 64 _ D.firm.length (flat (ups D.firm (D.wait ++ [(n,pad zs)])))
  rw [ups_snoc]
  exact hk6.2.1
 ·show w6.ownsRow B 154 65 _ (dies (putD D n zs)).wait.length (wcells (was (dies (putD D n zs)).firm (dies (putD D n zs)).wait))
  rw [dies_firm,dies_wait]
  show w6.ownsRow B 154 65 _ (D.wait ++ [(n,pad zs)]).length (wcells (was D.firm (D.wait ++ [(n,pad zs)])))
  rw [was_snoc,List.length_append]
  exact hk6.2.2
 ·have:=h.left_hi
  split <;> omega
theorem cell_block {w : World} {p j : Nat} {cs : Array Value} {v : Value} (h : w.heap[p]? = some (.cells cs 121 (0,0))) (hv : cs[j]? = some v) : w.cell? ⟨p,j,none⟩ = some v:=by rw [cell_of_row w p j cs 121 _ h]; exact hv
structure WrMid (w : World) (p g c : Nat) (D : Dk) (n : Nat) (A : Option Addr) (len : Nat) (zs : List Int) (cur0 : List Value) (wc w4 : World) : Prop where
 cell : w4.cell? ⟨p,0,none⟩ = some (.slice (some ⟨g,0,none⟩) D.firm.length c)
 row : w4.heap[g]? = some (.cells (splice cur0 (n * 64) (ints (List.replicate 64 0))).toArray 152 (0,0))
 grown : wc.grownBy w4 (some g)
 zlen : zs.length = len
 bys : Bys zs
 src : 0 < (ints zs).length -> ∃ ad,A = some ad /\ ∀ j v,(ints zs)[j]? = some v -> w4.cell? (ad.add j) = some v
 fit : n * 64 + (ints zs).length <= (splice cur0 (n * 64) (ints (List.replicate 64 0))).length
 min : (ints zs).length = Nat.min len 64
theorem write_mid {w wc w4 : World} {B : Bz} {p g c : Nat} {D : Dk} {wv v2 : Value} {left : Int} {n : Nat} {A : Option Addr} {len : Nat} {zs : List Int} {cur0 : List Value} (h : PD w B p D (.slice (some ⟨g,0,none⟩) D.firm.length c) wv left) (hR : ∀ w',Kp B w w' -> Reads w' A len zs) (hl : len <= 64)
  (h1 : AppPost w B p D (.slice (some ⟨g,0,none⟩) D.firm.length c) left n wc v2) (hf : n * 64 + 64 <= cur0.length) (hg : w4.heap[g]? = some (.cells (splice cur0 (n * 64) Z64.toList).toArray 152 (0,0))) (hgr : wc.grownBy w4 (some g)) : WrMid w p g c D n A len zs cur0 wc w4:=by
 have hpg : some p ≠ some g:=fun e' => own_ne h1.secs h1.here (by decide) e'.symm
 have hk:=hR w4 (h1.kp.trans (kp_grown h1.secs (.inr (.inl rfl)) (Nat.le_trans h.size h1.kp.below.size) h.zs hgr))
 have hz64 : (ints (List.replicate 64 0)).length = 64:=by rw [ints_length,List.length_replicate]
 have hzl : zs.length = len:=hk.1
 refine ⟨hgr.cell (cell_block h1.here (j:=0) rfl) hpg,by rw [<- z64_list]; exact hg,hgr,hzl,hk.bys,fun hp => reads_cells hk (by rw [ints_length] at hp; omega),by rw [length_splice _ _ _ (by omega),ints_length]; omega,?_⟩
 rw [ints_length,hzl]
 simp [Nat.min_def]
 omega
theorem sec_range {w : World} {B g c : Nat} {D : Dk} {n : Nat} (hs : w.ownsRow B 152 64 (.slice (some ⟨g,0,none⟩) D.firm.length c) D.firm.length (flat (cur D))) (hok : Dok D) (hn : n < D.firm.length) : w.rangeAt g (n * 64) (ints ((cur D).getD n [])):=by
 have hc:=cur_ok hok
 have hn' : n < (cur D).length:=by rw [cur_len]; exact hn
 rw [getD_eq _ hn']
 refine own_range hs _ _ fun j hj => ?_
 rw [lok_parts hc _ (List.getElem_mem hn')] at hj
 exact part_get ints 64 (cur D) n hn' (lok_parts hc) j hj
theorem sec_len {D : Dk} (hok : Dok D) {n : Nat} (hn : n < D.firm.length) : (ints ((cur D).getD n [])).length = 64:=by
 rw [ints_length]; exact (lok_getD (cur_ok hok) (by rw [cur_len]; exact hn)).1
theorem ws_mid {w w2 : World} {B : Bz} {p g c : Nat} {D : Dk} {wv v2 : Value} {left : Int} {n : Nat} (h : PD w B p D (.slice (some ⟨g,0,none⟩) D.firm.length c) wv left) (hn : n < D.firm.length) (h2 : AppMid w B p D (.slice (some ⟨g,0,none⟩) D.firm.length c) wv left n w2 v2) : WS p g n D.firm.length c (ints ((cur D).getD n [])) w2 :=
 ⟨cell_block h2.here rfl,frozen_of_row w2 p 1 _ _ h2.here,sec_range h2.secs h.ok hn⟩
theorem ws_post {w w2 : World} {B : Bz} {p g c : Nat} {D : Dk} {wv v2 : Value} {left : Int} {n : Nat} (h : PD w B p D (.slice (some ⟨g,0,none⟩) D.firm.length c) wv left) (hn : n < D.firm.length) (h2 : AppPost w B p D (.slice (some ⟨g,0,none⟩) D.firm.length c) left n w2 v2) : WS p g n D.firm.length c (ints ((cur D).getD n [])) w2 :=
 ⟨cell_block h2.here rfl,frozen_of_row w2 p 1 _ _ h2.here,sec_range h2.secs h.ok hn⟩
theorem write_struct {w wc w5 : World} {B : Bz} {p g c : Nat} {D : Dk} {v2 : Value} {left : Int} {n : Nat} (h1 : AppPost w B p D (.slice (some ⟨g,0,none⟩) D.firm.length c) left n wc v2) (hgr : wc.grownBy w5 (some g)) :
  w5.heap[p]? = some (.cells #[.slice (some ⟨g,0,none⟩) D.firm.length c,v2,.int .i64 left,.bool D.dead] 121 (0,0)):=by
 rw [hgr.block p (Array.getElem?_eq_some_iff.1 h1.here).1 (fun e' => own_ne h1.secs h1.here (by decide) e'.symm)]
 exact h1.here
set_option maxHeartbeats 1000000 in
theorem write_good (B : Bz) (p g c : Nat) (wv : Value) (left : Int) (D : Dk) (n : Nat) (A : Option Addr) (len cap : Nat) (zs : List Int) (w : World) (h : PD w B p D (.slice (some ⟨g,0,none⟩) D.firm.length c) wv left)
  (hn : n < D.firm.length) (hd : D.dead = false) (hR : ∀ w',Kp B w w' -> Reads w' A len zs) (hl : len <= 64) (hm : D.wait.length <= 100000) :
  Calls Tryz.prog 36 #[.pointer (some ⟨p,0,none⟩),.int .i64 (n : Int),.slice A len cap] w (WrPost w B p D (n : Int) zs):=by
 have H:=hJQ h
 have HA : Hid (amiss D (n : Int) = 0):=hJQ (by unfold amiss; rw [if_neg (by simp [hd]),if_neg (by omega)])
 have HAM:=hJQ (amiss_any B p D (n : Int) w ⟨_,_,_,h⟩)
 have HR:=hJQ hR
 have HD:=hJQ hd
 obtain ⟨c0,c1,c2,c3⟩:=h.cell
 have f1:=h.free 1
 have hl64 : (len : Int) <= 64:=by omega
 have hn0 : (0 : Int) <= (n : Int):=by omega
 have hnm : (n : Int) < (D.firm.length : Int):=by omega
 obtain ⟨cs,hcs⟩ : ∃ cs,cs = ints ((cur D).getD n []):=⟨_,rfl⟩
 have hrg : w.rangeAt g (n * 64) cs:=by rw [hcs]; exact sec_range h.secs h.ok hn
 have hcl : cs.length = 64:=by rw [hcs]; exact sec_len h.ok hn
 obtain ⟨C1,hC1⟩ : ∃ C1,C1 = #[Value.int .i64 (n : Int)] ++ cs.toArray:=⟨_,rfl⟩
 have HCE:=hJQ hcs
 have HCA:=hJQ hC1
 have HCL:=hJQ hcl
 have HCS : Hid (C1.size = 65):=hJQ (by rw [hC1]; simp [hcl])
 have HCW : Hid (C1.toList = wcell (n,(cur D).getD n [])):=hJQ (by rw [hC1,hcs]; simp [wcell])
 have HON : Hid (∀ u ∈ C1.toList,u.oneCell' = true):=hJQ (by rw [HCW.out]; exact wcell_one _)
 have HNB : Hid ((w.drew.alloc (.cells C1 154)).heap[w.heap.size]? = some (.cells C1 154 (0,0))):=hJQ (new_block w.drew _)
 have hbb : Below w.heap.size w (w.drew.alloc (.cells C1 154)):=((Below.refl _ _).drew).alloc (Nat.le_refl _) _
 have HBS : Hid (B <= (w.drew.alloc (.cells C1 154)).heap.size):=hJQ (h.kept hbb).size
 have HC2 : Hid ((w.alloc (.cells C1 154)).cell? ⟨p,1,none⟩ = some wv):=hJQ (h.kept hbb).cell.2.1
 have HS2 : Hid (WS p g n D.firm.length c cs (w.drew.alloc (.cells C1 154))):=hJQ ⟨(h.kept hbb).cell.1,(h.kept hbb).free 1,by rw [hcs]; exact sec_range (h.kept hbb).secs h.ok hn⟩
 have HWS : Hid (WS p g n D.firm.length c cs w.drew):=hJQ ⟨c0,f1,by simpa using hrg⟩
 have HN:=hJQ hn
 have HW:=hJQ (h.kept hbb).wrs
 have HC1:=hJQ (h.kept (Below.refl _ _).drew).cell.2.1
 clear h hd hn hcs hrg hcl hR hC1 hbb
 go_enter Tryz.func36,Tryz.ntmps36
 go_wp2_with fail
 refine HAM.out.mono ?_
 rintro e w' ⟨rfl,rfl⟩
 rw [HA.out]
 go_upto_region 6 with fail
 go_cut [] (fun wx => ∃ v2,AppPost w B p D (.slice (some ⟨g,0,none⟩) D.firm.length c) left n wx v2)
 case first =>
  refine wp_region_held_drew (S:=WS p g n D.firm.length c cs) (by kernel_rfl) HWS.out (fun hHeld => ?_)
  refine take_op 0 17 (.pointer (some ⟨p,0,none⟩)) rfl rfl (by kernel_rfl) (by kernel_rfl) (by kernel_rfl) (fun _ _ _ h => h) (.inl ⟨by rfl,fun w' hw' => by go_simp⟩) hHeld ?_
  simp only [List.set_cons_zero,List.set_cons_succ]
  refine take_op 1 18 (.pointer (some ⟨p,0,none⟩)) rfl rfl (by kernel_rfl) (by kernel_rfl) (by kernel_rfl) (fun _ _ _ h => h) (.inl ⟨by rfl,fun w' hw' => by go_simp⟩) hHeld ?_
  simp only [List.set_cons_zero,List.set_cons_succ]
  refine take_op 2 19 (.pointer (some ⟨p,0,none⟩)) rfl rfl (by kernel_rfl) (by kernel_rfl) (by kernel_rfl) (fun _ _ _ h => h) (.inl ⟨by rfl,fun w' hw' => by go_simp⟩) hHeld ?_
  simp only [List.set_cons_zero,List.set_cons_succ]
  refine take_op 3 20 (.pointer (some ⟨p,1,none⟩)) rfl rfl (by kernel_rfl) (by kernel_rfl) (by kernel_rfl) (fun _ _ _ h => h) (.inl ⟨by rfl,fun w' hw' => by go_simp⟩) hHeld ?_
  simp only [List.set_cons_zero,List.set_cons_succ]
  refine take_op 5 22 (.int .i64 (n : Int)) rfl rfl (by kernel_rfl) (by kernel_rfl) (by kernel_rfl) (fun _ _ _ h => h) (.inl ⟨by rfl,fun w' hw' => by go_simp⟩) hHeld ?_
  simp only [List.set_cons_zero,List.set_cons_succ]
  refine take_op 6 23 (.pointer (some ⟨p,0,none⟩)) rfl rfl (by kernel_rfl) (by kernel_rfl) (by kernel_rfl) (fun _ _ _ h => h) (.inl ⟨by rfl,fun w' hw' => by go_simp⟩) hHeld ?_
  simp only [List.set_cons_zero,List.set_cons_succ]
  refine take_op 7 24 (.pointer (some ⟨p,0,none⟩)) rfl rfl (by kernel_rfl) (by kernel_rfl) (by kernel_rfl) (fun _ _ _ h => h) (.inl ⟨by rfl,fun w' hw' => by go_simp⟩) hHeld ?_
  simp only [List.set_cons_zero,List.set_cons_succ]
  refine take_op 8 25 (.pointer (some ⟨p,0,none⟩)) rfl rfl (by kernel_rfl) (by kernel_rfl) (by kernel_rfl) (fun _ _ _ h => h) (.inl ⟨by rfl,fun w' hw' => by go_simp⟩) hHeld ?_
  simp only [List.set_cons_zero,List.set_cons_succ]
  refine take_op 9 26 (.slice (some ⟨g,0,none⟩) D.firm.length c) rfl rfl (by kernel_rfl) (by kernel_rfl) (by kernel_rfl) (fun _ _ _ h => h) (.inl ⟨by rfl,fun w' hw' => by have:=hw'.1; go_simp⟩) hHeld ?_
  simp only [List.set_cons_zero,List.set_cons_succ]
  refine take_op 10 27 (.int .i64 (n : Int)) rfl rfl (by kernel_rfl) (by kernel_rfl) (by kernel_rfl) (fun _ _ _ h => h) (.inl ⟨by rfl,fun w' hw' => by go_simp⟩) hHeld ?_
  simp only [List.set_cons_zero,List.set_cons_succ]
  refine take_op 11 28 (.pointer (some ⟨g,n * 64,none⟩)) rfl rfl (by kernel_rfl) (by kernel_rfl) (by kernel_rfl) (fun _ _ _ h => h) (.inl ⟨by rfl,fun w' hw' => by go_simp⟩) hHeld ?_
  simp only [List.set_cons_zero,List.set_cons_succ]
  refine take_op 12 29 (.agg cs.toArray) rfl rfl (by kernel_rfl) (by kernel_rfl) (by kernel_rfl) (fun _ _ _ h => h) (yieldsIf_load_mid (by rfl) 152 (.tmp 28) rfl g (n * 64) rfl cs (.array 64 5) (fun w h => h.2.2) Tryz.underlying152 rfl (by rw [HCL.out]; exact size66)) hHeld ?_
  simp only [List.set_cons_zero,List.set_cons_succ]
  refine take_op 13 30 (.agg C1) rfl rfl (by kernel_rfl) (by kernel_rfl) (by kernel_rfl) (fun _ _ _ h => h) (by rw [HCA.out]; exact yields_build74 (by rfl) (.tmp 22) (.tmp 29) rfl (n : Int) cs.toArray rfl rfl (by rw [List.size_toArray]; exact HCL.out)) hHeld ?_
  simp only [List.set_cons_zero,List.set_cons_succ]
  have hc1:=HC1.out
  have hc2:=HC2.out
  refine wpAnyH_ready (rs:=[4,14]) (by kernel_rfl) (by simp) (AllReadyH.cons rfl (fun K hK => ?_) (AllReadyH.cons rfl (fun K hK => ?_) AllReadyH.nil))
  ·go_simp
   refine hK.out _ _ hHeld (fun _ => ?_)
   refine wpAnyH_ready (rs:=[14]) (by kernel_rfl) (by simp) (AllReadyH.cons rfl (fun K2 hK2 => ?_) AllReadyH.nil)
   rw [if_pos (by rfl)]
   refine row1_op 31 rfl (.tmp 30) rfl C1 rfl HCS.out ?_
   simp only [List.set_cons_zero,List.set_cons_succ]
   refine hK2.out _ _ HS2.out (fun _ => ?_)
   refine wpAnyH_ready (rs:=[15]) (by kernel_rfl) (by simp) (AllReadyH.cons rfl (fun K3 hK3 => ?_) AllReadyH.nil)
   refine app_op 32 rfl rfl (.tmp 21) (.tmp 31) rfl B wv D.wait.length (wcells (was D.firm D.wait)) rfl HW.out w.heap.size C1 rfl HCS.out HNB.out HON.out hm HBS.out ?_
   intro v2 w2 hown hgrow hat
   obtain ⟨A2,k2,rfl,-,-,-⟩:=own_form hown
   have HM:=hJQ (app_mid H.out HCW.out hown hgrow hat)
   have HS3:=hJQ (ws_mid H.out HN.out HM.out)
   have hd1:=cell_block HM.out.here (j:=1) rfl
   have hd2:=frozen_of_row w2 p 1 _ _ HM.out.here
   have HS4:=hJQ (ws_post H.out HN.out (HM.out.post H.out.base H.out.zp))
   clear hown hgrow hat
   rw [<- HCE.out] at HS3 HS4
   simp only [List.set_cons_zero,List.set_cons_succ]
   refine hK3.out _ _ HS3.out (fun hHeld3 => ?_)
   refine take_op 16 33 (.pointer (some ⟨p,0,none⟩)) rfl rfl (by kernel_rfl) (by kernel_rfl) (by kernel_rfl) (fun _ _ _ h => h) (.inl ⟨by rfl,fun w' hw' => by go_simp⟩) hHeld3 ?_
   simp only [List.set_cons_zero,List.set_cons_succ]
   refine take_op 17 34 (.pointer (some ⟨p,1,none⟩)) rfl rfl (by kernel_rfl) (by kernel_rfl) (by kernel_rfl) (fun _ _ _ h => h) (.inl ⟨by rfl,fun w' hw' => by go_simp⟩) hHeld3 ?_
   simp only [List.set_cons_zero,List.set_cons_succ]
   refine wpAnyH_ready (rs:=[18]) (by kernel_rfl) (by simp) (AllReadyH.cons rfl (fun K4 hK4 => ?_) AllReadyH.nil)
   go_simp
   refine hK4.out _ _ HS4.out (fun _ => ?_)
   refine wpAnyH_done (by kernel_rfl) ?_ _
   go_wp2_with fail
   go_meet
   exact ⟨_,HM.out.post H.out.base H.out.zp⟩
  ·rw [if_pos (by rfl)]
   refine row1_op 31 rfl (.tmp 30) rfl C1 rfl HCS.out ?_
   simp only [List.set_cons_zero,List.set_cons_succ]
   refine hK.out _ _ HS2.out (fun hHeld2 => ?_)
   refine wpAnyH_ready (rs:=[4]) (by kernel_rfl) (by simp) (AllReadyH.cons rfl (fun K2 hK2 => ?_) AllReadyH.nil)
   go_simp
   refine hK2.out _ _ hHeld2 (fun _ => ?_)
   refine wpAnyH_ready (rs:=[15]) (by kernel_rfl) (by simp) (AllReadyH.cons rfl (fun K3 hK3 => ?_) AllReadyH.nil)
   refine app_op 32 rfl rfl (.tmp 21) (.tmp 31) rfl B wv D.wait.length (wcells (was D.firm D.wait)) rfl HW.out w.heap.size C1 rfl HCS.out HNB.out HON.out hm HBS.out ?_
   intro v2 w2 hown hgrow hat
   obtain ⟨A2,k2,rfl,-,-,-⟩:=own_form hown
   have HM:=hJQ (app_mid H.out HCW.out hown hgrow hat)
   have HS3:=hJQ (ws_mid H.out HN.out HM.out)
   have hd1:=cell_block HM.out.here (j:=1) rfl
   have hd2:=frozen_of_row w2 p 1 _ _ HM.out.here
   have HS4:=hJQ (ws_post H.out HN.out (HM.out.post H.out.base H.out.zp))
   clear hown hgrow hat
   rw [<- HCE.out] at HS3 HS4
   simp only [List.set_cons_zero,List.set_cons_succ]
   refine hK3.out _ _ HS3.out (fun hHeld3 => ?_)
   refine take_op 16 33 (.pointer (some ⟨p,0,none⟩)) rfl rfl (by kernel_rfl) (by kernel_rfl) (by kernel_rfl) (fun _ _ _ h => h) (.inl ⟨by rfl,fun w' hw' => by go_simp⟩) hHeld3 ?_
   simp only [List.set_cons_zero,List.set_cons_succ]
   refine take_op 17 34 (.pointer (some ⟨p,1,none⟩)) rfl rfl (by kernel_rfl) (by kernel_rfl) (by kernel_rfl) (fun _ _ _ h => h) (.inl ⟨by rfl,fun w' hw' => by go_simp⟩) hHeld3 ?_
   simp only [List.set_cons_zero,List.set_cons_succ]
   refine wpAnyH_ready (rs:=[18]) (by kernel_rfl) (by simp) (AllReadyH.cons rfl (fun K4 hK4 => ?_) AllReadyH.nil)
   go_simp
   refine hK4.out _ _ HS4.out (fun _ => ?_)
   refine wpAnyH_done (by kernel_rfl) ?_ _
   go_wp2_with fail
   go_meet
   exact ⟨_,HM.out.post H.out.base H.out.zp⟩
 case rest =>
  obtain ⟨v2,hP⟩:=hcut
  obtain ⟨cur0,hg0,hbg,hgl,hc0,ht0⟩:=own_block hP.secs
  have hnfit : (n + 1) * 64 <= D.firm.length * 64:=Nat.mul_le_mul_right _ HN.out
  have HP:=hJQ hP
  have HG0:=hJQ hg0
  have HF0 : Hid (n * 64 + 64 <= cur0.length):=hJQ (by omega)
  have d0:=cell_block hP.here (j:=0) rfl
  have HZ1 : Hid (Z64.all (·.oneCell') = true):=hJQ (by kernel_rfl)
  clear hP hg0 hbg hgl hc0 ht0 hnfit
  go_wp2_with (first
   | (with_reducible refine wpList_zero66 rfl rfl ?_)
   | ((with_reducible refine wpList_store_grown rfl (.tmp 41) (.tmp 40) rfl g (n * 64) ?_ Z64 ?_ cur0 152 HG0.out z64_size HF0.out HZ1.out ?_); rfl; rfl; intro w4 hg4 hgr4; have HX4:=hJQ (write_mid H.out HR.out hl HP.out HF0.out hg4 hgr4); clear hg4 hgr4; have d4:=HX4.out.cell)
   | ((with_reducible refine wpList_copy_grown rfl (.tmp 48) (.tmp 49) rfl (some ⟨g,n * 64,none⟩) A 64 64 len cap ?_ ?_ g (n * 64) (splice cur0 (n * 64) (ints (List.replicate 64 0))) 152 HX4.out.row (ints zs) HX4.out.min (fun hp => ⟨rfl,HX4.out.src hp⟩) HX4.out.fit (ints_one zs) ?_); rfl; rfl; intro w5 hg5 hgr5; have HG5:=hJQ hg5; have HGR5:=hJQ (HX4.out.grown.trans hgr5); clear hg5 hgr5)
   | fail)
  refine (spend_any p (.slice (some ⟨g,0,none⟩) D.firm.length c) v2 left D.dead w5 (write_struct HP.out HGR5.out) H.out.left_hi).mono ?_
  intro e w6 hs6
  have HS6:=hJQ hs6
  obtain ⟨rfl,-⟩:=hs6
  have HE:=hJQ (write_end H.out HN.out HD.out (by rw [HX4.out.zlen]; exact hl) HX4.out.bys HP.out HG0.out HG5.out HGR5.out HS6.out)
  obtain ⟨er,her⟩ : ∃ er : Int,er = if left = 1 then 40 else 0:=⟨_,rfl⟩
  rw [<- her] at HE ⊢
  clear HS6 her
  go_wp2
  go_ret
  exact HE.out
theorem write_bad (B : Bz) (p : Nat) (D : Dk) (n : Int) (A : Option Addr) (len cap : Nat) (zs : List Int) (w : World) (h : PDisk w B p D) (hz : zs.length = len)
  (hb : D.dead = true ∨ n < 0 ∨ (D.firm.length : Int) <= n ∨ 64 < len) :
  Calls Tryz.prog 36 #[.pointer (some ⟨p,0,none⟩),.int .i64 n,.slice A len cap] w (WrPost w B p D n zs):=by
 have H:=hJQ h
 obtain ⟨a,ha⟩ : ∃ a,a = amiss D n:=⟨_,rfl⟩
 have HAM : Hid (Calls Tryz.prog 82 #[.pointer (some ⟨p,0,none⟩),.int .i64 n] w fun e w' => e = .returned (.int .i64 a) /\ w = w'):=hJQ (by rw [ha]; exact amiss_any B p D n w h)
 have HA:=hJQ ha
 by_cases h0 : a = 0
 ·subst h0
  have h3 : ¬ D.dead = true /\ ¬ (n < 0 ∨ (D.firm.length : Int) <= n):=by
   unfold amiss at ha
   refine ⟨fun e => (by rw [if_pos e] at ha; cases ha),fun e => ?_⟩
   by_cases hd : D.dead = true
   ·rw [if_pos hd] at ha; cases ha
   ·rw [if_neg hd,if_pos e] at ha; cases ha
  have h64 : (64 : Int) < (len : Int):=by
   rcases hb with h | h | h | h
   ·exact absurd h h3.1
   ·exact absurd (.inl h) h3.2
   ·exact absurd (.inr h) h3.2
   ·omega
  have HX : Hid (doD D 0 n 0 zs = (D,[],41)):=hJQ (by
   unfold doD
   rw [if_neg (by decide),if_neg (by decide),if_neg (by decide),if_neg h3.1,if_neg (by decide),if_pos (by omega)])
  clear h ha hb h3
  go_enter Tryz.func36,Tryz.ntmps36
  go_wp2_with fail
  refine HAM.out.mono ?_
  rintro e w' ⟨rfl,rfl⟩
  go_wp2
  go_ret
  exact ⟨by rw [HX.out]; rfl,by rw [HX.out]; exact H.out,Kp.refl _ _⟩
 ·have h1 : (a != 0) = true:=by simpa using h0
  have HX : Hid (doD D 0 n 0 zs = (D,[],a)):=hJQ (by
   unfold doD
   rw [if_neg (by decide),if_neg (by decide),if_neg (by decide)]
   unfold amiss at ha
   by_cases hd : D.dead = true
   ·rw [if_pos hd] at ha ⊢; rw [ha]
   ·rw [if_neg hd] at ha ⊢
    rw [if_neg (by decide)]
    by_cases hn : n < 0 ∨ (D.firm.length : Int) <= n
    ·rw [if_pos hn] at ha; rw [if_pos (by omega),ha]
    ·rw [if_neg hn] at ha; exact absurd ha h0)
  clear h ha hb h0
  go_enter Tryz.func36,Tryz.ntmps36
  go_wp2_with fail
  refine HAM.out.mono ?_
  rintro e w' ⟨rfl,rfl⟩
  go_wp2
  go_ret
  exact ⟨by rw [HX.out]; rfl,by rw [HX.out]; exact H.out,Kp.refl _ _⟩
theorem write_any (B : Bz) (p : Nat) (D : Dk) (n : Int) (A : Option Addr) (len cap : Nat) (zs : List Int) (w : World) (h : PDisk w B p D) (hR : ∀ w',Kp B w w' -> Reads w' A len zs) (hm : D.wait.length <= 100000) :
  Calls Tryz.prog 36 #[.pointer (some ⟨p,0,none⟩),.int .i64 n,.slice A len cap] w (WrPost w B p D n zs):=by
 have hz : zs.length = len:=(hR w (Kp.refl _ _)).1
 by_cases hb : D.dead = true ∨ n < 0 ∨ (D.firm.length : Int) <= n ∨ 64 < len
 ·exact write_bad B p D n A len cap zs w h hz hb
 ·obtain ⟨sv,wv,left,h⟩:=h
  obtain ⟨m,rfl⟩ : ∃ m : Nat,n = (m : Int):=⟨n.toNat,by omega⟩
  have hd : D.dead = false:=by cases hd : D.dead <;> simp_all
  obtain ⟨S,c,rfl,-,-,hg⟩:=own_form h.secs
  obtain ⟨g,rfl⟩:=hg (by omega)
  exact write_good B p g c wv left D m A len cap zs w h (by omega) hd hR (by omega) hm
open Go.ChangeShapes Go.WideShapes Go.ChangeAt Go.RowKit

theorem copy_op {ops : Array Oper} {o : Oper} {a : Act} {w : World} {K : Act -> World -> Prop} {Q : Exit -> Act -> World -> Prop} {E : Prop} (hgd : o.guard = none) (d s : Operand)
  (ho : o.op = .call { callee:=.builtin .copy,args:=#[d,s],argTypes:=#[82,82] })
  (dp sp : Option Addr) (dLen dCap sLen sCap : Nat) (hd : a.eval d = .slice dp dLen dCap) (hs : a.eval s = .slice sp sLen sCap)
  (g off : Nat) (cur : List Value) (t : TypeId) (hg : w.heap[g]? = some (.cells cur.toArray t (0,0))) (cs : List Value) (hn : cs.length = Nat.min sLen dLen)
  (hpos : 0 < cs.length -> dp = some ⟨g,off,none⟩ /\ ∃ ad,sp = some ad /\ ∀ j v,cs[j]? = some v -> w.cell? (ad.add j) = some v) (hfit : off + cs.length <= cur.length) (h1 : ∀ v ∈ cs,v.oneCell' = true)
  (h : ∀ w',w'.heap[g]? = some (.cells (splice cur off cs).toArray t (0,0)) -> w.grownBy w' (some g) -> K (a.put o.dst (goInt cs.length)) w') :
  if Region.wanted o (yielded ops a.tmps) = true then Oper.wp Tryz.prog o a w K Q else E:=by
 have hw : Region.wanted o (yielded ops a.tmps) = true:=by simp [Region.wanted,hgd]
 rw [if_pos hw]
 obtain ⟨w',hrun,h2,h3⟩:=run_copy_grown o.type dp sp dLen dCap sLen sCap g off cur t hg cs hn hpos hfit h1
 unfold Oper.wp execOp
 simp only [ho,resolve,invoke,builtin,Sem.run_bind,Sem.run_pure,Result.andThen_ok,List.map_toArray,List.map_cons,List.map_nil,hd,hs,hrun]
 exact h w' h2 h3
structure BkMem (w : World) (B B2 p g c : Nat) (wv : Value) (left : Int) (dd : Bool) (l : List (List Int)) (ws : List Wr) (K t : Nat) : Prop where
 here : w.heap[p]? = some (.cells #[.slice (some ⟨g,0,none⟩) l.length c,wv,.int .i64 left,.bool dd] 121 (0,0))
 wrs : w.ownsRow B 154 65 wv ws.length (wcells (was l ws))
 secs : w.ownsRow B2 152 64 (.slice (some ⟨g,0,none⟩) l.length c) l.length (flat (ups l ws))
open Go.ChangeShapes Go.WideShapes Go.ChangeAt Go.RowKit

def RdPost (w : World) (D : Dk) (n : Int) (e : Ending) (w' : World) : Prop :=
 ∃ A len c,e = .returned (.tuple #[.slice A len c,.int .i64 (doD D 1 n 0 []).2.2]) /\ Reads w' A len (doD D 1 n 0 []).2.1 /\ len <= c /\ c <= 64 /\ Below w.heap.size w w' /\
  (0 < len -> ∃ g,A = some ⟨g,0,none⟩ /\ w.heap.size <= g /\ w'.heap[g]? = some (.cells (ints (doD D 1 n 0 []).2.1).toArray 152 (0,0)))
theorem do_read_bad {D : Dk} {n : Int} (h : amiss D n ≠ 0) : doD D 1 n 0 [] = (D,[],amiss D n):=by
 unfold doD
 rw [if_neg (by decide),if_neg (by decide),if_neg (by decide)]
 unfold amiss at h ⊢
 by_cases hd : D.dead = true
 ·rw [if_pos hd,if_pos hd]
 ·rw [if_neg hd] at h ⊢
  rw [if_neg (by decide),if_neg hd]
  by_cases hn : n < 0 ∨ (D.firm.length : Int) <= n
  ·rw [if_pos hn,if_pos (by omega)]
  ·rw [if_neg hn] at h; exact absurd rfl h
theorem amiss_zero {D : Dk} {n : Int} (h : amiss D n = 0) : D.dead = false /\ 0 <= n /\ n < (D.firm.length : Int):=by
 unfold amiss at h
 by_cases hd : D.dead = true
 ·rw [if_pos hd] at h; cases h
 ·rw [if_neg hd] at h
  by_cases hn : n < 0 ∨ (D.firm.length : Int) <= n
  ·rw [if_pos hn] at h; cases h
  ·exact ⟨by cases e : D.dead <;> simp_all,by omega,by omega⟩
theorem do_read {D : Dk} {n : Nat} (hd : D.dead = false) (hn : n < D.firm.length) : doD D 1 (n : Int) 0 [] = (D,(cur D).getD n [],0):=by
 unfold doD
 rw [if_neg (by decide),if_neg (by decide),if_neg (by decide),if_neg (by simp [hd]),if_neg (by decide),if_neg (by omega),if_pos rfl]
 rfl
theorem ints_read {w : World} {g : Nat} {s : List Int} {t : TypeId} (hs : Sok s) (hg : w.heap[g]? = some (.cells (ints s).toArray t (0,0))) : Reads w (some ⟨g,0,none⟩) 64 s :=
 reads_mk hs.1 (fun _ => ⟨g,0,rfl,fun i hi => by
  rw [Nat.zero_add,cell_of_row w g i _ t _ hg,getD_eq _ (by rw [hs.1]; exact hi)]
  simp [ints,hs.1,hi]⟩) hs.2
theorem read_end {w : World} {D : Dk} {n : Nat} (hok : Dok D) (hd : D.dead = false) (hn : n < D.firm.length) (C : Array Value) (hC : C = (ints ((cur D).getD n [])).toArray) : RdPost w D (n : Int) (.returned (.tuple #[.slice (some ⟨w.heap.size,0,none⟩) 64 64,.int .i64 0])) (w.alloc (.cells C 152)):=by
 have e:=do_read hd hn
 have hs : Sok ((cur D).getD n []):=lok_getD (cur_ok hok) (by rw [cur_len]; exact hn)
 have hb : (w.alloc (.cells C 152)).heap[w.heap.size]? = some (.cells (ints ((cur D).getD n [])).toArray 152 (0,0)):=by rw [<- hC]; exact new_block w _
 refine ⟨_,64,64,by rw [e],by rw [e]; exact ints_read hs hb,Nat.le_refl _,Nat.le_refl _,box_below _ _,fun _ => ⟨_,rfl,Nat.le_refl _,by rw [e]; exact hb⟩⟩
theorem read_any (B : Bz) (p : Nat) (D : Dk) (n : Int) (w : World) (h : PDisk w B p D) : Calls Tryz.prog 152 #[.pointer (some ⟨p,0,none⟩),.int .i64 n] w (RdPost w D n):=by
 obtain ⟨a,ha⟩ : ∃ a,a = amiss D n:=⟨_,rfl⟩
 have HAM : Hid (Calls Tryz.prog 82 #[.pointer (some ⟨p,0,none⟩),.int .i64 n] w fun e w' => e = .returned (.int .i64 a) /\ w = w'):=hJQ (by rw [ha]; exact amiss_any B p D n w h)
 by_cases h0 : a = 0
 ·subst h0
  obtain ⟨hd,h1,h2⟩:=amiss_zero ha.symm
  obtain ⟨m,rfl⟩ : ∃ m : Nat,n = (m : Int):=⟨n.toNat,by omega⟩
  obtain ⟨sv,wv,left,h⟩:=h
  obtain ⟨S,c,rfl,-,-,hg⟩:=own_form h.secs
  obtain ⟨g,rfl⟩:=hg (by omega)
  have H:=hJQ h
  have HD:=hJQ hd
  have HN : Hid (m < D.firm.length):=hJQ (by omega)
  obtain ⟨c0,-,-,-⟩:=h.cell
  obtain ⟨cs,hcs⟩ : ∃ cs,cs = ints ((cur D).getD m []):=⟨_,rfl⟩
  have HRG : Hid (w.rangeAt g (m * 64) cs):=hJQ (by rw [hcs]; exact sec_range h.secs h.ok HN.out)
  have hcl : cs.length = 64:=by rw [hcs]; exact sec_len h.ok HN.out
  have HCL : Hid ((Tryz.prog.info? 152).map (·.size) = some cs.length):=hJQ (by rw [hcl]; exact size66)
  have HC2 : Hid ((Tryz.prog.info? 152).map (·.size) = some cs.toArray.size):=hJQ (by rw [List.size_toArray,hcl]; exact size66)
  have HZS : Hid (Z64.size = cs.toArray.size):=hJQ (by rw [z64_size,List.size_toArray,hcl])
  have HON : Hid (cs.toArray.all (·.oneCell') = true):=hJQ (all_oneCell_toArray (by rw [hcs]; exact ints_one _))
  obtain ⟨C,hC⟩ : ∃ C,C = cs.toArray:=⟨_,rfl⟩
  rw [<- hC] at HC2 HZS HON
  have HCC:=hJQ hC
  have HCE : Hid (C = (ints ((cur D).getD m [])).toArray):=hJQ (by rw [hC,hcs])
  clear h ha hd hcs hcl hC
  go_enter Tryz.func152,Tryz.ntmps152
  go_wp2_with fail
  refine HAM.out.mono ?_
  rintro e w' ⟨rfl,rfl⟩
  go_wp2_with (first
   | ((with_reducible refine wpList_load_mid rfl 152 (.tmp 19) rfl g (m * 64) ?_ cs (.array 64 5) HRG.out Tryz.underlying152 ?_ HCL.out ?_); rfl; rfl; rw [<- HCC.out])
   | (with_reducible refine wpList_alloc66 rfl rfl ?_)
   | ((with_reducible refine wpList_store_new rfl 152 (.tmp 7) (.tmp 20) rfl Z64 C ?_ ?_ HC2.out HZS.out HON.out ?_); rfl; rfl)
   | fail)
  go_ret2
  exact read_end H.out.ok HD.out HN.out C HCE.out
 ·have h1 : (a != 0) = true:=by simpa using h0
  have HX : Hid (doD D 1 n 0 [] = (D,[],a)):=hJQ (by rw [ha] at h0 ⊢; exact do_read_bad h0)
  clear h ha h0
  go_enter Tryz.func152,Tryz.ntmps152
  go_wp2_with fail
  refine HAM.out.mono ?_
  rintro e w' ⟨rfl,rfl⟩
  go_wp2
  go_ret2
  exact ⟨none,0,0,by rw [HX.out]; rfl,by rw [HX.out]; exact reads_none _,Nat.le_refl _,by decide,Below.refl _ _,fun h => absurd h (by decide)⟩
end Go.Proofs.YtlppinfjdnhlbaaGreatDoor.Gq
