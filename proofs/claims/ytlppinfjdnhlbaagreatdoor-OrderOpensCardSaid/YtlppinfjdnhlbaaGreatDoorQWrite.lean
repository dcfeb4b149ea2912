/-
 What pack.write returns of a row of bytes of the call's own and a field: the row with that field's bytes behind it. Condition: the row and 1026 bytes take together no more than 2^47 bytes.
-/
import Derived.Test.YtlppinfjdnhlbaaGreatDoorHd
import Derived.Test.YtlppinfjdnhlbaaGreatDoorQLay
import Derived.ScopeJumps
import Derived.Deep.RegionHeld3
import Derived.Lib.AppendStr
namespace Go.Proofs.YtlppinfjdnhlbaaGreatDoor.Pq
set_option maxRecDepth 100000
open Go.ChangeShapes Go.WideShapes Go.ChangeAt Go.RowKit
theorem wp_scope_once {P : Program} {a : Act} {w : World} {Q : Exit -> Act -> World -> Prop} {c rest : Code} (l : Nat) (hf : findLabel c l = some rest)
  (h : c.wp P (Exit.jump l (fun a w => rest.wp P (Exit.noGoto Q) a w) Q) a w) : (Code.scope c).wp P Q a w :=
 wp_scope_jumps l (fun a w => rest.wp P (Exit.noGoto Q) a w) (fun _ _ => 0) hf h fun a w hj => Code.wp_mono (fun e a w he => by
  cases e with
  | goto l' => exact he.elim
  | normal => exact he
  | exit id => exact he
  | ret => exact he
  | panic ch => exact he
  | outgrown => exact he) hj
theorem new_whole (w : World) (cs : Array Value) (t : TypeId) : Whole1 (w.alloc (.cells cs t)) w.heap.size t cs:=heap_alloc_new w _
def bits8 : List Nat:=[56,48,40,32,24,16,8,0]
theorem lay8 (base len : Nat) (v : Value) (zs : List Int) (n : Int) (w : World) (hown : w.ownsRow base 5 1 v len (zs.map (Value.int .u8))) (hbase : base <= w.heap.size) (hm : len + 8 <= 140737488355328) (g : Nat) (hg : g = w.heap.size) :
  Calls Tryz.prog 172 #[v,.int .i64 n,.slice (some ⟨g,0,none⟩) 8 8] (w.alloc (.cells #[.int .u64 56,.int .u64 48,.int .u64 40,.int .u64 32,.int .u64 24,.int .u64 16,.int .u64 8,.int .u64 0] 183)) fun e w' =>
   ∃ v',e = .returned v' /\ w'.ownsRow base 5 1 v' (len + 8) ((zs ++ be8 n).map (Value.int .u8)) /\ w.grownBy w' v.ownBlock /\ Lies w v.ownBlock v'.ownBlock:=by
 subst hg
 have h:=lay_any base w.heap.size len v zs n bits8 (w.alloc (.cells #[.int .u64 56,.int .u64 48,.int .u64 40,.int .u64 32,.int .u64 24,.int .u64 16,.int .u64 8,.int .u64 0] 183)) (by decide) (by decide) (hown.alloc _) (new_whole w _ _) (by simp; omega) hm
 refine h.mono fun e w' ⟨v',he,h1,h2,h3⟩ => ⟨v',he,?_,(World.grownBy_alloc w _ _).trans h2,lies_on (World.grownBy_alloc w _ _) (.inl rfl) h3⟩
 have e : bits8.map (lb n) = be8 n:=by
  simp [bits8,lb,be8]
 rw [e] at h1
 exact h1
theorem written {base len : Nat} {v : Value} {zs : List Int} {w w1 : World} {o : Obj} (hbase : base <= w.heap.size) (hown : w.ownsRow base 5 1 v len (zs.map (Value.int .u8))) (h : (w.alloc o).grownBy w1 v.ownBlock) : Below base w w1 :=
 ((Below.refl base w).alloc hbase o).grown h (by simp; omega) (own_ge hown)
theorem write_whole (base len : Nat) (v : Value) (zs : List Int) (n : Int) (s : ByteArray) (w : World) (hown : w.ownsRow base 5 1 v len (zs.map (Value.int .u8))) (hbase : base <= w.heap.size) (hm : len + 8 <= 140737488355328) :
  Calls Tryz.prog 147 #[v,.agg #[.int .i64 2,.int .i64 n,.string s]] w fun e w' => ∃ v',e = .returned v' /\ w'.ownsRow base 5 1 v' (len + 8) ((zs ++ be8 n).map (Value.int .u8)) /\ Below base w w':=by
 have HO:=hJQ hown
 clear hown
 go_enter Tryz.func147,Tryz.ntmps147
 go_wp2
 refine wp_scope_once 0 rfl ?_
 go_wp2
 go_step3
 refine ⟨rfl,?_⟩
 go_wp2_with fail
 refine (lay8 base len v zs n _ (HO.out.alloc _) (by simp; omega) hm (w.heap.size + 1) (by simp)).mono ?_
 rintro e w1 ⟨v1,rfl,h1,h2,-⟩
 have H1:=hJQ h1
 have H2:=hJQ (written hbase HO.out h2)
 clear h1 h2
 go_wp2
 rw [Exit.noGoto_ret]
 go_ret
 exact ⟨v1,rfl,H1.out,H2.out⟩
theorem lay1 (base len : Nat) (v : Value) (zs : List Int) (n : Int) (w : World) (hown : w.ownsRow base 5 1 v len (zs.map (Value.int .u8))) (hbase : base <= w.heap.size) (hm : len + 8 <= 140737488355328) (g : Nat) (hg : g = w.heap.size) :
  Calls Tryz.prog 172 #[v,.int .i64 n,.slice (some ⟨g,0,none⟩) 1 1] (w.alloc (.cells #[.int .u64 0] 183)) fun e w' =>
   ∃ v',e = .returned v' /\ w'.ownsRow base 5 1 v' (len + 1) ((zs ++ [n % 256]).map (Value.int .u8)) /\ w.grownBy w' v.ownBlock:=by
 subst hg
 have h:=lay_any base w.heap.size len v zs n [0] (w.alloc (.cells #[.int .u64 0] 183)) (by decide) (by decide) (hown.alloc _) (new_whole w _ _) (by simp; omega) (by simp; omega)
 refine h.mono fun e w' ⟨v',he,h1,h2,h3⟩ => ⟨v',he,?_,(World.grownBy_alloc w _ _).trans h2⟩
 have e : [0].map (lb n) = [n % 256]:=by simp [lb]
 rw [e] at h1
 exact h1
theorem write_one (base len : Nat) (v : Value) (zs : List Int) (k n : Int) (s : ByteArray) (w : World) (hown : w.ownsRow base 5 1 v len (zs.map (Value.int .u8))) (hbase : base <= w.heap.size) (hm : len + 8 <= 140737488355328) (hk2 : k ≠ 2) (hk3 : k ≠ 3) :
  Calls Tryz.prog 147 #[v,.agg #[.int .i64 k,.int .i64 n,.string s]] w fun e w' => ∃ v',e = .returned v' /\ w'.ownsRow base 5 1 v' (len + 1) ((zs ++ [n % 256]).map (Value.int .u8)) /\ Below base w w':=by
 have HO:=hJQ hown
 have t2 : (k == 2) = false:=by simpa using hk2
 have t3 : (k == 3) = false:=by simpa using hk3
 clear hown hk2 hk3
 go_enter Tryz.func147,Tryz.ntmps147
 go_wp2
 go_step3
 go_wp2_with fail
 refine (lay1 base len v zs n _ (HO.out.alloc _) (by simp; omega) hm (w.heap.size + 1) (by simp)).mono ?_
 rintro e w1 ⟨v1,rfl,h1,h2⟩
 have H1:=hJQ h1
 have H2:=hJQ (written hbase HO.out h2)
 clear h1 h2
 go_wp2
 rw [Exit.noGoto_ret]
 go_ret
 exact ⟨v1,rfl,H1.out,H2.out⟩
theorem lay2_at (base len g : Nat) (v : Value) (zs : List Int) (n : Int) (w : World) (hown : w.ownsRow base 5 1 v len (zs.map (Value.int .u8))) (hg : Whole1 w g 183 #[.int .u64 8,.int .u64 0]) (hbase : base <= w.heap.size) (hm : len + 2 <= 140737488355328) :
  Calls Tryz.prog 172 #[v,.int .i64 n,.slice (some ⟨g,0,none⟩) 2 2] w fun e w' =>
   ∃ v',e = .returned v' /\ w'.ownsRow base 5 1 v' (len + 2) ((zs ++ [n / 256 % 256,n % 256]).map (Value.int .u8)) /\ w.grownBy w' v.ownBlock:=by
 have h:=lay_any base g len v zs n [8,0] w (by decide) (by decide) hown hg hbase hm
 refine h.mono fun e w' ⟨v',he,h1,h2,h3⟩ => ⟨v',he,?_,h2⟩
 have e : [8,0].map (lb n) = [n / 256 % 256,n % 256]:=by simp [lb]
 rw [e] at h1
 exact h1
theorem step_text {ops : Array Oper} {o : Oper} {a : Act} {w : World} {K : Act -> World -> Prop} {Q : Exit -> Act -> World -> Prop} {E : Prop} (hgd : o.guard = none) (sl x : Operand)
  (ho : o.op = .call { callee:=.builtin .append,args:=#[sl,x],argTypes:=#[82,9] })
  (base : Nat) (i : TypeInfo) (hi : Tryz.prog.info? 5 = some i) (hz : i.zero = some (.int .u8 0)) (hsize : i.size = 1) (hby : i.bytes = 1)
  (v : Value) (n : Nat) (xs : List Value) (hs : a.eval sl = v) (hown : w.ownsRow base 5 1 v n xs) (s : ByteArray) (hx : a.eval x = .string s)
  (h63 : n + s.size <= maxLen) (hbytes : n + s.size <= 140737488355328) (hbase : base <= w.heap.size)
  (h : ∀ v' w',w'.ownsRow base 5 1 v' (n + s.size) (xs ++ Lib.strCells s) -> w.grownBy w' v.ownBlock -> K (a.put o.dst v') w') :
  if Region.wanted o (yielded ops a.tmps) = true then Oper.wp Tryz.prog o a w K Q else E:=by
 have hw : Region.wanted o (yielded ops a.tmps) = true:=by simp [Region.wanted,hgd]
 rw [if_pos hw]
 obtain ⟨v',w',hr,h2,h3,_⟩:=Lib.run_append_own_string (P:=Tryz.prog) w base 82 9 o.type 5 i Tryz.underlying82 Tryz.underlying9 hi hz hsize hby v n xs hown s h63 hbytes hbase
 unfold Oper.wp execOp
 simp only [ho,resolve,invoke,builtin,Sem.run_bind,Sem.run_pure,Result.andThen_ok,List.map_toArray,List.map_cons,List.map_nil,hs,hx,hr]
 exact h v' w' h2 h3
theorem strCells_sb (s : ByteArray) : Lib.strCells s = (sb s).map (Value.int .u8):=by simp [Lib.strCells,sb]
theorem text_mid {base len : Nat} {v v1 : Value} {zs : List Int} {n : Int} {s : ByteArray} {w w1 : World} {o : Obj} (hown : ((w.alloc (.cells #[.int .i64 3,.int .i64 n,.string s] 135)).alloc o).ownsRow base 5 1 v len (zs.map (Value.int .u8)))
  (hb : Whole1 ((w.alloc (.cells #[.int .i64 3,.int .i64 n,.string s] 135)).alloc o) w.heap.size 135 #[.int .i64 3,.int .i64 n,.string s]) (hbase : base <= w.heap.size)
  (h1 : w1.ownsRow base 5 1 v1 (len + 2) ((zs ++ [(s.size : Int) / 256 % 256,(s.size : Int) % 256]).map (Value.int .u8))) (h2 : ((w.alloc (.cells #[.int .i64 3,.int .i64 n,.string s] 135)).alloc o).drew.grownBy w1 v.ownBlock) :
  w1.ownsRow base 5 1 v1 (len + 2) ((zs ++ [(s.size : Int) / 256 % 256,(s.size : Int) % 256]).map (Value.int .u8)) /\ Below base w w1 /\ Whole1 w1 w.heap.size 135 #[.int .i64 3,.int .i64 n,.string s] /\ base <= w1.heap.size /\ w1.cell? ⟨w.heap.size,2,none⟩ = some (.string s):=by
 have hw : Whole1 w1 w.heap.size 135 #[.int .i64 3,.int .i64 n,.string s]:=Whole1.grown (w:=((w.alloc (.cells #[.int .i64 3,.int .i64 n,.string s] 135)).alloc o).drew) hb h2 (hb.ne_own hown (by decide))
 exact ⟨h1,((((Below.refl base w).alloc hbase _).alloc (by simp; omega) o).drew).grown h2 (by simp; omega) (own_ge hown),hw,by have:=h2.size; simp at this; omega,hw.cell 2⟩
theorem text_end {base len : Nat} {v1 v2 : Value} {zs : List Int} {n : Int} {s : ByteArray} {w w1 w2 : World} (h1 : w1.ownsRow base 5 1 v1 (len + 2) ((zs ++ [(s.size : Int) / 256 % 256,(s.size : Int) % 256]).map (Value.int .u8))) (hb : Below base w w1)
  (hw : Whole1 w1 w.heap.size 135 #[.int .i64 3,.int .i64 n,.string s]) (h3 : w2.ownsRow base 5 1 v2 (len + 2 + s.size) ((zs ++ [(s.size : Int) / 256 % 256,(s.size : Int) % 256]).map (Value.int .u8) ++ Lib.strCells s)) (h4 : w1.grownBy w2 v1.ownBlock) (hbase : base <= w1.heap.size) :
  w2.ownsRow base 5 1 v2 (len + 2 + s.size) ((zs ++ (s.size : Int) / 256 % 256 :: (s.size : Int) % 256 :: sb s).map (Value.int .u8)) /\ Below base w w2 /\ w2.cell? ⟨w.heap.size,2,none⟩ = some (.string s):=by
 refine ⟨?_,hb.grown h4 hbase (own_ge h1),(hw.grown h4 (hw.ne_own h1 (by decide))).cell 2⟩
 rw [strCells_sb,<- List.map_append,List.append_assoc] at h3
 exact h3
theorem write_text (base len : Nat) (v : Value) (zs : List Int) (n : Int) (s : ByteArray) (w : World) (hown : w.ownsRow base 5 1 v len (zs.map (Value.int .u8))) (hbase : base <= w.heap.size) (hm : len + 2 + s.size <= 140737488355328) :
  Calls Tryz.prog 147 #[v,.agg #[.int .i64 3,.int .i64 n,.string s]] w fun e w' => ∃ v',e = .returned v' /\ w'.ownsRow base 5 1 v' (len + 2 + s.size) ((zs ++ (s.size : Int) / 256 % 256 :: (s.size : Int) % 256 :: sb s).map (Value.int .u8)) /\ Below base w w':=by
 have HO:=hJQ hown
 clear hown
 go_enter Tryz.func147,Tryz.ntmps147
 go_wp2
 refine wp_scope_once 1 rfl ?_
 go_wp2
 go_step3
 refine ⟨rfl,?_⟩
 obtain ⟨i0,hi,hz0,hz1,hz2⟩:=info_parts info5
 obtain ⟨box,hbox⟩ : ∃ box,box = Obj.cells #[.int .i64 3,.int .i64 n,.string s] 135:=⟨_,rfl⟩
 obtain ⟨row,hrow⟩ : ∃ row,row = Obj.cells #[.int .u64 8,.int .u64 0] 183:=⟨_,rfl⟩
 have HW : Hid (Whole1 ((w.alloc (.cells #[.int .i64 3,.int .i64 n,.string s] 135)).alloc (.cells #[.int .u64 8,.int .u64 0] 183)) (w.heap.size + 1) 183 #[.int .u64 8,.int .u64 0]):=hJQ (by
  have h:=new_whole (w.alloc (.cells #[.int .i64 3,.int .i64 n,.string s] 135)) #[.int .u64 8,.int .u64 0] 183
  rw [show (w.alloc (.cells #[.int .i64 3,.int .i64 n,.string s] 135)).heap.size = w.heap.size + 1 by simp] at h
  exact h)
 have HO2 : Hid (((w.alloc (.cells #[.int .i64 3,.int .i64 n,.string s] 135)).alloc (.cells #[.int .u64 8,.int .u64 0] 183)).ownsRow base 5 1 v len (zs.map (Value.int .u8))):=hJQ ((HO.out.alloc _).alloc _)
 have HB : Hid (Whole1 ((w.alloc (.cells #[.int .i64 3,.int .i64 n,.string s] 135)).alloc (.cells #[.int .u64 8,.int .u64 0] 183)) w.heap.size 135 #[.int .i64 3,.int .i64 n,.string s]):=hJQ ((new_whole w _ _).alloc _)
 have hsz : base <= ((w.alloc (.cells #[.int .i64 3,.int .i64 n,.string s] 135)).alloc (.cells #[.int .u64 8,.int .u64 0] 183)).heap.size:=by simp; omega
 have h63 : len + 2 + s.size <= maxLen:=by unfold maxLen; omega
 have hm2 : len + 2 <= 140737488355328:=by omega
 go_wp2_with fail
 go_region_held3 (fun w' => w'.cell? ⟨w.heap.size,2,none⟩ = some (.string s)) (first | go_keep | assumption)
  (first
   | (go_at_call 172; refine (lay2_at base len (w.heap.size + 1) v zs (s.size : Int) ((w.alloc (.cells #[.int .i64 3,.int .i64 n,.string s] 135)).alloc (.cells #[.int .u64 8,.int .u64 0] 183)).drew HO2.out HW.out hsz hm2).mono ?_; rintro e w1 ⟨v1,rfl,h1,h2⟩; have HX:=hJQ (text_mid HO2.out HB.out hbase h1 h2); clear h1 h2; have hS1:=HX.out.2.2.2.2)
   | (refine step_text rfl (.tmp 26) (.tmp 28) rfl base i0 hi hz0 hz1 hz2 v1 (len + 2) _ rfl HX.out.1 s rfl h63 hm HX.out.2.2.2.1 ?_; intro v2 w2 h3 h4; have HY:=hJQ (text_end HX.out.1 HX.out.2.1 HX.out.2.2.1 h3 h4 HX.out.2.2.2.1); clear h3 h4; have hS2:=HY.out.2.2))
 go_wp2
 rw [Exit.noGoto_ret]
 go_ret
 exact ⟨v2,rfl,HY.out.1,HY.out.2.1⟩
theorem write_any (base len : Nat) (v : Value) (zs : List Int) (f : Fld) (w : World) (hown : w.ownsRow base 5 1 v len (zs.map (Value.int .u8))) (hbase : base <= w.heap.size) (hm : len + 1026 <= 140737488355328) (hf : ams f = 0) :
  Calls Tryz.prog 147 #[v,.agg #[.int .i64 f.k,.int .i64 f.n,.string f.s]] w fun e w' => ∃ v',e = .returned v' /\ w'.ownsRow base 5 1 v' (len + (byts f).length) ((zs ++ byts f).map (Value.int .u8)) /\ Below base w w':=by
 have hsz:=byts_len hf
 by_cases h2 : f.k = 2
 ·have e : byts f = be8 f.n:=by unfold byts; rw [if_pos h2]
  rw [h2,e]
  exact write_whole base len v zs f.n f.s w hown hbase (by omega)
 by_cases h3 : f.k = 3
 ·have e : byts f = (f.s.size : Int) / 256 % 256 :: (f.s.size : Int) % 256 :: sb f.s:=by unfold byts; rw [if_neg h2,if_pos h3]
  have el : (byts f).length = 2 + f.s.size:=by rw [e,List.length_cons,List.length_cons,sb_length]; omega
  rw [el] at hsz ⊢
  rw [h3,e,<- Nat.add_assoc]
  exact write_text base len v zs f.n f.s w hown hbase (by omega)
 ·have e : byts f = [f.n % 256]:=by unfold byts; rw [if_neg h2,if_neg h3]
  rw [e]
  exact write_one base len v zs f.k f.n f.s w hown hbase (by omega) h2 h3
end Go.Proofs.YtlppinfjdnhlbaaGreatDoor.Pq
