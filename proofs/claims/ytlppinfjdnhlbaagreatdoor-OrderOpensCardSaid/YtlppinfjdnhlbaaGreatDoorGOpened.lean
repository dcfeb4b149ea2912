/-
 What the ledger's Append and Replace leave. Conditions: no record is longer than an int tells; not too many writes wait; no more than 100000 records are given.
 What the ledger's Append leaves. Condition: the record is no longer than an int tells.
 The ledger's records on a disk that may die (plain mathematics): what a Sync or a Replace makes,and what a crash leaves of one that was cut off.
 What Open returns where a ledger is known to be; what the laws' opened returns; that the laws' own test of life returns true. Condition: not too many sectors.
-/
import Derived.Test.YtlppinfjdnhlbaaGreatDoorHd
import Derived.Test.YtlppinfjdnhlbaaGreatDoorGMeth
import Derived.Maps.AppendAt
namespace Go.Proofs.YtlppinfjdnhlbaaGreatDoor.Gq
set_option maxRecDepth 100000
open Go.ChangeShapes Go.WideShapes Go.ChangeAt Go.RowKit

def Lk (B : Bz) (w w' : World) : Prop:=∀ (k : Nat) (o : Obj),w.heap[k]? = some o -> (B.z k ∨ ∀ cs t fr,o = Obj.cells cs t fr -> t ≠ 5) -> w'.heap[k]? = some o
theorem Lk.tag {B : Bz} {w w' : World} (h : Lk B w w') (k : Nat) (cs : Array Value) (t : TypeId) (fr : Nat × Nat) (hk : w.heap[k]? = some (Obj.cells cs t fr)) (ht : t ≠ 5) : w'.heap[k]? = some (Obj.cells cs t fr) :=
 h k _ hk (.inr fun _ _ _ e => by injection e with _ e _; subst e; exact ht)
theorem own_ne' {w : World} {base size n : Nat} {v : Value} {xs : List Value} (h : w.ownsRow base 5 size v n xs) {k : Nat} {o : Obj} (hk : w.heap[k]? = some o) (ht : ∀ cs t fr,o = Obj.cells cs t fr -> t ≠ 5) : v.ownBlock ≠ some k:=by
 intro e'
 rcases h.2 with ⟨rfl,_⟩ | ⟨g,cap,cur,rfl,_,hg,_⟩
 ·simp [Value.ownBlock] at e'
 ·simp only [Value.ownBlock,Option.some.injEq] at e'
  subst e'
  rw [hk] at hg
  injection hg with hg
  exact ht _ _ _ hg rfl
theorem lk_grown {B : Bz} {a b : World} {base size n : Nat} {v : Value} {xs : List Value} (hz : Mine B v) (hg : a.grownBy b v.ownBlock) (h : a.ownsRow base 5 size v n xs) : Lk B a b:=fun k _ hk ht =>
 (hg.block k (Array.getElem?_eq_some_iff.1 hk).1 (fun e => by
  rcases ht with ht | ht
  ·exact hz k e.symm ht
  ·exact own_ne' h hk ht e.symm)).trans hk
theorem Lk.trans {B : Bz} {a b c : World} (h : Lk B a b) (k : Lk B b c) : Lk B a c:=fun i o hi ht => k i o (h i o hi ht) ht
theorem Lk.of_below {B : Bz} {w w' : World} (h : Below w.heap.size w w') : Lk B w w':=fun k _ hk _ => (h.block k (Array.getElem?_eq_some_iff.1 hk).1).trans hk
def Lies (w : World) (v v' : Value) : Prop:=v'.ownBlock = v.ownBlock ∨ v'.ownBlock = some w.heap.size
theorem Mine.lies {B : Bz} {w : World} {v v' : Value} (h : Mine B v) (hl : Lies w v v') (hz : ∀ k,B.z k -> k < w.heap.size) : Mine B v':=fun k hk hzk => by
 rcases hl with e | e
 ·exact h k (by rw [<- e]; exact hk) hzk
 ·rw [e] at hk
  injection hk with hk
  have:=hz k hzk
  omega
theorem wpList_append_rdz {w : World} {ops : Array Oper} {rest : List Oper} {o : Oper} {a : Act} {Q : Exit -> Act -> World -> Prop} (hgd : o.guard = none) (s x : Operand)
  (ho : o.op = .call { callee:=.builtin .append,args:=#[s,x],argTypes:=#[82,82] })
  (base : Nat) (i : TypeInfo) (hi : Tryz.prog.info? 5 = some i) (hz : i.zero = some (.int .u8 0)) (hsize : i.size = 1) (hby : i.bytes = 1)
  (v : Value) (n : Nat) (xs : List Value) (hs : a.eval s = v) (hown : w.ownsRow base 5 1 v n xs) (b m c : Nat) (zs : List Int) (hx : a.eval x = .slice (some ⟨b,0,none⟩) m c) (hr : Reads w (some ⟨b,0,none⟩) m zs) (h47 : n + m <= 140737488355328) (hbase : base <= w.heap.size) (hm : 0 < m)
  (h : ∀ v' w',w'.ownsRow base 5 1 v' (n + m) (xs ++ ints zs) -> w.grownBy w' v.ownBlock -> Lies w v v' -> wpList Tryz.prog ops Q rest (a.put o.dst v') w') : wpList Tryz.prog ops Q (o :: rest) a w:=by
 refine wpList_plain hgd fun K hK => ?_
 have hcells : ∀ j u,(ints zs)[j]? = some u -> w.cell? ((⟨b,0,none⟩ : Addr).add j) = some u:=fun j u hu => by
  obtain ⟨b',off,h',_⟩:=hr.2.1 hm
  injection h' with h'
  rw [h'] at hr ⊢
  exact ints_cells hr j u hu
 obtain ⟨v',w',hrun,h2,h3,_,h5⟩:=run_append_own_at (P:=Tryz.prog) w base 82 o.type 5 i (.int .u8 0) 1 1 Tryz.underlying82 hi hz hsize hby rfl (by decide) v n xs hown ⟨b,0,none⟩ m c (ints zs) (by rw [ints_length,hr.1,Nat.mul_one]) hcells (ints_one zs) (by unfold maxLen; omega) (by omega) hbase
 unfold Oper.wp execOp
 simp only [ho,resolve,invoke,builtin,Sem.run_bind,Sem.run_pure,Result.andThen_ok,List.map_toArray,List.map_cons,List.map_nil,hs,hx,hrun]
 exact hK _ _ (h v' w' h2 h3 h5)
theorem str_lies {w : World} {base t u ty n : Nat} {i : TypeInfo} (ht : Tryz.prog.underlying t = some (.slice 5)) (hu : Tryz.prog.underlying u = some .string) (hi : Tryz.prog.info? 5 = some i) (hz : i.zero = some (.int .u8 0)) (hsize : i.size = 1) (hby : i.bytes = 1)
  {v : Value} {xs : List Value} (hown : w.ownsRow base 5 1 v n xs) (s : ByteArray) (h47 : n + s.size <= 140737488355328) (hp : 0 < s.size) {v' : Value} {w' : World} (hr : (Builtin.append_ #[t,u] ty #[v,.string s]).run Tryz.prog w = .ok v' w') : Lies w v v':=by
 have hxl : xs.length = n:=by simpa using hown.1
 rcases hown.2 with ⟨rfl,rfl⟩ | ⟨g,cap,cur,rfl,hbg,hg,hnc,hcm,hcs,htake⟩
 ·rw [run_append_nil_string (P:=Tryz.prog) w t u ty 5 i (.int .u8 0) ht hu hi hz s hp (by omega) (by rw [hby]; omega)] at hr
  injection hr with h1 _
  rw [<- h1]
  exact .inr rfl
 ·by_cases hroom : n + s.size <= cap
  ·have hcs' : cur.size = cap:=by simpa using hcs
   rw [Lib.run_append_room_string (P:=Tryz.prog) w t u ty 5 i ht hu hi hsize g n cap cur hg s hroom (by omega)] at hr
   injection hr with h1 _
   rw [<- h1]
   exact .inl rfl
  ·rw [Lib.run_append_grow_string (P:=Tryz.prog) w t u ty 5 i (.int .u8 0) ht hu hi hz ⟨g,0,none⟩ n cap xs (by rw [hsize]; simpa using hxl) (hown.cells (g:=g) rfl) s (by omega) (by omega) (by rw [hby]; exact growslice_fits (by omega) (by omega))] at hr
   injection hr with h1 _
   rw [<- h1]
   exact .inr rfl
theorem wpList_append_strz {w : World} {ops : Array Oper} {rest : List Oper} {o : Oper} {a : Act} {Q : Exit -> Act -> World -> Prop} (hgd : o.guard = none) (sl x : Operand)
  (ho : o.op = .call { callee:=.builtin .append,args:=#[sl,x],argTypes:=#[82,9] })
  (base : Nat) (i : TypeInfo) (hi : Tryz.prog.info? 5 = some i) (hz : i.zero = some (.int .u8 0)) (hsize : i.size = 1) (hby : i.bytes = 1)
  (v : Value) (n : Nat) (xs : List Value) (hs : a.eval sl = v) (hown : w.ownsRow base 5 1 v n xs) (s : ByteArray) (hx : a.eval x = .string s) (h47 : n + s.size <= 140737488355328) (hbase : base <= w.heap.size)
  (h : ∀ v' w',w'.ownsRow base 5 1 v' (n + s.size) (xs ++ Lib.strCells s) -> w.grownBy w' v.ownBlock -> (0 < s.size -> Lies w v v') -> (s.size = 0 -> v' = v) -> wpList Tryz.prog ops Q rest (a.put o.dst v') w') : wpList Tryz.prog ops Q (o :: rest) a w:=by
 refine wpList_plain hgd fun K hK => ?_
 obtain ⟨v',w',hr,h2,h3,h4⟩:=Lib.run_append_own_string (P:=Tryz.prog) w base 82 9 o.type 5 i Tryz.underlying82 Tryz.underlying9 hi hz hsize hby v n xs hown s (by unfold maxLen; omega) h47 hbase
 have h5:=fun hp => str_lies Tryz.underlying82 Tryz.underlying9 hi hz hsize hby hown s h47 hp hr
 have h6 : s.size = 0 -> v' = v:=fun h0 => by
  rcases hown.2 with ⟨rfl,rfl⟩ | ⟨g,cap,cur,rfl,hbg,hg,hnc,hcm,hcs,htake⟩
  ·exact h4.2 ⟨rfl,h0⟩
  ·have hcs' : cur.size = cap:=by simpa using hcs
   rw [Lib.run_append_room_string (P:=Tryz.prog) w 82 9 o.type 5 i Tryz.underlying82 Tryz.underlying9 hi hsize g n cap cur hg s (by omega) (by omega)] at hr
   injection hr with h1 _
   rw [<- h1,h0]; rfl
 unfold Oper.wp execOp
 simp only [ho,resolve,invoke,builtin,Sem.run_bind,Sem.run_pure,Result.andThen_ok,List.map_toArray,List.map_cons,List.map_nil,hs,hx,hr]
 exact hK _ _ (h v' w' h2 h3 h5 h6)
theorem mine_str {B : Bz} {w : World} {v v' : Value} {n : Nat} (h : Mine B v) (h1 : 0 < n -> Lies w v v') (h2 : n = 0 -> v' = v) (hz : ∀ k,B.z k -> k < w.heap.size) : Mine B v':=by
 rcases Nat.eq_zero_or_pos n with e | e
 ·rw [h2 e]; exact h
 ·exact h.lies (h1 e) hz
theorem lay_k (B : Bz) (base len : Nat) (v : Value) (zs : List Int) (S : ByteArray) (w : World) (hown : w.ownsRow base 5 1 v len (ints zs)) (hs : S.size <= 4096) (hbase : base <= w.heap.size) (hm : len <= 2147483647) (hzv : Mine B v) (hzl : ∀ k,B.z k -> k < w.heap.size) :
  Calls Tryz.prog 167 #[v,.string S] w fun e w' => ∃ v',e = .returned v' /\ w'.ownsRow base 5 1 v' (len + 4 + S.size) (ints (zs ++ le4 S.size ++ sb S)) /\ Below base w w' /\ Lk B w w' /\ Mine B v':=by
 obtain ⟨i0,hi,hz0,hz1,hz2⟩:=info_parts info5
 have HL:=hJQ (length_any S.size w (by omega))
 obtain ⟨w1,hw1⟩ : ∃ w1,w1 = w.alloc (.cells (ints (le4 S.size)).toArray 5):=⟨_,rfl⟩
 have HW1:=hJQ hw1
 have HO : Hid (w1.ownsRow base 5 1 v len (ints zs)):=hJQ (by rw [hw1]; exact hown.alloc _)
 have HR : Hid (Reads w1 (some ⟨w.heap.size,0,none⟩) 4 (le4 S.size)):=hJQ (by rw [hw1]; exact reads_lit w (le4 S.size) 5 (le4_bys _))
 have HZ : Hid (base <= w1.heap.size):=hJQ (by rw [hw1]; simp; omega)
 have HLW : Hid (Lk B w w1):=hJQ (by rw [hw1]; exact Lk.of_below (box_below w _))
 have HBW : Hid (Below base w w1):=hJQ (by rw [hw1]; exact (box_below w _).mono hbase)
 have hsz : (S.size : Int) <= 9223372036854775807:=by omega
 have h4 : len + 4 <= 140737488355328:=by omega
 have h5 : len + 4 + S.size <= maxLen:=by unfold maxLen; omega
 have h6 : len + 4 + S.size <= 140737488355328:=by omega
 have HZV:=hJQ hzv
 have HZL : Hid (∀ k,B.z k -> k < w1.heap.size):=hJQ (fun k hk => by have:=hzl k hk; rw [hw1]; simp; omega)
 clear hown hw1 hzv hzl
 go_enter Tryz.func167,Tryz.ntmps167
 go_wp2_with fail
 refine HL.out.mono ?_
 rintro e w' ⟨rfl,hw'⟩
 rw [<- HW1.out] at hw'
 subst hw'
 go_wp2_with (first
  | (at_builtin; refine wpList_append_rdz rfl (.tmp 5) (.tmp 8) rfl base i0 hi hz0 hz1 hz2 v len (ints zs) rfl HO.out w.heap.size 4 4 (le4 S.size) rfl HR.out h4 HZ.out (by decide) ?_; intro v1 w2 h2 h3 h9; have HX:=hJQ h2; have HY:=hJQ h3; have HM1:=hJQ (HZV.out.lies h9 HZL.out); clear h2 h3 h9; have HZ2 : Hid (base <= w2.heap.size):=hJQ (Nat.le_trans HZ.out HY.out.size))
  | (at_builtin; refine wpList_append_strz rfl (.tmp 9) (.tmp 10) rfl base i0 hi hz0 hz1 hz2 v1 (len + 4) (ints zs ++ ints (le4 S.size)) rfl HX.out S rfl h6 HZ2.out ?_; intro v2 w3 h2 h3 h9 h10; have HX2:=hJQ h2; have HY2:=hJQ h3; have HM2:=hJQ (mine_str HM1.out h9 h10 (fun k hk => Nat.lt_of_lt_of_le (HZL.out k hk) HY.out.size)); clear h2 h3 h9 h10)
  | fail)
 go_ret
 refine ⟨v2,rfl,?_,?_,HLW.out.trans ((lk_grown HZV.out HY.out HO.out).trans (lk_grown HM1.out HY2.out HX.out)),HM2.out⟩
 rotate_left
 ·exact (HBW.out.trans (((Below.refl _ _).grown HY.out HZ.out (own_ge HO.out)).grown HY2.out HZ2.out (own_ge HX.out)))
 have h:=HX2.out
 rw [strCells_sb] at h
 simpa [ints] using h
def RpPost (B : Bz) (q p : Nat) (G : Lg) (bv : Value) (D : Dk) (l : List (List Int)) (w : World) (e : Ending) (w' : World) : Prop :=
 (amissL D.dead 0 l G.sz ≠ 0 /\ e = .returned (.int .i64 (amissL D.dead 0 l G.sz)) /\ w = w') ∨
 (amissL D.dead 0 l G.sz = 0 /\ ∃ bb,SePost (sgR B q p G bv bb D (enc l)) w e w')
theorem need_take_le (l : List (List Int)) (k : Nat) : need (l.take k) <= need l:=by
 have h : need l = need (l.take k) + need (l.drop k):=by
  conv => lhs; rw [<- List.take_append_drop k l]
  unfold need
  rw [List.map_append,List.sum_append]
 omega
theorem amissL_ok {d : Bool} {u sz : Nat} {l : List (List Int)} (h : amissL d u l sz = 0) : d = false /\ (∀ s ∈ l,s.length <= 4096) /\ u + need l <= sz * 64:=by
 unfold amissL at h
 by_cases h1 : d = true
 ·rw [if_pos h1] at h; exact absurd h (by decide)
 ·rw [if_neg h1] at h
  by_cases h2 : ∃ s ∈ l,4096 < s.length
  ·rw [if_pos h2] at h; exact absurd h (by decide)
  ·rw [if_neg h2] at h
   by_cases h3 : sz * 64 < u + need l
   ·rw [if_pos h3] at h; exact absurd h (by decide)
   ·exact ⟨by simpa using h1,fun s hs => by
     rcases Nat.lt_or_ge 4096 s.length with h4 | h4
     ·exact absurd ⟨s,hs,h4⟩ h2
     ·exact h4,by omega⟩
set_option maxHeartbeats 1000000 in
theorem replace_any (B : Bz) (q p : Nat) (G : Lg) (bv : Value) (D : Dk) (A : Option Addr) (len cap : Nat) (l : List (List Int)) (w : World) (h : PL w B q p G bv D) (hS : SReads w A len l) (hl : len <= 100000) (hz : ∀ s ∈ l,s.length <= 9223372036854775807) (hwt : D.wait.length <= 30000) :
  Calls Tryz.prog 162 #[.pointer (some ⟨q,0,none⟩),.slice A len cap] w (RpPost B q p G bv D l w):=by
 have hsm:=h.gok.small
 have HA:=hJQ (amissl_any B q p 0 G bv D A len cap l w h.disk h.cells hS hsm.2.1 (by omega) hl hz)
 have HS:=hJQ hS
 have HL:=hJQ hS.1
 have HPL:=hJQ h
 have HSM:=hJQ hsm
 obtain ⟨a,ha⟩ : ∃ a,a = amissL D.dead 0 l G.sz:=⟨_,rfl⟩
 rw [<- ha] at HA
 have HAM:=hJQ ha
 clear h hS hz ha hsm
 by_cases h0 : a = 0
 ·subst h0
  obtain ⟨-,hlo,hne⟩:=amissL_ok HAM.out.symm
  have HLO:=hJQ hlo
  have HNE:=hJQ hne
  clear hlo hne
  go_enter Tryz.func162,Tryz.ntmps162
  go_wp2_with fail
  refine HA.out.mono ?_
  rintro e w' ⟨rfl,rfl⟩
  go_wp2_with fail
  go_loopw [6,8,17] (fun vb _ vk wr => ∃ k : Nat,k <= len /\ vk = .int .i64 k /\ wr.ownsRow w.heap.size 5 1 vb (need (l.take k)) (ints (enc (l.take k))) /\ Below w.heap.size w wr) (fun _ _ vk _ => len - (intOf vk).toNat)
  case atStart => exact ⟨0,Nat.zero_le _,rfl,⟨rfl,.inl ⟨rfl,rfl⟩⟩,Below.refl _ _⟩
  case round =>
   obtain ⟨k,hk,rfl,hown,hb⟩:=hrel
   have HB:=hJQ hb
   have HOW:=hJQ hown
   clear hown hb
   by_cases hlt : k < len
   ·obtain ⟨b,off,rfl,hc⟩:=(HS.out.kept HB.out).2.1 (by omega)
    have hck:=hc k hlt
    obtain ⟨S,hS⟩ : ∃ S,S = strOfNums (l.getD k []):=⟨_,rfl⟩
    rw [<- hS] at hck
    have hmem : l.getD k [] ∈ l:=by rw [getD_eq _ (by rw [HL.out]; exact hlt)]; exact List.getElem_mem _
    have hsz : S.size = (l.getD k []).length:=by rw [hS,str_size]
    have hsb : sb S = l.getD k []:=by rw [hS]; exact sb_str (HS.out.2.2 _ hmem)
    have hnk : need (l.take k) <= 2147483647:=by
     have h1:=need_take_le l k
     have h2:=HNE.out
     have h3:=HSM.out
     omega
    have HNX : Hid (need (l.take (k + 1)) = need (l.take k) + 4 + S.size /\ enc (l.take (k + 1)) = enc (l.take k) ++ le4 S.size ++ sb S):=hJQ ⟨by rw [need_take_succ l k (by rw [HL.out]; exact hlt),hsz]; omega,by rw [enc_take_succ l k (by rw [HL.out]; exact hlt),hsb,hsz]⟩
    have HLY:=hJQ (lay_k ⟨0,fun _ => False⟩ w.heap.size _ _ _ S _ HOW.out (by rw [hsz]; exact HLO.out _ hmem) HB.out.size hnk (fun _ _ h => h) (fun _ h => h.elim))
    have hk0 : (0 : Int) <= (k : Int):=by omega
    have hk1 : (k : Int) < (len : Int):=by omega
    clear hc hS hmem hsz hsb hnk
    go_wp2_with fail
    refine HLY.out.mono ?_
    rintro e w2 ⟨v2,rfl,ho2,hb2,-⟩
    have HO2:=hJQ ho2
    have HB2:=hJQ hb2
    clear ho2 hb2
    go_wp2_with fail
    go_round
    case rel => exact ⟨k + 1,by omega,by go_num,by rw [HNX.out.1,HNX.out.2]; exact HO2.out,HB.out.trans HB2.out⟩
    case measure => simp [intOf]; omega
   ·obtain rfl : k = len:=by omega
    have hk1 : ¬ (k : Int) < (k : Int):=by omega
    have HTL : Hid (l.take k = l):=hJQ (List.take_of_length_le (by rw [HL.out]; exact Nat.le_refl _))
    obtain ⟨A2,c2,rfl,hnc,-,-⟩:=own_form HOW.out
    have ho:=HOW.out
    rw [HTL.out] at ho hnc
    have hpl:=HPL.out.kept HB.out
    have hne : (enc l).length = need l:=enc_length l
    rw [<- hne] at ho hnc
    have HSE:=hJQ (settle_any (sgR B q p G bv (.slice A2 (enc l).length c2) D (enc l)) A2 c2 _ hpl rfl hnc (own_base ho HPL.out.size) (by show 1 - G.m.half <= 1; omega) (Nat.zero_le _) (by have:=HNE.out; show (enc l).length <= G.sz * 64; omega) (enc_bys (fun s hs => ⟨HLO.out s hs,HS.out.2.2 s hs⟩)) (fun k hk hz => by have h1:=own_ge ho k hk; have h2:=HPL.out.zl k hz; omega) hwt)
    have hlc:=(HPL.out.kept HB.out).cells
    have hf12:=hlc.c12
    have hhf:=HPL.out.gok.half
    have e1 : IntKind.i64.wrap (1 - (G.m.half : Int)) = ((1 - G.m.half : Nat) : Int):=by rw [IntKind.wrap_i64]; omega
    have HNL : Hid (need (l.take k) = (enc l).length):=hJQ (by rw [HTL.out,hne])
    clear hpl hnc hne ho hlc hhf
    go_wp2_with fail
    rw [HNL.out]
    refine HSE.out.mono ?_
    rintro e w2 ⟨hr,hkl,hpl⟩
    have HP : Hid (SePost (sgR B q p G bv (.slice A2 (enc l).length c2) D (enc l)) w e w2):=hJQ ⟨hr,(Kl.of_below HB.out HPL.out.size).trans hkl,hpl⟩
    clear hkl hpl
    obtain ⟨r,hr'⟩ : ∃ r,r = (runW D (sgR B q p G bv (.slice A2 (enc l).length c2) D (enc l)).ws).2:=⟨_,rfl⟩
    have he : e = .returned (.int .i64 r):=by rw [hr']; exact hr
    subst he
    clear hr hr'
    go_wp2_with fail
    go_ret
    exact .inr ⟨HAM.out.symm,_,HP.out⟩
 ·have hne : (a != 0) = true:=by simpa using h0
  go_enter Tryz.func162,Tryz.ntmps162
  go_wp2_with fail
  refine HA.out.mono ?_
  rintro e w' ⟨rfl,rfl⟩
  go_wp2_with fail
  go_ret
  exact .inl ⟨by rw [<- HAM.out]; exact h0,ret_i HAM.out,rfl⟩
open Go.ChangeShapes Go.WideShapes Go.ChangeAt Go.RowKit

def ApPost (B : Bz) (q p : Nat) (G : Lg) (bv : Value) (D : Dk) (s : List Int) (w : World) (e : Ending) (w' : World) : Prop :=
 e = .returned (.int .i64 (amissL D.dead G.bs.length [s] G.sz)) /\ Kl B w w' /\
 ((amissL D.dead G.bs.length [s] G.sz ≠ 0 /\ PL w' B q p G bv D) ∨
  (amissL D.dead G.bs.length [s] G.sz = 0 /\ ∃ bv',PL w' B q p { G with bs:=G.bs ++ le4 s.length ++ s } bv' D))
theorem PL.lk {w w' : World} {B : Bz} {q p : Nat} {G : Lg} {bv : Value} {D : Dk} (h : PL w B q p G bv D) (hsz : w.heap.size <= w'.heap.size) (hk : Lk B w w') : w'.heap[q]? = some (.cells (lcells p G bv).toArray 219 (0,0)) /\ PDisk w' B p D :=
 ⟨hk.tag _ _ _ _ h.here (by decide),h.disk.tags hsz fun k cs t fr hx ht => hk.tag _ _ _ _ hx (by rcases ht with rfl | rfl | rfl <;> decide)⟩
theorem ap_done {w w' : World} {B : Bz} {q p : Nat} {G : Lg} {bv bv' : Value} {D : Dk} {S : ByteArray} (h : PL w B q p G bv D) (hf : G.bs.length + 4 + S.size <= G.sz * 64) (hr : w'.ownsRow B 5 1 bv' (G.bs.length + 4 + S.size) (ints (G.bs ++ le4 S.size ++ sb S))) (hb : Below B w w') (hk : Lk B w w') (hzb : Mine B bv') :
  PL (w'.setCell ⟨q,14,none⟩ bv') B q p { G with bs:=G.bs ++ le4 (sb S).length ++ sb S } bv' D /\ Kl B w (w'.setCell ⟨q,14,none⟩ bv'):=by
 obtain ⟨h1,h2⟩:=h.lk hb.size hk
 have hN:=h.gok.num
 have hlen : (G.bs ++ le4 S.size ++ sb S).length = G.bs.length + 4 + S.size:=by rw [List.length_append,List.length_append,le4_len,sb_len]
 refine ⟨⟨set_bytes hN h1,h.base,?_,h2.setCell h1 (by decide) (by decide) (by decide) _,⟨h.gok.fit,h.gok.n,h.gok.slot,hN,h.gok.half,?_,?_,?_⟩,h.zq,hzb⟩,⟨hb.trans ((Kl.of_grown h1 h.base h.zq (setCells_grown [bv'] 14 w')).below),fun k o ho ht => ?_⟩⟩
 ·show World.ownsRow _ B 5 1 bv' (G.bs ++ le4 (sb S).length ++ sb S).length (ints (G.bs ++ le4 (sb S).length ++ sb S))
  rw [sb_len,hlen]
  exact ownsRow_setCell_other hr (own_ne hr h1 (by decide)) _
 ·show G.m.used <= (G.bs ++ le4 (sb S).length ++ sb S).length
  have:=h.gok.used
  rw [sb_len,hlen]; omega
 ·show (G.bs ++ le4 (sb S).length ++ sb S).length <= G.sz * 64
  rw [sb_len,hlen]; exact hf
 ·show Bys (G.bs ++ le4 (sb S).length ++ sb S)
  exact bys_append (bys_append h.gok.bys (le4_bys _)) (sb_bys S)
 ·have h3:=hk k o ho (ht.imp id fun ht cs t fr e => (ht cs t fr e).2.2.2.1)
  rw [heap_setCell_other w' _ _ _ (fun e => ?_)]
  ·exact h3
  ·simp only at e
   rcases ht with ht | ht
   ·exact h.zq (by rw [<- e]; exact ht)
   rw [e,h1] at h3
   injection h3 with h3
   exact (ht _ _ _ h3.symm).2.2.2.2 rfl
theorem need_one (s : List Int) : need [s] = s.length + 4:=by simp [need]
set_option maxHeartbeats 1000000 in
theorem append_led (B : Bz) (q p : Nat) (G : Lg) (bv : Value) (D : Dk) (S : ByteArray) (w : World) (h : PL w B q p G bv D) (hz : S.size <= 9223372036854775807) :
  Calls Tryz.prog 141 #[.pointer (some ⟨q,0,none⟩),.string S] w (ApPost B q p G bv D (sb S) w):=by
 have hsm:=h.gok.small
 obtain ⟨A,c,rfl,hnc,-,-⟩:=own_form h.row
 obtain ⟨wa,hwa⟩ : ∃ wa,wa = w.alloc (.cells #[.string S] 9):=⟨_,rfl⟩
 have hbw : Below w.heap.size w wa:=by rw [hwa]; exact box_below w _
 have hS : SReads wa (some ⟨w.heap.size,0,none⟩) 1 [sb S]:=⟨rfl,fun _ => ⟨_,_,rfl,fun i hi => by
  obtain rfl : i = 0:=by omega
  show wa.cell? ⟨w.heap.size,0 + 0,none⟩ = some (.string (strOfNums (sb S)))
  rw [str_sb,hwa]
  exact cell_of_row _ _ 0 _ 9 _ (new_block w _)⟩,fun s hs => by rcases List.mem_singleton.1 hs with rfl; exact sb_bys S⟩
 have HA:=hJQ (amissl_any B q p G.bs.length G _ D _ 1 1 [sb S] wa (h.kept hbw).disk (h.kept hbw).cells hS hsm.2.1 hsm.2.2.1 (by decide) (fun s hs => by rcases List.mem_singleton.1 hs with rfl; rw [sb_len]; exact hz))
 have HPL:=hJQ h
 have HPA:=hJQ (h.kept hbw)
 have HWA:=hJQ hwa
 have HBW:=hJQ hbw
 have HSM:=hJQ hsm
 have hlc:=h.cells
 have HLC : Hid (∀ W : World,W.heap[q]? = w.heap[q]? -> W.cell? ⟨q,14,none⟩ = some (Value.slice A G.bs.length c)):=hJQ (fun W e => (LCells.of (e.trans h.here) h.gok.num).c14)
 have HQ : Hid (wa.heap[q]? = w.heap[q]?):=hJQ (hbw.block q h.lt)
 have hbl : (G.bs.length : Int) <= 4194304:=by omega
 obtain ⟨a,ha⟩ : ∃ a,a = amissL D.dead G.bs.length [sb S] G.sz:=⟨_,rfl⟩
 rw [<- ha] at HA
 have HAM:=hJQ ha
 obtain ⟨n,hn⟩ : ∃ n,n = G.bs.length:=⟨_,rfl⟩
 rw [<- hn] at HA HLC hbl hnc HPL HPA HAM
 have HN:=hJQ hn
 clear h hS hz ha hsm hwa hbw hlc hn
 go_enter Tryz.func141,Tryz.ntmps141
 have hc14:=HLC.out w rfl
 go_wp2_with fail
 rw [<- HWA.out]
 refine HA.out.mono ?_
 rintro e w2 ⟨rfl,rfl⟩
 by_cases h0 : a = 0
 ·subst h0
  obtain ⟨-,hlo,hne⟩:=amissL_ok HAM.out.symm
  have hs4 : S.size <= 4096:=by rw [<- sb_len]; exact hlo _ (List.mem_singleton.2 rfl)
  rw [need_one,sb_len] at hne
  clear hlo hc14
  have hd14:=HLC.out wa HQ.out
  have HLY:=hJQ (lay_k B B n (.slice A n c) G.bs S wa (by rw [HN.out]; have:=HPA.out.row; rw [<- HN.out] at this ⊢; exact this) hs4 HPA.out.size (by have:=HSM.out; have:=HN.out; omega) HPA.out.zb HPA.out.zl)
  go_wp2_with fail
  refine HLY.out.mono ?_
  rintro e w3 ⟨v3,rfl,ho3,hb3,hk3,hz3⟩
  obtain ⟨A3,c3,rfl,-,-,-⟩:=own_form ho3
  have hdn:=ap_done (S:=S) HPA.out (by have:=HN.out; omega) (by rw [<- HN.out]; exact ho3) hb3 hk3 hz3
  have h3:=(HPA.out.lk hb3.size hk3).1
  have e14:=(LCells.of h3 HPA.out.gok.num).c14
  have f14:=frozen_of_row w3 q 14 _ _ h3
  have HDN:=hJQ hdn
  clear hdn h3 ho3 hb3 hk3 hz3 hd14
  go_wp2_with fail
  go_ret
  have hn:=HN.out
  subst hn
  exact ⟨ret_i HAM.out,(Kl.of_below HBW.out HPL.out.size).trans HDN.out.2,.inr ⟨HAM.out.symm,_,HDN.out.1⟩⟩
 ·have hne : (a != 0) = true:=by simpa using h0
  clear hc14
  go_wp2_with fail
  go_ret
  have hn:=HN.out
  subst hn
  exact ⟨ret_i HAM.out,Kl.of_below HBW.out HPL.out.size,.inl ⟨by rw [<- HAM.out]; exact h0,HPA.out⟩⟩

def putL (G : Lg) (D : Dk) (half there : Nat) (b : List Int) : Lg × Dk × Int :=
 (if (runW D (setW G.fr G.sz G.m half there b)).2 = 0 then { G with m:=nextMk G.m half b.length,bs:=b } else G,(runW D (setW G.fr G.sz G.m half there b)).1,(runW D (setW G.fr G.sz G.m half there b)).2)
structure Inv (G : Lg) (D : Dk) (now firm : List (List Int)) : Prop where
 rn : Rok now
 rf : Rok firm
 bs : G.bs = enc now
 hold : Holds (cur D) G.fr G.sz G.m (enc firm)
 pre : (enc now).take (enc firm).length = enc firm /\ (enc firm).length <= (enc now).length
 room : (enc now).length <= G.sz * 64
 small : G.sz <= 65536
 arm : 0 <= D.armed
theorem inv_fits_sync {G : Lg} {D : Dk} {now firm : List (List Int)} (h : Inv G D now firm) : Fits G.fr G.sz G.m (enc firm) G.m.half G.m.used G.bs:=by
 have hu:=h.hold.used
 exact ⟨h.hold.half,by rw [h.bs]; exact enc_bys h.rn,by rw [h.bs]; exact h.room,by rw [hu,h.bs]; exact h.pre.2,.inr ⟨rfl,rfl,by rw [hu,h.bs]; exact h.pre.1⟩⟩
theorem inv_fits_replace {G : Lg} {D : Dk} {now firm all : List (List Int)} (h : Inv G D now firm) (ha : Rok all) (hr : need all <= G.sz * 64) : Fits G.fr G.sz G.m (enc firm) (1 - G.m.half) 0 (enc all):=by
 have hh:=h.hold.half
 exact ⟨by omega,enc_bys ha,by rw [enc_length]; exact hr,Nat.zero_le _,.inl ⟨by omega,rfl⟩⟩
theorem put_inv {G : Lg} {D D' : Dk} {now firm l : List (List Int)} {half there : Nat} (h : Inv G D now firm) (hF : Fits G.fr G.sz G.m (enc firm) half there (enc l)) (hl : Rok l) (hf : D'.firm = ups (cur D) (pw (setW G.fr G.sz G.m half there (enc l)))) (hw : D'.wait = []) (ha : 0 <= D'.armed) :
  Inv { G with m:=nextMk G.m half (enc l).length,bs:=enc l } D' l l:=by
 have hc : cur D' = D'.firm:=by unfold cur; rw [hw]; rfl
 have hb : (enc l).length < 4294967296:=by have:=hF.rm; have:=h.small; omega
 refine ⟨hl,hl,rfl,?_,⟨List.take_length,Nat.le_refl _⟩,hF.rm,h.small,ha⟩
 rw [hc,hf]
 exact set_done h.hold hF hb
theorem inv_writes {G : Lg} {D : Dk} {now firm : List (List Int)} {half there : Nat} {b : List Int} (h : Inv G D now firm) (hF : Fits G.fr G.sz G.m (enc firm) half there b) : ∀ x ∈ setW G.fr G.sz G.m half there b,x.1 < D.firm.length /\ x.2.length <= 64:=by
 have hfit:=h.hold.fit
 rw [cur_len] at hfit
 exact setW_fits hF.hf h.hold.slot h.hold.num hF.rm hfit
theorem put_alive {G : Lg} {D : Dk} {now firm l : List (List Int)} {half there : Nat} (h : Inv G D now firm) (hd : D.dead = false) (ha : D.armed = 0) (hF : Fits G.fr G.sz G.m (enc firm) half there (enc l)) (hl : Rok l) :
  (putL G D half there (enc l)).2.2 = 0 /\ Inv (putL G D half there (enc l)).1 (putL G D half there (enc l)).2.1 l l /\ (putL G D half there (enc l)).2.1.dead = false /\ (putL G D half there (enc l)).2.1.armed = 0 /\
   (putL G D half there (enc l)).2.1.wait = [] /\ (putL G D half there (enc l)).1.fr = G.fr /\ (putL G D half there (enc l)).1.sz = G.sz /\ (putL G D half there (enc l)).2.1.firm = ups (cur D) (pw (setW G.fr G.sz G.m half there (enc l))):=by
 rcases run_ends _ D h.arm (inv_writes h hF) with hr | hr
 ·obtain ⟨he,-,hf,hw,hdd,haa⟩:=hr
  have ha':=haa ha
  have e1 : (putL G D half there (enc l)).1 = { G with m:=nextMk G.m half (enc l).length,bs:=enc l }:=by unfold putL; exact if_pos he
  refine ⟨he,?_,hdd,ha',hw,by rw [e1],by rw [e1],hf⟩
  rw [e1]
  exact put_inv h hF hl hf hw (by show 0 <= (runW D _).1.armed; rw [ha']; exact Int.le_refl 0)
 ·obtain ⟨-,-,hx,-⟩:=hr
  rcases hx with hx | hx
  ·rw [hd] at hx; cases hx
  ·exact absurd ha hx
structure Alive (G : Lg) (D : Dk) (now firm : List (List Int)) : Prop where
 inv : Inv G D now firm
 dead : D.dead = false
 arm : D.armed = 0
theorem sync_alive {G : Lg} {D : Dk} {now firm : List (List Int)} (h : Alive G D now firm) : (putL G D G.m.half G.m.used G.bs).2.2 = 0 /\ Alive (putL G D G.m.half G.m.used G.bs).1 (putL G D G.m.half G.m.used G.bs).2.1 now now /\
  (putL G D G.m.half G.m.used G.bs).1.fr = G.fr /\ (putL G D G.m.half G.m.used G.bs).1.sz = G.sz /\ (putL G D G.m.half G.m.used G.bs).2.1.firm.length = D.firm.length:=by
 have hF:=inv_fits_sync h.inv
 rw [h.inv.bs] at hF ⊢
 obtain ⟨p1,p2,p3,p4,p5,p6,p7,p8⟩:=put_alive h.inv h.dead h.arm hF h.inv.rn
 exact ⟨p1,⟨p2,p3,p4⟩,p6,p7,by rw [p8,ups_length,cur_len]⟩
structure Cr (G : Lg) (D : Dk) (now firm : List (List Int)) : Prop where
 inv : Inv G D now firm
 dead : D.dead = false
 wait : D.wait = []
theorem cur_idle {D : Dk} (h : D.wait = []) : cur D = D.firm:=by unfold cur; rw [h]; rfl
open Go.ChangeShapes Go.WideShapes Go.ChangeAt Go.RowKit

def OfPost (B : Bz) (p : Nat) (G : Lg) (D : Dk) (w : World) (e : Ending) (w' : World) : Prop :=
 ∃ q bv,e = .returned (.tuple #[.pointer (some ⟨q,0,none⟩),.int .i64 0]) /\ PL w' B q p G bv D /\ w.heap.size <= q /\ Below w.heap.size w w'
theorem alive_new (n fr sz : Nat) (hf : fr + 2 + 2 * sz <= n) (hs : sz <= 65536) : Alive ⟨fr,sz,mk0,[]⟩ (newD n) [] []:=by
 refine ⟨⟨rok_nil,rok_nil,rfl,?_,⟨rfl,Nat.le_refl _⟩,Nat.zero_le _,hs,Int.le_refl 0⟩,rfl,rfl⟩
 exact holds_new hf
theorem newD_len (n : Nat) : (newD n).firm.length = n:=List.length_replicate
end Go.Proofs.YtlppinfjdnhlbaaGreatDoor.Gq
