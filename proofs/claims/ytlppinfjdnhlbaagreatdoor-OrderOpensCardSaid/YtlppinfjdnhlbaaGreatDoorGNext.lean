/-
 What Crash returns: a disk of its own,as the document says; the disk itself stays as it is. Condition: no more than 65536 sectors,not too many writes that wait.
 What ledger.join returns of bytes that read,no more than four; ledger.length of a number; ledger.lay of a row of the call's own and a string. Condition: the row has no more than 2^31 bytes,the string no more than 4096.
 What ledger.lay returns of a row of the call's own and a string: the row with the record behind it; ledger.records of bytes that read: the records that stand in them,and whether that is all. Condition: not more than 2^31 bytes.
 What ledger's number.next returns: the number that follows; older memory is as it was. Condition: the number has eight bytes.
-/
import Derived.Test.YtlppinfjdnhlbaaGreatDoorHd
import Derived.Test.YtlppinfjdnhlbaaGreatDoorGRead
import Derived.Test.YtlppinfjdnhlbaaGreatDoorGNew
import Derived.Lib.MinMax
import Derived.Test.YtlppinfjdnhlbaaGreatDoorGSync
import Derived.Test.YtlppinfjdnhlbaaGreatDoorGSub
import Derived.Test.YtlppinfjdnhlbaaGreatDoorGLed4
namespace Go.Proofs.YtlppinfjdnhlbaaGreatDoor.Gq
set_option maxRecDepth 100000
open Go.ChangeShapes Go.WideShapes Go.ChangeAt Go.RowKit

structure CrMid (w : World) (B : Bz) (D : Dk) (wv v2 : Value) (left : Int) (w3 : World) : Prop where
 here : w3.heap[w.heap.size]? = some (.cells #[v2,wv,.int .i64 left,.bool D.dead] 121 (0,0))
 wrs : w3.ownsRow B 154 65 wv D.wait.length (wcells (was D.firm D.wait))
 secs : w3.ownsRow (w.heap.size + 1) 152 64 v2 D.firm.length (flat (cur D))
 below : Below w.heap.size w w3
open Go.ChangeShapes Go.WideShapes Go.ChangeAt Go.RowKit

theorem or_add (k : Nat) (a b M : Int) (hM : M = ((2 ^ k : Nat) : Int)) (ha0 : 0 <= a) (ha : a < M) (hb : 0 <= b) (hs : a + b * M <= 4294967295) (hk0 : 0 <= b * M) : bits .or .i64 a (b * M) = a + b * M:=by
 have e : bits .or .i64 a (b * M) = IntKind.i64.wrap (((BitVec.ofInt 64 a ||| BitVec.ofInt 64 (b * M)).toNat : Nat) : Int):=rfl
 have e1 : (a % ((2 ^ 64 : Nat) : Int)).toNat = a.toNat:=by simp only [Nat.reducePow]; omega
 have e2 : (b * M % ((2 ^ 64 : Nat) : Int)).toNat = b.toNat <<< k:=by
  rw [Nat.shiftLeft_eq]
  have : (b * M).toNat = b.toNat * 2 ^ k:=by
   rw [hM,Int.toNat_mul hb (by omega),Int.toNat_natCast]
  simp only [Nat.reducePow]; omega
 have ha2 : a.toNat < 2 ^ k:=by omega
 rw [e,BitVec.toNat_or,BitVec.toNat_ofInt,BitVec.toNat_ofInt,e1,e2,Nat.or_comm,<- Nat.shiftLeft_add_eq_or_of_lt ha2,Nat.shiftLeft_eq]
 have : ((b.toNat * 2 ^ k + a.toNat : Nat) : Int) = b * M + a:=by
  rw [Int.natCast_add,Int.natCast_mul,<- hM,Int.toNat_of_nonneg hb,Int.toNat_of_nonneg ha0]
 rw [this,IntKind.wrap_i64]; omega
theorem le_take_succ (zs : List Int) (k : Nat) (h : k < zs.length) : le (zs.take (k + 1)) = le (zs.take k) + zs.getD k 0 * 256 ^ k:=by
 rw [List.take_succ_eq_append_getElem h,le_snoc,List.length_take,Nat.min_eq_left (by omega),getD_eq _ h,Int.mul_comm]
theorem le_take_hi {zs : List Int} (hB : Bys zs) (k : Nat) : 0 <= le (zs.take k) /\ le (zs.take k) < 256 ^ (zs.take k).length:=⟨le_lo (bys_take k hB),le_hi (bys_take k hB)⟩
set_option maxHeartbeats 1000000 in
theorem join_any (A : Option Addr) (len cap : Nat) (zs : List Int) (w : World) (hR : Reads w A len zs) (hl : len <= 4) :
  Calls Tryz.prog 182 #[.slice A len cap] w fun e w' => e = .returned (.int .i64 (le zs)) /\ w = w':=by
 have HR:=hJQ hR
 have HB:=hJQ hR.bys
 have HL:=hJQ hR.1
 clear hR
 go_enter Tryz.func182,Tryz.ntmps182
 go_wp2
 go_loop [3,8] (fun n i => ∃ k : Nat,k <= len /\ i = .int .i64 k /\ n = .int .i64 (le (zs.take k))) (fun _ i => len - (intOf i).toNat)
 case atStart => exact ⟨0,Nat.zero_le _,rfl,rfl⟩
 case round =>
  obtain ⟨k,hk,rfl,rfl⟩:=hrel
  by_cases hlt : k < len
  ·obtain ⟨b,off,rfl,hc⟩:=HR.out.2.1 (by omega)
   have hck:=hc k hlt
   obtain ⟨z,hz⟩ : ∃ z,z = zs.getD k 0:=⟨_,rfl⟩
   obtain ⟨a,ha⟩ : ∃ a,a = le (zs.take k):=⟨_,rfl⟩
   have hzb:=bys_getD HB.out k
   have hab:=le_take_hi HB.out k
   have hnx:=le_take_succ zs k (by rw [HL.out]; exact hlt)
   have hkl : (zs.take k).length = k:=by rw [List.length_take,HL.out]; omega
   rw [hkl] at hab
   rw [<- hz] at hck hzb hnx
   rw [<- ha] at hab hnx ⊢
   have HN:=hJQ hnx
   obtain ⟨z0,z1⟩:=hzb
   obtain ⟨a0,a1⟩:=hab
   clear hc hnx hz ha hkl
   have hcase : k = 0 ∨ k = 1 ∨ k = 2 ∨ k = 3:=by omega
   rcases hcase with rfl | rfl | rfl | rfl
   ·have q : bits .or .i64 a z = a + z * 256 ^ 0:=by
     have:=or_add 0 a z 1 rfl a0 (by omega) z0 (by omega) (by omega)
     simpa using this
    have HQ : Hid (bits .or .i64 a z = le (zs.take 1)):=hJQ (q.trans HN.out.symm)
    clear q
    rw [Nat.add_zero] at hck
    go_wp2
    go_round
    case rel => exact ⟨1,by omega,by go_num,by rw [HQ.out]⟩
    case measure => simp [intOf]; omega
   ·have HQ : Hid (bits .or .i64 a (z * 256) = le (zs.take 2)):=hJQ ((or_add 8 a z 256 rfl a0 (by omega) z0 (by omega) (by omega)).trans HN.out.symm)
    go_wp2
    go_round
    case rel => exact ⟨2,by omega,by go_num,by rw [HQ.out]⟩
    case measure => simp [intOf]; omega
   ·have HQ : Hid (bits .or .i64 a (z * 65536) = le (zs.take 3)):=hJQ ((or_add 16 a z 65536 rfl a0 (by omega) z0 (by omega) (by omega)).trans HN.out.symm)
    go_wp2
    go_round
    case rel => exact ⟨3,by omega,by go_num,by rw [HQ.out]⟩
    case measure => simp [intOf]; omega
   ·have HQ : Hid (bits .or .i64 a (z * 16777216) = le (zs.take 4)):=hJQ ((or_add 24 a z 16777216 rfl a0 (by omega) z0 (by omega) (by omega)).trans HN.out.symm)
    go_wp2
    go_round
    case rel => exact ⟨4,by omega,by go_num,by rw [HQ.out]⟩
    case measure => simp [intOf]; omega
  ·obtain rfl : k = len:=by omega
   have HT : Hid (zs.take k = zs):=hJQ (List.take_of_length_le (by rw [HL.out]; exact Nat.le_refl _))
   go_wp2
   go_ret
   exact ⟨ret_i (by rw [HT.out]),rfl⟩
theorem length_any (n : Nat) (w : World) (h : n <= 2147483647) :
  Calls Tryz.prog 183 #[.int .i64 (n : Int)] w fun e w' => e = .returned (.slice (some ⟨w.heap.size,0,none⟩) 4 4) /\ w.alloc (.cells (ints (le4 n)).toArray 5) = w':=by
 have h0 : (0 : Int) <= (n : Int):=by omega
 have h1 : (n : Int) <= 2147483647:=by omega
 have HE : Hid ((ints (le4 n)).toArray = #[Value.int .u8 ((n : Int) % 256),.int .u8 ((n : Int) / 256 % 256),.int .u8 ((n : Int) / 65536 % 256),.int .u8 ((n : Int) / 16777216)]):=hJQ (by
  have e : (n : Int) / 16777216 % 256 = (n : Int) / 16777216:=by omega
  simp only [le4,e]; rfl)
 go_enter Tryz.func183,Tryz.ntmps183
 go_wp2
 go_ret
 exact ⟨rfl,by rw [HE.out]⟩
open Go.ChangeShapes Go.WideShapes Go.ChangeAt Go.RowKit

theorem sb_bys (s : ByteArray) : Bys (sb s):=fun z h => by
 obtain ⟨c,_,rfl⟩:=List.mem_map.1 h
 have:=c.toNat_lt
 omega
theorem sb_len (s : ByteArray) : (sb s).length = s.size:=by
 show (s.data.toList.map _).length = _
 rw [List.length_map,Array.length_toList]; rfl
theorem strCells_sb (s : ByteArray) : Lib.strCells s = ints (sb s):=by
 simp [Lib.strCells,sb,ints]
theorem str_sb (s : ByteArray) : strOfNums (sb s) = s:=by
 cases s with
 | mk d =>
  simp only [strOfNums,sb,List.map_map]
  congr 1
  apply Array.ext'
  show d.toList.map _ = d.toList
  conv => rhs; rw [<- List.map_id d.toList]
  refine List.map_congr_left fun c _ => ?_
  show UInt8.ofNat ((c.toNat : Int)).toNat = c
  rw [Int.toNat_natCast]
  exact UInt8.ofNat_toNat
theorem ints_cells {w : World} {b off len : Nat} {zs : List Int} (hR : Reads w (some ⟨b,off,none⟩) len zs) : ∀ j u,(ints zs)[j]? = some u -> w.cell? (Addr.add ⟨b,off,none⟩ j) = some u:=by
 intro j u hu
 have hl:=hR.1
 rcases Nat.eq_zero_or_pos len with h0 | h0
 ·have : zs = []:=List.eq_nil_of_length_eq_zero (by omega)
  subst this; simp [ints] at hu
 ·obtain ⟨ad,e,h⟩:=reads_cells hR h0
  injection e with e
  subst e
  exact h j u hu
set_option maxRecDepth 100000 in
theorem run_append_rd (w : World) (base ty : Nat) (i : TypeInfo) (hi : Tryz.prog.info? 5 = some i) (hz : i.zero = some (.int .u8 0)) (hsize : i.size = 1) (hby : i.bytes = 1)
  (v : Value) (n : Nat) (xs : List Value) (hown : w.ownsRow base 5 1 v n xs) (A : Option Addr) (m c : Nat) (zs : List Int) (hr : Reads w A m zs) (h47 : n + m <= 140737488355328) (hbase : base <= w.heap.size) :
  ∃ v' w',(Builtin.append_ #[82,82] ty #[v,.slice A m c]).run Tryz.prog w = .ok v' w' /\ w'.ownsRow base 5 1 v' (n + m) (xs ++ ints zs) /\ w.grownBy w' v.ownBlock:=by
 rcases A with _ | ad
 ·have hm : m = 0:=by
   rcases Nat.eq_zero_or_pos m with h0 | h0
   ·exact h0
   ·obtain ⟨b,off,h,_⟩:=hr.2.1 h0
    cases h
  subst hm
  have hn : zs = []:=List.eq_nil_of_length_eq_zero hr.1
  subst hn
  refine ⟨v,w,?_,by simpa [ints] using hown,World.grownBy.refl w _⟩
  rcases hown.2 with ⟨rfl,rfl⟩ | ⟨g,cap,cur,rfl,_,_,hnc,_⟩
  ·simp [Builtin.append_,run_underlying Tryz.underlying82,sizeOf,typeInfo,hi,Builtin.lenOf,Builtin.firstCells]
  ·simp [Builtin.append_,run_underlying Tryz.underlying82,sizeOf,typeInfo,hi,Builtin.lenOf,Builtin.firstCells,hnc,storeCells]
 ·have hcells : ∀ j u,(ints zs)[j]? = some u -> w.cell? (ad.add j) = some u:=by
   intro j u hu
   rcases Nat.eq_zero_or_pos m with h0 | h0
   ·have hn : zs = []:=List.eq_nil_of_length_eq_zero (hr.1.trans h0)
    subst hn
    simp [ints] at hu
   ·obtain ⟨b,off,h,_⟩:=hr.2.1 h0
    injection h with h
    subst h
    exact ints_cells hr j u hu
  obtain ⟨v',w',hrun,h2,h3,_⟩:=run_append_own (P:=Tryz.prog) w base 82 ty 5 i (.int .u8 0) 1 1 Tryz.underlying82 hi hz hsize hby rfl (by decide) v n xs hown ad m c (ints zs) (by rw [ints_length,hr.1,Nat.mul_one]) hcells (ints_one zs) (by unfold maxLen; omega) (by omega) hbase
  exact ⟨v',w',hrun,h2,h3⟩
set_option maxRecDepth 100000 in
theorem wpList_append_rd {w : World} {ops : Array Oper} {rest : List Oper} {o : Oper} {a : Act} {Q : Exit -> Act -> World -> Prop} (hgd : o.guard = none) (s x : Operand)
  (ho : o.op = .call { callee:=.builtin .append,args:=#[s,x],argTypes:=#[82,82] })
  (base : Nat) (i : TypeInfo) (hi : Tryz.prog.info? 5 = some i) (hz : i.zero = some (.int .u8 0)) (hsize : i.size = 1) (hby : i.bytes = 1)
  (v : Value) (n : Nat) (xs : List Value) (hs : a.eval s = v) (hown : w.ownsRow base 5 1 v n xs) (A : Option Addr) (m c : Nat) (zs : List Int) (hx : a.eval x = .slice A m c) (hr : Reads w A m zs) (h47 : n + m <= 140737488355328) (hbase : base <= w.heap.size)
  (h : ∀ v' w',w'.ownsRow base 5 1 v' (n + m) (xs ++ ints zs) -> w.grownBy w' v.ownBlock -> wpList Tryz.prog ops Q rest (a.put o.dst v') w') : wpList Tryz.prog ops Q (o :: rest) a w:=by
 refine wpList_plain hgd fun K hK => ?_
 obtain ⟨v',w',hrun,h2,h3⟩:=run_append_rd w base o.type i hi hz hsize hby v n xs hown A m c zs hr h47 hbase
 unfold Oper.wp execOp
 simp only [ho,resolve,invoke,builtin,Sem.run_bind,Sem.run_pure,Result.andThen_ok,List.map_toArray,List.map_cons,List.map_nil,hs,hx,hrun]
 exact hK _ _ (h v' w' h2 h3)
theorem reads_lit (w : World) (l : List Int) (t : TypeId) (hB : Bys l) : Reads (w.alloc (.cells (ints l).toArray t)) (some ⟨w.heap.size,0,none⟩) l.length l :=
 reads_mk rfl (fun _ => ⟨_,_,rfl,fun i hi => by
  rw [Nat.zero_add,cell_of_row _ _ i _ t _ (new_block w _),getD_eq _ hi]
  simp [ints,hi]⟩) hB
theorem grown_alloc {w w' : World} {o : Obj} {row : Option Nat} (h : (w.alloc o).grownBy w' row) : w.grownBy w' row:=(World.grownBy_alloc w o _).trans h
theorem lay_any (base len : Nat) (v : Value) (zs : List Int) (S : ByteArray) (w : World) (hown : w.ownsRow base 5 1 v len (ints zs)) (hs : S.size <= 4096) (hbase : base <= w.heap.size) (hm : len <= 2147483647) :
  Calls Tryz.prog 167 #[v,.string S] w fun e w' => ∃ v',e = .returned v' /\ w'.ownsRow base 5 1 v' (len + 4 + S.size) (ints (zs ++ le4 S.size ++ sb S)) /\ Below base w w':=by
 obtain ⟨i0,hi,hz0,hz1,hz2⟩:=info_parts info5
 have HL:=hJQ (length_any S.size w (by omega))
 obtain ⟨w1,hw1⟩ : ∃ w1,w1 = w.alloc (.cells (ints (le4 S.size)).toArray 5):=⟨_,rfl⟩
 have HW1:=hJQ hw1
 have HO : Hid (w1.ownsRow base 5 1 v len (ints zs)):=hJQ (by rw [hw1]; exact hown.alloc _)
 have HR : Hid (Reads w1 (some ⟨w.heap.size,0,none⟩) 4 (le4 S.size)):=hJQ (by rw [hw1]; exact reads_lit w (le4 S.size) 5 (le4_bys _))
 have HZ : Hid (base <= w1.heap.size):=hJQ (by rw [hw1]; simp; omega)
 have HBW : Hid (Below base w w1):=hJQ (by rw [hw1]; exact (box_below w _).mono hbase)
 have hsz : (S.size : Int) <= 9223372036854775807:=by omega
 have h4 : len + 4 <= 140737488355328:=by omega
 have h5 : len + 4 + S.size <= maxLen:=by unfold maxLen; omega
 have h6 : len + 4 + S.size <= 140737488355328:=by omega
 clear hown hw1
 go_enter Tryz.func167,Tryz.ntmps167
 go_wp2_with fail
 refine HL.out.mono ?_
 rintro e w' ⟨rfl,hw'⟩
 rw [<- HW1.out] at hw'
 subst hw'
 go_wp2_with (first
  | (at_builtin; refine wpList_append_rd rfl (.tmp 5) (.tmp 8) rfl base i0 hi hz0 hz1 hz2 v len (ints zs) rfl HO.out (some ⟨w.heap.size,0,none⟩) 4 4 (le4 S.size) rfl HR.out h4 HZ.out ?_; intro v1 w2 h2 h3; have HX:=hJQ h2; have HY:=hJQ h3; clear h2 h3; have HZ2 : Hid (base <= w2.heap.size):=hJQ (Nat.le_trans HZ.out HY.out.size))
  | (at_builtin; refine Lib.wpList_append_own_string _ rfl (.tmp 9) (.tmp 10) 82 9 rfl base 5 i0 Tryz.underlying82 Tryz.underlying9 hi hz0 hz1 hz2 v1 (len + 4) (ints zs ++ ints (le4 S.size)) rfl HX.out S rfl h5 h6 HZ2.out ?_; intro v2 w3 h2 h3 _; have HX2:=hJQ h2; have HY2:=hJQ h3; clear h2 h3)
  | fail)
 go_ret
 refine ⟨v2,rfl,?_,HBW.out.trans (((Below.refl _ _).grown HY.out HZ.out (own_ge HO.out)).grown HY2.out HZ2.out (own_ge HX.out))⟩
 have h:=HX2.out
 rw [strCells_sb] at h
 simpa [ints] using h
/-! ### Records -/
def slen : Value -> Nat
 | .slice _ n _ => n
 | _ => 0
theorem strs_snoc (l : List (List Int)) (s : List Int) : strs (l ++ [s]) = strs l ++ [.string (strOfNums s)]:=by simp [strs]
theorem strs_length (l : List (List Int)) : (strs l).length = l.length:=List.length_map _
def RRel (w : World) (len : Nat) (zs : List Int) (vb va : Value) (wr : World) : Prop :=
 ∃ (A : Option Addr) (ln cp : Nat) (r : List Int) (l : List (List Int)),vb = .slice A ln cp /\ ln <= cp /\ ln <= len /\ Reads w A ln r /\ Rc zs l r /\ wr.ownsRow w.heap.size 9 1 va l.length (strs l) /\ Below w.heap.size w wr
def RcPost (w : World) (zs : List Int) (e : Ending) (w' : World) : Prop :=
 ∃ (v : Value) (l : List (List Int)) (r : List Int),e = .returned (.tuple #[v,.bool (decide (r = []))]) /\ Rc zs l r /\ gt r = none /\ w'.ownsRow w.heap.size 9 1 v l.length (strs l) /\ Below w.heap.size w w'
theorem recs_bad_end {w wr : World} {zs r : List Int} {l : List (List Int)} {va : Value} {b : Bool} (hrc : Rc zs l r) (hg : gt r = none) (hown : wr.ownsRow w.heap.size 9 1 va l.length (strs l)) (hb : Below w.heap.size w wr) (e : b = decide (r = [])) : RcPost w zs (.returned (.tuple #[va,.bool b])) wr:=by
 subst e; exact ⟨va,l,r,rfl,hrc,hg,hown,hb⟩
set_option maxRecDepth 100000 in
theorem recs_any (A : Option Addr) (len cap : Nat) (zs : List Int) (w : World) (hR : Reads w A len zs) (hc : len <= cap) (hm : len <= 2147483647) :
  Calls Tryz.prog 156 #[.slice A len cap] w (RcPost w zs):=by
 obtain ⟨i0,hi,hz0,hz1,hz2⟩:=info_parts info9
 have HR:=hJQ hR
 clear hR
 go_enter Tryz.func156,Tryz.ntmps156
 go_wp2
 go_step3
 go_wp2
 go_step3
 go_wp2
 go_loopw [0,4,5,27] (fun vb va _ _ wr => RRel w len zs vb va wr) (fun vb _ _ _ _ => slen vb)
 case atStart => exact ⟨A,len,cap,zs,[],rfl,hc,Nat.le_refl _,HR.out,.nil _,World.ownsRow_nil _ _ _ _,Below.refl _ _⟩
 case round =>
  obtain ⟨A,ln,cp,r,l,rfl,hlc,hll,hr,hrc,hown,hb⟩:=hrel
  have HRD:=hJQ hr
  have HRC:=hJQ hrc
  have HO:=hJQ hown
  have HB:=hJQ hb
  have HRL:=hJQ hr.1
  have HBY:=hJQ hr.bys
  clear hr hrc hown hb
  rcases Nat.eq_zero_or_pos ln with h0 | h0
  ·subst h0
   have HNIL : Hid (r = []):=hJQ (List.eq_nil_of_length_eq_zero HRL.out)
   have HE:=hJQ (recs_bad_end HRC.out (by rw [HNIL.out]; exact gt_nil) HO.out HB.out (b:=true) (by rw [HNIL.out]; rfl))
   go_wp2
   rw [Exit.noGoto_ret]
   go_ret2
   exact HE.out
  ·have h0' : (0 : Int) < (ln : Int):=by omega
   obtain ⟨k,hk⟩ : ∃ k,k = min 4 ln:=⟨_,rfl⟩
   have hmn : min (4 : Int) (ln : Int) = (k : Int):=by omega
   have hkl : k <= ln:=by omega
   have hk4 : k <= 4:=by omega
   obtain ⟨A',c',hsl,hr',-,-⟩:=sub_to HRD.out hlc k hkl
   have HT : Hid (r.take k = r.take 4):=hJQ (by
    by_cases h : 4 <= ln
    ·rw [show k = 4 by omega]
    ·rw [List.take_of_length_le (by have:=HRL.out; omega),List.take_of_length_le (by have:=HRL.out; omega)])
   have HJ:=hJQ (join_any A' k c' (r.take k) wr (hr'.kept HB.out) hk4)
   have HK:=hJQ hk
   clear hr' hk
   go_wp2_with fail
   refine HJ.out.mono ?_
   rintro e w' ⟨rfl,rfl⟩
   rw [HT.out]
   obtain ⟨x,hx⟩ : ∃ x,x = le (r.take 4):=⟨_,rfl⟩
   have hx4:=le_take4 HBY.out
   rw [<- hx] at hx4 ⊢
   obtain ⟨hx0,hx1⟩:=hx4
   have hne : ((ln : Int) == 0) = false:=by simp; omega
   have HX:=hJQ hx
   have HNN : Hid (r ≠ []):=hJQ (fun e => by have:=HRL.out; rw [e] at this; simp at this; omega)
   clear hx
   by_cases h1 : 4096 < x
   ·have HE:=hJQ (recs_bad_end HRC.out (gt_none (by rw [<- HX.out]; omega)) HO.out HB.out (b:=false) (by rw [decide_eq_false HNN.out]))
    clear hsl
    go_wp2
    rw [Exit.noGoto_ret]
    go_ret2
    exact HE.out
   by_cases h2 : (ln : Int) - 4 < x
   ·have HE:=hJQ (recs_bad_end HRC.out (gt_none (by rw [<- HX.out,HRL.out]; omega)) HO.out HB.out (b:=false) (by rw [decide_eq_false HNN.out]))
    clear hsl
    go_wp2
    rw [Exit.noGoto_ret]
    go_ret2
    exact HE.out
   ·obtain ⟨m,rfl⟩ : ∃ m : Nat,x = (m : Int):=⟨x.toNat,by omega⟩
    have hgt : gt r = some m:=by
     rw [gt_mk HNN.out (by rw [<- HX.out]; omega) (by rw [<- HX.out,HRL.out]; omega),<- HX.out]; rfl
    have hm4 : 4 + m <= ln:=by omega
    have HSN:=hJQ (HRC.out.snoc hgt)
    obtain ⟨A2,c2,hs2,hr2,-,-,-⟩:=sub_any HRD.out hlc 4 (4 + m) (by omega) hm4
    obtain ⟨A3,c3,hs3,hr3,hc3,-⟩:=sub_from HRD.out hlc (4 + m) hm4
    rw [Nat.add_sub_cancel_left] at hs2 hr2
    have hcv:=conv_reads (c:=c2) (hr2.kept HB.out)
    obtain ⟨S,hS⟩ : ∃ S,S = strOfNums (body r m):=⟨_,rfl⟩
    have hcv' : (convert 82 9 (.slice A2 m c2)).run Tryz.prog wr = .ok (.string S) wr:=by rw [hS]; exact hcv
    have HS:=hJQ hS
    obtain ⟨k3,hk3⟩ : ∃ k3,k3 = ln - (4 + m):=⟨_,rfl⟩
    rw [<- hk3] at hs3 hr3 hc3
    have HK3:=hJQ hk3
    have HR3:=hJQ hr3
    have e2 : ∀ W : World,(Instr.slice 82 (.slice A ln cp) (some (.int .i64 4)) (some (.int .i64 (4 + (m : Int)))) none).run Tryz.prog W = .ok (.slice A2 m c2) W:=hs2
    have e3 : ∀ W : World,(Instr.slice 82 (.slice A ln cp) (some (.int .i64 (4 + (m : Int)))) none none).run Tryz.prog W = .ok (.slice A3 k3 c3) W:=hs3
    have h63 : l.length + 1 <= maxLen:=by
     have h4:=HRC.out.len HR.out.bys
     have h5:=need_len l
     have h6:=HR.out.1
     unfold maxLen; omega
    have h47 : (l.length + 1) * 16 <= 140737488355328:=by
     have h4:=HRC.out.len HR.out.bys
     have h5:=need_len l
     have h6:=HR.out.1
     omega
    have hszt : w.heap.size <= (wr.alloc (.cells #[.string S] 9)).heap.size:=by have:=HB.out.size; simp; omega
    have hm0 : (0 : Int) <= (m : Int):=by omega
    have t1 : decide ((4096 : Int) < (m : Int)) = false:=decide_eq_false h1
    have t2 : decide ((ln : Int) - 4 < (m : Int)) = false:=decide_eq_false h2
    have t3 : (m : Int) <= 4096:=by omega
    have t4 : k3 < ln:=by omega
    clear hr2 hr3 hs2 hs3 hsl hcv hgt hS hk3 h1 h2 hx0 hx1
    go_wp2_with (at_builtin; refine wpList_append_own _ rfl (.tmp 15) (.tmp 21) 195 rfl w.heap.size 9 i0 (.string ⟨#[]⟩) 1 16 Tryz.underlying195 hi hz0 hz1 hz2 rfl (by decide) u4 l.length (strs l) rfl (HO.out.alloc _) ⟨wr.heap.size,0,none⟩ 1 1 [.string S] rfl rfl (cell_one_new _ _ _) (by simp [Value.oneCell']) h63 h47 hszt ?_; intro v' w1 hown' hgrow _; have HX1:=hJQ hown'; have HX2:=hJQ (grown_alloc hgrow); clear hown' hgrow)
    go_roundw
    case rel => exact ⟨A3,k3,c3,_,_,rfl,hc3,Nat.le_trans (Nat.le_of_lt t4) hll,HR3.out,HSN.out,by rw [List.length_append,strs_snoc,<- HS.out]; exact HX1.out,HB.out.grown HX2.out HB.out.size (own_ge HO.out)⟩
    case measure => exact t4
open Go.ChangeShapes Go.WideShapes Go.ChangeAt Go.RowKit

def Z8 : Array Value:=Array.replicate 8 (.int .u8 0)
theorem size70 : (Tryz.prog.info? 215).map (·.size) = some 8:=by kernel_rfl
theorem info70 : (Tryz.prog.info? 215).map (fun i => (i.zero,i.size,i.bytes)) = some (some (.agg Z8),8,8):=by kernel_rfl
def car (l : List Int) (k : Nat) : List Int:=List.replicate k 0 ++ l.drop k
theorem car_len (l : List Int) (k : Nat) (hk : k <= l.length) : (car l k).length = l.length:=by simp [car]; omega
theorem nxt_car : ∀ (l : List Int) (k : Nat),k <= l.length -> (∀ i,i < k -> l.getD i 0 = 255) -> nxt l = List.replicate k 0 ++ nxt (l.drop k)
 | _,0,_,_ => rfl
 | [],k + 1,h,_ => by simp at h
 | x :: l,k + 1,h,hh => by
  have h0 : x = 255:=hh 0 (by omega)
  have ih:=nxt_car l k (by simpa using h) (fun i hi => hh (i + 1) (by omega))
  subst h0
  simp only [nxt,if_true,List.replicate_succ,List.cons_append,List.drop_succ_cons,ih]
theorem car_stop {l : List Int} {k : Nat} (hk : k < l.length) (hh : ∀ i,i < k -> l.getD i 0 = 255) (hx : l.getD k 0 ≠ 255) : (car l k).set k (l.getD k 0 + 1) = nxt l:=by
 rw [nxt_car l k (by omega) hh]
 unfold car
 have e : l.drop k = l.getD k 0 :: l.drop (k + 1):=by rw [getD_eq _ hk,List.drop_eq_getElem_cons hk]
 obtain ⟨x,hxe⟩ : ∃ x,x = l.getD k 0:=⟨_,rfl⟩
 rw [<- hxe] at hx e ⊢
 rw [e,List.set_append_right _ _ (by simp)]
 simp [nxt,hx]
theorem car_next {l : List Int} {k : Nat} (hk : k < l.length) : (car l k).set k 0 = car l (k + 1):=by
 unfold car
 have e : l.drop k = l.getD k 0 :: l.drop (k + 1):=by rw [getD_eq _ hk,List.drop_eq_getElem_cons hk]
 rw [e,List.set_append_right _ _ (by simp),List.replicate_succ',List.append_assoc]
 simp
theorem car_end {l : List Int} (hh : ∀ i,i < l.length -> l.getD i 0 = 255) : car l l.length = nxt l:=by
 rw [nxt_car l l.length (Nat.le_refl _) hh]
 simp [car,nxt]
theorem car_at {l : List Int} {k : Nat} : (car l k).getD k 0 = l.getD k 0:=by
 unfold car
 rw [append_getD_right _ _ _ (by simp),drop_getD]; simp
theorem ints_set (l : List Int) (k : Nat) (x : Int) : (ints l).toArray.setIfInBounds k (.int .u8 x) = (ints (l.set k x)).toArray:=by
 simp [ints,List.setIfInBounds_toArray]
def NRel (w : World) (l : List Int) (vk : Value) (wr : World) : Prop :=
 ∃ k : Nat,k <= 8 /\ vk = .int .i64 (k : Int) /\ (∀ i,i < k -> l.getD i 0 = 255) /\ wr.heap[w.heap.size]? = some (.cells (ints (car l k)).toArray 215 (0,0)) /\ wr.heap[w.heap.size + 1]? = some (.cells Z8 215 (0,0)) /\ Below w.heap.size w wr
theorem z8_lit : #[Value.int IntKind.u8 0,Value.int IntKind.u8 0,Value.int IntKind.u8 0,Value.int IntKind.u8 0,Value.int IntKind.u8 0,Value.int IntKind.u8 0,Value.int IntKind.u8 0,Value.int IntKind.u8 0] = Z8:=by kernel_rfl
theorem range_whole {w : World} {g : Nat} {cs : List Value} {t : TypeId} {fr : Nat × Nat} (h : w.heap[g]? = some (.cells cs.toArray t fr)) : w.rangeAt g 0 cs:=fun j v hv => by
 rw [Nat.zero_add,cell_of_row w g j _ t fr h,List.getElem?_toArray]; exact hv
theorem there_whole {w : World} {g : Nat} {cs : Array Value} {t : TypeId} {n : Nat} (h : w.heap[g]? = some (.cells cs t (0,0))) (hn : n <= cs.size) : w.there g 0 n:=fun j hj => by
 refine ⟨?_,frozen_of_row w g _ _ _ h⟩
 rw [Nat.zero_add,cell_of_row w g j _ t _ h,Array.getElem?_eq_getElem (by omega)]; rfl
theorem set_whole {w : World} {g : Nat} {cs : Array Value} {vs : List Value} {t : TypeId} (h : w.heap[g]? = some (.cells cs t (0,0))) (hn : vs.length = cs.size) : (w.setCells g 0 vs).heap[g]? = some (.cells vs.toArray t (0,0)):=by
 have:=setCells_splice (t:=t) vs 0 cs.toList w (by simpa using h) (by have e : cs.toList.length = cs.size:=Array.length_toList; omega)
 rw [this]
 simp [splice,hn]
theorem results_c {fn : Func} {p : Tmp} {T : TypeId} {d : TypeDesc} (h : fn.results = #[.cell p T]) (hd : Tryz.prog.underlying T = some d) (hr : d.isRow = true) (tmps : Array Value) (w : World) (g : Nat) (cs : List Value) (hi : (Tryz.prog.info? T).map (·.size) = some cs.length)
  (hp : tmps.getD p undef = .pointer (some ⟨g,0,none⟩)) (hg : w.heap[g]? = some (.cells cs.toArray T (0,0))) : (results fn tmps).run Tryz.prog w = .ok (.agg cs.toArray) w:=by
 have hp' : tmps[p]?.getD undef = .pointer (some ⟨g,0,none⟩):=by simpa using hp
 have r2:=run_loadVar_mid (P:=Tryz.prog) w g 0 T cs d (range_whole hg) hd hr hi
 simp [results,h,hp',asAddr,r2]
theorem next_end {w wt : World} {l : List Int} (hN : Nok l) (h1 : wt.heap[w.heap.size + 1]? = some (.cells Z8 215 (0,0))) (hb : Below w.heap.size w wt) :
  (wt.setCells (w.heap.size + 1) 0 (ints (nxt l))).heap[w.heap.size + 1]? = some (.cells (ints (nxt l)).toArray 215 (0,0)) /\ Below w.heap.size w (wt.setCells (w.heap.size + 1) 0 (ints (nxt l))):=by
 refine ⟨set_whole h1 (by rw [ints_length,nxt_len,hN.1]; kernel_rfl),hb.grown (setCells_grown _ _ _) hb.size (fun k hk => by injection hk with hk; omega)⟩
theorem next_any (C : Array Value) (l : List Int) (w : World) (hN : Nok l) (hC : C = (ints l).toArray) :
  Calls Tryz.prog 185 #[.agg C] w fun e w' => e = .returned (.agg (ints (nxt l)).toArray) /\ Below w.heap.size w w':=by
 have HN:=hJQ hN
 have HC:=hJQ hC
 have HSZ : Hid ((Tryz.prog.info? 215).map (·.size) = some (ints (nxt l)).length):=hJQ (by rw [ints_length,nxt_len,hN.1]; exact size70)
 have HS2 : Hid ((Tryz.prog.info? 215).map (·.size) = some (ints (nxt l)).toArray.size):=hJQ (by rw [List.size_toArray]; exact HSZ.out)
 have HON : Hid ((ints (nxt l)).toArray.all (·.oneCell') = true):=hJQ (all_oneCell_toArray (ints_one _))
 have HZS : Hid ((ints (nxt l)).toArray.size <= Z8.size):=hJQ (by rw [List.size_toArray,ints_length,nxt_len,hN.1]; decide +kernel)
 clear hC hN
 go_enter Tryz.func185,Tryz.ntmps185
 go_wp2
 rw [z8_lit]
 go_loopw [3,4] (fun _ vk wr => NRel w l vk wr) (fun _ vk _ => 8 - (intOf vk).toNat)
 case atStart =>
  have h:=new_block (w.alloc (.cells C 215)) (.cells Z8 215)
  rw [show (w.alloc (.cells C 215)).heap.size = w.heap.size + 1 by simp] at h
  exact ⟨0,by decide,rfl,fun i hi => by omega,(Below.heap_alloc _ _ _ (by simp)).trans (by rw [new_block w,HC.out]; rfl),h,(box_below w _).alloc (by simp) _⟩
 case round =>
  obtain ⟨k,hk,rfl,hh,h1,h2,hb⟩:=hrel
  by_cases hlt : k < 8
  ·have hkl : k < l.length:=by rw [HN.out.1]; exact hlt
   obtain ⟨x,hx⟩ : ∃ x,x = l.getD k 0:=⟨_,rfl⟩
   have hxb:=bys_getD HN.out.2 k
   rw [<- hx] at hxb
   obtain ⟨x0,x1⟩:=hxb
   have hcell : wr.cell? ⟨w.heap.size,k,none⟩ = some (.int .u8 x):=by
    rw [cell_of_row wr _ k _ _ _ h1,List.getElem?_toArray]
    unfold ints
    rw [List.getElem?_map,List.getElem?_eq_getElem (by rw [car_len _ _ (by omega)]; exact hkl),hx,<- car_at,getD_eq _ (by rw [car_len _ _ (by omega)]; exact hkl)]; rfl
   have hfz:=frozen_of_row wr w.heap.size k _ _ h1
   have hk0 : (0 : Int) <= (k : Int):=by omega
   have hk1 : (k : Int) < 8:=by omega
   have hset : ∀ y : Int,(wr.setCell ⟨w.heap.size,k,none⟩ (.int .u8 y)).heap[w.heap.size]? = some (.cells (ints ((car l k).set k y)).toArray 215 (0,0)) /\ (wr.setCell ⟨w.heap.size,k,none⟩ (.int .u8 y)).heap[w.heap.size + 1]? = some (.cells Z8 215 (0,0)) /\ Below w.heap.size w (wr.setCell ⟨w.heap.size,k,none⟩ (.int .u8 y)):=fun y => by
    refine ⟨?_,?_,hb.setCell (Nat.le_refl _) _⟩
    ·rw [heap_setCell_same wr w.heap.size k _ 215 _ h1,ints_set]
    ·rw [heap_setCell_other wr _ _ _ (by simp)]; exact h2
   have HST:=hJQ hset
   have HH:=hJQ hh
   have HX:=hJQ hx
   clear h1 h2 hb hh hx hset
   by_cases hx255 : x = 255
   ·subst hx255
    have HNX : Hid (NRel w l (.int .i64 ((k : Int) + 1)) (wr.setCell ⟨w.heap.size,k,none⟩ (.int .u8 0))):=hJQ ⟨k + 1,by omega,by go_num,fun i hi => by
     by_cases e : i = k
     ·subst e; exact HX.out.symm
     ·exact HH.out i (by omega),by rw [<- car_next hkl]; exact (HST.out 0).1,(HST.out 0).2⟩
    go_wp2
    go_roundw
    case rel => exact HNX.out
    case measure => simp [intOf] <;> omega
   ·have hx2 : x <= 254:=by omega
    have HNE : Hid (x ≠ 255):=hJQ hx255
    have hne : (x + 1 == 0) = false:=by simp; omega
    have hne2 : (x + 1 != 0) = true:=by simp; omega
    have HE : Hid ((car l k).set k (x + 1) = nxt l):=hJQ (by rw [HX.out]; exact car_stop hkl HH.out (by rw [<- HX.out]; exact HNE.out))
    have HP : Hid ((wr.setCell ⟨w.heap.size,k,none⟩ (.int .u8 (x + 1))).heap[w.heap.size]? = some (.cells (ints (nxt l)).toArray 215 (0,0))):=hJQ (by have h:=(HST.out (x + 1)).1; rwa [HE.out] at h)
    have HRG:=hJQ (range_whole HP.out)
    have HTH:=hJQ (there_whole (HST.out (x + 1)).2.1 HZS.out)
    have HEND:=hJQ (next_end HN.out (HST.out (x + 1)).2.1 (HST.out (x + 1)).2.2)
    clear hx255
    go_wp2_with (first
     | ((with_reducible refine wpList_load_mid rfl 215 (.tmp 1) rfl w.heap.size 0 ?_ (ints (nxt l)) (.array 8 5) HRG.out Tryz.underlying215 ?_ HSZ.out ?_); rfl; rfl)
     | ((with_reducible refine wpList_store_mid rfl 215 (.tmp 2) (.tmp 17) rfl (w.heap.size + 1) 0 (ints (nxt l)).toArray ?_ ?_ HTH.out HS2.out HON.out ?_); rfl; rfl)
     | fail)
    exact bodyPost_ret (v:=.agg (ints (nxt l)).toArray) (results_c rfl Tryz.underlying215 rfl _ _ (w.heap.size + 1) (ints (nxt l)) HSZ.out rfl (by exact HEND.out.1)) rfl ⟨rfl,HEND.out.2⟩
  ·obtain rfl : k = 8:=by omega
   have HP : Hid (wr.heap[w.heap.size]? = some (.cells (ints (nxt l)).toArray 215 (0,0))):=hJQ (by
    have e : car l 8 = nxt l:=by have:=car_end (l:=l) (fun i hi => hh i (by rw [HN.out.1] at hi; exact hi)); rwa [HN.out.1] at this
    rw [<- e]; exact h1)
   have HRG:=hJQ (range_whole HP.out)
   have HTH:=hJQ (there_whole h2 HZS.out)
   have HEND:=hJQ (next_end HN.out h2 hb)
   clear h1 h2 hb hh
   go_wp2_with (first
    | ((with_reducible refine wpList_load_mid rfl 215 (.tmp 1) rfl w.heap.size 0 ?_ (ints (nxt l)) (.array 8 5) HRG.out Tryz.underlying215 ?_ HSZ.out ?_); rfl; rfl)
    | ((with_reducible refine wpList_store_mid rfl 215 (.tmp 2) (.tmp 17) rfl (w.heap.size + 1) 0 (ints (nxt l)).toArray ?_ ?_ HTH.out HS2.out HON.out ?_); rfl; rfl)
    | fail)
   exact bodyPost_ret (v:=.agg (ints (nxt l)).toArray) (results_c rfl Tryz.underlying215 rfl _ _ (w.heap.size + 1) (ints (nxt l)) HSZ.out rfl (by exact HEND.out.1)) rfl ⟨rfl,HEND.out.2⟩
end Go.Proofs.YtlppinfjdnhlbaaGreatDoor.Gq
