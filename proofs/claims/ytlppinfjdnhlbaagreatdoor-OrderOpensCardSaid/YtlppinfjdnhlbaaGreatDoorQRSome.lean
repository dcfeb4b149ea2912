/-
 What pack.Encode returns of a slice of fields: their bytes,or the error of the first field with which something is amiss. Condition: the slice holds no more than 2^32 fields.
 What the document's own function for one field's bytes returns: the bytes,or what is amiss. No condition.
 What the document's own Encode returns of a slice of fields: their bytes,or the error of the first field with which something is amiss. Condition: the slice holds no more than 2^32 fields.
 What pack.join and the document's own number return of a slice of bytes that reads: the number that they are,the highest first,as far as 64 bits go. No condition.
 What pack.read returns of a kind and a slice of bytes that reads: the field of that kind that they begin with,and how many bytes it has; or what is amiss first. Condition: the slice's length fits its capacity.
 What pack.read returns of a kind and a slice of bytes that reads,all kinds together. Condition: the slice's length fits its capacity.
 What pack.Some returns of kinds and bytes that read: the fields that the bytes begin with,and how many bytes they have; or the error of the first one that is amiss. Condition: no more than 2^32 kinds; the slice's length fits its capacity.
 What pack.Decode returns of kinds and bytes that read: the fields that have all of the bytes,or what is amiss first. Condition: no more than 2^32 kinds; the slice's length fits its capacity.
 What the document's own Some returns of kinds and bytes that read: the fields that the bytes begin with,and how many bytes they have; or the error of the first one that is amiss. Condition: no more than 2^32 kinds; the bytes' array takes no more than 2^61.
-/
import Derived.Test.YtlppinfjdnhlbaaGreatDoorHd
import Derived.Test.YtlppinfjdnhlbaaGreatDoorQWrite
import Derived.Test.YtlppinfjdnhlbaaGreatDoorQAmiss
import Derived.Test.YtlppinfjdnhlbaaGreatDoorQKinds
import Derived.Laws.BytesArg
namespace Go.Proofs.YtlppinfjdnhlbaaGreatDoor.Pq
set_option maxRecDepth 100000
open Go.ChangeShapes Go.WideShapes Go.ChangeAt Go.RowKit

def encB (fs : List Fld) : List Int:=if errL fs = 0 then bytL fs else []
def EncPost (w : World) (fs : List Fld) (e : Ending) (w' : World) : Prop :=
 ∃ (A : Option Addr) (n c : Nat),e = .returned (.tuple #[.slice A n c,.int .i64 (errL fs)]) /\ n = (encB fs).length /\ Reads .u8 w' A n (encB fs) /\ n <= c /\ c <= maxLen /\ Below w.heap.size w w'
theorem own_below {w w' : World} {base e size n : Nat} {v : Value} {xs : List Value} (h : w.ownsRow base e size v n xs) (hb : Below w.heap.size w w') : w'.ownsRow base e size v n xs:=by
 refine ⟨h.1,?_⟩
 rcases h.2 with hn | ⟨g,cap,cur,rfl,hbg,hg,rest⟩
 ·exact .inl hn
 ·exact .inr ⟨g,cap,cur,rfl,hbg,(hb.block g (Array.getElem?_eq_some_iff.1 hg).1).trans hg,rest⟩
theorem own_reads {w : World} {base n : Nat} {e : TypeId} {K : IntKind} {v : Value} {zs : List Int} (h : w.ownsRow base e 1 v n (zs.map (Value.int K))) : ∃ A c,v = .slice A n c /\ Reads K w A n zs /\ n <= c /\ c <= maxLen:=by
 have hl : zs.length = n:=by have:=h.1; rw [List.length_map] at this; omega
 rcases h.2 with ⟨rfl,rfl⟩ | ⟨g,cap,cur,rfl,hbg,hg,hn,hc,hs,ht⟩
 ·exact ⟨none,0,rfl,⟨hl,fun h => absurd h (by omega)⟩,by omega,by unfold maxLen; omega⟩
 ·refine ⟨_,cap,rfl,⟨hl,fun _ => ⟨g,0,rfl,fun i hi => ?_⟩⟩,hn,hc⟩
  have hc : w.cell? ⟨g,0 + i,none⟩ = (zs.map (Value.int K))[i]?:=by
   rw [Nat.zero_add]
   have:=h.cells (g:=g) rfl i
   rw [Go.WideShapes.add_plain,Nat.zero_add] at this
   have hlt : i < (zs.map (Value.int K)).length:=by rw [List.length_map]; omega
   rw [List.getElem?_eq_getElem hlt] at this ⊢
   exact this _ rfl
  rw [hc,List.getElem?_map,List.getD_eq_getElem?_getD,List.getElem?_eq_getElem (by omega)]
  rfl
theorem errL_take {fs : List Fld} {k : Nat} (hk : k < fs.length) (h : errL (fs.take k) = 0) : errL (fs.take (k + 1)) = ams (fs.getD k z0):=by
 rw [List.take_succ_eq_append_getElem hk,errL_append,if_pos h,List.getD_eq_getElem?_getD,List.getElem?_eq_getElem hk]
 simp only [errL,Option.getD_some]
 split
 ·rename_i h; exact h.symm
 ·rfl
theorem errL_bad {fs : List Fld} {k : Nat} (h : errL (fs.take k) ≠ 0) : errL fs = errL (fs.take k):=by
 conv => lhs; rw [<- List.take_append_drop k fs]
 rw [errL_append,if_neg h]
theorem bytL_take {fs : List Fld} {k : Nat} (hk : k < fs.length) : bytL (fs.take (k + 1)) = bytL (fs.take k) ++ byts (fs.getD k z0):=by
 rw [List.take_succ_eq_append_getElem hk,bytL_append,List.getD_eq_getElem?_getD,List.getElem?_eq_getElem hk]
 simp [bytL]
def ERel (w : World) (len : Nat) (fs : List Fld) (v i : Value) (wr : World) : Prop :=
 ∃ k n : Nat,k <= len /\ i = .int .i64 k /\ errL (fs.take k) = 0 /\ n = (bytL (fs.take k)).length /\ wr.ownsRow w.heap.size 5 1 v n ((bytL (fs.take k)).map (Value.int .u8)) /\ Below w.heap.size w wr
theorem enc_bad {w w' : World} {len k : Nat} {fs : List Fld} {a : Int} (hl : fs.length = len) (hk : k < len) (he : errL (fs.take k) = 0) (ha : a = ams (fs.getD k z0)) (hne : a ≠ 0) (hb : Below w.heap.size w w') :
  EncPost w fs (.returned (.tuple #[.slice none 0 0,.int .i64 a])) w':=by
 have h1 : errL (fs.take (k + 1)) = a:=by rw [errL_take (by omega) he,ha]
 have h2 : errL fs = a:=by rw [errL_bad (k:=k + 1) (by rw [h1]; exact hne),h1]
 have h3 : encB fs = []:=by unfold encB; rw [if_neg (by rw [h2]; exact hne)]
 refine ⟨none,0,0,by rw [h2],by rw [h3]; rfl,?_,by omega,by unfold maxLen; omega,hb⟩
 rw [h3]; exact ⟨rfl,fun h => absurd h (by omega)⟩
theorem enc_end {w wr : World} {len n : Nat} {fs : List Fld} {v : Value} (hl : fs.length = len) (he : errL (fs.take len) = 0) (hn : n = (bytL (fs.take len)).length) (ho : wr.ownsRow w.heap.size 5 1 v n ((bytL (fs.take len)).map (Value.int .u8))) (hb : Below w.heap.size w wr) :
  EncPost w fs (.returned (.tuple #[v,.int .i64 0])) wr:=by
 rw [List.take_of_length_le (by omega)] at he hn ho
 obtain ⟨A,c,rfl,h1,h2,h3⟩:=own_reads ho
 have e : encB fs = bytL fs:=by unfold encB; rw [if_pos he]
 exact ⟨A,n,c,by rw [he],by rw [e]; exact hn,by rw [e]; exact h1,h2,h3,hb⟩
theorem enc_round {w wr w2 : World} {len k n : Nat} {fs : List Fld} {f : Fld} {v : Value} (hl : fs.length = len) (hk : k < len) (he : errL (fs.take k) = 0) (hf : f = fs.getD k z0) (ha : ams f = 0) (hn : n = (bytL (fs.take k)).length)
  (ho : w2.ownsRow w.heap.size 5 1 v (n + (byts f).length) ((bytL (fs.take k) ++ byts f).map (Value.int .u8))) (hb : Below w.heap.size w wr) (hb2 : Below w.heap.size wr w2) : ERel w len fs v (.int .i64 ((k : Int) + 1)) w2:=by
 refine ⟨k + 1,_,by omega,by go_num,by rw [errL_take (by omega) he,<- hf,ha],rfl,?_,hb.trans hb2⟩
 rw [bytL_take (by omega),<- hf,List.length_append,<- hn]
 exact ho
set_option maxHeartbeats 1000000 in
theorem encode_any (ad : Option Addr) (len cap : Nat) (fs : List Fld) (w : World) (hR : FReads w ad len fs) (hm : len <= 4294967296) :
  Calls Tryz.prog 116 #[.slice ad len cap] w (EncPost w fs):=by
 have hl:=hR.1
 have HL:=hJQ hl
 have HR:=hJQ hR
 clear hR hl
 go_enter Tryz.func116,Tryz.ntmps116
 go_wp2
 go_loopw [4,10] (fun v i wr => ERel w len fs v i wr) (fun _ i _ => len - (intOf i).toNat)
 case atStart => exact ⟨0,0,by omega,rfl,rfl,rfl,World.ownsRow_nil _ _ _ _,Below.refl _ _⟩
 case round =>
  obtain ⟨k,n,hk,rfl,he,hn,hown,hb⟩:=hrel
  have HE:=hJQ he
  have HN:=hJQ hn
  have HO:=hJQ hown
  have HB:=hJQ hb
  have hbase:=hb.size
  clear he hn hown hb
  by_cases hlt : k < len
  ·obtain ⟨b,off,rfl,hc⟩:=(HR.out.kept HB.out).2 (by omega)
   obtain ⟨h1,h2,h3⟩:=hc k hlt
   obtain ⟨f,hf⟩ : ∃ f,f = fs.getD k z0:=⟨_,rfl⟩
   rw [<- hf] at h1 h2 h3
   have HF:=hJQ hf
   clear hc hf
   go_wp2_with fail
   refine (amiss_any f _).mono ?_
   rintro e w1 ⟨rfl,hb1⟩
   obtain ⟨a,ha⟩ : ∃ a,a = ams f:=⟨_,rfl⟩
   rw [<- ha]
   have hB:=hJQ hb1
   have g1 : w1.cell? ⟨wr.heap.size,0,none⟩ = some (.int .i64 f.k):=(hb1.cell (p:=⟨wr.heap.size,0,none⟩) (by simp)).trans (by rw [World.cell?_alloc_at (hn:=rfl)]; rfl)
   have g2 : w1.cell? ⟨wr.heap.size,1,none⟩ = some (.int .i64 f.n):=(hb1.cell (p:=⟨wr.heap.size,1,none⟩) (by simp)).trans (by rw [World.cell?_alloc_at (hn:=rfl)]; rfl)
   have g3 : w1.cell? ⟨wr.heap.size,2,none⟩ = some (.string f.s):=(hb1.cell (p:=⟨wr.heap.size,2,none⟩) (by simp)).trans (by rw [World.cell?_alloc_at (hn:=rfl)]; rfl)
   have HA:=hJQ ha
   clear hb1 ha
   have hb1 : Hid (Below w.heap.size wr w1):=hJQ (((Below.refl _ _).alloc hbase _).trans (hB.out.mono (by simp; omega)))
   have HO1 : Hid (w1.ownsRow w.heap.size 5 1 u4 n ((bytL (fs.take k)).map (Value.int .u8))):=hJQ (own_below (HO.out.alloc _) hB.out)
   have hb1s:=hb1.out.size
   have hnb : n <= 1026 * len:=by
    have h1:=bytL_len HE.out
    have h2 : (fs.take k).length <= len:=by rw [List.length_take]; omega
    have h3 : 1026 * (fs.take k).length <= 1026 * len:=Nat.mul_le_mul_left _ h2
    rw [HN.out]; omega
   by_cases hz : a = 0
   ·have hz' : (a != 0) = false:=by simpa using hz
    have HZ : Hid (ams f = 0):=hJQ (by rw [<- HA.out]; exact hz)
    clear hz
    go_wp2_with fail
    refine (write_any w.heap.size n u4 (bytL (fs.take k)) f w1 HO1.out (by omega) (by omega) HZ.out).mono ?_
    rintro e w2 ⟨v2,rfl,h4,h5⟩
    have H4:=hJQ h4
    have H5:=hJQ h5
    clear h4 h5
    go_wp2
    go_roundw
    case rel => exact enc_round HL.out hlt HE.out HF.out HZ.out HN.out H4.out HB.out (hb1.out.trans H5.out)
    case measure => simp [intOf]; omega
   ·have hz' : (a != 0) = true:=by simpa using hz
    have HZ:=hJQ hz
    clear hz
    go_wp2
    go_ret2
    exact enc_bad HL.out hlt HE.out (by rw [<- HF.out]; exact HA.out) HZ.out (HB.out.trans hb1.out)
  ·obtain rfl : len = k:=by omega
   go_wp2
   go_ret2
   exact enc_end HL.out HE.out HN.out HO.out HB.out
open Go.ChangeShapes Go.WideShapes Go.ChangeAt Go.RowKit

theorem box_below (w : World) (o : Obj) : Below w.heap.size w (w.alloc o):=(Below.refl _ _).alloc (Nat.le_refl _) _
theorem boxbox_below (w : World) (o p : Obj) : Below w.heap.size w ((w.alloc o).alloc p):=(box_below w o).alloc (by simp) p
open Go.ChangeShapes Go.WideShapes Go.ChangeAt Go.RowKit

theorem ints_one (K : IntKind) (zs : List Int) : ∀ u ∈ zs.map (Value.int K),u.oneCell' = true:=by
 intro u hu
 obtain ⟨z,_,rfl⟩:=List.mem_map.1 hu
 rfl
open Go.ChangeShapes Go.WideShapes Go.ChangeAt Go.RowKit

theorem join_bits (N z : Int) (h0 : 0 <= z) (h1 : z <= 255) : bits .or .i64 (wrap64 (wrap64 N * 256)) z = wrap64 (N * 256 + z):=by
 have e : bits .or .i64 (wrap64 (wrap64 N * 256)) z = IntKind.i64.wrap (((BitVec.ofInt 64 (wrap64 (wrap64 N * 256)) ||| BitVec.ofInt 64 z).toNat : Nat) : Int):=rfl
 rw [e,IntKind.wrap_i64,BitVec.toNat_or,BitVec.toNat_ofInt,BitVec.toNat_ofInt]
 have e1 : (wrap64 (wrap64 N * 256) % ((2 ^ 64 : Nat) : Int)).toNat = (N % 72057594037927936).toNat <<< 8:=by
  rw [Nat.shiftLeft_eq]; unfold wrap64; simp only [Nat.reducePow]; omega
 have e2 : (z % ((2 ^ 64 : Nat) : Int)).toNat = z.toNat:=by simp only [Nat.reducePow]; omega
 rw [e1,e2,<- Nat.shiftLeft_add_eq_or_of_lt (show z.toNat < 2 ^ 8 by omega),Nat.shiftLeft_eq]
 unfold wrap64
 omega
theorem num_snoc (l : List Int) (z : Int) : num (l ++ [z]) = num l * 256 + z:=by simp [num]
theorem take_next (zs : List Int) (k : Nat) (h : k < zs.length) : zs.take (k + 1) = zs.take k ++ [zs.getD k 0]:=by
 rw [List.take_succ_eq_append_getElem h,List.getD_eq_getElem?_getD,List.getElem?_eq_getElem h]; rfl
theorem num_next (zs : List Int) (k : Nat) (h : k < zs.length) : num (zs.take (k + 1)) = num (zs.take k) * 256 + zs.getD k 0:=by rw [take_next zs k h,num_snoc]
theorem bys_getD {zs : List Int} (h : Bys zs) (k : Nat) : 0 <= zs.getD k 0 /\ zs.getD k 0 <= 255:=by
 rw [List.getD_eq_getElem?_getD]
 by_cases hk : k < zs.length
 ·rw [List.getElem?_eq_getElem hk]; exact h _ (List.getElem_mem hk)
 ·rw [List.getElem?_eq_none (by omega)]; decide
theorem join_any (ad : Option Addr) (len cap : Nat) (zs : List Int) (w : World) (hR : Reads .u8 w ad len zs) (hB : Bys zs) (hm : len <= 9223372036854775807) :
  Calls Tryz.prog 148 #[.slice ad len cap] w fun e w' => e = .returned (.int .i64 (wrap64 (num zs))) /\ w = w':=by
 have hl:=hR.1
 have HL:=hJQ hl
 have HR:=hJQ hR
 have HB:=hJQ hB
 clear hR hB hl
 go_enter Tryz.func148,Tryz.ntmps148
 go_wp2
 go_loop [3,8] (fun c i => ∃ (k : Nat) (n : Int),k <= len /\ i = .int .i64 k /\ c = .int .i64 n /\ n = wrap64 (num (zs.take k))) (fun _ i => len - (intOf i).toNat)
 case atStart => exact ⟨0,0,Nat.zero_le _,rfl,rfl,by simp [num,wrap64]⟩
 case round =>
  obtain ⟨k,n,hk,rfl,rfl,hn⟩:=hrel
  have HN:=hJQ hn
  clear hn
  by_cases hlt : k < len
  ·obtain ⟨b,off,rfl,hcell⟩:=HR.out.2 (by omega)
   have hx:=hcell k hlt
   have hz:=bys_getD HB.out k
   obtain ⟨z,hzz⟩ : ∃ z,z = zs.getD k 0:=⟨_,rfl⟩
   rw [<- hzz] at hx hz
   have hz0:=hz.1
   have hz1:=hz.2
   obtain ⟨y,hy⟩ : ∃ y,y = wrap64 (num (zs.take (k + 1))):=⟨_,rfl⟩
   have HY:=hJQ hy
   have e1 : bits .or .i64 (wrap64 (n * 256)) z = y:=by
    rw [hy,num_next zs k (by rw [HL.out]; exact hlt),<- hzz,HN.out,join_bits _ _ hz0 hz1]
   clear hzz hz hcell hy
   go_wp2
   go_round
   case rel => exact ⟨k + 1,y,by omega,by go_num,rfl,HY.out⟩
   case measure => simp [intOf]; omega
  ·obtain rfl : k = len:=by omega
   go_wp2
   go_ret
   exact ⟨ret_i64 (by rw [HN.out,List.take_of_length_le (by rw [HL.out]; exact Nat.le_refl _)]),rfl⟩
open Go.ChangeShapes Go.WideShapes Go.ChangeAt Go.RowKit

def Rd.e : Rd -> Int
 | .bad e => e
 | .good _ _ => 0
def Rd.f : Rd -> Fld
 | .bad _ => z0
 | .good f _ => f
def Rd.n : Rd -> Nat
 | .bad _ => 0
 | .good _ n => n
def ReadPost (w : World) (r : Rd) (e : Ending) (w' : World) : Prop :=
 e = .returned (.tuple #[.agg #[.int .i64 r.f.k,.int .i64 r.f.n,.string r.f.s],.int .i64 (r.n : Int),.int .i64 r.e]) /\ Below w.heap.size w w'
theorem read_bad (w w' : World) (er : Int) (hb : Below w.heap.size w w') : ReadPost w (.bad er) (.returned (.tuple #[.agg #[.int .i64 0,.int .i64 0,.string ⟨#[]⟩],.int .i64 0,.int .i64 er])) w':=⟨rfl,hb⟩
theorem read_good (w w' : World) (f : Fld) (n : Nat) (hb : Below w.heap.size w w') : ReadPost w (.good f n) (.returned (.tuple #[.agg #[.int .i64 f.k,.int .i64 f.n,.string f.s],.int .i64 (n : Int),.int .i64 0])) w':=⟨rfl,hb⟩
theorem read_no (k : Int) (ad : Option Addr) (len cap : Nat) (w : World) (hk : k < 1 ∨ 4 < k) :
  Calls Tryz.prog 119 #[.int .i64 k,.slice ad len cap] w (ReadPost w (.bad 21)):=by
 have t1 : (k == 1) = false:=by simp; omega
 have t2 : (k == 2) = false:=by simp; omega
 have t3 : (k == 3) = false:=by simp; omega
 have t4 : (k == 4) = false:=by simp; omega
 clear hk
 go_enter Tryz.func119,Tryz.ntmps119
 go_wp2
 go_step3
 go_wp2
 rw [Exit.noGoto_ret]
 exact bodyPost_ret (v:=.tuple #[.agg #[.int .i64 0,.int .i64 0,.string ⟨#[]⟩],.int .i64 0,.int .i64 21]) (by simp [results,Tryz.results119,go_sem]) rfl (read_bad _ _ _ (boxbox_below _ _ _))
theorem two_boxes {w w1 : World} {x0 x1 x2 y0 y1 y2 : Value} (hb : Below ((w.alloc (.cells #[x0,x1,x2] 135)).alloc (.cells #[y0,y1,y2] 135)).heap.size ((w.alloc (.cells #[x0,x1,x2] 135)).alloc (.cells #[y0,y1,y2] 135)) w1) :
  Whole1 w1 w.heap.size 135 #[x0,x1,x2] /\ Whole1 w1 (w.heap.size + 1) 135 #[y0,y1,y2] /\ Below w.heap.size w w1 /\ w.heap.size + 2 <= w1.heap.size:=by
 have h1 : Whole1 ((w.alloc (.cells #[x0,x1,x2] 135)).alloc (.cells #[y0,y1,y2] 135)) w.heap.size 135 #[x0,x1,x2]:=(new_whole w _ _).alloc _
 have h2 : Whole1 ((w.alloc (.cells #[x0,x1,x2] 135)).alloc (.cells #[y0,y1,y2] 135)) (w.heap.size + 1) 135 #[y0,y1,y2]:=by
  have h:=new_whole (w.alloc (.cells #[x0,x1,x2] 135)) #[y0,y1,y2] 135
  rw [show (w.alloc (.cells #[x0,x1,x2] 135)).heap.size = w.heap.size + 1 by simp] at h
  exact h
 exact ⟨(hb.block _ h1.lt).trans h1,(hb.block _ h2.lt).trans h2,(boxbox_below _ _ _).trans (hb.mono (by simp; omega)),by have:=hb.size; simp at this; omega⟩
theorem Whole1.frozen {w : World} {g : Nat} {t : TypeId} {cs : Array Value} (h : Whole1 w g t cs) (i : Nat) : w.frozen? ⟨g,i,none⟩ = false:=frozen_of_row w g i cs t h
theorem reads_take {K : IntKind} {w : World} {ad : Option Addr} {len n : Nat} {zs : List Int} (hR : Reads K w ad len zs) (hn : n <= len) : Reads K w ad n (zs.take n):=by
 obtain ⟨h1,h2⟩:=hR
 refine ⟨by rw [List.length_take]; omega,fun hp => ?_⟩
 obtain ⟨b,off,rfl,hc⟩:=h2 (by omega)
 refine ⟨b,off,rfl,fun i hi => ?_⟩
 rw [hc i (by omega),List.getD_eq_getElem?_getD,List.getD_eq_getElem?_getD,List.getElem?_take,if_pos hi]
theorem read_small_short (ad : Option Addr) (len cap : Nat) (w : World) (h1 : len < 1) :
  Calls Tryz.prog 119 #[.int .i64 1,.slice ad len cap] w (ReadPost w (.bad 20)):=by
 have hl1 : (len : Int) < 1:=by omega
 go_enter Tryz.func119,Tryz.ntmps119
 go_wp2
 refine wp_scope_once 0 rfl ?_
 go_wp2
 go_step3
 refine ⟨rfl,?_⟩
 go_wp2
 rw [Exit.noGoto_ret]
 exact bodyPost_ret (v:=.tuple #[.agg #[.int .i64 0,.int .i64 0,.string ⟨#[]⟩],.int .i64 0,.int .i64 20]) (by simp [results,Tryz.results119,go_sem]) rfl (read_bad _ _ _ (boxbox_below _ _ _))
theorem read_small_bad (b off len cap : Nat) (zs : List Int) (w : World) (hR : Reads .u8 w (some ⟨b,off,none⟩) len zs) (hB : Bys zs) (hc : len <= cap) (h1 : 1 <= len) (N a : Int) (hN : wrap64 (num (zs.take 1)) = N) (ha : ams ⟨1,N,⟨#[]⟩⟩ = a) (hz : a ≠ 0) :
  Calls Tryz.prog 119 #[.int .i64 1,.slice (some ⟨b,off,none⟩) len cap] w (ReadPost w (.bad a)):=by
 have HR:=hJQ (reads_take hR h1)
 have HB:=hJQ (bys_take 1 hB)
 have HN:=hJQ hN
 have HA:=hJQ ha
 have hc1 : (1 : Int) <= (cap : Int):=by omega
 have hl1 : (1 : Int) <= (len : Int):=by omega
 have hz' : (a != 0) = true:=by simpa using hz
 clear hR hB hN ha hz
 go_enter Tryz.func119,Tryz.ntmps119
 go_wp2
 refine wp_scope_once 0 rfl ?_
 go_wp2
 go_step3
 refine ⟨rfl,?_⟩
 go_wp2_with fail
 refine (join_any _ 1 cap (zs.take 1) _ (HR.out.kept (boxbox_below _ _ _)) HB.out (by decide)).mono ?_
 rintro e w0 ⟨rfl,rfl⟩
 rw [HN.out]
 go_wp2_with fail
 refine (amiss_any ⟨1,N,⟨#[]⟩⟩ _).mono ?_
 rintro e w1 ⟨rfl,hb1⟩
 rw [HA.out]
 have HX:=hJQ (two_boxes hb1)
 have x0:=HX.out.1.cell 0
 have x1:=HX.out.1.cell 1
 have x2:=HX.out.1.cell 2
 have f0:=HX.out.1.frozen 0
 have f1:=HX.out.1.frozen 1
 have f2:=HX.out.1.frozen 2
 have hs:=HX.out.2.2.2
 clear hb1
 go_wp2
 rw [Exit.noGoto_ret]
 exact bodyPost_ret (v:=.tuple #[.agg #[.int .i64 0,.int .i64 0,.string ⟨#[]⟩],.int .i64 0,.int .i64 a]) (by simp [results,Tryz.results119,go_sem,x0,x1,x2]) rfl (read_bad _ _ _ (((HX.out.2.2.1.setCell (by simp) _).setCell (by simp) _).setCell (by simp) _))
theorem read_small_good (b off len cap : Nat) (zs : List Int) (w : World) (hR : Reads .u8 w (some ⟨b,off,none⟩) len zs) (hB : Bys zs) (hc : len <= cap) (h1 : 1 <= len) (N : Int) (hN : wrap64 (num (zs.take 1)) = N) (ha : ams ⟨1,N,⟨#[]⟩⟩ = 0) :
  Calls Tryz.prog 119 #[.int .i64 1,.slice (some ⟨b,off,none⟩) len cap] w (ReadPost w (.good ⟨1,N,⟨#[]⟩⟩ 1)):=by
 have HR:=hJQ (reads_take hR h1)
 have HB:=hJQ (bys_take 1 hB)
 have HN:=hJQ hN
 have HA:=hJQ ha
 have hc1 : (1 : Int) <= (cap : Int):=by omega
 have hl1 : (1 : Int) <= (len : Int):=by omega
 clear hR hB hN ha
 go_enter Tryz.func119,Tryz.ntmps119
 go_wp2
 refine wp_scope_once 0 rfl ?_
 go_wp2
 go_step3
 refine ⟨rfl,?_⟩
 go_wp2_with fail
 refine (join_any _ 1 cap (zs.take 1) _ (HR.out.kept (boxbox_below _ _ _)) HB.out (by decide)).mono ?_
 rintro e w0 ⟨rfl,rfl⟩
 rw [HN.out]
 go_wp2_with fail
 refine (amiss_any ⟨1,N,⟨#[]⟩⟩ _).mono ?_
 rintro e w1 ⟨rfl,hb1⟩
 rw [HA.out]
 have HX:=hJQ (two_boxes hb1)
 have x0:=HX.out.1.cell 0
 have x1:=HX.out.1.cell 1
 have x2:=HX.out.1.cell 2
 have f0:=HX.out.1.frozen 0
 have f1:=HX.out.1.frozen 1
 have f2:=HX.out.1.frozen 2
 have y0:=HX.out.2.1.cell 0
 have y1:=HX.out.2.1.cell 1
 have y2:=HX.out.2.1.cell 2
 have hs:=HX.out.2.2.2
 clear hb1
 go_wp2
 rw [Exit.noGoto_ret]
 exact bodyPost_ret (v:=.tuple #[.agg #[.int .i64 1,.int .i64 N,.string ⟨#[]⟩],.int .i64 1,.int .i64 0]) (by simp [results,Tryz.results119,go_sem,x0,x1,x2]) rfl (read_good _ _ ⟨1,N,⟨#[]⟩⟩ 1 (((HX.out.2.2.1.setCell (by simp) _).setCell (by simp) _).setCell (by simp) _))
theorem read_switch_short (ad : Option Addr) (len cap : Nat) (w : World) (h1 : len < 1) :
  Calls Tryz.prog 119 #[.int .i64 4,.slice ad len cap] w (ReadPost w (.bad 20)):=by
 have hl1 : (len : Int) < 1:=by omega
 go_enter Tryz.func119,Tryz.ntmps119
 go_wp2
 refine wp_scope_once 0 rfl ?_
 go_wp2
 go_step3
 refine ⟨rfl,?_⟩
 go_wp2
 rw [Exit.noGoto_ret]
 exact bodyPost_ret (v:=.tuple #[.agg #[.int .i64 0,.int .i64 0,.string ⟨#[]⟩],.int .i64 0,.int .i64 20]) (by simp [results,Tryz.results119,go_sem]) rfl (read_bad _ _ _ (boxbox_below _ _ _))
theorem read_switch_bad (b off len cap : Nat) (zs : List Int) (w : World) (hR : Reads .u8 w (some ⟨b,off,none⟩) len zs) (hB : Bys zs) (hc : len <= cap) (h1 : 1 <= len) (N a : Int) (hN : wrap64 (num (zs.take 1)) = N) (ha : ams ⟨4,N,⟨#[]⟩⟩ = a) (hz : a ≠ 0) :
  Calls Tryz.prog 119 #[.int .i64 4,.slice (some ⟨b,off,none⟩) len cap] w (ReadPost w (.bad a)):=by
 have HR:=hJQ (reads_take hR h1)
 have HB:=hJQ (bys_take 1 hB)
 have HN:=hJQ hN
 have HA:=hJQ ha
 have hc1 : (1 : Int) <= (cap : Int):=by omega
 have hl1 : (1 : Int) <= (len : Int):=by omega
 have hz' : (a != 0) = true:=by simpa using hz
 clear hR hB hN ha hz
 go_enter Tryz.func119,Tryz.ntmps119
 go_wp2
 refine wp_scope_once 0 rfl ?_
 go_wp2
 go_step3
 refine ⟨rfl,?_⟩
 go_wp2_with fail
 refine (join_any _ 1 cap (zs.take 1) _ (HR.out.kept (boxbox_below _ _ _)) HB.out (by decide)).mono ?_
 rintro e w0 ⟨rfl,rfl⟩
 rw [HN.out]
 go_wp2_with fail
 refine (amiss_any ⟨4,N,⟨#[]⟩⟩ _).mono ?_
 rintro e w1 ⟨rfl,hb1⟩
 rw [HA.out]
 have HX:=hJQ (two_boxes hb1)
 have x0:=HX.out.1.cell 0
 have x1:=HX.out.1.cell 1
 have x2:=HX.out.1.cell 2
 have f0:=HX.out.1.frozen 0
 have f1:=HX.out.1.frozen 1
 have f2:=HX.out.1.frozen 2
 have hs:=HX.out.2.2.2
 clear hb1
 go_wp2
 rw [Exit.noGoto_ret]
 exact bodyPost_ret (v:=.tuple #[.agg #[.int .i64 0,.int .i64 0,.string ⟨#[]⟩],.int .i64 0,.int .i64 a]) (by simp [results,Tryz.results119,go_sem,x0,x1,x2]) rfl (read_bad _ _ _ (((HX.out.2.2.1.setCell (by simp) _).setCell (by simp) _).setCell (by simp) _))
theorem read_switch_good (b off len cap : Nat) (zs : List Int) (w : World) (hR : Reads .u8 w (some ⟨b,off,none⟩) len zs) (hB : Bys zs) (hc : len <= cap) (h1 : 1 <= len) (N : Int) (hN : wrap64 (num (zs.take 1)) = N) (ha : ams ⟨4,N,⟨#[]⟩⟩ = 0) :
  Calls Tryz.prog 119 #[.int .i64 4,.slice (some ⟨b,off,none⟩) len cap] w (ReadPost w (.good ⟨4,N,⟨#[]⟩⟩ 1)):=by
 have HR:=hJQ (reads_take hR h1)
 have HB:=hJQ (bys_take 1 hB)
 have HN:=hJQ hN
 have HA:=hJQ ha
 have hc1 : (1 : Int) <= (cap : Int):=by omega
 have hl1 : (1 : Int) <= (len : Int):=by omega
 clear hR hB hN ha
 go_enter Tryz.func119,Tryz.ntmps119
 go_wp2
 refine wp_scope_once 0 rfl ?_
 go_wp2
 go_step3
 refine ⟨rfl,?_⟩
 go_wp2_with fail
 refine (join_any _ 1 cap (zs.take 1) _ (HR.out.kept (boxbox_below _ _ _)) HB.out (by decide)).mono ?_
 rintro e w0 ⟨rfl,rfl⟩
 rw [HN.out]
 go_wp2_with fail
 refine (amiss_any ⟨4,N,⟨#[]⟩⟩ _).mono ?_
 rintro e w1 ⟨rfl,hb1⟩
 rw [HA.out]
 have HX:=hJQ (two_boxes hb1)
 have x0:=HX.out.1.cell 0
 have x1:=HX.out.1.cell 1
 have x2:=HX.out.1.cell 2
 have f0:=HX.out.1.frozen 0
 have f1:=HX.out.1.frozen 1
 have f2:=HX.out.1.frozen 2
 have y0:=HX.out.2.1.cell 0
 have y1:=HX.out.2.1.cell 1
 have y2:=HX.out.2.1.cell 2
 have hs:=HX.out.2.2.2
 clear hb1
 go_wp2
 rw [Exit.noGoto_ret]
 exact bodyPost_ret (v:=.tuple #[.agg #[.int .i64 4,.int .i64 N,.string ⟨#[]⟩],.int .i64 1,.int .i64 0]) (by simp [results,Tryz.results119,go_sem,x0,x1,x2]) rfl (read_good _ _ ⟨4,N,⟨#[]⟩⟩ 1 (((HX.out.2.2.1.setCell (by simp) _).setCell (by simp) _).setCell (by simp) _))
theorem read_whole_short (ad : Option Addr) (len cap : Nat) (w : World) (h1 : len < 8) :
  Calls Tryz.prog 119 #[.int .i64 2,.slice ad len cap] w (ReadPost w (.bad 20)):=by
 have hl1 : (len : Int) < 8:=by omega
 go_enter Tryz.func119,Tryz.ntmps119
 go_wp2
 refine wp_scope_once 0 rfl ?_
 go_wp2
 go_step3
 refine ⟨rfl,?_⟩
 go_wp2
 rw [Exit.noGoto_ret]
 exact bodyPost_ret (v:=.tuple #[.agg #[.int .i64 0,.int .i64 0,.string ⟨#[]⟩],.int .i64 0,.int .i64 20]) (by simp [results,Tryz.results119,go_sem]) rfl (read_bad _ _ _ (boxbox_below _ _ _))
theorem read_whole_bad (b off len cap : Nat) (zs : List Int) (w : World) (hR : Reads .u8 w (some ⟨b,off,none⟩) len zs) (hB : Bys zs) (hc : len <= cap) (h1 : 8 <= len) (N a : Int) (hN : wrap64 (num (zs.take 8)) = N) (ha : ams ⟨2,N,⟨#[]⟩⟩ = a) (hz : a ≠ 0) :
  Calls Tryz.prog 119 #[.int .i64 2,.slice (some ⟨b,off,none⟩) len cap] w (ReadPost w (.bad a)):=by
 have HR:=hJQ (reads_take hR h1)
 have HB:=hJQ (bys_take 8 hB)
 have HN:=hJQ hN
 have HA:=hJQ ha
 have hc1 : (8 : Int) <= (cap : Int):=by omega
 have hl1 : (8 : Int) <= (len : Int):=by omega
 have hz' : (a != 0) = true:=by simpa using hz
 clear hR hB hN ha hz
 go_enter Tryz.func119,Tryz.ntmps119
 go_wp2
 refine wp_scope_once 0 rfl ?_
 go_wp2
 go_step3
 refine ⟨rfl,?_⟩
 go_wp2_with fail
 refine (join_any _ 8 cap (zs.take 8) _ (HR.out.kept (boxbox_below _ _ _)) HB.out (by decide)).mono ?_
 rintro e w0 ⟨rfl,rfl⟩
 rw [HN.out]
 go_wp2_with fail
 refine (amiss_any ⟨2,N,⟨#[]⟩⟩ _).mono ?_
 rintro e w1 ⟨rfl,hb1⟩
 rw [HA.out]
 have HX:=hJQ (two_boxes hb1)
 have x0:=HX.out.1.cell 0
 have x1:=HX.out.1.cell 1
 have x2:=HX.out.1.cell 2
 have f0:=HX.out.1.frozen 0
 have f1:=HX.out.1.frozen 1
 have f2:=HX.out.1.frozen 2
 have hs:=HX.out.2.2.2
 clear hb1
 go_wp2
 rw [Exit.noGoto_ret]
 exact bodyPost_ret (v:=.tuple #[.agg #[.int .i64 0,.int .i64 0,.string ⟨#[]⟩],.int .i64 0,.int .i64 a]) (by simp [results,Tryz.results119,go_sem,x0,x1,x2]) rfl (read_bad _ _ _ (((HX.out.2.2.1.setCell (by simp) _).setCell (by simp) _).setCell (by simp) _))
theorem read_whole_good (b off len cap : Nat) (zs : List Int) (w : World) (hR : Reads .u8 w (some ⟨b,off,none⟩) len zs) (hB : Bys zs) (hc : len <= cap) (h1 : 8 <= len) (N : Int) (hN : wrap64 (num (zs.take 8)) = N) (ha : ams ⟨2,N,⟨#[]⟩⟩ = 0) :
  Calls Tryz.prog 119 #[.int .i64 2,.slice (some ⟨b,off,none⟩) len cap] w (ReadPost w (.good ⟨2,N,⟨#[]⟩⟩ 8)):=by
 have HR:=hJQ (reads_take hR h1)
 have HB:=hJQ (bys_take 8 hB)
 have HN:=hJQ hN
 have HA:=hJQ ha
 have hc1 : (8 : Int) <= (cap : Int):=by omega
 have hl1 : (8 : Int) <= (len : Int):=by omega
 clear hR hB hN ha
 go_enter Tryz.func119,Tryz.ntmps119
 go_wp2
 refine wp_scope_once 0 rfl ?_
 go_wp2
 go_step3
 refine ⟨rfl,?_⟩
 go_wp2_with fail
 refine (join_any _ 8 cap (zs.take 8) _ (HR.out.kept (boxbox_below _ _ _)) HB.out (by decide)).mono ?_
 rintro e w0 ⟨rfl,rfl⟩
 rw [HN.out]
 go_wp2_with fail
 refine (amiss_any ⟨2,N,⟨#[]⟩⟩ _).mono ?_
 rintro e w1 ⟨rfl,hb1⟩
 rw [HA.out]
 have HX:=hJQ (two_boxes hb1)
 have x0:=HX.out.1.cell 0
 have x1:=HX.out.1.cell 1
 have x2:=HX.out.1.cell 2
 have f0:=HX.out.1.frozen 0
 have f1:=HX.out.1.frozen 1
 have f2:=HX.out.1.frozen 2
 have y0:=HX.out.2.1.cell 0
 have y1:=HX.out.2.1.cell 1
 have y2:=HX.out.2.1.cell 2
 have hs:=HX.out.2.2.2
 clear hb1
 go_wp2
 rw [Exit.noGoto_ret]
 exact bodyPost_ret (v:=.tuple #[.agg #[.int .i64 2,.int .i64 N,.string ⟨#[]⟩],.int .i64 8,.int .i64 0]) (by simp [results,Tryz.results119,go_sem,x0,x1,x2]) rfl (read_good _ _ ⟨2,N,⟨#[]⟩⟩ 8 (((HX.out.2.2.1.setCell (by simp) _).setCell (by simp) _).setCell (by simp) _))
theorem read_text_short (ad : Option Addr) (len cap : Nat) (w : World) (h1 : len < 2) :
  Calls Tryz.prog 119 #[.int .i64 3,.slice ad len cap] w (ReadPost w (.bad 20)):=by
 have hl1 : (len : Int) < 2:=by omega
 go_enter Tryz.func119,Tryz.ntmps119
 go_wp2
 refine wp_scope_once 1 rfl ?_
 go_wp2
 go_step3
 refine ⟨rfl,?_⟩
 go_wp2
 rw [Exit.noGoto_ret]
 exact bodyPost_ret (v:=.tuple #[.agg #[.int .i64 0,.int .i64 0,.string ⟨#[]⟩],.int .i64 0,.int .i64 20]) (by simp [results,Tryz.results119,go_sem]) rfl (read_bad _ _ _ (boxbox_below _ _ _))
theorem read_text_long (b off len cap m : Nat) (zs : List Int) (w : World) (hR : Reads .u8 w (some ⟨b,off,none⟩) len zs) (hB : Bys zs) (hc : len <= cap) (h1 : 2 <= len) (hN : wrap64 (num (zs.take 2)) = (m : Int)) (hm : 1024 < m) (hm2 : m <= 65535) :
  Calls Tryz.prog 119 #[.int .i64 3,.slice (some ⟨b,off,none⟩) len cap] w (ReadPost w (.bad 22)):=by
 have HR:=hJQ (reads_take hR h1)
 have HB:=hJQ (bys_take 2 hB)
 have HN:=hJQ hN
 have hc1 : (2 : Int) <= (cap : Int):=by omega
 have hl1 : (2 : Int) <= (len : Int):=by omega
 clear hR hB hN
 go_enter Tryz.func119,Tryz.ntmps119
 go_wp2
 refine wp_scope_once 1 rfl ?_
 go_wp2
 go_step3
 refine ⟨rfl,?_⟩
 go_wp2_with fail
 refine (join_any _ 2 cap (zs.take 2) _ (HR.out.kept (boxbox_below _ _ _)) HB.out (by decide)).mono ?_
 rintro e w0 ⟨rfl,rfl⟩
 rw [HN.out]
 go_wp2
 rw [Exit.noGoto_ret]
 exact bodyPost_ret (v:=.tuple #[.agg #[.int .i64 0,.int .i64 0,.string ⟨#[]⟩],.int .i64 0,.int .i64 22]) (by simp [results,Tryz.results119,go_sem]) rfl (read_bad _ _ _ (boxbox_below _ _ _))
theorem read_text_cut (b off len cap m : Nat) (zs : List Int) (w : World) (hR : Reads .u8 w (some ⟨b,off,none⟩) len zs) (hB : Bys zs) (hc : len <= cap) (h1 : 2 <= len) (hN : wrap64 (num (zs.take 2)) = (m : Int)) (hm : m <= 1024) (hl : len < 2 + m) :
  Calls Tryz.prog 119 #[.int .i64 3,.slice (some ⟨b,off,none⟩) len cap] w (ReadPost w (.bad 20)):=by
 have HR:=hJQ (reads_take hR h1)
 have HB:=hJQ (bys_take 2 hB)
 have HN:=hJQ hN
 have hc1 : (2 : Int) <= (cap : Int):=by omega
 have hl1 : (2 : Int) <= (len : Int):=by omega
 have hl2 : (len : Int) < 2 + (m : Int):=by omega
 clear hR hB hN
 go_enter Tryz.func119,Tryz.ntmps119
 go_wp2
 refine wp_scope_once 1 rfl ?_
 go_wp2
 go_step3
 refine ⟨rfl,?_⟩
 go_wp2_with fail
 refine (join_any _ 2 cap (zs.take 2) _ (HR.out.kept (boxbox_below _ _ _)) HB.out (by decide)).mono ?_
 rintro e w0 ⟨rfl,rfl⟩
 rw [HN.out]
 go_wp2
 rw [Exit.noGoto_ret]
 exact bodyPost_ret (v:=.tuple #[.agg #[.int .i64 0,.int .i64 0,.string ⟨#[]⟩],.int .i64 0,.int .i64 20]) (by simp [results,Tryz.results119,go_sem]) rfl (read_bad _ _ _ (boxbox_below _ _ _))
open Go.ChangeShapes Go.WideShapes Go.ChangeAt Go.RowKit

theorem text_run {w W : World} {b off len m : Nat} {zs : List Int} (hR : Reads .u8 w (some ⟨b,off,none⟩) len zs) (hb : Below w.heap.size w W) (hl : 2 + m <= len) (c : Nat) :
  (convert 82 9 (.slice (some ⟨b,off + 2,none⟩) m c)).run Tryz.prog W = .ok (.string (strOfNums ((zs.drop 2).take m))) W:=by
 obtain ⟨h1,h2⟩:=hR.kept hb
 refine run_convert_bytes_arg W 82 5 Tryz.underlying82 Tryz.underlying5 b (off + 2) m c _ (by rw [List.length_take,List.length_drop]; omega) (fun i hi => ?_) 9 Tryz.underlying9
 obtain ⟨b',off',e,hc⟩:=h2 (by omega)
 injection e with e
 injection e with e1 e2
 subst e1 e2
 rw [Nat.add_assoc,hc (2 + i) (by omega),List.getD_eq_getElem?_getD,List.getD_eq_getElem?_getD,List.getElem?_take,if_pos hi,List.getElem?_drop]
set_option maxHeartbeats 400000 in
theorem read_text_bare (b off : Nat) (zs : List Int) (w : World) (hR : Reads .u8 w (some ⟨b,off,none⟩) 2 zs) (hB : Bys zs) (hN : wrap64 (num (zs.take 2)) = 0) :
  Calls Tryz.prog 119 #[.int .i64 3,.slice (some ⟨b,off,none⟩) 2 2] w (ReadPost w (.good ⟨3,0,⟨#[]⟩⟩ 2)):=by
 have HR:=hJQ (reads_take hR (Nat.le_refl 2))
 have HB:=hJQ (bys_take 2 hB)
 have HN:=hJQ hN
 have hcv : ∀ W : World,(convert 82 9 (.slice (some ⟨b,off,none⟩) 0 0)).run Tryz.prog W = .ok (.string ⟨#[]⟩) W:=fun W =>
  run_convert_bytes_arg W 82 5 Tryz.underlying82 Tryz.underlying5 b off 0 0 [] rfl (fun i hi => absurd hi (by omega)) 9 Tryz.underlying9
 clear hR hB hN
 go_enter Tryz.func119,Tryz.ntmps119
 go_wp2
 refine wp_scope_once 1 rfl ?_
 go_wp2
 go_step3
 refine ⟨rfl,?_⟩
 go_wp2_with fail
 refine (join_any _ 2 2 (zs.take 2) _ (HR.out.kept (boxbox_below _ _ _)) HB.out (by decide)).mono ?_
 rintro e w0 ⟨rfl,rfl⟩
 rw [HN.out]
 go_wp2
 rw [Exit.noGoto_ret]
 exact bodyPost_ret (v:=.tuple #[.agg #[.int .i64 3,.int .i64 0,.string ⟨#[]⟩],.int .i64 2,.int .i64 0]) (by simp [results,Tryz.results119,go_sem]) rfl (read_good _ _ ⟨3,0,⟨#[]⟩⟩ 2 (boxbox_below _ _ _))
set_option maxHeartbeats 400000 in
theorem read_text_good (b off len cap m : Nat) (zs : List Int) (S : ByteArray) (w : World) (hR : Reads .u8 w (some ⟨b,off,none⟩) len zs) (hB : Bys zs) (hc : len <= cap) (h1 : 2 <= len) (hN : wrap64 (num (zs.take 2)) = (m : Int)) (hm : m <= 1024) (hl : 2 + m <= len) (hcap : ¬ cap = 2) (hS : strOfNums ((zs.drop 2).take m) = S) :
  Calls Tryz.prog 119 #[.int .i64 3,.slice (some ⟨b,off,none⟩) len cap] w (ReadPost w (.good ⟨3,0,S⟩ (2 + m))):=by
 have HR:=hJQ (reads_take hR h1)
 have HB:=hJQ (bys_take 2 hB)
 have HN:=hJQ hN
 have hc1 : (2 : Int) <= (cap : Int):=by omega
 have hl1 : (2 : Int) <= (len : Int):=by omega
 have hl2 : 2 + (m : Int) <= (len : Int):=by omega
 have hl3 : 2 + (m : Int) <= (cap : Int):=by omega
 have hcv:=text_run hR (boxbox_below w (.cells #[.int .i64 0,.int .i64 0,.string ⟨#[]⟩] 135) (.cells #[.int .i64 3,.int .i64 0,.string ⟨#[]⟩] 135)) hl (cap - 2)
 rw [hS] at hcv
 clear hR hB hN hS
 go_enter Tryz.func119,Tryz.ntmps119
 go_wp2
 refine wp_scope_once 1 rfl ?_
 go_wp2
 go_step3
 refine ⟨rfl,?_⟩
 go_wp2_with fail
 refine (join_any _ 2 cap (zs.take 2) _ (HR.out.kept (boxbox_below _ _ _)) HB.out (by decide)).mono ?_
 rintro e w0 ⟨rfl,rfl⟩
 rw [HN.out]
 go_wp2
 rw [Exit.noGoto_ret]
 exact bodyPost_ret (v:=.tuple #[.agg #[.int .i64 3,.int .i64 0,.string S],.int .i64 (2 + (m : Int)),.int .i64 0]) (by simp [results,Tryz.results119,go_sem]) rfl (by
  have h:=read_good w ((w.alloc (.cells #[.int .i64 3,.int .i64 0,.string S] 135)).alloc (.cells #[.int .i64 3,.int .i64 0,.string S] 135)) ⟨3,0,S⟩ (2 + m) (boxbox_below _ _ _)
  rw [show ((2 + m : Nat) : Int) = 2 + (m : Int) by omega] at h
  exact h)
theorem wrap_small {x : Int} (h0 : 0 <= x) (h1 : x <= 9223372036854775807) : wrap64 x = x:=by unfold wrap64; omega
theorem rd_num {k : Int} {zs : List Int} {N : Int} (hk : k = 1 ∨ k = 2 ∨ k = 4) (hB : Bys zs) (hl : wd k <= zs.length) (hN : N = wrap64 (num (zs.take (wd k)))) :
  rd k zs = if ams ⟨k,N,⟨#[]⟩⟩ = 0 then .good ⟨k,N,⟨#[]⟩⟩ (wd k) else .bad (ams ⟨k,N,⟨#[]⟩⟩):=by
 have hnl : ¬ zs.length < wd k:=by omega
 rcases hk with rfl | rfl | rfl
 ·obtain ⟨a,r,rfl,h0,h1⟩:=num_one_bd hB hl
  have e1 : wd 1 = 1:=rfl
  rw [e1,num_one,wrap_small h0 (by omega)] at hN
  subst hN
  have ha : ams ⟨1,N,⟨#[]⟩⟩ = 0:=by simp [ams,grt,size_empty]; omega
  rw [if_pos ha]
  unfold rd
  rw [if_neg (by simp),if_neg hnl,if_neg (by simp),if_pos (by simp),e1,num_one]
 ·have e1 : wd 2 = 8:=rfl
  rw [e1] at hN hl
  obtain ⟨_,h0,h1⟩:=num_eight_bd hB hl
  unfold rd
  rw [if_neg (by simp),if_neg hnl]
  by_cases hb : big < num (zs.take 8)
  ·have ha : ams ⟨2,N,⟨#[]⟩⟩ = 21:=by
    unfold big at hb
    unfold wrap64 at hN
    simp only [ams,grt,big]
    rw [if_pos]
    by_cases hn : N < 0
    ·exact .inl hn
    ·right; left; simp; omega
   rw [if_pos (.inl ⟨rfl,hb⟩),ha]; rfl
  ·have hbb : num (zs.take 8) <= 4611686018427387904:=by unfold big at hb; omega
   rw [wrap_small h0 (by omega)] at hN
   have ha : ams ⟨2,N,⟨#[]⟩⟩ = 0:=by simp [ams,grt,big,size_empty]; omega
   rw [if_neg (by simp [hb]),if_pos (by simp),if_pos ha,e1,hN]
 ·obtain ⟨a,r,rfl,h0,h1⟩:=num_one_bd hB hl
  have e1 : wd 4 = 1:=rfl
  rw [e1,num_one,wrap_small h0 (by omega)] at hN
  subst hN
  unfold rd
  rw [if_neg (by simp),if_neg hnl,num_one]
  by_cases hb : 1 < N
  ·have ha : ams ⟨4,N,⟨#[]⟩⟩ = 21:=by simp [ams,grt,size_empty]; omega
   rw [if_pos (.inr ⟨rfl,hb⟩),ha]; rfl
  ·have ha : ams ⟨4,N,⟨#[]⟩⟩ = 0:=by simp [ams,grt,size_empty]; omega
   rw [if_neg (by simp [hb]),if_pos (by simp),if_pos ha,e1,num_one]
theorem rd_short {k : Int} {zs : List Int} (hk : ¬ (k < 1 ∨ 4 < k)) (hl : zs.length < wd k) : rd k zs = .bad 20:=by
 unfold rd
 rw [if_neg hk,if_pos hl]
theorem read_any (k : Int) (ad : Option Addr) (len cap : Nat) (zs : List Int) (w : World) (hR : Reads .u8 w ad len zs) (hB : Bys zs) (hc : len <= cap) :
  Calls Tryz.prog 119 #[.int .i64 k,.slice ad len cap] w (ReadPost w (rd k zs)):=by
 have hl:=hR.1
 by_cases hk : k < 1 ∨ 4 < k
 ·have e : rd k zs = .bad 21:=by unfold rd; rw [if_pos hk]
  rw [e]; exact read_no k ad len cap w hk
 by_cases k1 : k = 1
 ·subst k1
  by_cases hs : len < 1
  ·rw [rd_short hk (by rw [hl]; exact hs)]; exact read_small_short ad len cap w hs
  ·obtain ⟨b,off,rfl,_⟩:=hR.2 (by omega)
   rw [rd_num (.inl rfl) hB (by rw [hl]; show 1 <= len; omega) rfl]
   split
   ·rename_i ha; exact read_small_good b off len cap zs w hR hB hc (by omega) _ rfl ha
   ·rename_i ha; exact read_small_bad b off len cap zs w hR hB hc (by omega) _ _ rfl rfl ha
 by_cases k2 : k = 2
 ·subst k2
  by_cases hs : len < 8
  ·rw [rd_short hk (by rw [hl]; exact hs)]; exact read_whole_short ad len cap w hs
  ·obtain ⟨b,off,rfl,_⟩:=hR.2 (by omega)
   rw [rd_num (.inr (.inl rfl)) hB (by rw [hl]; show 8 <= len; omega) rfl]
   split
   ·rename_i ha; exact read_whole_good b off len cap zs w hR hB hc (by omega) _ rfl ha
   ·rename_i ha; exact read_whole_bad b off len cap zs w hR hB hc (by omega) _ _ rfl rfl ha
 by_cases k4 : k = 4
 ·subst k4
  by_cases hs : len < 1
  ·rw [rd_short hk (by rw [hl]; exact hs)]; exact read_switch_short ad len cap w hs
  ·obtain ⟨b,off,rfl,_⟩:=hR.2 (by omega)
   rw [rd_num (.inr (.inr rfl)) hB (by rw [hl]; show 1 <= len; omega) rfl]
   split
   ·rename_i ha; exact read_switch_good b off len cap zs w hR hB hc (by omega) _ rfl ha
   ·rename_i ha; exact read_switch_bad b off len cap zs w hR hB hc (by omega) _ _ rfl rfl ha
 obtain rfl : k = 3:=by omega
 by_cases hs : len < 2
 ·rw [rd_short hk (by rw [hl]; exact hs)]; exact read_text_short ad len cap w hs
 obtain ⟨b,off,rfl,_⟩:=hR.2 (by omega)
 have hnum : ∃ m : Nat,num (zs.take 2) = (m : Int) /\ m <= 65535:=by
  obtain ⟨a,c,r,rfl,h1,h2,h3,h4⟩:=num_two_bd hB (by omega)
  rw [num_two]
  exact ⟨(a * 256 + c).toNat,by omega,by omega⟩
 obtain ⟨m,hm,hm2⟩:=hnum
 have hN : wrap64 (num (zs.take 2)) = (m : Int):=by rw [hm]; exact wrap_small (by omega) (by omega)
 have hw : ¬ zs.length < wd 3:=by rw [hl]; show ¬ len < 2; omega
 unfold rd
 rw [if_neg (by simp),if_neg hw,if_neg (by simp),if_neg (by simp),hm]
 by_cases hlong : 1024 < (m : Int)
 ·rw [if_pos hlong]
  exact read_text_long b off len cap m zs w hR hB hc (by omega) hN (by omega) hm2
 rw [if_neg hlong,hl]
 have et : (m : Int).toNat = m:=by omega
 rw [et]
 by_cases hcut : len < 2 + m
 ·rw [if_pos hcut]
  exact read_text_cut b off len cap m zs w hR hB hc (by omega) hN (by omega) hcut
 rw [if_neg hcut]
 by_cases hcap : cap = 2
 ·subst hcap
  obtain rfl : m = 0:=by omega
  obtain rfl : len = 2:=by omega
  have e : strOfNums ((zs.drop 2).take 0) = ⟨#[]⟩:=by rw [List.take_zero]; rfl
  rw [e]
  exact read_text_bare b off zs w hR hB hN
 ·exact read_text_good b off len cap m zs _ w hR hB hc (by omega) hN (by omega) (by omega) hcap rfl
theorem rd_ne {k : Int} {zs : List Int} {e : Int} (h : rd k zs = .bad e) : e ≠ 0:=by
 unfold rd at h
 repeat' split at h
 all_goals first
  | (injection h with h; subst h; decide)
  | cases h
open Go.ChangeShapes Go.WideShapes Go.ChangeAt Go.RowKit

theorem info40 : (Tryz.prog.info? 135).map (fun i => (i.zero,i.size,i.bytes)) = some (some (.agg #[.int .i64 0,.int .i64 0,.string ⟨#[]⟩]),3,32):=by kernel_rfl
def fcs (l : List Fld) : List Value:=l.flatMap fun f => [.int .i64 f.k,.int .i64 f.n,.string f.s]
theorem fcs_length (l : List Fld) : (fcs l).length = l.length * 3:=by
 induction l with
 | nil => rfl
 | cons f l ih => simp only [fcs,List.flatMap_cons,List.length_append,List.length_cons,List.length_nil] at ih ⊢; omega
theorem fcs_snoc (l : List Fld) (f : Fld) : fcs (l ++ [f]) = fcs l ++ [.int .i64 f.k,.int .i64 f.n,.string f.s]:=by simp [fcs]
theorem fcs_at (l : List Fld) (i : Nat) (hi : i < l.length) : (fcs l)[i * 3]? = some (.int .i64 (l.getD i z0).k) /\ (fcs l)[i * 3 + 1]? = some (.int .i64 (l.getD i z0).n) /\ (fcs l)[i * 3 + 2]? = some (.string (l.getD i z0).s):=by
 induction l generalizing i with
 | nil => simp at hi
 | cons f l ih =>
  have e : fcs (f :: l) = .int .i64 f.k :: .int .i64 f.n :: .string f.s :: fcs l:=by simp [fcs]
  rw [e]
  cases i with
  | zero => exact ⟨rfl,rfl,rfl⟩
  | succ i =>
   have h:=ih i (by simpa using hi)
   have e1 : (i + 1) * 3 = i * 3 + 1 + 1 + 1:=by omega
   have e2 : (i + 1) * 3 + 1 = i * 3 + 1 + 1 + 1 + 1:=by omega
   have e3 : (i + 1) * 3 + 2 = i * 3 + 2 + 1 + 1 + 1:=by omega
   rw [e2,e3,e1]
   simpa using h
theorem fields_own {w : World} {base n : Nat} {v : Value} {l : List Fld} (h : w.ownsRow base 135 3 v n (fcs l)) : ∃ A c,v = .slice A n c /\ FReads w A n l:=by
 have hl : l.length = n:=by have:=h.1; rw [fcs_length] at this; omega
 rcases h.2 with ⟨rfl,rfl⟩ | ⟨g,cap,cur,rfl,hbg,hg,hn,hc,hs,ht⟩
 ·exact ⟨none,0,rfl,hl,fun h => absurd h (by omega)⟩
 ·refine ⟨_,cap,rfl,hl,fun _ => ⟨g,0,rfl,fun i hi => ?_⟩⟩
  have hcell : ∀ j u,(fcs l)[j]? = some u -> w.cell? ⟨g,j,none⟩ = some u:=fun j u hu => by
   have:=h.cells (g:=g) rfl j u hu
   rw [Go.WideShapes.add_plain,Nat.zero_add] at this
   exact this
  obtain ⟨h1,h2,h3⟩:=fcs_at l i (by omega)
  rw [Nat.zero_add]
  exact ⟨hcell _ _ h1,hcell _ _ h2,hcell _ _ h3⟩
theorem fields_own_c {w : World} {base n : Nat} {v : Value} {l : List Fld} (h : w.ownsRow base 135 3 v n (fcs l)) : ∃ A c,v = .slice A n c /\ FReads w A n l /\ n <= c /\ (∀ b off,A = some ⟨b,off,none⟩ -> base <= b):=by
 obtain ⟨A,c,e,hf⟩:=fields_own h
 refine ⟨A,c,e,hf,?_⟩
 rcases h.2 with ⟨e2,rfl⟩ | ⟨g,cap,cur,e2,hbg,hg,hn,hc,hs,ht⟩
 ·rw [e2] at e
  injection e with e3 e4 e5
  exact ⟨Nat.zero_le _,fun b off e6 => by rw [<- e3] at e6; cases e6⟩
 ·rw [e2] at e
  injection e with e3 e4 e5
  refine ⟨by omega,fun b off e6 => ?_⟩
  rw [<- e3] at e6
  injection e6 with e6
  injection e6 with e6 _ _
  omega
def Sm.e : Sm -> Int
 | .bad e => e
 | .good _ _ => 0
def Sm.l : Sm -> List Fld
 | .bad _ => []
 | .good l _ => l
def Sm.n : Sm -> Nat
 | .bad _ => 0
 | .good _ n => n
def SomePost (w : World) (s : Sm) (e : Ending) (w' : World) : Prop :=
 ∃ (A : Option Addr) (c : Nat),e = .returned (.tuple #[.slice A s.l.length c,.int .i64 (s.n : Int),.int .i64 s.e]) /\ (FReads w' A s.l.length s.l /\ s.l.length <= c /\ ∀ b off,A = some ⟨b,off,none⟩ -> w.heap.size <= b) /\ Below w.heap.size w w'
theorem freads_none (w : World) : FReads w none 0 []:=⟨rfl,fun h => absurd h (by omega)⟩
theorem sub_any {w : World} {A : Option Addr} {len cap : Nat} {zs : List Int} (hR : Reads .u8 w A len zs) (hc : len <= cap) (l h : Nat) (hlh : l <= h) (hh : h <= len) :
  ∃ A' c',(∀ W : World,(Instr.slice 82 (.slice A len cap) (some (.int .i64 (l : Int))) (some (.int .i64 (h : Int))) none).run Tryz.prog W = .ok (.slice A' (h - l) c') W) /\
   Reads .u8 w A' (h - l) ((zs.drop l).take (h - l)) /\ h - l <= c' /\ c' <= cap:=by
 obtain ⟨i0,hi,hz0,hz1,hz2⟩:=info_parts info5
 refine ⟨if cap = l then A else A.map (·.add (l * 1)),cap - l,fun W => ?_,?_,by omega,by omega⟩
 ·rw [run_slice_lh (P:=Tryz.prog) (w:=W) 82 A len cap Tryz.underlying82 .i64 .i64 (l : Int) (h : Int) (by omega) (by omega) (by omega)]
  have e : Tryz.prog.elem 82 = 5:=by kernel_rfl
  simp [e,sizeOf,typeInfo,hi,hz1,sliced]
 ·obtain ⟨h1,h2⟩:=hR
  refine ⟨by rw [List.length_take,List.length_drop]; omega,fun hp => ?_⟩
  obtain ⟨b,off,rfl,hcell⟩:=h2 (by omega)
  rw [if_neg (by omega)]
  refine ⟨b,off + l,by simp [Go.WideShapes.add_plain],fun i hi => ?_⟩
  rw [Nat.add_assoc,hcell (l + i) (by omega),List.getD_eq_getElem?_getD,List.getD_eq_getElem?_getD,List.getElem?_take,if_pos hi,List.getElem?_drop]
theorem sub_from {w : World} {A : Option Addr} {len cap : Nat} {zs : List Int} (hR : Reads .u8 w A len zs) (hc : len <= cap) (l : Nat) (hl : l <= len) :
  ∃ A' c',(∀ W : World,(Instr.slice 82 (.slice A len cap) (some (.int .i64 (l : Int))) none none).run Tryz.prog W = .ok (.slice A' (len - l) c') W) /\
   Reads .u8 w A' (len - l) (zs.drop l) /\ len - l <= c' /\ c' <= cap:=by
 obtain ⟨i0,hi,hz0,hz1,hz2⟩:=info_parts info5
 obtain ⟨A',c',h1,h2,h3,h4⟩:=sub_any hR hc l len hl (Nat.le_refl _)
 refine ⟨A',c',fun W => ?_,?_,h3,h4⟩
 ·rw [<- h1 W,run_slice_lh (P:=Tryz.prog) (w:=W) 82 A len cap Tryz.underlying82 .i64 .i64 (l : Int) (len : Int) (by omega) (by omega) (by omega),
   run_slice_l (P:=Tryz.prog) (w:=W) 82 A len cap Tryz.underlying82 .i64 (l : Int) (by omega) (by omega)]
  simp
 ·rw [List.take_of_length_le (by rw [List.length_drop,hR.1]; exact Nat.le_refl _)] at h2
  exact h2
def SRel (w : World) (len : Nat) (ks zs : List Int) (vl va vi : Value) (wr : World) : Prop :=
 ∃ (k a : Nat) (l : List Fld),k <= len /\ vi = .int .i64 k /\ va = .int .i64 a /\ a <= zs.length /\ l.length = k /\ wr.ownsRow w.heap.size 135 3 vl k (fcs l) /\ sm ks zs = (sm (ks.drop k) (zs.drop a)).put l a /\ Below w.heap.size w wr
theorem drop_getD {ks : List Int} {k : Nat} (h : k < ks.length) : ks.drop k = ks.getD k 0 :: ks.drop (k + 1):=by
 rw [List.drop_eq_getElem_cons h,List.getD_eq_getElem?_getD,List.getElem?_eq_getElem h]; rfl
theorem sm_step_bad {ks zs : List Int} {k a : Nat} {l : List Fld} {kd e : Int} (hk : k < ks.length) (hkd : kd = ks.getD k 0) (hs : sm ks zs = (sm (ks.drop k) (zs.drop a)).put l a) (hr : rd kd (zs.drop a) = .bad e) : sm ks zs = .bad e:=by
 rw [hs,drop_getD hk,<- hkd]
 simp only [sm,hr,Sm.put]
theorem sm_step_good {ks zs : List Int} {k a n : Nat} {l : List Fld} {kd : Int} {f : Fld} (hk : k < ks.length) (hkd : kd = ks.getD k 0) (hs : sm ks zs = (sm (ks.drop k) (zs.drop a)).put l a) (hr : rd kd (zs.drop a) = .good f n) :
  sm ks zs = (sm (ks.drop (k + 1)) (zs.drop (a + n))).put (l ++ [f]) (a + n):=by
 rw [hs,drop_getD hk,<- hkd]
 simp only [sm,hr,List.drop_drop]
 cases sm (ks.drop (k + 1)) (zs.drop (a + n)) with
 | bad e => rfl
 | good m j => simp [Sm.put,Nat.add_assoc]
theorem sm_bad_ne {ks zs : List Int} {e : Int} (h : sm ks zs = .bad e) : e ≠ 0:=by
 induction ks generalizing zs with
 | nil => simp [sm] at h
 | cons k ks ih =>
  simp only [sm] at h
  split at h
  ·rename_i hr; injection h with h; subst h; exact rd_ne hr
  ·rename_i f n hr
   cases hs : sm ks (zs.drop n) with
   | bad e' => rw [hs] at h; simp only [Sm.put] at h; injection h with h; subst h; exact ih hs
   | good m j => rw [hs] at h; simp [Sm.put] at h
theorem some_bad {w w' : World} {s : Sm} {er : Int} (hs : s = .bad er) (hb : Below w.heap.size w w') : SomePost w s (.returned (.tuple #[.slice none 0 0,.int .i64 0,.int .i64 er])) w':=by
 subst hs; exact ⟨none,0,rfl,⟨freads_none w',Nat.le_refl _,fun _ _ e => by cases e⟩,hb⟩
theorem some_end {w wr : World} {ks zs : List Int} {l : List Fld} {a k : Nat} {v : Value} (hk : k = ks.length) (hl : l.length = k) (hs : sm ks zs = (sm (ks.drop k) (zs.drop a)).put l a) (ho : wr.ownsRow w.heap.size 135 3 v k (fcs l)) (hb : Below w.heap.size w wr) :
  SomePost w (sm ks zs) (.returned (.tuple #[v,.int .i64 (a : Int),.int .i64 0])) wr:=by
 rw [hk,List.drop_length] at hs
 have e : sm ks zs = .good l a:=by rw [hs]; simp [sm,Sm.put]
 rw [e]
 obtain ⟨A,c,rfl,hf⟩:=fields_own_c ho
 subst hl
 exact ⟨A,c,rfl,hf,hb⟩
theorem some_round {w wr w1 w2 : World} {len k a n : Nat} {ks zs : List Int} {l : List Fld} {f : Fld} {kd : Int} {v v2 : Value} {o o' : Obj} (hB : Bys zs) (hlen : ks.length = len) (hk : k < len) (hkd : kd = ks.getD k 0) (ha : a <= zs.length) (hl : l.length = k)
  (hs : sm ks zs = (sm (ks.drop k) (zs.drop a)).put l a) (hr : rd kd (zs.drop a) = .good f n) (ho : wr.ownsRow w.heap.size 135 3 v k (fcs l)) (hb : Below w.heap.size w wr) (hb1 : Below wr.heap.size wr w1)
  (ho2 : w2.ownsRow w.heap.size 135 3 v2 (k + 1) (fcs l ++ [.int .i64 f.k,.int .i64 f.n,.string f.s])) (hg : ((w1.alloc o).alloc o').grownBy w2 v.ownBlock) :
  SRel w len ks zs v2 (.int .i64 ((a : Int) + (n : Int))) (.int .i64 ((k : Int) + 1)) w2:=by
 obtain ⟨hn,_⟩:=rd_good (bys_drop a hB) hr
 rw [List.length_drop] at hn
 have hb1' : Below w.heap.size w ((w1.alloc o).alloc o'):=((hb.trans (hb1.mono hb.size)).alloc (Nat.le_trans hb.size hb1.size) o).alloc (by have:=Nat.le_trans hb.size hb1.size; simp; omega) o'
 refine ⟨k + 1,a + n,l ++ [f],by omega,by go_num,by go_num,by omega,by rw [List.length_append,hl]; rfl,?_,sm_step_good (by omega) hkd hs hr,hb1'.grown hg hb1'.size (own_ge ho)⟩
 rw [fcs_snoc]
 exact ho2
theorem new_three (w : World) (x y z : Value) (t : TypeId) : ∀ j u,[x,y,z][j]? = some u -> (w.alloc (.cells #[x,y,z] t)).cell? ((⟨w.heap.size,0,none⟩ : Addr).add j) = some u:=by
 intro j u hu
 rw [Go.WideShapes.add_plain,Nat.zero_add,World.cell?_alloc_at (hn:=rfl)]
 simpa using hu
theorem three_one (a b : Int) (s : ByteArray) : ∀ u ∈ [Value.int .i64 a,.int .i64 b,.string s],u.oneCell' = true:=by
 intro u hu
 simp only [List.mem_cons,List.not_mem_nil,or_false] at hu
 rcases hu with rfl | rfl | rfl <;> rfl
theorem sm_zero (ks zs : List Int) : sm ks zs = (sm (ks.drop 0) (zs.drop 0)).put [] 0:=by
 rw [List.drop_zero,List.drop_zero]
 generalize sm ks zs = s
 cases s with
 | bad e => rfl
 | good m j => simp [Sm.put]
theorem read_b {k er : Int} {ad : Option Addr} {len cap : Nat} {zs : List Int} {w : World} (hR : Reads .u8 w ad len zs) (hB : Bys zs) (hc : len <= cap) (hr : rd k zs = .bad er) :
  Calls Tryz.prog 119 #[.int .i64 k,.slice ad len cap] w fun e w' => e = .returned (.tuple #[.agg #[.int .i64 0,.int .i64 0,.string ⟨#[]⟩],.int .i64 0,.int .i64 er]) /\ Below w.heap.size w w':=by
 have h:=read_any k ad len cap zs w hR hB hc
 rw [hr] at h
 exact h
theorem read_g {k : Int} {f : Fld} {n : Nat} {ad : Option Addr} {len cap : Nat} {zs : List Int} {w : World} (hR : Reads .u8 w ad len zs) (hB : Bys zs) (hc : len <= cap) (hr : rd k zs = .good f n) :
  Calls Tryz.prog 119 #[.int .i64 k,.slice ad len cap] w fun e w' => e = .returned (.tuple #[.agg #[.int .i64 f.k,.int .i64 f.n,.string f.s],.int .i64 (n : Int),.int .i64 0]) /\ Below w.heap.size w w':=by
 have h:=read_any k ad len cap zs w hR hB hc
 rw [hr] at h
 exact h
set_option maxHeartbeats 1000000 in
theorem some_any (ka ba : Option Addr) (len kcap blen bcap : Nat) (ks zs : List Int) (w : World) (hK : Reads .i64 w ka len ks) (hR : Reads .u8 w ba blen zs) (hB : Bys zs) (hm : len <= 4294967296) (hc : blen <= bcap) (hcm : bcap <= maxLen) :
  Calls Tryz.prog 71 #[.slice ka len kcap,.slice ba blen bcap] w (SomePost w (sm ks zs)):=by
 obtain ⟨i0,hi,hz0,hz1,hz2⟩:=info_parts info40
 have HK:=hJQ hK
 have HR:=hJQ hR
 have HB:=hJQ hB
 clear hK hR hB
 unfold maxLen at hcm
 go_enter Tryz.func71,Tryz.ntmps71
 go_wp2
 go_loopw [7,8,16] (fun vl va vi wr => SRel w len ks zs vl va vi wr) (fun _ _ i _ => len - (intOf i).toNat)
 case atStart => exact ⟨0,0,[],by omega,rfl,rfl,by omega,rfl,World.ownsRow_nil _ _ _ _,sm_zero ks zs,Below.refl _ _⟩
 case round =>
  obtain ⟨k,a,l,hk,rfl,rfl,ha,hl,hown,hs,hb⟩:=hrel
  have HA:=hJQ ha
  have HL:=hJQ hl
  have HO:=hJQ hown
  have HS:=hJQ hs
  have HB2:=hJQ hb
  have hab : a <= blen:=by rw [<- HR.out.1]; exact ha
  clear ha hl hown hs hb
  by_cases hlt : k < len
  ·obtain ⟨b,off,rfl,hcell⟩:=(HK.out.kept HB2.out).2 (by omega)
   have hx:=hcell k hlt
   obtain ⟨kd,hkd⟩ : ∃ kd,kd = ks.getD k 0:=⟨_,rfl⟩
   rw [<- hkd] at hx
   have HKD:=hJQ hkd
   obtain ⟨A',c',hsl,hrd,hac,_⟩:=sub_from (HR.out.kept HB2.out) hc a hab
   have HRD:=hJQ hrd
   clear hcell hkd hrd
   have hlk : (k : Int) + 1 <= 4294967296:=by omega
   cases hr : rd kd (zs.drop a) with
   | bad er =>
    have hne : (er != 0) = true:=by simpa using rd_ne hr
    have HS2:=hJQ (sm_step_bad (by rw [HK.out.1]; exact hlt) HKD.out HS.out hr)
    have HC:=hJQ (read_b (w:=wr) HRD.out (bys_drop a HB.out) hac hr)
    clear hr
    go_wp2_with fail
    refine HC.out.mono ?_
    rintro e w1 ⟨rfl,hb1⟩
    have HX:=hJQ hb1
    have hs1:=hb1.size
    clear hb1
    go_wp2
    go_ret3
    exact some_bad HS2.out ((HB2.out.trans (HX.out.mono HB2.out.size)).alloc (by have:=HB2.out.size; omega) _)
   | good f n =>
    have HRR:=hJQ hr
    have HC:=hJQ (read_g (w:=wr) HRD.out (bys_drop a HB.out) hac hr)
    have hna : a + n <= blen:=by
     have h1:=(rd_good (bys_drop a HB.out) hr).1
     rw [List.length_drop,HR.out.1] at h1
     omega
    clear hr
    go_wp2_with fail
    refine HC.out.mono ?_
    rintro e w1 ⟨rfl,hb1⟩
    have HX:=hJQ hb1
    have hs1:=hb1.size
    have HO1 : Hid (((w1.alloc (.cells #[.int .i64 f.k,.int .i64 f.n,.string f.s] 135)).alloc (.cells #[.int .i64 f.k,.int .i64 f.n,.string f.s] 135)).ownsRow w.heap.size 135 3 u7 k (fcs l)):=hJQ (((own_below HO.out hb1).alloc _).alloc _)
    have h63 : k + 1 <= maxLen:=by unfold maxLen; omega
    have h47 : (k + 1) * 32 <= 140737488355328:=by omega
    have hsz : w.heap.size <= ((w1.alloc (.cells #[.int .i64 f.k,.int .i64 f.n,.string f.s] 135)).alloc (.cells #[.int .i64 f.k,.int .i64 f.n,.string f.s] 135)).heap.size:=by have:=HB2.out.size; simp; omega
    have HN : Hid (∀ j u,[Value.int .i64 f.k,.int .i64 f.n,.string f.s][j]? = some u -> ((w1.alloc (.cells #[.int .i64 f.k,.int .i64 f.n,.string f.s] 135)).alloc (.cells #[.int .i64 f.k,.int .i64 f.n,.string f.s] 135)).cell? ((⟨w1.heap.size + 1,0,none⟩ : Addr).add j) = some u):=hJQ (by
     have h:=new_three (w1.alloc (.cells #[.int .i64 f.k,.int .i64 f.n,.string f.s] 135)) (.int .i64 f.k) (.int .i64 f.n) (.string f.s) 135
     rw [show (w1.alloc (.cells #[.int .i64 f.k,.int .i64 f.n,.string f.s] 135)).heap.size = w1.heap.size + 1 by simp] at h
     exact h)
    have H1:=hJQ (three_one f.k f.n f.s)
    clear hb1
    go_wp2_with (at_builtin; refine wpList_append_own _ rfl (.tmp 32) (.tmp 34) 129 rfl w.heap.size 135 i0 _ 3 32 Tryz.underlying129 hi hz0 hz1 hz2 rfl (by decide) u7 k (fcs l) rfl HO1.out ⟨w1.heap.size + 1,0,none⟩ 1 1 [.int .i64 f.k,.int .i64 f.n,.string f.s] rfl rfl HN.out H1.out h63 h47 hsz ?_; intro v2 w2 h4 h5 _; have HY:=hJQ (some_round HB.out HK.out.1 hlt HKD.out HA.out HL.out HS.out HRR.out HO.out HB2.out HX.out h4 h5); clear h4 h5)
    go_roundw
    case rel => exact HY.out
    case measure => simp [intOf]; omega
  ·obtain rfl : len = k:=by omega
   go_wp2
   go_ret3
   exact some_end HK.out.1.symm HL.out HS.out HO.out HB2.out
open Go.ChangeShapes Go.WideShapes Go.ChangeAt Go.RowKit

def DecPost (w : World) (s : Sm) (e : Ending) (w' : World) : Prop :=
 ∃ (A : Option Addr) (c : Nat),e = .returned (.tuple #[.slice A s.l.length c,.int .i64 s.e]) /\ (FReads w' A s.l.length s.l /\ s.l.length <= c /\ ∀ b off,A = some ⟨b,off,none⟩ -> w.heap.size <= b) /\ Below w.heap.size w w'
theorem dec_bad {w w' : World} {s : Sm} {er : Int} (hs : s = .bad er) (hb : Below w.heap.size w w') : DecPost w s (.returned (.tuple #[.slice none 0 0,.int .i64 er])) w':=by
 subst hs; exact ⟨none,0,rfl,⟨freads_none w',Nat.le_refl _,fun _ _ e => by cases e⟩,hb⟩
theorem dec_bad_at {w w' : World} {s : Sm} {er : Int} {A : Option Addr} {c : Nat} (hs : s = .bad er) (hf : FReads w' A 0 [] /\ 0 <= c /\ ∀ b off,A = some ⟨b,off,none⟩ -> w.heap.size <= b) (hb : Below w.heap.size w w') : DecPost w s (.returned (.tuple #[.slice A 0 c,.int .i64 er])) w':=by
 subst hs; exact ⟨A,c,rfl,hf,hb⟩
theorem dec_good {w w' : World} {s : Sm} {l : List Fld} {n : Nat} {A : Option Addr} {c : Nat} (hs : s = .good l n) (hf : FReads w' A l.length l /\ l.length <= c /\ ∀ b off,A = some ⟨b,off,none⟩ -> w.heap.size <= b) (hb : Below w.heap.size w w') : DecPost w s (.returned (.tuple #[.slice A l.length c,.int .i64 0])) w':=by
 subst hs; exact ⟨A,c,rfl,hf,hb⟩
theorem dc_of_bad {ks zs : List Int} {er : Int} (h : sm ks zs = .bad er) : dc ks zs = .bad er:=by simp [dc,h]
theorem dc_of_less {ks zs : List Int} {l : List Fld} {n : Nat} (h : sm ks zs = .good l n) (hn : n < zs.length) : dc ks zs = .bad 21:=by simp [dc,h,hn]
theorem dc_of_all {ks zs : List Int} {l : List Fld} {n : Nat} (h : sm ks zs = .good l n) (hn : ¬ n < zs.length) : dc ks zs = .good l n:=by simp [dc,h,hn]
set_option maxHeartbeats 400000 in
theorem decode_any (ka ba : Option Addr) (len kcap blen bcap : Nat) (ks zs : List Int) (w : World) (hK : Reads .i64 w ka len ks) (hR : Reads .u8 w ba blen zs) (hB : Bys zs) (hm : len <= 4294967296) (hc : blen <= bcap) (hcm : bcap <= maxLen) :
  Calls Tryz.prog 73 #[.slice ka len kcap,.slice ba blen bcap] w (DecPost w (dc ks zs)):=by
 have hcall:=some_any ka ba len kcap blen bcap ks zs w hK hR hB hm hc hcm
 have hl:=hR.1
 cases hs : sm ks zs with
 | bad er =>
  have hne : (er == 0) = false:=by simpa using sm_bad_ne hs
  rw [hs] at hcall
  have HC:=hJQ hcall
  have HS:=hJQ (dc_of_bad hs)
  clear hcall hs hK hR hB hl
  go_enter Tryz.func73,Tryz.ntmps73
  go_wp2_with fail
  refine HC.out.mono ?_
  rintro e w1 ⟨A,c,rfl,hf,hb1⟩
  have HF:=hJQ hf
  have HB:=hJQ hb1
  simp only [Sm.e,Sm.l,Sm.n,List.length_nil]
  clear hf hb1
  go_wp2
  go_ret2
  exact dec_bad_at HS.out HF.out HB.out
 | good l n =>
  rw [hs] at hcall
  have HC:=hJQ hcall
  by_cases hn : n < blen
  ·have HS:=hJQ (dc_of_less hs (by omega))
   have hn' : (n : Int) < (blen : Int):=by omega
   clear hcall hs hK hR hB hl hn
   go_enter Tryz.func73,Tryz.ntmps73
   go_wp2_with fail
   refine HC.out.mono ?_
   rintro e w1 ⟨A,c,rfl,hf,hb1⟩
   have HF:=hJQ hf
   have HB:=hJQ hb1
   simp only [Sm.e,Sm.l,Sm.n]
   clear hf hb1
   go_wp2
   go_ret2
   exact dec_bad HS.out HB.out
  ·have HS:=hJQ (dc_of_all hs (by omega))
   have hn' : ¬ (n : Int) < (blen : Int):=by omega
   clear hcall hs hK hR hB hl hn
   go_enter Tryz.func73,Tryz.ntmps73
   go_wp2_with fail
   refine HC.out.mono ?_
   rintro e w1 ⟨A,c,rfl,hf,hb1⟩
   have HF:=hJQ hf
   have HB:=hJQ hb1
   simp only [Sm.e,Sm.l,Sm.n]
   clear hf hb1
   go_wp2
   go_ret2
   exact dec_good HS.out HF.out HB.out
open Go.ChangeShapes Go.WideShapes Go.ChangeAt Go.RowKit

theorem conv_reads {W : World} {A : Option Addr} {m c : Nat} {zs : List Int} (hR : Reads .u8 W A m zs) : (convert 82 9 (.slice A m c)).run Tryz.prog W = .ok (.string (strOfNums zs)) W:=by
 obtain ⟨h1,h2⟩:=id hR
 rcases Nat.eq_zero_or_pos m with h0 | h0
 ·subst h0
  have hz : zs = []:=List.eq_nil_of_length_eq_zero h1
  subst hz
  cases A with
  | none => exact run_convert_bytes_nil W 82 5 Tryz.underlying82 Tryz.underlying5 0 c 9 Tryz.underlying9
  | some ad =>
   rw [run_convert_bytes_string W 82 9 5 (some ad) 0 c Tryz.underlying82 Tryz.underlying5 Tryz.underlying9,run_bytesToString W ad 0 c [] (by simp [loadCells,loadCellsFrom,Sem.run_pure])]
   rfl
 ·obtain ⟨b,off,rfl,hc⟩:=h2 h0
  exact run_convert_bytes_arg W 82 5 Tryz.underlying82 Tryz.underlying5 b off m c zs h1 hc 9 Tryz.underlying9
end Go.Proofs.YtlppinfjdnhlbaaGreatDoor.Pq
