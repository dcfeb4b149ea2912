/-
 What ledger.Open returns: the ledger that is there; or why there is none. Condition: the disk has no more than 65536 sectors.
 What the ledger's amiss,Room,All,Len return. Condition of amiss: no more than 100000 records are asked of.
-/
import Derived.Test.YtlppinfjdnhlbaaGreatDoorHd
import Derived.Test.YtlppinfjdnhlbaaGreatDoorGFind2
namespace Go.Proofs.YtlppinfjdnhlbaaGreatDoor.Gq
set_option maxRecDepth 100000
open Go.ChangeShapes Go.WideShapes Go.ChangeAt Go.RowKit

def OpPost (w : World) (B : Bz) (p fr sz : Nat) (D : Dk) (e : Ending) (w' : World) : Prop :=
 Below w.heap.size w w' /\ ((∃ q m bs bv,e = .returned (.tuple #[.pointer (some ⟨q,0,none⟩),.int .i64 0]) /\ Found (cur D) fr sz m bs /\ PL w' B q p ⟨fr,sz,m,bs⟩ bv D /\ w.heap.size <= q) ∨
  (e = .returned (.tuple #[.pointer none,.int .i64 50]) /\ ∀ m bs,¬ Found (cur D) fr sz m bs))
theorem open_end {w w9 : World} {B : Bz} {p fr sz : Nat} {D : Dk} {X : Obj} {ok : Bool} (hX : X = .cells (lcells p ⟨fr,sz,mk0,[]⟩ (.slice none 0 0)).toArray 219) (hD : PDisk w B p D) (hB : B <= w.heap.size) (hfit : fr + 2 + 2 * sz <= D.firm.length) (hn : D.firm.length <= 65536) (h : FdPost (w.alloc X) w.heap.size p fr sz D (.returned (.bool ok)) w9) :
  Below w.heap.size w w9 /\ ((ok = true /\ ∃ m bs bv,Found (cur D) fr sz m bs /\ PL w9 B w.heap.size p ⟨fr,sz,m,bs⟩ bv D) ∨ (ok = false /\ ∀ m bs,¬ Found (cur D) fr sz m bs)):=by
 subst hX
 obtain ⟨hg,h⟩:=h
 have hq0:=new_block w (.cells (lcells p ⟨fr,sz,mk0,[]⟩ (.slice none 0 0)).toArray 219)
 have hb : Below w.heap.size w w9:=(box_below w _).grown hg (by simp) (fun k e => by injection e with e; omega)
 refine ⟨hb,?_⟩
 rcases h with ⟨m,bs,bv,he,hf,hq,hr⟩ | ⟨he,hf⟩
 ·injection he with he
  injection he with he
  have hd1:=(hD.kept (box_below w (.cells (lcells p ⟨fr,sz,mk0,[]⟩ (.slice none 0 0)).toArray 219))).grown hq0 hg
  have hok : Dok D:=by obtain ⟨_,_,_,h⟩:=hD; exact h.ok
  have hgk:=hf.gok (cur_ok hok) (by rw [cur_len]; exact hfit) (by rw [cur_len]; exact hn)
  rw [cur_len] at hgk
  have hzl : ∀ k,B.z k -> k < w.heap.size:=by obtain ⟨_,_,_,h⟩:=hD; exact h.zl
  exact .inl ⟨he,m,bs,bv,hf,hq,hB,own_base hr (by simp; omega),hd1,hgk,fun h => Nat.lt_irrefl _ (hzl _ h),fun k hk h => by have h1:=own_ge hr k hk; have h2:=hzl k h; simp at h1; omega⟩
 ·injection he with he
  injection he with he
  exact .inr ⟨he,hf⟩
theorem open_any (B : Bz) (p fr many sz : Nat) (D : Dk) (w : World) (hD : PDisk w B p D) (hB : B <= w.heap.size) (hd : D.dead = false) (hn : D.firm.length <= 65536) (hm : 4 <= many) (hfit : fr + many <= D.firm.length) (hsz : sz = (many - 2) / 2) :
  Calls Tryz.prog 124 #[.pointer (some ⟨p,0,none⟩),.int .i64 (fr : Int),.int .i64 (many : Int)] w (OpPost w B p fr sz D):=by
 have HA:=hJQ (dead_any B p D w hD)
 have HM:=hJQ (many_any B p D w hD)
 rw [hd] at HA
 obtain ⟨X,hX⟩ : ∃ X : Obj,X = .cells (lcells p ⟨fr,sz,mk0,[]⟩ (.slice none 0 0)).toArray 219:=⟨_,rfl⟩
 have hfit2 : fr + 2 + 2 * sz <= D.firm.length:=by omega
 have HF:=hJQ (find_any B w.heap.size p fr sz D (w.alloc X) (hD.kept (box_below w X)) (by rw [hX]; exact new_block w _) hd hfit2 hn)
 have HEND:=hJQ (fun ok w9 => open_end (ok:=ok) (w9:=w9) hX hD hB hfit2 hn)
 obtain ⟨k,hk⟩ : ∃ k : Int,k = (D.firm.length : Int):=⟨_,rfl⟩
 rw [<- hk] at HM
 have h1 : ¬ (fr : Int) < 0:=by omega
 have h2 : ¬ (many : Int) < 4:=by omega
 have h3 : ¬ k - (many : Int) < (fr : Int):=by omega
 have h4 : k <= 65536:=by omega
 have h5 : 0 <= k:=by omega
 have h6 : (many : Int) <= 65536:=by omega
 have h7 : ((many : Int) - 2) / 2 = (sz : Int):=by omega
 have HX : Hid (Obj.cells #[.pointer (some ⟨p,0,none⟩),.int .i64 (fr : Int),.int .i64 (sz : Int),.int .i64 0,.int .u8 0,.int .u8 0,.int .u8 0,.int .u8 0,.int .u8 0,.int .u8 0,.int .u8 0,.int .u8 0,.int .i64 0,.int .i64 0,.slice none 0 0] 219 = X):=hJQ (by rw [hX]; rfl)
 clear hD hd hX hk hfit hfit2 hsz hn hB hm
 go_enter Tryz.func124,Tryz.ntmps124
 go_wp2_with fail
 refine HA.out.mono ?_
 rintro e w' ⟨rfl,rfl⟩
 go_wp2_with fail
 refine HM.out.mono ?_
 rintro e w' ⟨rfl,rfl⟩
 go_wp2_with fail
 rw [HX.out]
 refine HF.out.mono ?_
 intro e w9 h9
 obtain ⟨ok,rfl⟩ : ∃ ok,e = .returned (.bool ok):=by
  rcases h9.2 with ⟨_,_,_,he,_⟩ | ⟨he,_⟩
  ·exact ⟨_,he⟩
  ·exact ⟨_,he⟩
 obtain ⟨hb,hr⟩:=HEND.out ok w9 h9
 clear h9
 rcases hr with ⟨rfl,m,bs,bv,hf,hp⟩ | ⟨rfl,hf⟩
 ·have HR : Hid (OpPost w B p fr sz D (.returned (.tuple #[.pointer (some ⟨w.heap.size,0,none⟩),.int .i64 0])) w9):=hJQ ⟨hb,.inl ⟨_,m,bs,bv,rfl,hf,hp,Nat.le_refl _⟩⟩
  clear hb hf hp
  go_wp2_with fail
  go_ret2
  exact HR.out
 ·have HR : Hid (OpPost w B p fr sz D (.returned (.tuple #[.pointer none,.int .i64 50])) w9):=hJQ ⟨hb,.inr ⟨rfl,hf⟩⟩
  clear hb hf
  go_wp2_with fail
  go_ret2
  exact HR.out
open Go.ChangeShapes Go.WideShapes Go.ChangeAt Go.RowKit

def SReads (w : World) (A : Option Addr) (len : Nat) (l : List (List Int)) : Prop :=
 l.length = len /\ (0 < len -> ∃ b off,A = some ⟨b,off,none⟩ /\ ∀ i,i < len -> w.cell? ⟨b,off + i,none⟩ = some (.string (strOfNums (l.getD i [])))) /\ ∀ s ∈ l,Bys s
theorem SReads.kept {w w' : World} {A : Option Addr} {len : Nat} {l : List (List Int)} (h : SReads w A len l) (hb : Below w.heap.size w w') : SReads w' A len l:=by
 refine ⟨h.1,fun hl => ?_,h.2.2⟩
 obtain ⟨b,off,e,hc⟩:=h.2.1 hl
 exact ⟨b,off,e,fun i hi => (hb.cell (p:=⟨b,off + i,none⟩) (cell_lt (hc i hi))).trans (hc i hi)⟩
theorem own_sreads {w : World} {base n : Nat} {v : Value} {l : List (List Int)} (h : w.ownsRow base 9 1 v n (strs l)) (hB : ∀ s ∈ l,Bys s) : ∃ A c,v = .slice A n c /\ SReads w A n l /\ n <= c /\ c <= maxLen:=by
 have hl : l.length = n:=by have:=h.1; rw [strs_length] at this; omega
 rcases h.2 with ⟨rfl,rfl⟩ | ⟨g,cap,cur,rfl,hbg,hg,hn,hc,hs,ht⟩
 ·exact ⟨none,0,rfl,⟨hl,fun h => absurd h (by omega),hB⟩,by omega,by unfold maxLen; omega⟩
 ·refine ⟨_,cap,rfl,⟨hl,fun _ => ⟨g,0,rfl,fun i hi => ?_⟩,hB⟩,hn,hc⟩
  rw [Nat.zero_add]
  refine own_cell h i _ ?_
  unfold strs
  rw [List.getElem?_map,List.getElem?_eq_getElem (by omega),getD_eq _ (by omega)]; rfl
def amissL (dead : Bool) (used : Nat) (l : List (List Int)) (sz : Nat) : Int:=if dead = true then 40 else if ∃ s ∈ l,4096 < s.length then 52 else if sz * 64 < used + need l then 51 else 0
set_option maxHeartbeats 1000000 in
theorem amissl_any (B : Bz) (q p used : Nat) (G : Lg) (bv : Value) (D : Dk) (A : Option Addr) (len cap : Nat) (l : List (List Int)) (w : World) (hD : PDisk w B p D) (h : LCells w q p G bv) (hS : SReads w A len l) (hs : G.sz <= 65536) (hu : used <= 4194304) (hl : len <= 100000) (hz : ∀ s ∈ l,s.length <= 9223372036854775807) :
  Calls Tryz.prog 166 #[.pointer (some ⟨q,0,none⟩),.int .i64 (used : Int),.slice A len cap] w fun e w' => e = .returned (.int .i64 (amissL D.dead used l G.sz)) /\ w = w':=by
 have HA:=hJQ (dead_any B p D w hD)
 have HM:=hJQ (most_any q p G bv w h hs)
 have c0:=h.c0
 obtain ⟨dd,hdd⟩ : ∃ dd,dd = D.dead:=⟨_,rfl⟩
 rw [<- hdd] at HA ⊢
 have HS:=hJQ hS
 have HZ:=hJQ hz
 have HL:=hJQ hS.1
 clear hD h hdd hS hz
 cases dd with
 | true =>
  go_enter Tryz.func166,Tryz.ntmps166
  go_wp2_with fail
  refine HA.out.mono ?_
  rintro e w' ⟨rfl,rfl⟩
  go_wp2_with fail
  go_ret
  exact ⟨rfl,rfl⟩
 | false =>
  obtain ⟨a,ha⟩ : ∃ a,a = amissL false used l G.sz:=⟨_,rfl⟩
  rw [<- ha]
  have HAM:=hJQ ha
  clear ha
  go_enter Tryz.func166,Tryz.ntmps166
  go_wp2_with fail
  refine HA.out.mono ?_
  rintro e w' ⟨rfl,rfl⟩
  go_wp2_with fail
  go_loop [1,8,16] (fun vu _ vk => ∃ k t : Nat,k <= len /\ vk = .int .i64 k /\ t = used + need (l.take k) /\ vu = .int .i64 (t : Int) /\ ∀ s ∈ l.take k,s.length <= 4096) (fun _ _ vk => len - (intOf vk).toNat)
  case atStart => exact ⟨0,used,Nat.zero_le _,rfl,by simp [need],rfl,fun s hs => by simp at hs⟩
  case round =>
   obtain ⟨k,t,hk,rfl,ht,rfl,hsm⟩:=hrel
   have hnl:=need_le hsm
   have hkl : (l.take k).length <= k:=List.length_take_le _ _
   have htb : t <= 414194304:=by omega
   have HT:=hJQ ht
   have HSM:=hJQ hsm
   clear ht hsm hnl hkl
   by_cases hlt : k < len
   ·obtain ⟨b,off,rfl,hc⟩:=HS.out.2.1 (by omega)
    have hck:=hc k hlt
    obtain ⟨S,hS⟩ : ∃ S,S = strOfNums (l.getD k []):=⟨_,rfl⟩
    rw [<- hS] at hck
    have hmem : l.getD k [] ∈ l:=by rw [getD_eq _ (by rw [HL.out]; exact hlt)]; exact List.getElem_mem _
    have hsz : S.size = (l.getD k []).length:=by rw [hS,str_size]
    have hsb:=HZ.out _ hmem
    have HSZ:=hJQ hsz
    have HME:=hJQ hmem
    have hS1 : (S.size : Int) <= 9223372036854775807:=by omega
    have hNS:=need_take_succ l k (by rw [HL.out]; exact hlt)
    have HNS:=hJQ hNS
    have HTK : Hid (l.take (k + 1) = l.take k ++ [l.getD k []]):=hJQ (by rw [List.take_succ_eq_append_getElem (by rw [HL.out]; exact hlt),getD_eq _ (by rw [HL.out]; exact hlt)])
    have hk0 : (0 : Int) <= (k : Int):=by omega
    have hk1 : (k : Int) < (len : Int):=by omega
    clear hc hS hmem hsz hsb hNS
    by_cases hlong : 4096 < S.size
    ·have hl' : (4096 : Int) < (S.size : Int):=by omega
     have HR : Hid (a = 52):=hJQ (by rw [HAM.out]; unfold amissL; rw [if_neg (by decide),if_pos ⟨_,HME.out,by rw [<- HSZ.out]; exact hlong⟩])
     go_wp2_with fail
     go_ret
     exact ⟨ret_i HR.out.symm,rfl⟩
    ·have hl' : ¬ (4096 : Int) < (S.size : Int):=by omega
     have hl2 : (S.size : Int) <= 4096:=by omega
     have ht0 : (t : Int) <= 414194304:=by omega
     go_wp2_with fail
     go_round
     case rel => exact ⟨k + 1,t + (4 + S.size),by omega,by go_num,by rw [HNS.out,HT.out,HSZ.out]; omega,by go_num,fun s hs => by
      rw [HTK.out] at hs
      rcases List.mem_append.1 hs with hs | hs
      ·exact HSM.out s hs
      ·rcases List.mem_singleton.1 hs with rfl; rw [<- HSZ.out]; omega⟩
     case measure => simp [intOf]; omega
   ·obtain rfl : k = len:=by omega
    have HTL : Hid (l.take k = l):=hJQ (List.take_of_length_le (by rw [HL.out]; exact Nat.le_refl _))
    have hk1 : ¬ (k : Int) < (k : Int):=by omega
    have hno : ¬ ∃ s ∈ l,4096 < s.length:=by
     rintro ⟨s,hs,h⟩
     have:=HSM.out s (by rw [HTL.out]; exact hs)
     omega
    have HNO:=hJQ hno
    clear hno hk1
    by_cases hf : G.sz * 64 < t
    ·have hf' : (G.sz : Int) * 64 < (t : Int):=by omega
     have HR : Hid (a = 51):=hJQ (by rw [HAM.out]; unfold amissL; rw [if_neg (by decide),if_neg HNO.out,if_pos (by have:=HT.out; rw [HTL.out] at this; omega)])
     go_wp2_with fail
     refine HM.out.mono ?_
     rintro e w' ⟨rfl,rfl⟩
     go_wp2_with fail
     go_ret
     exact ⟨ret_i HR.out.symm,rfl⟩
    ·have hf' : ¬ (G.sz : Int) * 64 < (t : Int):=by omega
     have HR : Hid (a = 0):=hJQ (by rw [HAM.out]; unfold amissL; rw [if_neg (by decide),if_neg HNO.out,if_neg (by have:=HT.out; rw [HTL.out] at this; omega)])
     go_wp2_with fail
     refine HM.out.mono ?_
     rintro e w' ⟨rfl,rfl⟩
     go_wp2_with fail
     go_ret
     exact ⟨ret_i HR.out.symm,rfl⟩
def AlPost (w : World) (l : List (List Int)) (e : Ending) (w' : World) : Prop:=∃ v,e = .returned v /\ w'.ownsRow w.heap.size 9 1 v l.length (strs l) /\ Below w.heap.size w w'
theorem all_any (B : Bz) (q p : Nat) (G : Lg) (bv : Value) (D : Dk) (l : List (List Int)) (w : World) (h : PL w B q p G bv D) (hl : G.bs = enc l) (hk : Rok l) :
  Calls Tryz.prog 128 #[.pointer (some ⟨q,0,none⟩)] w (AlPost w l):=by
 obtain ⟨A,c,rfl,hR,hc,-⟩:=own_reads h.row h.gok.bys
 have c14:=h.cells.c14
 have HRC:=hJQ (recs_any A G.bs.length c G.bs w hR hc (by have:=h.gok.small.2.2.1; omega))
 have HL:=hJQ hl
 have HK:=hJQ hk
 clear h hl hk hR
 go_enter Tryz.func128,Tryz.ntmps128
 go_wp2_with fail
 refine HRC.out.mono ?_
 rintro e w2 ⟨v,l',r,rfl,hr,hg,ho,hb⟩
 rw [HL.out] at hr
 obtain ⟨rfl,-⟩:=rc_of_enc HK.out hr hg
 have HE : Hid (AlPost w l' (.returned v) w2):=hJQ ⟨v,rfl,ho,hb⟩
 clear hr hg ho hb
 go_wp2_with fail
 go_ret
 exact HE.out
end Go.Proofs.YtlppinfjdnhlbaaGreatDoor.Gq
