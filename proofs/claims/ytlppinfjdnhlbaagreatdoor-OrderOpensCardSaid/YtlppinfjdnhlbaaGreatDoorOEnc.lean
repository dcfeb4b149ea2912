/-
 What Encode returns. Conditions: memory holds the entries; numbers fit.
-/
import Derived.Test.YtlppinfjdnhlbaaGreatDoorHd
import Derived.Test.YtlppinfjdnhlbaaGreatDoorOIs
import Derived.Test.YtlppinfjdnhlbaaGreatDoorOToE
namespace Go.Proofs.YtlppinfjdnhlbaaGreatDoor
set_option maxRecDepth 100000
open Go.ChangeShapes Go.WideShapes Go.ChangeAt Go.RowKit Go.Proofs.Rk
open Pq (Fld FReads Reads fcs ams errL bytL sm dc Sm Bys byts)

def EcPost (w : World) (m : Ms) (e : Ending) (w' : World) : Prop:=e = .returned (if msB m then .tuple #[.string (strOfNums (enM m)),.int .i64 0] else .tuple #[.string ⟨#[]⟩,.int .i64 130]) /\ Below w.heap.size w w'
theorem fcs_append (a b : List Fld) : fcs (a ++ b) = fcs a ++ fcs b:=by simp [fcs]
theorem enF_len (l : List En) : (l.flatMap enF).length = l.length * 3:=by
 induction l with
 | nil => rfl
 | cons x l ih => rw [List.flatMap_cons,List.length_append,ih]; show 3 + _ = (l.length + 1) * 3; omega
theorem fcs_one (l : List Fld) : ∀ u ∈ fcs l,u.oneCell' = true:=fun u hu => by
 obtain ⟨x,_,hx⟩:=List.mem_flatMap.1 (show u ∈ l.flatMap _ from hu)
 simp only [List.mem_cons,List.not_mem_nil,or_false] at hx
 rcases hx with rfl | rfl | rfl <;> rfl
set_option maxHeartbeats 4000000 in
theorem encode_any {w : World} {A : Option Addr} {N c : Nat} {l : List En} (h : Rd ecell 3 w A N l) (hA : A = none -> c = 0) (hn : N <= 4000000000) (hi : In64 l) (k v m n : Int) (h63 : n <= 9223372036854775807) :
  Calls Tryz.prog 28 #[.agg #[.int .i64 k,.int .i64 v,.int .i64 m,.int .i64 n,.slice A N c]] w (EcPost w ⟨k,v,m,n,l⟩):=by
 obtain ⟨w1,hw1⟩ : ∃ xx,xx = w.alloc (.cells #[.int .i64 k,.int .i64 v,.int .i64 m,.int .i64 n,.slice A N c] 69):=⟨_,rfl⟩
 obtain ⟨q,eq⟩ : ∃ xx,xx = w.heap.size:=⟨_,rfl⟩
 have hbw1 : Below w.heap.size w w1:=by rw [hw1]; exact box_below w _
 have hkq : w1.heap[q]? = some (.cells #[.int .i64 k,.int .i64 v,.int .i64 m,.int .i64 n,.slice A N c] 69 (0,0)):=by rw [hw1,eq]; exact new_block w _
 have HI:=hJQ (ismsg_any (h.below hbw1) hA hn hi k v m n h63)
 have HR:=hJQ (h.below hbw1)
 have HL:=hJQ h.len
 have HB1:=hJQ hbw1
 have HW1:=hJQ hw1
 have EQ:=hJQ eq
 have HQ:=hJQ hkq
 have q0:=cell_of hkq (j:=0) rfl
 have q1:=cell_of hkq (j:=1) rfl
 have q2:=cell_of hkq (j:=2) rfl
 have q3:=cell_of hkq (j:=3) rfl
 have q4:=cell_of hkq (j:=4) rfl
 have HMR:=hJQ (fun (hh : MsOk ⟨k,v,m,n,l⟩) => ms_rows hh)
 have HME:=hJQ (fun (hh : MsOk ⟨k,v,m,n,l⟩) => ms_err hh)
 obtain ⟨R,hR⟩ : ∃ R,msB ⟨k,v,m,n,l⟩ = R:=⟨_,rfl⟩
 unfold EcPost
 rw [hR] at HI ⊢
 have HRR:=hJQ hR
 clear h hA hi hw1 eq hkq hbw1 hR
 cases R with
 | false =>
  go_enter Tryz.func28,Tryz.ntmps28
  go_upto_region 1 with fail
  rw [<- HW1.out,<- EQ.out]
  go_wp2_with fail
  refine HI.out.mono ?_
  rintro e w2 ⟨rfl,hb2⟩
  have HB2 : Hid (Below w.heap.size w w2):=hJQ (HB1.out.trans (hb2.mono HB1.out.size))
  clear hb2
  go_wp2_with fail
  go_ret2
  exact ⟨rfl,HB2.out⟩
 | true =>
  have hok : MsOk ⟨k,v,m,n,l⟩:=by
   have:=HRR.out
   unfold msB at this
   simpa using this
  have hN150 : N <= 150:=by have:=(HMR.out hok).2.1; have:=HL.out; simp only at *; omega
  have HER:=hJQ (HME.out hok)
  obtain ⟨i0,hi,hz0,hz1,hz2⟩:=info_parts infoF
  clear hok
  go_enter Tryz.func28,Tryz.ntmps28
  go_upto_region 1 with fail
  rw [<- HW1.out,<- EQ.out]
  go_wp2_with fail
  refine HI.out.mono ?_
  rintro e w2 ⟨rfl,hb2⟩
  have HB2:=hJQ hb2
  have hq2:=blk_below HQ.out hb2
  clear hb2 q0 q1 q2 q3 q4
  have q0:=cell_of hq2 (j:=0) rfl
  have q1:=cell_of hq2 (j:=1) rfl
  have q2:=cell_of hq2 (j:=2) rfl
  have q3:=cell_of hq2 (j:=3) rfl
  have q4:=cell_of hq2 (j:=4) rfl
  clear hq2
  go_wp2_with fail
  refine (ofmsg_any k v m n A N c w2).mono ?_
  rintro e w3 ⟨b3,rfl,hk3,hg3,hb3⟩
  have HB3 : Hid (Below w1.heap.size w1 w3):=hJQ (HB2.out.trans (hb3.mono HB2.out.size))
  have HOW : Hid (w3.ownsRow w1.heap.size 135 3 (.slice (some ⟨b3,0,none⟩) 5 5) (hdM ⟨k,v,m,n,l⟩ ++ (l.take 0).flatMap enF).length (fcs (hdM ⟨k,v,m,n,l⟩ ++ (l.take 0).flatMap enF))):=hJQ (by
   have h:=own_new (n:=5) (sz:=3) hk3 (Nat.le_trans HB2.out.size hg3) (by unfold maxLen; omega) rfl
   rw [<- HL.out] at h
   exact h)
  have hq3:=blk_below HQ.out HB3.out
  clear hb3 hk3 hg3 q0 q1 q2 q3 q4
  have q0:=cell_of hq3 (j:=0) rfl
  have q1:=cell_of hq3 (j:=1) rfl
  have q2:=cell_of hq3 (j:=2) rfl
  have q3:=cell_of hq3 (j:=3) rfl
  have q4:=cell_of hq3 (j:=4) rfl
  clear hq3
  go_wp2_with fail
  clear q0 q1 q2 q3 q4
  go_loopw [4,15] (fun u i wr => ∃ j : Nat,j <= N /\ i = .int .i64 j /\ Hid (wr.ownsRow w1.heap.size 135 3 u (hdM ⟨k,v,m,n,l⟩ ++ (l.take j).flatMap enF).length (fcs (hdM ⟨k,v,m,n,l⟩ ++ (l.take j).flatMap enF))) /\ Hid (Below w1.heap.size w1 wr)) (fun _ i _ => N - (intOf i).toNat)
  case atStart => exact ⟨0,Nat.zero_le _,rfl,HOW,HB3⟩
  case round =>
   obtain ⟨j,hj,rfl,HOJ,HX⟩:=hrel
   by_cases hlt : j < N
   ·obtain ⟨b0,off,x,hAx,hx,hcc⟩:=(HR.out.below HX.out).at hlt
    subst hAx
    have c0 : wr.cell? ⟨b0,off + j * 3,none⟩ = some (.int .i64 x.v):=hcc 0 _ rfl
    have c1 : wr.cell? ⟨b0,off + j * 3 + 1,none⟩ = some (.int .i64 x.n):=hcc 1 _ rfl
    have c2 : wr.cell? ⟨b0,off + j * 3 + 2,none⟩ = some (.string x.b):=hcc 2 _ rfl
    have hjl : j < l.length:=by rw [HL.out]; exact hlt
    have HTK : Hid (hdM ⟨k,v,m,n,l⟩ ++ (l.take (j + 1)).flatMap enF = (hdM ⟨k,v,m,n,l⟩ ++ (l.take j).flatMap enF) ++ enF x):=hJQ (by
     have e : l[j] = x:=by rw [List.getElem?_eq_getElem hjl] at hx; injection hx
     rw [List.take_succ_eq_append_getElem hjl,e,List.flatMap_append,List.append_assoc]
     simp)
    obtain ⟨w4,hw4⟩ : ∃ xx,xx = wr.alloc (.cells #[.int .i64 x.v,.int .i64 x.n,.string x.b] 45):=⟨_,rfl⟩
    obtain ⟨r,er⟩ : ∃ xx,xx = wr.heap.size:=⟨_,rfl⟩
    have hbw4 : Below wr.heap.size wr w4:=by rw [hw4]; exact box_below wr _
    have hkr : w4.heap[r]? = some (.cells #[.int .i64 x.v,.int .i64 x.n,.string x.b] 45 (0,0)):=by rw [hw4,er]; exact new_block wr _
    have HX4:=hJQ (HX.out.trans (hbw4.mono HX.out.size))
    have HO4:=hJQ (own_below HOJ.out hbw4)
    have r0:=cell_of hkr (j:=0) rfl
    have r1:=cell_of hkr (j:=1) rfl
    have r2:=cell_of hkr (j:=2) rfl
    have HW4:=hJQ hw4
    have ER:=hJQ er
    have hj0 : (0 : Int) <= (j : Int):=by omega
    have hji : (j : Int) < (N : Int):=by omega
    have hwj : IntKind.i64.wrap ((j : Int) + 1) = (j : Int) + 1:=by rw [IntKind.wrap_i64]; omega
    obtain ⟨M,hM⟩ : ∃ M,(hdM ⟨k,v,m,n,l⟩ ++ (l.take j).flatMap enF).length = M:=⟨_,rfl⟩
    obtain ⟨G,hG⟩ : ∃ G,hdM ⟨k,v,m,n,l⟩ ++ (l.take j).flatMap enF = G:=⟨_,rfl⟩
    have hM5 : M <= 500:=by
     rw [<- hM,List.length_append,enF_len,List.length_take]
     show 5 + _ <= 500
     omega
    rw [hM] at HO4
    rw [hG] at HO4 HTK hM
    have HM:=hJQ hM
    obtain ⟨A3,e3,rfl,-,-,-⟩:=own_form HO4.out
    clear hx hcc hw4 er hkr hbw4 hM hG
    go_upto_region 7 with fail
    rw [<- HW4.out,<- ER.out]
    clear c0 c1 c2
    go_wp2_with fail
    refine (ofentry_any x w4).mono ?_
    rintro e w5 ⟨b5,rfl,hk5,hg5,hb5⟩
    have HX5 : Hid (Below w1.heap.size w1 w5):=hJQ (HX4.out.trans (hb5.mono HX4.out.size))
    have HO5:=hJQ (own_below HO4.out hb5)
    have hsz5:=HX5.out.size
    clear hb5 hg5 r0 r1 r2
    go_wp2_with (at_builtin; refine wpList_append_lies w5 rfl (.tmp 19) (.tmp 21) 129 rfl w1.heap.size 135 i0 (.agg #[.int .i64 0,.int .i64 0,.string ⟨#[]⟩]) 3 32 Tryz.underlying129 hi hz0 hz1 hz2 rfl (by decide) (.slice A3 M e3) M (fcs G) rfl HO5.out ⟨b5,0,none⟩ 3 3 (fcs (enF x)) rfl rfl (World.news_of_block hk5) (fcs_one _) (by decide) (by unfold maxLen; omega) (by omega) hsz5 _ rfl ?_; intro g6 cap6 w6 hown6 hgrow6 hat6 hlt6; have HO6:=hJQ hown6; have HX6 : Hid (Below w1.heap.size w1 w6):=hJQ (HX5.out.trans (gb_own HO5.out hgrow6 (Nat.le_refl _) hsz5)); clear hown6 hgrow6 hat6 hlt6 hk5)
    go_roundw
    case rel => exact ⟨j + 1,hlt,by go_num,by rw [HTK.out,fcs_append,List.length_append,HM.out]; exact HO6,HX6⟩
    case measure => simp [intOf]; omega
   ·obtain rfl : j = N:=by omega
    have hji : ¬ (j : Int) < (j : Int):=by omega
    have ho:=HOJ.out
    have HLL : Hid (l.length = j):=HL
    have hfl : hdM ⟨k,v,m,n,l⟩ ++ (l.take j).flatMap enF = fldM ⟨k,v,m,n,l⟩:=by rw [List.take_of_length_le (Nat.le_of_eq HLL.out)]; rfl
    rw [hfl] at ho
    obtain ⟨A9,c9,e9,hf9,_⟩:=Pq.fields_own_c ho
    subst e9
    have hfm : (fldM ⟨k,v,m,n,l⟩).length <= 500:=by
     rw [<- hfl,List.length_append,enF_len,List.length_take]
     show 5 + _ <= 500
     omega
    obtain ⟨M,hM⟩ : ∃ M,(hdM ⟨k,v,m,n,l⟩ ++ (l.take j).flatMap enF).length = M:=⟨_,rfl⟩
    have hM2 : (fldM ⟨k,v,m,n,l⟩).length = M:=by rw [<- hfl]; exact hM
    rw [hM2] at hf9
    have HRE:=hJQ (record_any (c:=c9) hf9 (by omega) HER.out)
    try rw [hM2]
    clear ho hf9 hfl hfm
    go_wp2_with fail
    refine HRE.out.mono ?_
    rintro e w9 ⟨rfl,hb9⟩
    have HB9 : Hid (Below w.heap.size w w9):=hJQ (HB1.out.trans ((HX.out.trans (hb9.mono HX.out.size)).mono HB1.out.size))
    clear hb9
    go_wp2_with fail
    go_ret2
    exact ⟨rfl,HB9.out⟩
end Go.Proofs.YtlppinfjdnhlbaaGreatDoor
