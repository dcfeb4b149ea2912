/-
 What the functions that make one field return. No condition.
 What ofMessage,ofEntry,ofViews and record return. Condition: nothing is amiss with the fields.
 What toEntry returns of three fields. Condition: memory holds them.
-/
import Derived.Test.YtlppinfjdnhlbaaGreatDoorHd
import Derived.Test.YtlppinfjdnhlbaaGreatDoorKRight2
import Derived.Test.YtlppinfjdnhlbaaGreatDoorOMath
import Derived.Test.YtlppinfjdnhlbaaGreatDoorQRSome
namespace Go.Proofs.YtlppinfjdnhlbaaGreatDoor
set_option maxRecDepth 100000
open Go.ChangeShapes Go.WideShapes Go.ChangeAt Go.RowKit Go.Proofs.Rk
open Pq (Fld FReads Reads fcs ams errL bytL sm dc Sm Bys byts)

theorem infoF : (Tryz.prog.info? 135).map (fun i => (i.zero,i.size,i.bytes)) = some (some (.agg #[.int .i64 0,.int .i64 0,.string ⟨#[]⟩]),3,32):=by kernel_rfl
def FPost (w : World) (f : Fld) (e : Ending) (w' : World) : Prop:=e = .returned (.agg #[.int .i64 f.k,.int .i64 f.n,.string f.s]) /\ Below w.heap.size w w'
theorem res_field {fn : Func} {p : Tmp} (h : fn.results = #[.cell p 135]) (tmps : Array Value) (w : World) (b : Nat) (x y : Int) (s : ByteArray) (hp : tmps.getD p undef = .pointer (some ⟨b,0,none⟩))
  (h4 : w.heap[b]? = some (.cells #[.int .i64 x,.int .i64 y,.string s] 135 (0,0))) :
  (results fn tmps).run Tryz.prog w = .ok (.agg #[.int .i64 x,.int .i64 y,.string s]) w:=by
 have hp' : tmps[p]?.getD undef = .pointer (some ⟨b,0,none⟩):=by simpa using hp
 have c0:=cell_of h4 (j:=0) rfl
 have c1:=cell_of h4 (j:=1) rfl
 have c2:=cell_of h4 (j:=2) rfl
 simp [results,h,hp',asAddr,go_sem,c0,c1,c2]
theorem small_any (n : Int) (w : World) : Calls Tryz.prog 114 #[.int .i64 n] w (FPost w ⟨1,n,⟨#[]⟩⟩):=by
 obtain ⟨w2,hw2⟩ : ∃ xx,xx = w.alloc (.cells #[.int .i64 0,.int .i64 0,.string ⟨#[]⟩] 135):=⟨_,rfl⟩
 obtain ⟨q,eq⟩ : ∃ xx,xx = w.heap.size:=⟨_,rfl⟩
 have hbw2 : Below w.heap.size w w2:=by rw [hw2]; exact box_below w _
 have hkq : w2.heap[q]? = some (.cells #[.int .i64 0,.int .i64 0,.string ⟨#[]⟩] 135 (0,0)):=by rw [hw2,eq]; exact new_block w _
 have q0:=cell_of hkq (j:=0) rfl
 have q1:=cell_of hkq (j:=1) rfl
 have q2:=cell_of hkq (j:=2) rfl
 have f0:=frozen_of_row w2 q 0 _ _ hkq
 have f1:=frozen_of_row w2 q 1 _ _ hkq
 have f2:=frozen_of_row w2 q 2 _ _ hkq
 obtain ⟨w4,hw4⟩ : ∃ xx,xx = (((w2.setCell ⟨q,0,none⟩ (.int .i64 1)).setCell ⟨q,1,none⟩ (.int .i64 n)).setCell ⟨q,2,none⟩ (.string ⟨#[]⟩)):=⟨_,rfl⟩
 obtain ⟨hwrw4,hkw4⟩:=setl3 hkq (.int .i64 1) (.int .i64 n) (.string ⟨#[]⟩)
 rw [<- hw4] at hwrw4 hkw4
 have HB4 : Hid (Below w.heap.size w w4):=hJQ (hbw2.trans (gb_to hwrw4.gb (Nat.le_of_eq eq.symm) hbw2.size))
 have H4:=hJQ hkw4
 have HW2:=hJQ hw2
 have HW4:=hJQ hw4
 have EQ:=hJQ eq
 clear hw2 hw4 eq hbw2 hkq hkw4 hwrw4
 go_enter Tryz.func114,Tryz.ntmps114
 go_upto_region 1 with fail
 rw [<- HW2.out,<- EQ.out]
 go_wp2_with fail
 rw [<- HW4.out]
 exact bodyPost_ret (res_field Tryz.results114 _ _ q _ _ _ (by simp) H4.out) rfl ⟨rfl,HB4.out⟩
theorem whole_any (n : Int) (w : World) : Calls Tryz.prog 115 #[.int .i64 n] w (FPost w ⟨2,n,⟨#[]⟩⟩):=by
 obtain ⟨w2,hw2⟩ : ∃ xx,xx = w.alloc (.cells #[.int .i64 0,.int .i64 0,.string ⟨#[]⟩] 135):=⟨_,rfl⟩
 obtain ⟨q,eq⟩ : ∃ xx,xx = w.heap.size:=⟨_,rfl⟩
 have hbw2 : Below w.heap.size w w2:=by rw [hw2]; exact box_below w _
 have hkq : w2.heap[q]? = some (.cells #[.int .i64 0,.int .i64 0,.string ⟨#[]⟩] 135 (0,0)):=by rw [hw2,eq]; exact new_block w _
 have q0:=cell_of hkq (j:=0) rfl
 have q1:=cell_of hkq (j:=1) rfl
 have q2:=cell_of hkq (j:=2) rfl
 have f0:=frozen_of_row w2 q 0 _ _ hkq
 have f1:=frozen_of_row w2 q 1 _ _ hkq
 have f2:=frozen_of_row w2 q 2 _ _ hkq
 obtain ⟨w4,hw4⟩ : ∃ xx,xx = (((w2.setCell ⟨q,0,none⟩ (.int .i64 2)).setCell ⟨q,1,none⟩ (.int .i64 n)).setCell ⟨q,2,none⟩ (.string ⟨#[]⟩)):=⟨_,rfl⟩
 obtain ⟨hwrw4,hkw4⟩:=setl3 hkq (.int .i64 2) (.int .i64 n) (.string ⟨#[]⟩)
 rw [<- hw4] at hwrw4 hkw4
 have HB4 : Hid (Below w.heap.size w w4):=hJQ (hbw2.trans (gb_to hwrw4.gb (Nat.le_of_eq eq.symm) hbw2.size))
 have H4:=hJQ hkw4
 have HW2:=hJQ hw2
 have HW4:=hJQ hw4
 have EQ:=hJQ eq
 clear hw2 hw4 eq hbw2 hkq hkw4 hwrw4
 go_enter Tryz.func115,Tryz.ntmps115
 go_upto_region 1 with fail
 rw [<- HW2.out,<- EQ.out]
 go_wp2_with fail
 rw [<- HW4.out]
 exact bodyPost_ret (res_field Tryz.results115 _ _ q _ _ _ (by simp) H4.out) rfl ⟨rfl,HB4.out⟩
open Go.ChangeShapes Go.WideShapes Go.ChangeAt Go.RowKit Go.Proofs.Rk
open Pq (Fld FReads Reads fcs ams errL bytL sm dc Sm Bys byts)

theorem fcs_length (l : List Fld) : (fcs l).length = l.length * 3:=Pq.fcs_length l
def OfPost (w : World) (l : List Fld) (e : Ending) (w' : World) : Prop:=∃ b,e = .returned (.slice (some ⟨b,0,none⟩) l.length l.length) /\ w'.heap[b]? = some (.cells (fcs l).toArray 135 (0,0)) /\ w.heap.size <= b /\ Below w.heap.size w w'
def vwF (p n : Int) : List Fld:=[⟨2,p,⟨#[]⟩⟩,⟨2,n,⟨#[]⟩⟩]
set_option maxHeartbeats 8000000 in
theorem ofmsg_any (k v m n : Int) (A : Option Addr) (N c : Nat) (w : World) : Calls Tryz.prog 66 #[.agg #[.int .i64 k,.int .i64 v,.int .i64 m,.int .i64 n,.slice A N c]] w (OfPost w ([⟨1,k,⟨#[]⟩⟩,⟨2,v,⟨#[]⟩⟩,⟨2,m,⟨#[]⟩⟩,⟨2,n,⟨#[]⟩⟩,⟨1,(N : Int),⟨#[]⟩⟩])):=by
 obtain ⟨w1,hw1⟩ : ∃ xx,xx = w.alloc (.cells #[.int .i64 k,.int .i64 v,.int .i64 m,.int .i64 n,.slice A N c] 69):=⟨_,rfl⟩
 obtain ⟨q,eq⟩ : ∃ xx,xx = w.heap.size:=⟨_,rfl⟩
 have hbw1 : Below w.heap.size w w1:=by rw [hw1]; exact box_below w _
 have hkq : w1.heap[q]? = some (.cells #[.int .i64 k,.int .i64 v,.int .i64 m,.int .i64 n,.slice A N c] 69 (0,0)):=by rw [hw1,eq]; exact new_block w _
 have hb1:=hbw1
 have hq:=hkq
 have HS : Hid (∀ W,Below w1.heap.size w1 W -> W.cell? ⟨q,0,none⟩ = some (.int .i64 k) /\ W.cell? ⟨q,1,none⟩ = some (.int .i64 v) /\ W.cell? ⟨q,2,none⟩ = some (.int .i64 m) /\ W.cell? ⟨q,3,none⟩ = some (.int .i64 n) /\ W.cell? ⟨q,4,none⟩ = some (.slice A N c) /\ Below w1.heap.size w1 W):=hJQ (fun W hW => by
  have h:=blk_below hq hW
  exact ⟨cell_of h (j:=0) rfl,cell_of h (j:=1) rfl,cell_of h (j:=2) rfl,cell_of h (j:=3) rfl,cell_of h (j:=4) rfl,hW⟩)
 obtain ⟨q0,q1,q2,q3,q4,-⟩:=HS.out w1 (Below.refl _ _)
 have HSA : Hid (∀ W o,(W.cell? ⟨q,0,none⟩ = some (.int .i64 k) /\ W.cell? ⟨q,1,none⟩ = some (.int .i64 v) /\ W.cell? ⟨q,2,none⟩ = some (.int .i64 m) /\ W.cell? ⟨q,3,none⟩ = some (.int .i64 n) /\ W.cell? ⟨q,4,none⟩ = some (.slice A N c) /\ Below w1.heap.size w1 W) -> (W.alloc o).cell? ⟨q,0,none⟩ = some (.int .i64 k) /\ (W.alloc o).cell? ⟨q,1,none⟩ = some (.int .i64 v) /\ (W.alloc o).cell? ⟨q,2,none⟩ = some (.int .i64 m) /\ (W.alloc o).cell? ⟨q,3,none⟩ = some (.int .i64 n) /\ (W.alloc o).cell? ⟨q,4,none⟩ = some (.slice A N c) /\ Below w1.heap.size w1 (W.alloc o)):=hJQ (fun W o hS => by
  obtain ⟨-,-,-,-,-,hW⟩:=hS
  exact HS.out _ (hW.trans ((box_below W o).mono hW.size)))
 have HC1 : Hid (∀ (z : Int) W,(W.cell? ⟨q,0,none⟩ = some (.int .i64 k) /\ W.cell? ⟨q,1,none⟩ = some (.int .i64 v) /\ W.cell? ⟨q,2,none⟩ = some (.int .i64 m) /\ W.cell? ⟨q,3,none⟩ = some (.int .i64 n) /\ W.cell? ⟨q,4,none⟩ = some (.slice A N c) /\ Below w1.heap.size w1 W) -> Calls Tryz.prog 114 #[.int .i64 z] W fun e w' => e = .returned (.agg #[.int .i64 1,.int .i64 z,.string ⟨#[]⟩]) /\ (w'.cell? ⟨q,0,none⟩ = some (.int .i64 k) /\ w'.cell? ⟨q,1,none⟩ = some (.int .i64 v) /\ w'.cell? ⟨q,2,none⟩ = some (.int .i64 m) /\ w'.cell? ⟨q,3,none⟩ = some (.int .i64 n) /\ w'.cell? ⟨q,4,none⟩ = some (.slice A N c) /\ Below w1.heap.size w1 w')):=hJQ (fun z W hS => by
  obtain ⟨-,-,-,-,-,hW⟩:=hS
  refine (small_any z W).mono ?_
  rintro e w' ⟨rfl,hb⟩
  exact ⟨rfl,HS.out _ (hW.trans (hb.mono hW.size))⟩)
 have HC2 : Hid (∀ (z : Int) W,(W.cell? ⟨q,0,none⟩ = some (.int .i64 k) /\ W.cell? ⟨q,1,none⟩ = some (.int .i64 v) /\ W.cell? ⟨q,2,none⟩ = some (.int .i64 m) /\ W.cell? ⟨q,3,none⟩ = some (.int .i64 n) /\ W.cell? ⟨q,4,none⟩ = some (.slice A N c) /\ Below w1.heap.size w1 W) -> Calls Tryz.prog 115 #[.int .i64 z] W fun e w' => e = .returned (.agg #[.int .i64 2,.int .i64 z,.string ⟨#[]⟩]) /\ (w'.cell? ⟨q,0,none⟩ = some (.int .i64 k) /\ w'.cell? ⟨q,1,none⟩ = some (.int .i64 v) /\ w'.cell? ⟨q,2,none⟩ = some (.int .i64 m) /\ w'.cell? ⟨q,3,none⟩ = some (.int .i64 n) /\ w'.cell? ⟨q,4,none⟩ = some (.slice A N c) /\ Below w1.heap.size w1 w')):=hJQ (fun z W hS => by
  obtain ⟨-,-,-,-,-,hW⟩:=hS
  refine (whole_any z W).mono ?_
  rintro e w' ⟨rfl,hb⟩
  exact ⟨rfl,HS.out _ (hW.trans (hb.mono hW.size))⟩)
 have HW1:=hJQ hw1
 have EQ:=hJQ eq
 have HB1:=hJQ hb1
 clear hw1 eq hq hkq hbw1 hb1 
 go_enter Tryz.func66,Tryz.ntmps66
 go_upto_region 1 with fail
 rw [<- HW1.out,<- EQ.out]
 go_region_held3 (fun W => W.cell? ⟨q,0,none⟩ = some (.int .i64 k) /\ W.cell? ⟨q,1,none⟩ = some (.int .i64 v) /\ W.cell? ⟨q,2,none⟩ = some (.int .i64 m) /\ W.cell? ⟨q,3,none⟩ = some (.int .i64 n) /\ W.cell? ⟨q,4,none⟩ = some (.slice A N c) /\ Below w1.heap.size w1 W)
  (first
   | exact HS.out _ (Below.refl _ _).drew
   | (with_reducible assumption)
   | (with_reducible exact HSA.out _ _ (by with_reducible assumption)))
  (first
   | (go_at_call 114; (with_reducible refine (HC1.out _ _ (by with_reducible assumption)).mono ?_); rintro e w3 ⟨rfl,hS3⟩)
   | (go_at_call 115; (with_reducible refine (HC2.out _ _ (by with_reducible assumption)).mono ?_); rintro e w3 ⟨rfl,hS3⟩))
 obtain ⟨-,-,-,-,-,hW3⟩:=hS3
 have HE : Hid (OfPost w ([⟨1,k,⟨#[]⟩⟩,⟨2,v,⟨#[]⟩⟩,⟨2,m,⟨#[]⟩⟩,⟨2,n,⟨#[]⟩⟩,⟨1,(N : Int),⟨#[]⟩⟩]) (.returned (.slice (some ⟨w3.heap.size,0,none⟩) 5 5)) (w3.alloc (.cells (fcs ([⟨1,k,⟨#[]⟩⟩,⟨2,v,⟨#[]⟩⟩,⟨2,m,⟨#[]⟩⟩,⟨2,n,⟨#[]⟩⟩,⟨1,(N : Int),⟨#[]⟩⟩])).toArray 135))):=hJQ
  ⟨_,rfl,new_block w3 _,Nat.le_trans HB1.out.size hW3.size,HB1.out.trans ((hW3.trans ((box_below w3 _).mono hW3.size)).mono HB1.out.size)⟩
 clear hW3
 go_wp2_with fail
 go_ret
 exact HE.out
set_option maxHeartbeats 8000000 in
theorem ofentry_any (x : En) (w : World) : Calls Tryz.prog 67 #[.agg #[.int .i64 x.v,.int .i64 x.n,.string x.b]] w (OfPost w (enF x)):=by
 obtain ⟨w1,hw1⟩ : ∃ xx,xx = w.alloc (.cells #[.int .i64 x.v,.int .i64 x.n,.string x.b] 45):=⟨_,rfl⟩
 obtain ⟨q,eq⟩ : ∃ xx,xx = w.heap.size:=⟨_,rfl⟩
 have hbw1 : Below w.heap.size w w1:=by rw [hw1]; exact box_below w _
 have hkq : w1.heap[q]? = some (.cells #[.int .i64 x.v,.int .i64 x.n,.string x.b] 45 (0,0)):=by rw [hw1,eq]; exact new_block w _
 have hb1:=hbw1
 have hq:=hkq
 have HS : Hid (∀ W,Below w1.heap.size w1 W -> W.cell? ⟨q,0,none⟩ = some (.int .i64 x.v) /\ W.cell? ⟨q,1,none⟩ = some (.int .i64 x.n) /\ W.cell? ⟨q,2,none⟩ = some (.string x.b) /\ Below w1.heap.size w1 W):=hJQ (fun W hW => by
  have h:=blk_below hq hW
  exact ⟨cell_of h (j:=0) rfl,cell_of h (j:=1) rfl,cell_of h (j:=2) rfl,hW⟩)
 obtain ⟨q0,q1,q2,-⟩:=HS.out w1 (Below.refl _ _)
 have HSA : Hid (∀ W o,(W.cell? ⟨q,0,none⟩ = some (.int .i64 x.v) /\ W.cell? ⟨q,1,none⟩ = some (.int .i64 x.n) /\ W.cell? ⟨q,2,none⟩ = some (.string x.b) /\ Below w1.heap.size w1 W) -> (W.alloc o).cell? ⟨q,0,none⟩ = some (.int .i64 x.v) /\ (W.alloc o).cell? ⟨q,1,none⟩ = some (.int .i64 x.n) /\ (W.alloc o).cell? ⟨q,2,none⟩ = some (.string x.b) /\ Below w1.heap.size w1 (W.alloc o)):=hJQ (fun W o hS => by
  obtain ⟨-,-,-,hW⟩:=hS
  exact HS.out _ (hW.trans ((box_below W o).mono hW.size)))
 have HC2 : Hid (∀ (z : Int) W,(W.cell? ⟨q,0,none⟩ = some (.int .i64 x.v) /\ W.cell? ⟨q,1,none⟩ = some (.int .i64 x.n) /\ W.cell? ⟨q,2,none⟩ = some (.string x.b) /\ Below w1.heap.size w1 W) -> Calls Tryz.prog 115 #[.int .i64 z] W fun e w' => e = .returned (.agg #[.int .i64 2,.int .i64 z,.string ⟨#[]⟩]) /\ (w'.cell? ⟨q,0,none⟩ = some (.int .i64 x.v) /\ w'.cell? ⟨q,1,none⟩ = some (.int .i64 x.n) /\ w'.cell? ⟨q,2,none⟩ = some (.string x.b) /\ Below w1.heap.size w1 w')):=hJQ (fun z W hS => by
  obtain ⟨-,-,-,hW⟩:=hS
  refine (whole_any z W).mono ?_
  rintro e w' ⟨rfl,hb⟩
  exact ⟨rfl,HS.out _ (hW.trans (hb.mono hW.size))⟩)
 have HW1:=hJQ hw1
 have EQ:=hJQ eq
 have HB1:=hJQ hb1
 clear hw1 eq hq hkq hbw1 hb1 
 go_enter Tryz.func67,Tryz.ntmps67
 go_upto_region 1 with fail
 rw [<- HW1.out,<- EQ.out]
 go_region_held3 (fun W => W.cell? ⟨q,0,none⟩ = some (.int .i64 x.v) /\ W.cell? ⟨q,1,none⟩ = some (.int .i64 x.n) /\ W.cell? ⟨q,2,none⟩ = some (.string x.b) /\ Below w1.heap.size w1 W)
  (first
   | exact HS.out _ (Below.refl _ _).drew
   | (with_reducible assumption)
   | (with_reducible exact HSA.out _ _ (by with_reducible assumption)))
  (first
   | (go_at_call 115; (with_reducible refine (HC2.out _ _ (by with_reducible assumption)).mono ?_); rintro e w3 ⟨rfl,hS3⟩))
 obtain ⟨-,-,-,hW3⟩:=hS3
 have HE : Hid (OfPost w (enF x) (.returned (.slice (some ⟨w3.heap.size,0,none⟩) 3 3)) (w3.alloc (.cells (fcs (enF x)).toArray 135))):=hJQ
  ⟨_,rfl,new_block w3 _,Nat.le_trans HB1.out.size hW3.size,HB1.out.trans ((hW3.trans ((box_below w3 _).mono hW3.size)).mono HB1.out.size)⟩
 clear hW3
 go_wp2_with fail
 go_ret
 exact HE.out
theorem ofviews_any (p n : Int) (w : World) : Calls Tryz.prog 155 #[.int .i64 p,.int .i64 n] w (OfPost w (vwF p n)):=by
 go_enter Tryz.func155,Tryz.ntmps155
 go_wp2_with fail
 refine (whole_any p w).mono ?_
 rintro e w1 ⟨rfl,hb1⟩
 have HB1:=hJQ hb1
 clear hb1
 go_wp2_with fail
 refine (whole_any n w1).mono ?_
 rintro e w2 ⟨rfl,hb2⟩
 have HB2 : Hid (Below w.heap.size w w2):=hJQ (HB1.out.trans (hb2.mono HB1.out.size))
 have HE : Hid (OfPost w (vwF p n) (.returned (.slice (some ⟨w2.heap.size,0,none⟩) 2 2)) (w2.alloc (.cells (fcs (vwF p n)).toArray 135))):=hJQ
  ⟨_,rfl,new_block w2 _,HB2.out.size,HB2.out.trans ((box_below w2 _).mono HB2.out.size)⟩
 clear hb2
 go_wp2_with fail
 go_ret
 exact HE.out
theorem of_fields {w : World} {b : Nat} {l : List Fld} (hk : w.heap[b]? = some (.cells (fcs l).toArray 135 (0,0))) (hl : l.length <= 1000) : FReads w (some ⟨b,0,none⟩) l.length l:=by
 have h:=own_new (n:=l.length) (sz:=3) hk (Nat.zero_le _) (by unfold maxLen; omega) (by simp [Pq.fcs_length])
 obtain ⟨A,c,e,hf⟩:=Pq.fields_own (l:=l) h
 injection e with e1 e2 e3
 rw [e1]
 exact hf
theorem encb_ok {l : List Fld} (h : errL l = 0) : Pq.encB l = bytL l:=by unfold Pq.encB; rw [if_pos h]
theorem record_any {w : World} {A : Option Addr} {N c : Nat} {fs : List Fld} (hR : FReads w A N fs) (hm : N <= 4294967296) (he : errL fs = 0) : Calls Tryz.prog 68 #[.slice A N c] w fun e w' => e = .returned (.string (strOfNums (bytL fs))) /\ Below w.heap.size w w':=by
 have HE:=hJQ (Pq.encode_any A N c fs w hR hm)
 have HEB:=hJQ (encb_ok he)
 have HER:=hJQ he
 clear hR he
 go_enter Tryz.func68,Tryz.ntmps68
 go_wp2_with fail
 refine HE.out.mono ?_
 rintro e w1 ⟨A1,n1,c1,rfl,hn,hr,-,-,hb⟩
 rw [HEB.out] at hr
 rw [HER.out]
 have hcv:=Pq.conv_reads (c:=c1) hr
 have HB:=hJQ hb
 clear hn hr hb
 go_wp2_with fail
 go_ret
 exact ⟨rfl,HB.out⟩
open Go.ChangeShapes Go.WideShapes Go.ChangeAt Go.RowKit Go.Proofs.Rk
open Pq (Fld FReads Reads fcs ams errL bytL sm dc Sm Bys byts)

theorem res_entry {fn : Func} {p : Tmp} (h : fn.results = #[.cell p 45]) (tmps : Array Value) (w : World) (b : Nat) (x y : Int) (s : ByteArray) (hp : tmps.getD p undef = .pointer (some ⟨b,0,none⟩))
  (h4 : w.heap[b]? = some (.cells #[.int .i64 x,.int .i64 y,.string s] 45 (0,0))) :
  (results fn tmps).run Tryz.prog w = .ok (.agg #[.int .i64 x,.int .i64 y,.string s]) w:=by
 have hp' : tmps[p]?.getD undef = .pointer (some ⟨b,0,none⟩):=by simpa using hp
 have c0:=cell_of h4 (j:=0) rfl
 have c1:=cell_of h4 (j:=1) rfl
 have c2:=cell_of h4 (j:=2) rfl
 simp [results,h,hp',asAddr,go_sem,c0,c1,c2]
set_option maxHeartbeats 4000000 in
theorem toentry_any {w : World} {b off c : Nat} {x y : Int} {s : ByteArray} (c0 : w.cell? ⟨b,off + 1,none⟩ = some (.int .i64 x)) (c1 : w.cell? ⟨b,off + 3 + 1,none⟩ = some (.int .i64 y)) (c2 : w.cell? ⟨b,off + 6 + 2,none⟩ = some (.string s)) :
  Calls Tryz.prog 76 #[.slice (some ⟨b,off,none⟩) 3 c] w fun e w' => e = .returned (.agg #[.int .i64 x,.int .i64 y,.string s]) /\ Below w.heap.size w w':=by
 obtain ⟨w1,hw1⟩ : ∃ xx,xx = w.alloc (.cells #[.int .i64 0,.int .i64 0,.string ⟨#[]⟩] 45):=⟨_,rfl⟩
 obtain ⟨q,eq⟩ : ∃ xx,xx = w.heap.size:=⟨_,rfl⟩
 have hbw1 : Below w.heap.size w w1:=by rw [hw1]; exact box_below w _
 have hkq : w1.heap[q]? = some (.cells #[.int .i64 0,.int .i64 0,.string ⟨#[]⟩] 45 (0,0)):=by rw [hw1,eq]; exact new_block w _
 have HS : Hid (∀ W,Below w.heap.size w W -> W.cell? ⟨b,off + 1,none⟩ = some (.int .i64 x) /\ W.cell? ⟨b,off + 3 + 1,none⟩ = some (.int .i64 y) /\ W.cell? ⟨b,off + 6 + 2,none⟩ = some (.string s) /\ Below w.heap.size w W):=hJQ (fun W hW => ⟨(hW.cell (p:=⟨b,_,none⟩) (cell_lt c0)).trans c0,(hW.cell (p:=⟨b,_,none⟩) (cell_lt c0)).trans c1,(hW.cell (p:=⟨b,_,none⟩) (cell_lt c0)).trans c2,hW⟩)
 have hkd : w1.drew.heap[q]? = some (.cells #[.int .i64 0,.int .i64 0,.string ⟨#[]⟩] 45 (0,0)):=hkq
 have hbd : Below w.heap.size w w1.drew:=hbw1.drew
 have q0:=cell_of hkq (j:=0) rfl
 have q1:=cell_of hkq (j:=1) rfl
 have q2:=cell_of hkq (j:=2) rfl
 have f0:=frozen_of_row w1 q 0 _ _ hkq
 have f1:=frozen_of_row w1 q 1 _ _ hkq
 have f2:=frozen_of_row w1 q 2 _ _ hkq
 obtain ⟨w4,hw4⟩ : ∃ xx,xx = (((w1.setCell ⟨q,0,none⟩ (.int .i64 x)).setCell ⟨q,1,none⟩ (.int .i64 y)).setCell ⟨q,2,none⟩ (.string s)):=⟨_,rfl⟩
 obtain ⟨hwrw4,hkw4⟩:=setl3 hkq (.int .i64 x) (.int .i64 y) (.string s)
 rw [<- hw4] at hwrw4 hkw4
 have hb4 : Below w.heap.size w w4.drew:=(hbw1.trans (gb_to hwrw4.gb (Nat.le_of_eq eq.symm) hbw1.size)).drew
 have hk4d : w4.drew.heap[q]? = some (.cells #[.int .i64 x,.int .i64 y,.string s] 45 (0,0)):=hkw4
 have HB4:=hJQ hb4
 have HBD:=hJQ hbd
 have H4:=hJQ hk4d
 have HW1:=hJQ hw1
 have HW4:=hJQ hw4
 have EQ:=hJQ eq
 have HS4 : Hid (∀ W,W = w4.drew -> Below w.heap.size w W):=hJQ (fun W e => by rw [e]; exact HB4.out)
 clear hw1 eq hbw1 hkq hbd hkd hwrw4 hkw4 hk4d hb4 c0 c1 c2
 go_enter Tryz.func76,Tryz.ntmps76
 go_upto_region 1 with fail
 rw [<- HW1.out,<- EQ.out]
 go_region_held3 (fun W => W.cell? ⟨b,off + 1,none⟩ = some (.int .i64 x) /\ W.cell? ⟨b,off + 3 + 1,none⟩ = some (.int .i64 y) /\ W.cell? ⟨b,off + 6 + 2,none⟩ = some (.string s) /\ Below w.heap.size w W)
  (first
   | exact HS.out _ HBD.out
   | exact HS.out _ (HS4.out _ (by rw [hw4]))
   | exact HS.out _ (HS4.out _ (by rw [hw4]; rfl))
   | (with_reducible assumption))
  (fail)
 rename_i hHeld
 clear hHeld
 rw [<- hw4]
 have hw5:=H4.out
 go_wp2_with fail
 exact bodyPost_ret (res_entry Tryz.results76 _ _ q _ _ _ (by simp) H4.out) rfl ⟨rfl,HB4.out⟩
end Go.Proofs.YtlppinfjdnhlbaaGreatDoor
