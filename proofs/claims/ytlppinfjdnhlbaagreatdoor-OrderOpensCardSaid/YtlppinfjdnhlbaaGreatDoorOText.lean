/-
 What text and isNew tell of a disk. Condition: the disk is not dead,and has that sector.
-/
import Derived.Test.YtlppinfjdnhlbaaGreatDoorHd
import Derived.Test.YtlppinfjdnhlbaaGreatDoorOKeep
import Derived.Test.YtlppinfjdnhlbaaGreatDoorKShelf
namespace Go.Proofs.YtlppinfjdnhlbaaGreatDoor
set_option maxRecDepth 100000
open Go.ChangeShapes Go.WideShapes Go.ChangeAt Go.RowKit Go.Proofs.Rk
open Pq (Fld FReads errL bytL fcs)
open Gq (Bz Mine PL PDisk Kp Kl Lg Dk putL SReads enc le4 doD cur)

def strip (s : List Int) : List Int:=(s.reverse.dropWhile (· == 0)).reverse
theorem dropWhile_map' {α β : Type} (f : α -> β) (p : β -> Bool) (q : α -> Bool) : ∀ l : List α,(∀ x ∈ l,p (f x) = q x) -> (l.map f).dropWhile p = (l.dropWhile q).map f
 | [],_ => rfl
 | x :: l,h => by
  have h1:=h x (by simp)
  rw [List.map_cons,List.dropWhile_cons,List.dropWhile_cons,h1]
  split
  ·exact dropWhile_map' f p q l (fun y hy => h y (by simp [hy]))
  ·rfl
theorem trim_str {l : List Int} (hb : Gq.Bys l) : (⟨(Lib.trimRightB (strOfNums l).data.toList 0).toArray⟩ : ByteArray) = strOfNums (strip l):=by
 have e : (strOfNums l).data.toList = l.map fun c => UInt8.ofNat c.toNat:=by simp [strOfNums]
 rw [e]
 unfold Lib.trimRightB strip
 rw [<- List.map_reverse,dropWhile_map' (fun c : Int => UInt8.ofNat c.toNat) (· == 0) (· == 0) l.reverse (fun x hx => by
  have h1:=hb x (List.mem_reverse.1 hx)
  by_cases h0 : x = 0
  ·subst h0; rfl
  ·have h2 : (UInt8.ofNat x.toNat) ≠ 0:=fun e2 => by
    have e3 : (UInt8.ofNat x.toNat).toNat = x.toNat % 256:=by simp
    rw [e2] at e3
    have e4 : (0 : UInt8).toNat = 0:=rfl
    omega
   exact (beq_false_of_ne h2).trans (beq_false_of_ne h0).symm)]
 rw [<- List.map_reverse]
 rfl
theorem strip_bys {l : List Int} (hb : Gq.Bys l) : Gq.Bys (strip l):=fun z hz => by
 refine hb z ?_
 unfold strip at hz
 rw [List.mem_reverse] at hz
 exact List.mem_reverse.1 ((List.dropWhile_suffix _).subset hz)
theorem str_eq {a b : List Int} (ha : Gq.Bys a) (hb : Gq.Bys b) : strOfNums a = strOfNums b ↔ a = b:=⟨Gq.str_inj ha hb,fun h => by rw [h]⟩
def txt (D : Dk) (n : Nat) : List Int:=strip ((cur D).getD n [])
theorem txt_bys {D : Dk} {n : Nat} (hok : Gq.Dok D) (hn : n < D.firm.length) : Gq.Bys (txt D n):=strip_bys (Gq.lok_getD (Gq.cur_ok hok) (by rw [Gq.cur_len]; exact hn)).2
theorem text_any {z : Nat -> Prop} {w : World} {p n : Nat} {D : Dk} (h : PDisk w ⟨0,z⟩ p D) (hd : D.dead = false) (hn : n < D.firm.length) (_ : D.firm.length <= 65536) : Calls Tryz.prog 125 #[.pointer (some ⟨p,0,none⟩),.int .i64 (n : Int)] w fun e w' => e = .returned (.string (strOfNums (txt D n))) /\ Below w.heap.size w w':=by
 have HR:=hJQ (Gq.read_any ⟨0,z⟩ p D (n : Int) w h)
 have hdo:=Gq.do_read hd hn
 obtain ⟨sv,wv,left,hP⟩:=h
 have HB:=hJQ ((Gq.lok_getD (Gq.cur_ok hP.ok) (by rw [Gq.cur_len]; exact hn)))
 have HDO:=hJQ hdo
 clear hd hn hdo hP
 go_enter Tryz.func125,Tryz.ntmps125
 go_wp2_with fail
 refine HR.out.mono ?_
 rintro e w1 ⟨A1,n1,c1,rfl,hr,hn,hc,hb,-⟩
 rw [HDO.out] at hr ⊢
 simp only at hr ⊢
 obtain ⟨S,hS⟩ : ∃ S,(cur D).getD n [] = S:=⟨_,rfl⟩
 have HSS:=hJQ hS
 rw [hS] at hr
 have hcv:=Pq.conv_reads (c:=c1) (⟨hr.1,hr.2.1⟩ : Pq.Reads .u8 w1 A1 n1 S)
 have HBS : Hid (Gq.Bys S):=hJQ (by rw [<- hS]; exact HB.out.2)
 have HSZ : Hid ((strOfNums S).size <= 9223372036854775807):=hJQ (by rw [Gq.str_size,<- hS,HB.out.1]; omega)
 have HB1:=hJQ hb
 clear hr hn hc hb hS
 go_wp2_with fail
 refine (strings_TrimRight_one (strOfNums S) 0 (by decide) _ HSZ.out).mono ?_
 rintro e w2 ⟨rfl,rfl⟩
 go_wp2_with fail
 go_ret
 refine ⟨?_,HB1.out⟩
 unfold txt
 rw [HSS.out,<- trim_str HBS.out]
 rfl
open Classical in
noncomputable def isNewB (D : Dk) : Bool:=decide (∀ n,1 <= n -> n < D.firm.length -> txt D n = []) && (txt D 0).isPrefixOf signB
theorem isnew_no {D : Dk} {n : Nat} (h1 : 1 <= n) (h2 : n < D.firm.length) (h : txt D n ≠ []) : isNewB D = false:=by
 unfold isNewB
 simp only [Bool.and_eq_false_imp,decide_eq_true_eq]
 intro hh
 exact absurd (hh n h1 h2) h
theorem isnew_end {D : Dk} (h : ∀ n,1 <= n -> n < D.firm.length -> txt D n = []) : isNewB D = (txt D 0).isPrefixOf signB:=by
 unfold isNewB
 simp only [Bool.and_eq_right_iff_imp,decide_eq_true_eq]
 intro _
 exact h
theorem prefix_map : ∀ (a b : List Int),Gq.Bys a -> Gq.Bys b -> (a.map fun n => UInt8.ofNat n.toNat).isPrefixOf (b.map fun n => UInt8.ofNat n.toNat) = a.isPrefixOf b
 | [],_,_,_ => by simp
 | _ :: _,[],_,_ => rfl
 | x :: a,y :: b,ha,hb => by
  rw [List.map_cons,List.map_cons,List.isPrefixOf,List.isPrefixOf,prefix_map a b (fun z hz => ha z (by simp [hz])) (fun z hz => hb z (by simp [hz]))]
  congr 1
  have h1:=ha x (by simp)
  have h2:=hb y (by simp)
  by_cases e : x = y
  ·subst e; simp
  ·have h3 : UInt8.ofNat x.toNat ≠ UInt8.ofNat y.toNat:=fun e2 => by
    have e3 : (UInt8.ofNat x.toNat).toNat = x.toNat % 256:=by simp
    have e4 : (UInt8.ofNat y.toNat).toNat = y.toNat % 256:=by simp
    rw [e2,e4] at e3
    omega
   exact (beq_false_of_ne h3).trans (beq_false_of_ne e).symm
def signS : ByteArray:=⟨#[104,97,114,112,115,105,99,104,111,114,100,32,111,114,100,101,114]⟩
theorem sign_str : signS = strOfNums signB:=rfl
theorem has_sign {t : List Int} (ht : Gq.Bys t) : Lib.hasPrefix signS.data.toList (strOfNums t).data.toList = t.isPrefixOf signB:=by
 rw [sign_str,strOfNums_data,strOfNums_data]
 exact (prefix_map t signB ht (show ∀ z ∈ signB,0 <= z /\ z <= 255 by decide))
set_option maxHeartbeats 4000000 in
theorem isnew_any {z : Nat -> Prop} {w : World} {p : Nat} {D : Dk} (h : PDisk w ⟨0,z⟩ p D) (hd : D.dead = false) (h0 : 0 < D.firm.length) (hl : D.firm.length <= 65536) : Calls Tryz.prog 126 #[.pointer (some ⟨p,0,none⟩)] w fun e w' => e = .returned (.bool (isNewB D)) /\ Below w.heap.size w w':=by
 have HMN : Hid (∀ W,Below w.heap.size w W -> Calls Tryz.prog 80 #[.pointer (some ⟨p,0,none⟩)] W fun e w' => e = .returned (.int .i64 (D.firm.length : Int)) /\ W = w'):=hJQ (fun W hW => Gq.many_any ⟨0,z⟩ p D W (h.kept hW))
 have HTX : Hid (∀ W (n : Nat),n < D.firm.length -> Below w.heap.size w W -> Calls Tryz.prog 125 #[.pointer (some ⟨p,0,none⟩),.int .i64 (n : Int)] W fun e w' => e = .returned (.string (strOfNums (txt D n))) /\ Below W.heap.size W w'):=hJQ (fun W n hn hW => text_any (h.kept hW) hd hn hl)
 have HBY : Hid (∀ n,n < D.firm.length -> Gq.Bys (txt D n)):=hJQ (fun n hn => by obtain ⟨sv,wv,left,hP⟩:=h; exact txt_bys hP.ok hn)
 have HR : Hid (∀ n,1 <= n -> n < D.firm.length -> txt D n ≠ [] -> isNewB D = false):=hJQ (fun n a b c => isnew_no a b c)
 have HE : Hid ((∀ n,1 <= n -> n < D.firm.length -> txt D n = []) -> isNewB D = (txt D 0).isPrefixOf signB):=hJQ isnew_end
 obtain ⟨R,hR⟩ : ∃ R,isNewB D = R:=⟨_,rfl⟩
 obtain ⟨N,hN⟩ : ∃ N,D.firm.length = N:=⟨_,rfl⟩
 rw [hN] at HMN HTX HBY HR HE h0 hl
 rw [hR] at HR HE ⊢
 have HB0:=hJQ (Below.refl w.heap.size w)
 clear h hd hR hN
 go_enter Tryz.func126,Tryz.ntmps126
 go_wp2_with fail
 go_loopw [3] (fun i wr => ∃ (k : Nat),1 <= k /\ k <= max N 1 /\ i = .int .i64 k /\ Hid (∀ n,1 <= n -> n < k -> txt D n = []) /\ Hid (Below w.heap.size w wr)) (fun i _ => N - (intOf i).toNat)
 case atStart => exact ⟨1,Nat.le_refl _,by omega,rfl,hJQ (fun n h1 h2 => by omega),HB0⟩
 case round =>
  obtain ⟨k,hk1,hk2,rfl,HI,HX⟩:=hrel
  by_cases hlt : k < N
  ·have hki : (k : Int) < (N : Int):=by omega
   have hwk : IntKind.i64.wrap ((k : Int) + 1) = (k : Int) + 1:=by rw [IntKind.wrap_i64]; omega
   go_wp2_with fail
   refine (HMN.out _ HX.out).mono ?_
   rintro e w0 ⟨rfl,rfl⟩
   go_wp2_with fail
   refine (HTX.out _ k hlt HX.out).mono ?_
   rintro e w2 ⟨rfl,hb2⟩
   have HB2:=hJQ (HX.out.trans (hb2.mono HX.out.size))
   obtain ⟨T,hT⟩ : ∃ T,txt D k = T:=⟨_,rfl⟩
   rw [hT]
   have hTB:=HBY.out k hlt
   rw [hT] at hTB
   cases T with
   | nil =>
    have HI2 : Hid (∀ n,1 <= n -> n < k + 1 -> txt D n = []):=hJQ (fun n h1 h2 => by
     by_cases e : n = k
     ·rw [e]; exact hT
     ·exact HI.out n h1 (by omega))
    have hsn : strOfNums [] = ⟨#[]⟩:=rfl
    rw [hsn]
    clear hb2 hT hTB hsn
    go_wp2_with fail
    go_roundw
    case rel => exact ⟨k + 1,by omega,by omega,by go_num,HI2,HB2⟩
    case measure => simp [intOf]; omega
   | cons t ts =>
    have HF : Hid (R = false):=hJQ (HR.out k hk1 hlt (by rw [hT]; simp))
    have hne : (strOfNums (t :: ts)).toList.isEmpty = false:=by rw [ByteArray.toList_eq]; rfl
    obtain ⟨S,hS⟩ : ∃ S,strOfNums (t :: ts) = S:=⟨_,rfl⟩
    rw [hS] at hne ⊢
    clear hb2 hT hTB hS
    go_wp2_with fail
    go_ret
    exact ⟨ret_b HF.out.symm,HB2.out⟩
  ·have hji : ¬ (k : Int) < (N : Int):=by omega
   have HEV : Hid (R = (txt D 0).isPrefixOf signB):=hJQ (HE.out (fun n h1 h2 => HI.out n h1 (by omega)))
   have HSG : Hid (Lib.hasPrefix signS.data.toList (strOfNums (txt D 0)).data.toList = (txt D 0).isPrefixOf signB):=hJQ (has_sign (HBY.out 0 h0))
   have HT0:=hJQ (HTX.out _ 0 h0 HX.out)
   go_wp2_with fail
   refine (HMN.out _ HX.out).mono ?_
   rintro e w0 ⟨rfl,rfl⟩
   go_wp2_with fail
   refine HT0.out.mono ?_
   rintro e w2 ⟨rfl,hb2⟩
   have HB2:=hJQ (HX.out.trans (hb2.mono HX.out.size))
   clear hb2
   go_wp2_with fail
   refine (strings_HasPrefix signS _ _).mono ?_
   rintro e w3 ⟨rfl,rfl⟩
   rw [HSG.out,<- HEV.out]
   go_wp2_with fail
   go_ret
   exact ⟨rfl,HB2.out⟩
end Go.Proofs.YtlppinfjdnhlbaaGreatDoor
