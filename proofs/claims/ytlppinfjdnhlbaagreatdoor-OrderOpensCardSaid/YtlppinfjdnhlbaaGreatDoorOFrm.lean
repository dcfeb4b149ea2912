/-
 What the proofs of this seat's cards share: a script that came in,a world in which the listed tables lie,and that arguments read as before where older memory is as it was. No condition.
-/
import Derived.Test.YtlppinfjdnhlbaaGreatDoorOLawO
import Derived.Test.YtlppinfjdnhlbaaGreatDoorCards
import Derived.Test.YtlppinfjdnhlbaaGreatDoorTie
import Derived.WalkKit
import Derived.ProofKit
import Derived.OpenShut
import Derived.Deep.DeepHandedRow
import Derived.Deep.Slices
import Derived.Lib.LaidTab
import Derived.Carry
import Derived.SizedLaws
namespace Go.Proofs.YtlppinfjdnhlbaaGreatDoor
set_option maxRecDepth 100000
open Go.ChangeShapes Go.WideShapes Go.ChangeAt Go.RowKit Go.Proofs.Rk

theorem ownK : ownKnob Tryz.prog.godebug = none:=by kernel_rfl
theorem laidOut : laidOutB Tryz.prog = true:=by kernel_rfl
theorem args_stay {H : Type} {enc : TypeId × Value -> H} {W W' : World} (hb : Below W.heap.size W W') {sp : Nat -> Bool} : ∀ {ts : List TypeId} {vs : List Value} {ds : List (DataW H)} {ps : List MemPlace},
  (∀ t ∈ ts,Tryz.prog.readableRec t = true /\ t < Tryz.prog.types.size) -> DataW.TrodAll enc Tryz.prog W 0 (fun _ => true) true ts vs ds ps -> (∀ p ∈ ps,p.block < W.heap.size) -> (∀ p ∈ ps,sp p.block = true) ->
  DataW.TrodAll enc Tryz.prog W' 0 sp true ts vs ds ps
 | [],vs,ds,ps,_,h,_,_ => by
  obtain ⟨rfl,rfl,rfl⟩:=trodAll_nil h
  exact trodAll_mk0
 | t :: ts,vs,ds,ps,hr,h,hlt,hs => by
  obtain ⟨v,vs',d,ds',p,q,rfl,rfl,rfl,h1,h2⟩:=trodAll_cons h
  exact trodAll_cons_mk (WideElems.Trod_stays laidOut (hr t (by simp)).1 (hr t (by simp)).2 h1 (fun x hx => hb.same (hlt x (by simp [hx]))) (fun x hx => hs x (by simp [hx])))
   (args_stay hb (fun u hu => hr u (by simp [hu])) h2 (fun x hx => hlt x (by simp [hx])) (fun x hx => hs x (by simp [hx])))

section
variable {H : Type} {enc : TypeId × Value -> H} {P : Program}
theorem post_of_below {f : Func} {s : ChangeSpec} {apart fresh handsOn again : Bool} {W W' : World} {args : Array Value} {v : Value} {ds gs : List (DataW H)} {before pa pv : List MemPlace}
  (hW : DataW.Whole enc P f.params.toList s.vars apart W args.toList ds gs before)
  (hres : ∀ (b : Nat) (sp : Nat -> Bool) (hd : Bool),DataW.TrodAll enc P W' b sp hd f.resultTypes.toList (v.resultList f.resultTypes.size) (s.fn H (ds ++ gs)).results [])
  (hargs : ∀ sp : Nat -> Bool,(∀ p ∈ before,sp p.block = true) -> DataW.TrodAll enc P W' 0 sp true f.params.toList args.toList (s.fn H (ds ++ gs)).args pa)
  (hvars : ∀ sp : Nat -> Bool,(∀ p ∈ before,sp p.block = true) -> DataW.TrodVars enc P W' sp s.vars (s.fn H (ds ++ gs)).vars pv)
  (hps : before = pa ++ pv) (hb : Below W.heap.size W W')
  (hok : ∀ (j : Nat) (t : TypeId) (r : Value),f.resultTypes[j]? = some t -> (v.resultList f.resultTypes.size)[j]? = some r -> Value.okWide P W' .any 0 t r) :
  s.post enc P f apart fresh handsOn again W args v W':=by
 have hlt : ∀ p ∈ before,p.block < W.heap.size:=fun p hp => hW.lt p hp
 have hold : ∀ p ∈ before,(fun b => decide (b < W.heap.size)) p.block = true:=fun p hp => by simpa using hlt p hp
 refine ⟨ds,gs,before,[],pa,pv,hW,hres _ _ _,hargs _ hold,hvars _ hold,World.keptBut_mono (fun p hp => ⟨hp,?_⟩) (hb.frame (· ∈ before)),fun _ => ?_⟩
 ·rw [hps,List.mem_append] at hp
  exact Or.inr hp
 ·obtain ⟨_,_,_,_,_,hz,hn⟩:=hW
  refine ⟨hok,_,_,([] ++ pa) ++ pv,⟨[] ++ pa,pv,trodAll_append (hargs _ (fun _ _ => rfl)) (hres _ _ _),hvars _ (fun _ _ => rfl),rfl,?_,?_⟩,?_⟩
  ·intro b off hp
   have hin : MemPlace.cell b off ∈ before:=by rw [hps]; simpa using hp
   rw [hb.frozen (hlt _ hin)]
   exact hz b off hin
  ·intro ha
   have:=hn ha
   rw [hps] at this
   simpa using this
  ·intro p hp _
   rw [hps]
   simpa using hp
end

theorem law_post {H : Type} {enc : TypeId × Value -> H} {f : Func} {s : ChangeSpec} {W W' : World} {args : Array Value} {ds gs : List (DataW H)} {before : List MemPlace}
  (hvs : s.vars = []) (hfn : ∀ gs',gs' = [] -> s.fn H (ds ++ gs') = { results:=[.lit (.bool true)],args:=ds }) (hrt : f.resultTypes = #[4])
  (hts : ∀ t ∈ f.params.toList,Tryz.prog.readableRec t = true /\ t < Tryz.prog.types.size)
  (hW : DataW.Whole enc Tryz.prog f.params.toList s.vars false W args.toList ds gs before) (hb : Below W.heap.size W W') :
  s.post enc Tryz.prog f false true false false W args (.bool true) W':=by
 have hW':=hW
 obtain ⟨p,q,hA0,hV,rfl,hfz,hnd⟩:=hW
 have hA : DataW.TrodAll enc Tryz.prog W 0 (fun _ => true) true f.params.toList args.toList ds p:=hA0
 rw [hvs] at hV
 obtain ⟨rfl,rfl⟩:=trodVars_none hV
 have hlt : ∀ x ∈ p,x.block < W.heap.size:=fun x hx => hW'.lt x (by simp [hx])
 have e:=hfn [] rfl
 refine post_of_below (pa:=p) (pv:=[]) hW' (fun b sp hd => ?_) (fun sp hsp => ?_) (fun sp hsp => ?_) rfl hb ?_
 ·rw [e,hrt]; exact trodAll_cons_mk (shut_bool Tryz.underlying4 _) trodAll_mk0
 ·rw [e]; exact args_stay hb hts hA hlt (fun x hx => hsp x (by simp [hx]))
 ·rw [e,hvs]; rfl
 ·exact Go.RowKit.ok_one hrt rfl (okWide_bool_mk Tryz.underlying4 _)
def firstCells : Array Value:=(Go.Pinned.utf8FirstZ.map fun (n : Nat) => Value.int .u8 n).toArray
def rangeCells : Array Value:=((([128,191,160,191,128,159,144,191,128,143] : List Int) ++ List.replicate 22 0).map fun (n : Int) => Value.int .u8 n).toArray
def lay (C : Array Value) : Obj -> Obj
 | .cells _ t frozen => .cells C t frozen
 | o => o
noncomputable def laidWorld (os : Os) : World :=
 { World.holding Tryz.prog os ⟨#[],#[],[]⟩ with heap:=((World.holding Tryz.prog os ⟨#[],#[],[]⟩).heap.modify 0 (lay firstCells)).modify 1 (lay rangeCells) }
theorem ok77 : Tryz.prog.readableRec 77 = true /\ 77 < Tryz.prog.types.size:=⟨by kernel_rfl,of_decide_eq_true (by kernel_rfl)⟩
theorem want77 : Tryz.pinned.checked.prog.wantsStandIn 77 = false:=(show Tryz.prog.wantsStandIn 77 = false by kernel_rfl)
theorem ok3 : Tryz.prog.readableRec 3 = true /\ 3 < Tryz.prog.types.size:=⟨by kernel_rfl,of_decide_eq_true (by kernel_rfl)⟩
theorem want3 : Tryz.pinned.checked.prog.wantsStandIn 3 = false:=(show Tryz.prog.wantsStandIn 3 = false by kernel_rfl)
end Go.Proofs.YtlppinfjdnhlbaaGreatDoor
namespace Go.Proofs.YtlppinfjdnhlbaaGreatDoor.Gq
set_option maxRecDepth 100000
open Go.ChangeShapes Go.WideShapes Go.ChangeAt Go.RowKit
theorem cells5 : Tryz.prog.cellsOf 5 = 1:=by kernel_rfl
theorem cells3 : Tryz.prog.cellsOf 3 = 1:=by kernel_rfl
theorem open_i64 {H : Type} {enc : TypeId × Value -> H} {W : World} {base : Nat} {v : Value} {d : DataW H} {ps : List MemPlace} (hv : Value.okWide Tryz.prog W .any base 3 v)
  (h : DataW.Trod enc Tryz.prog W 0 (fun _ => true) true 3 v d ps) : ∃ x : Int,v = .int .i64 x /\ -9223372036854775808 <= x /\ x <= 9223372036854775807:=by
 obtain ⟨x,rfl,rfl,rfl,hw⟩:=open_int Tryz.underlying3 hv h
 exact ⟨x,rfl,(bounds_i64 hw).1,(bounds_i64 hw).2⟩
theorem cells82 : Tryz.prog.cellsOf 82 = 1:=by kernel_rfl
theorem cells84 : Tryz.prog.cellsOf 84 = 4:=by kernel_rfl
theorem open_bytes_cell {H : Type} {enc : TypeId × Value -> H} {W : World} {held : Bool} {fuel : Nat} {v : Value} {x : DataW H × List MemPlace} (h : DataW.trod enc Tryz.prog W 0 (fun _ => true) held fuel 82 [v] = some x) :
  ∃ A l c zs,v = .slice A l c /\ Reads W A l zs:=by
 rcases open_ints Tryz.underlying82 Tryz.underlying5 cells5 h with ⟨hcs,_⟩ | ⟨a,len',cap',zs,hcs,_,hl,hm,hz,hx,hcell,hwz⟩
 ·simp at hcs
  exact ⟨none,0,0,[],hcs,reads_none W⟩
 ·simp at hcs
  simp only [if_true] at hz
  refine ⟨some a,len',cap',zs.take len',hcs,reads_mk (by rw [List.length_take]; omega) (fun hp => ?_) (fun z hz => bounds_u8 (hwz z (List.mem_of_mem_take hz)))⟩
  obtain ⟨b,off,rfl,hc⟩:=ints_at hcell (by omega)
  refine ⟨b,off,rfl,fun i hi => ?_⟩
  rw [hc i (by omega),List.getD_eq_getElem?_getD,List.getD_eq_getElem?_getD,List.getElem?_take,if_pos hi]
instance : Inhabited Opr:=⟨op0⟩
theorem open_pops {H : Type} {enc : TypeId × Value -> H} {W : World} {base : Nat} {v : Value} {d : DataW H} {ps : List MemPlace} (hv : Value.okWide Tryz.prog W .any base 77 v)
  (h : DataW.Trod enc Tryz.prog W 0 (fun _ => true) true 77 v d ps) : ∃ ad len cap os,v = .slice ad len cap /\ PReads W W.heap.size ad len os:=by
 obtain ⟨a0,len,cap,rfl⟩:=okWide_slice Tryz.underlying77 hv
 obtain ⟨fuel,hf⟩:=h
 rcases Go.Deep.open_slice Tryz.underlying77 hf with ⟨hcs,hx⟩ | ⟨a,len',cap',m,n,D,Pl,hcs,_,hl,hm,hmm,hx,hel⟩
 ·simp [Value.cells] at hcs
  obtain ⟨rfl,rfl,rfl⟩:=hcs
  exact ⟨none,0,0,[],rfl,rfl,fun h => absurd h (by omega)⟩
 ·simp [Value.cells] at hcs
  obtain ⟨rfl,rfl,rfl⟩:=hcs
  simp only [if_true] at hmm
  obtain rfl : cap = m:=hmm.symm
  rw [cells84] at hel
  have each : ∀ i,i < len -> ∃ o : Opr,W.cell? ((a.add (i * 4)).add 0) = some (.int .i64 o.k) /\ W.cell? ((a.add (i * 4)).add 1) = some (.int .i64 o.n) /\ W.cell? ((a.add (i * 4)).add 2) = some (.int .i64 o.t) /\
    (∃ A l c,W.cell? ((a.add (i * 4)).add 3) = some (.slice A l c) /\ Reads W A l o.b /\ Under W.heap.size A l) /\ o.n <= 9223372036854775807:=by
   intro i hi
   obtain ⟨cs,h1,h2⟩:=hel i (by omega)
   obtain ⟨_,hlen,hcell⟩:=World.cells?_some h1
   obtain ⟨xs,k,_,_,_,hxl,hfl⟩:=DataW.trod_struct Tryz.underlying84 h2
   match xs,hxl,cs,hlen with
   | [y0,y1,y2,y3],_,[v0,v1,v2,v3],_ =>
    have g0:=hfl 0 _ rfl
    have g1:=hfl 1 _ rfl
    have g2:=hfl 2 _ rfl
    have g3:=hfl 3 _ rfl
    simp [cells3,cells82] at g0 g1 g2 g3
    obtain ⟨x0,e0,_⟩:=DataW.trod_int Tryz.underlying3 g0
    obtain ⟨x1,e1,w1⟩:=DataW.trod_int Tryz.underlying3 g1
    obtain ⟨x2,e2,_⟩:=DataW.trod_int Tryz.underlying3 g2
    obtain ⟨A,l,c,zs,e3,hr⟩:=open_bytes_cell g3
    have c0:=hcell 0 (by omega)
    have c1:=hcell 1 (by omega)
    have c2:=hcell 2 (by omega)
    have c3:=hcell 3 (by omega)
    simp at e0 e1 e2 c0 c1 c2 c3
    subst e0 e1 e2 e3
    exact ⟨⟨x0,x1,x2,zs⟩,by simpa using c0,by simpa using c1,by simpa using c2,⟨A,l,c,by simpa using c3,hr,hr.under⟩,(bounds_i64 w1.2).2⟩
  obtain ⟨q,hq⟩:=Go.Deep.choose_lt each
  refine ⟨some a,len,cap,(List.range len).map q,rfl,⟨by simp,fun hp => ?_⟩⟩
  have hspot : a.spot = none:=by
   have:=World.cell?_spot (hq 0 hp).1
   simpa [Addr.add] using this
  obtain ⟨b,off,spot⟩:=a
  simp only at hspot
  subst hspot
  refine ⟨b,off,rfl,?_,fun i hi => ?_⟩
  ·have:=(hq 0 hp).1
   rw [Go.WideShapes.add_plain,Go.WideShapes.add_plain] at this
   exact cell_lt this
  have e : ((List.range len).map q).getD i op0 = q i:=by
   rw [List.getD_eq_getElem?_getD,List.getElem?_map,List.getElem?_range hi]; rfl
  rw [e]
  obtain ⟨h0,h1,h2,⟨A,l,c,h3,h4⟩,h5⟩:=hq i hi
  rw [Go.WideShapes.add_plain,Go.WideShapes.add_plain] at h0 h1 h2 h3
  exact ⟨h0,h1,h2,⟨A,l,c,h3,h4⟩,h5⟩

end Go.Proofs.YtlppinfjdnhlbaaGreatDoor.Gq
