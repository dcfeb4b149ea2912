/-
 Words for memory: a slice that reads as numbers,a slice of fields that reads as fields; that both are kept where older memory is. No condition.
 What pack.Kinds returns of a slice of fields: a new slice of their kinds. Condition: the slice takes no more than 2^42 fields.
-/
import Derived.Test.YtlppinfjdnhlbaaGreatDoorHd
import Derived.Test.YtlppinfjdnhlbaaGreatDoorOMath
import Derived.Test.YtlppinfjdnhlbaaGreatDoorRows
import Derived.WalkKit
import Derived.ProofKit
import Derived.OpenShut
import Derived.Lib.Hide
import Derived.Outline
import Derived.Below
import Derived.OwnWalk
import Derived.Deep.LoopGhost
import Derived.Deep.Draws
import Derived.RegionTactic
namespace Go.Proofs.YtlppinfjdnhlbaaGreatDoor.Pq
set_option maxRecDepth 100000
open Go.ChangeShapes Go.WideShapes Go.ChangeAt Go.RowKit

def Reads (K : IntKind) (w : World) (ad : Option Addr) (len : Nat) (zs : List Int) : Prop :=
 zs.length = len /\ (0 < len -> ∃ b off,ad = some ⟨b,off,none⟩ /\ ∀ i,i < len -> w.cell? ⟨b,off + i,none⟩ = some (.int K (zs.getD i 0)))
def z0 : Fld:=⟨0,0,⟨#[]⟩⟩
def FReads (w : World) (ad : Option Addr) (len : Nat) (fs : List Fld) : Prop :=
 fs.length = len /\ (0 < len -> ∃ b off,ad = some ⟨b,off,none⟩ /\ ∀ i,i < len ->
  w.cell? ⟨b,off + i * 3,none⟩ = some (.int .i64 (fs.getD i z0).k) /\ w.cell? ⟨b,off + i * 3 + 1,none⟩ = some (.int .i64 (fs.getD i z0).n) /\ w.cell? ⟨b,off + i * 3 + 2,none⟩ = some (.string (fs.getD i z0).s))

theorem cell_lt {w : World} {b : Nat} {o : Nat} {v : Value} (h : w.cell? ⟨b,o,none⟩ = some v) : b < w.heap.size:=by
 rcases Nat.lt_or_ge b w.heap.size with h' | h'
 ·exact h'
 ·simp [World.cell?,Array.getElem?_eq_none h'] at h
theorem Reads.kept {K : IntKind} {w w' : World} {ad : Option Addr} {len : Nat} {zs : List Int} (hR : Reads K w ad len zs) (hb : Below w.heap.size w w') : Reads K w' ad len zs:=by
 refine ⟨hR.1,fun hl => ?_⟩
 obtain ⟨b,off,e,hc⟩:=hR.2 hl
 exact ⟨b,off,e,fun i hi => (hb.cell (p:=⟨b,off + i,none⟩) (cell_lt (hc i hi))).trans (hc i hi)⟩
theorem FReads.kept {w w' : World} {ad : Option Addr} {len : Nat} {fs : List Fld} (hR : FReads w ad len fs) (hb : Below w.heap.size w w') : FReads w' ad len fs:=by
 refine ⟨hR.1,fun hl => ?_⟩
 obtain ⟨b,off,e,hc⟩:=hR.2 hl
 refine ⟨b,off,e,fun i hi => ?_⟩
 obtain ⟨h1,h2,h3⟩:=hc i hi
 exact ⟨(hb.cell (p:=⟨b,off + i * 3,none⟩) (cell_lt h1)).trans h1,(hb.cell (p:=⟨b,off + i * 3 + 1,none⟩) (cell_lt h1)).trans h2,(hb.cell (p:=⟨b,off + i * 3 + 2,none⟩) (cell_lt h1)).trans h3⟩
open Go.ChangeShapes Go.WideShapes Go.ChangeAt Go.RowKit

theorem info3 : (Tryz.prog.info? 3).map (fun i => (i.zero,i.size,i.bytes)) = some (some (.int .i64 0),1,8):=by kernel_rfl
theorem reads_own {K : IntKind} {w : World} {base g len c : Nat} {e : TypeId} {ys : List Int} (h : w.ownsRow base e 1 (.slice (some ⟨g,0,none⟩) len c) len (ys.map (Value.int K))) : Reads K w (some ⟨g,0,none⟩) len ys:=by
 have hl : ys.length = len:=by have:=h.1; rw [List.length_map] at this; omega
 refine ⟨hl,fun _ => ⟨g,0,rfl,fun i hi => ?_⟩⟩
 rw [Nat.zero_add,h.cellAt i (by omega),List.getElem?_map,List.getD_eq_getElem?_getD,List.getElem?_eq_getElem (by omega)]
 rfl
theorem getD_map_k (fs : List Fld) (j : Nat) : (fs.map (·.k)).getD j 0 = (fs.getD j z0).k:=by
 rw [List.getD_eq_getElem?_getD,List.getD_eq_getElem?_getD,List.getElem?_map]
 cases fs[j]? <;> rfl
theorem ext_getD {xs ys : List Int} (hl : xs.length = ys.length) (h : ∀ j,j < xs.length -> xs.getD j 0 = ys.getD j 0) : xs = ys:=by
 apply List.ext_getElem hl
 intro i h1 h2
 have:=h i h1
 rw [List.getD_eq_getElem?_getD,List.getD_eq_getElem?_getD,List.getElem?_eq_getElem h1,List.getElem?_eq_getElem h2] at this
 exact this
def KRel (w : World) (len : Nat) (fs : List Fld) (i : Value) (wr : World) : Prop :=
 ∃ (k : Nat) (ys : List Int),k <= len /\ i = .int .i64 k /\ wr.ownsRow w.heap.size 3 1 (.slice (some ⟨w.heap.size,0,none⟩) len len) len (ys.map (Value.int .i64)) /\ (∀ j,j < k -> ys.getD j 0 = (fs.getD j z0).k) /\ Below w.heap.size w wr
theorem kinds_round {w wr : World} {len k : Nat} {fs : List Fld} {ys : List Int} {f : Fld} (o : Obj) (hk : k < len) (hf : f = fs.getD k z0) (hown : wr.ownsRow w.heap.size 3 1 (.slice (some ⟨w.heap.size,0,none⟩) len len) len (ys.map (Value.int .i64)))
  (hx : ∀ j,j < k -> ys.getD j 0 = (fs.getD j z0).k) (hb : Below w.heap.size w wr) : KRel w len fs (.int .i64 ((k : Int) + 1)) ((wr.setCell ⟨w.heap.size,k,none⟩ (.int .i64 f.k)).alloc o):=by
 have hl : ys.length = len:=by have:=hown.1; rw [List.length_map] at this; omega
 refine ⟨k + 1,ys.set k f.k,by omega,by go_num,?_,fun j hj => ?_,(hb.setCell (p:=⟨w.heap.size,k,none⟩) (Nat.le_refl _) _).alloc (by simpa using hb.size) o⟩
 ·have h:=((hown.stored k (.int .i64 f.k)).1).alloc o
  rw [List.map_set]
  exact h
 ·rw [List.getD_eq_getElem?_getD,List.getElem?_set]
  by_cases hij : k = j
  ·rw [if_pos hij,if_pos (by omega)]
   subst hij hf
   rfl
  ·rw [if_neg hij,<- List.getD_eq_getElem?_getD]; exact hx j (by omega)
set_option maxHeartbeats 1000000 in
theorem kinds_any (ad : Option Addr) (len cap : Nat) (fs : List Fld) (w : World) (hR : FReads w ad len fs) (hm : len <= 4398046511104) :
  Calls Tryz.prog 72 #[.slice ad len cap] w fun e w' => e = .returned (.slice (some ⟨w.heap.size,0,none⟩) len len) /\ Reads .i64 w' (some ⟨w.heap.size,0,none⟩) len (fs.map (·.k)) /\ Below w.heap.size w w':=by
 obtain ⟨i0,hi,hz0,hz1,hz2⟩:=info_parts info3
 have hmk:=fun (w : World) => run_make (w:=w) (P:=Tryz.prog) 52 3 i0 (.int .i64 0) Tryz.underlying52 hi hz0 .i64 .i64 (len : Int) (len : Int) (by omega) (Int.le_refl _) (by rw [hz2]; omega) (by omega)
 have HO : Hid ((w.alloc (.cells (madeCells #[.int .i64 0] len) 3)).ownsRow w.heap.size 3 1 (.slice (some ⟨w.heap.size,0,none⟩) len len) len ((List.replicate len 0).map (Value.int .i64))):=hJQ (by
  have h:=World.ownsRow_lit (base:=w.heap.size) (e:=3) (size:=1) w (madeCells #[.int .i64 0] len) len (Nat.le_refl _) (by unfold maxLen; omega) (by rw [size_madeCells,Nat.mul_one])
  rw [toList_madeCells_one] at h
  rw [List.map_replicate]
  exact h)
 have HR:=hJQ hR
 clear hR
 go_enter Tryz.func72,Tryz.ntmps72
 go_wp2
 go_loopw [11] (fun i wr => KRel w len fs i wr) (fun i _ => len - (intOf i).toNat)
 case atStart => exact ⟨0,List.replicate len 0,by omega,rfl,HO.out,fun j hj => absurd hj (by omega),(Below.refl _ _).alloc (Nat.le_refl _) _⟩
 case round =>
  obtain ⟨k,ys,hk,rfl,hown,hx,hb⟩:=hrel
  have HO2:=hJQ hown
  have HX:=hJQ hx
  have HB:=hJQ hb
  clear hown hx hb
  by_cases hlt : k < len
  ·obtain ⟨b,off,rfl,hc⟩:=(HR.out.kept HB.out).2 (by omega)
   obtain ⟨h1,h2,h3⟩:=hc k hlt
   obtain ⟨f,hf⟩ : ∃ f,f = fs.getD k z0:=⟨_,rfl⟩
   rw [<- hf] at h1 h2 h3
   have HF:=hJQ hf
   have gx : wr.cell? ⟨w.heap.size,k,none⟩ = some (.int .i64 (ys.getD k 0)):=by
    have : k < ys.length:=by have:=HO2.out.1; rw [List.length_map] at this; omega
    rw [HO2.out.cellAt k (by omega),List.getElem?_map,List.getD_eq_getElem?_getD,List.getElem?_eq_getElem this]
    rfl
   have gf : wr.frozen? ⟨w.heap.size,k,none⟩ = false:=HO2.out.frozenAt k
   have gl : w.heap.size < wr.heap.size:=cell_lt gx
   clear hc hf
   go_wp2
   go_roundw
   case rel => exact kinds_round _ hlt HF.out HO2.out HX.out HB.out
   case measure => simp [intOf]; omega
  ·obtain rfl : len = k:=by omega
   go_wp2
   go_ret
   have hl:=HR.out.1
   have hy : ys = fs.map (·.k):=ext_getD (by have:=HO2.out.1; rw [List.length_map] at this; rw [List.length_map]; omega) (fun j hj => by
    rw [getD_map_k]; exact HX.out j (by have:=HO2.out.1; rw [List.length_map] at this; omega))
   refine ⟨rfl,?_,HB.out⟩
   rw [<- hy]
   exact reads_own HO2.out
end Go.Proofs.YtlppinfjdnhlbaaGreatDoor.Pq
