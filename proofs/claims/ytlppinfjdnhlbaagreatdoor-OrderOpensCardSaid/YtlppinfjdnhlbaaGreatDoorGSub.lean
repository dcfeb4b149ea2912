/-
 Words for memory: bytes that read; rows of the call's own; the program's disk in memory,and the document's; what a method of the program's disk leaves of the rest. No condition.
 What the small methods of the program's disk return: Many,Pending,Dead,Arm,amiss,spend. No condition.
 Parts of bytes that read; a slice of bytes that stands in a block of its own. No condition.
-/
import Derived.Test.YtlppinfjdnhlbaaGreatDoorHd
import Derived.Test.YtlppinfjdnhlbaaGreatDoorGLed4
import Derived.Test.YtlppinfjdnhlbaaGreatDoorRows
import Derived.WalkKit
import Derived.ProofKit
import Derived.OpenShut
import Derived.Lib.Hide
import Derived.Outline
import Derived.Below
import Derived.OwnWalk
import Derived.OneCell
import Derived.Deep.LoopGhost
import Derived.Deep.Draws
import Derived.Deep.Slices
import Derived.Deep.MidRow
import Derived.RegionTactic
import Derived.Maps.AppendAt
import Derived.Laws.AppendOwnNone
import Derived.Laws.BytesArg
import Derived.Laws.CopyOwn
import Derived.Lib.AppendStr
namespace Go.Proofs.YtlppinfjdnhlbaaGreatDoor.Gq
set_option maxRecDepth 100000
open Go.ChangeShapes Go.WideShapes Go.ChangeAt Go.RowKit

theorem info5 : (Tryz.prog.info? 5).map (fun i => (i.zero,i.size,i.bytes)) = some (some (.int .u8 0),1,1):=by kernel_rfl
theorem info9 : (Tryz.prog.info? 9).map (fun i => (i.zero,i.size,i.bytes)) = some (some (.string ⟨#[]⟩),1,16):=by kernel_rfl
def Z64 : Array Value:=Array.replicate 64 (.int .u8 0)
theorem info66 : (Tryz.prog.info? 152).map (fun i => (i.zero,i.size,i.bytes)) = some (some (.agg Z64),64,64):=by kernel_rfl
theorem info74 : (Tryz.prog.info? 154).map (fun i => (i.zero,i.size,i.bytes)) = some (some (.agg (#[Value.int .i64 0] ++ Z64)),65,72):=by kernel_rfl

/-! ### Bytes that read -/
def Reads (w : World) (ad : Option Addr) (len : Nat) (zs : List Int) : Prop :=
 zs.length = len /\ (0 < len -> ∃ b off,ad = some ⟨b,off,none⟩ /\ ∀ i,i < len -> w.cell? ⟨b,off + i,none⟩ = some (.int .u8 (zs.getD i 0))) /\ ∀ k,0 <= zs.getD k 0 /\ zs.getD k 0 <= 255
theorem Reads.bys {w : World} {ad : Option Addr} {len : Nat} {zs : List Int} (h : Reads w ad len zs) : Bys zs:=getD_bys h.2.2
theorem reads_mk {w : World} {ad : Option Addr} {len : Nat} {zs : List Int} (h1 : zs.length = len) (h2 : 0 < len -> ∃ b off,ad = some ⟨b,off,none⟩ /\ ∀ i,i < len -> w.cell? ⟨b,off + i,none⟩ = some (.int .u8 (zs.getD i 0))) (h3 : Bys zs) : Reads w ad len zs:=⟨h1,h2,bys_getD h3⟩
theorem reads_none (w : World) : Reads w none 0 []:=reads_mk rfl (fun h => absurd h (by omega)) bys_nil
theorem cell_lt {w : World} {b : Nat} {o : Nat} {v : Value} (h : w.cell? ⟨b,o,none⟩ = some v) : b < w.heap.size:=by
 rcases Nat.lt_or_ge b w.heap.size with h' | h'
 ·exact h'
 ·simp [World.cell?,Array.getElem?_eq_none h'] at h
theorem Reads.kept {w w' : World} {ad : Option Addr} {len : Nat} {zs : List Int} (hR : Reads w ad len zs) (hb : Below w.heap.size w w') : Reads w' ad len zs:=by
 obtain ⟨h1,h2,h3⟩:=hR
 refine ⟨h1,fun hl => ?_,h3⟩
 obtain ⟨b,off,e,hc⟩:=h2 hl
 exact ⟨b,off,e,fun i hi => (hb.cell (p:=⟨b,off + i,none⟩) (cell_lt (hc i hi))).trans (hc i hi)⟩
def Under (B : Nat) (ad : Option Addr) (len : Nat) : Prop:=0 < len -> ∀ a,ad = some a -> a.block < B
theorem Reads.under {w : World} {ad : Option Addr} {len : Nat} {zs : List Int} (h : Reads w ad len zs) : Under w.heap.size ad len:=fun hl a ha => by
 obtain ⟨b,off,e,hc⟩:=h.2.1 hl
 rw [e] at ha
 injection ha with ha
 rw [<- ha]
 exact cell_lt (hc 0 hl)
theorem Reads.keptAt {w w' : World} {B : Nat} {ad : Option Addr} {len : Nat} {zs : List Int} (hR : Reads w ad len zs) (hu : Under B ad len) (hb : Below B w w') : Reads w' ad len zs:=by
 obtain ⟨h1,h2,h3⟩:=hR
 refine ⟨h1,fun hl => ?_,h3⟩
 obtain ⟨b,off,e,hc⟩:=h2 hl
 exact ⟨b,off,e,fun i hi => (hb.cell (p:=⟨b,off + i,none⟩) (show b < B from hu hl _ e)).trans (hc i hi)⟩
theorem below_drewN {B : Nat} {a w : World} (h : Below B a w) (n : Nat) : Below B a (w.drewN n):=⟨h.os,h.tape,h.output,h.size,h.block⟩
theorem box_below (w : World) (o : Obj) : Below w.heap.size w (w.alloc o):=(Below.refl _ _).alloc (Nat.le_refl _) _
theorem new_block (w : World) (o : Obj) : (w.alloc o).heap[w.heap.size]? = some o:=heap_alloc_new w o

/-! ### Rows of the call's own -/
theorem own_ge {w : World} {base e size n : Nat} {v : Value} {xs : List Value} (h : w.ownsRow base e size v n xs) : ∀ k,v.ownBlock = some k -> base <= k:=fun k hk => (h.lt k hk).1
theorem own_base {w : World} {b b' e size n : Nat} {v : Value} {xs : List Value} (h : w.ownsRow b e size v n xs) (hb : b' <= b) : w.ownsRow b' e size v n xs:=by
 refine ⟨h.1,?_⟩
 rcases h.2 with hn | ⟨g,cap,cur,rfl,hbg,rest⟩
 ·exact .inl hn
 ·exact .inr ⟨g,cap,cur,rfl,by omega,rest⟩
theorem own_below {w w' : World} {base e size n : Nat} {v : Value} {xs : List Value} (h : w.ownsRow base e size v n xs) (hb : Below w.heap.size w w') : w'.ownsRow base e size v n xs:=by
 refine ⟨h.1,?_⟩
 rcases h.2 with hn | ⟨g,cap,cur,rfl,hbg,hg,rest⟩
 ·exact .inl hn
 ·exact .inr ⟨g,cap,cur,rfl,hbg,(hb.block g (Array.getElem?_eq_some_iff.1 hg).1).trans hg,rest⟩
theorem own_tag {w w' : World} {base e size n : Nat} {v : Value} {xs : List Value} (h : w.ownsRow base e size v n xs) (hk : ∀ (k : Nat) (cs : Array Value),w.heap[k]? = some (Obj.cells cs e (0,0)) -> w'.heap[k]? = some (Obj.cells cs e (0,0))) : w'.ownsRow base e size v n xs:=by
 refine ⟨h.1,?_⟩
 rcases h.2 with hn | ⟨g,cap,cur,rfl,hbg,hg,rest⟩
 ·exact .inl hn
 ·exact .inr ⟨g,cap,cur,rfl,hbg,hk g cur hg,rest⟩
theorem own_ne {w : World} {base e size n : Nat} {v : Value} {xs : List Value} (h : w.ownsRow base e size v n xs) {k : Nat} {cs : Array Value} {t : TypeId} {fr : Nat × Nat} (hk : w.heap[k]? = some (.cells cs t fr)) (ht : t ≠ e) : v.ownBlock ≠ some k:=by
 intro e'
 rcases h.2 with ⟨rfl,_⟩ | ⟨g,cap,cur,rfl,_,hg,_⟩
 ·simp [Value.ownBlock] at e'
 ·simp only [Value.ownBlock,Option.some.injEq] at e'
  subst e'
  rw [hk] at hg
  injection hg with hg
  injection hg with _ h2
  exact ht h2
theorem own_reads {w : World} {base n : Nat} {v : Value} {zs : List Int} (h : w.ownsRow base 5 1 v n (zs.map (Value.int .u8))) (hB : Bys zs) : ∃ A c,v = .slice A n c /\ Reads w A n zs /\ n <= c /\ c <= maxLen:=by
 have hl : zs.length = n:=by have:=h.1; rw [List.length_map] at this; omega
 rcases h.2 with ⟨rfl,rfl⟩ | ⟨g,cap,cur,rfl,hbg,hg,hn,hc,hs,ht⟩
 ·exact ⟨none,0,rfl,reads_mk hl (fun h => absurd h (by omega)) hB,by omega,by unfold maxLen; omega⟩
 ·refine ⟨_,cap,rfl,reads_mk hl (fun _ => ⟨g,0,rfl,fun i hi => ?_⟩) hB,hn,hc⟩
  have hc : w.cell? ⟨g,0 + i,none⟩ = (zs.map (Value.int .u8))[i]?:=by
   rw [Nat.zero_add]
   have:=h.cells (g:=g) rfl i
   rw [Go.WideShapes.add_plain,Nat.zero_add] at this
   have hlt : i < (zs.map (Value.int .u8)).length:=by rw [List.length_map]; omega
   rw [List.getElem?_eq_getElem hlt] at this ⊢
   exact this _ rfl
  rw [hc,List.getElem?_map,List.getD_eq_getElem?_getD,List.getElem?_eq_getElem (by omega)]
  rfl
theorem own_form {w : World} {base e size n : Nat} {v : Value} {xs : List Value} (h : w.ownsRow base e size v n xs) : ∃ A c,v = .slice A n c /\ n <= c /\ c <= maxLen /\ (0 < n -> ∃ g,A = some ⟨g,0,none⟩):=by
 rcases h.2 with ⟨rfl,rfl⟩ | ⟨g,cap,cur,rfl,hbg,hg,hn,hc,hs,ht⟩
 ·exact ⟨none,0,rfl,by omega,by unfold maxLen; omega,fun h => absurd h (by omega)⟩
 ·exact ⟨_,cap,rfl,hn,hc,fun _ => ⟨g,rfl⟩⟩
theorem own_cell {w : World} {base e size n g c : Nat} {xs : List Value} (h : w.ownsRow base e size (.slice (some ⟨g,0,none⟩) n c) n xs) (j : Nat) (v : Value) (hv : xs[j]? = some v) : w.cell? ⟨g,j,none⟩ = some v:=by
 have:=h.cells (g:=g) rfl j v hv
 rwa [Go.WideShapes.add_plain,Nat.zero_add] at this

/-! ### Cells of sectors and of writes -/
def ints (s : List Int) : List Value:=s.map (Value.int .u8)
def flat (l : List (List Int)) : List Value:=l.flatMap ints
def wcell (x : Wr) : List Value:=Value.int .i64 (x.1 : Int) :: ints x.2
def wcells (l : List Wr) : List Value:=l.flatMap wcell
def strs (l : List (List Int)) : List Value:=l.map fun s => .string (strOfNums s)
theorem ints_length (s : List Int) : (ints s).length = s.length:=List.length_map _
theorem flat_length {l : List (List Int)} (h : Lok l) : (flat l).length = l.length * 64:=by
 induction l with
 | nil => rfl
 | cons s l ih =>
  have h1:=ih (fun x hx => h x (by simp [hx]))
  have h2:=(h s (by simp)).1
  simp only [flat,List.flatMap_cons,List.length_append,ints_length,List.length_cons] at *
  omega
theorem part_at {α : Type} (f : α -> List Value) (m : Nat) : ∀ (l : List α) (k : Nat) (hk : k < l.length),(∀ x ∈ l,(f x).length = m) -> ((l.flatMap f).drop (k * m)).take m = f l[k]
 | x :: l,0,_,h => by
  rw [Nat.zero_mul,List.drop_zero,List.flatMap_cons,List.take_append_of_le_length (by rw [h x (by simp)]; exact Nat.le_refl _),List.take_of_length_le (by rw [h x (by simp)]; exact Nat.le_refl _)]; rfl
 | x :: l,k + 1,hk,h => by
  have hx:=h x (by simp)
  rw [List.flatMap_cons,show (k + 1) * m = (f x).length + k * m by rw [hx,Nat.succ_mul]; omega,List.drop_append,List.drop_eq_nil_of_le (by omega),List.nil_append,Nat.add_sub_cancel_left]
  exact part_at f m l k (by simpa using hk) (fun y hy => h y (by simp [hy]))
theorem part_get {α : Type} (f : α -> List Value) (m : Nat) (l : List α) (k : Nat) (hk : k < l.length) (h : ∀ x ∈ l,(f x).length = m) (j : Nat) (hj : j < m) : (l.flatMap f)[k * m + j]? = (f l[k])[j]?:=by
 rw [<- part_at f m l k hk h,List.getElem?_take,if_pos hj,List.getElem?_drop]
theorem parts_length {α : Type} (f : α -> List Value) (m : Nat) : ∀ (l : List α),(∀ x ∈ l,(f x).length = m) -> (l.flatMap f).length = l.length * m
 | [],_ => by simp
 | x :: l,h => by
  rw [List.flatMap_cons,List.length_append,h x (by simp),parts_length f m l (fun y hy => h y (by simp [hy])),List.length_cons,Nat.succ_mul]; omega
theorem part_set {α : Type} (f : α -> List Value) (m : Nat) : ∀ (l : List α) (k : Nat) (_ : k < l.length) (y : α),(∀ x ∈ l,(f x).length = m) -> (f y).length = m -> splice (l.flatMap f) (k * m) (f y) = (l.set k y).flatMap f
 | x :: l,0,_,y,h,hy => by
  have hx:=h x (by simp)
  simp only [splice,Nat.zero_mul,List.take_zero,List.nil_append,Nat.zero_add,List.flatMap_cons,List.set_cons_zero]
  rw [List.drop_append,List.drop_eq_nil_of_le (by omega),List.nil_append,hx,hy,Nat.sub_self,List.drop_zero]
 | x :: l,k + 1,hk,y,h,hy => by
  have hx:=h x (by simp)
  have ih:=part_set f m l k (by simpa using hk) y (fun z hz => h z (by simp [hz])) hy
  simp only [List.set_cons_succ,List.flatMap_cons]
  rw [<- ih]
  have e1 : (k + 1) * m = (f x).length + k * m:=by rw [hx,Nat.succ_mul]; omega
  simp only [splice]
  rw [e1,List.take_append,List.take_of_length_le (by omega),Nat.add_sub_cancel_left,List.append_assoc,Nat.add_assoc,List.drop_append,List.drop_eq_nil_of_le (by omega),List.nil_append,Nat.add_sub_cancel_left]
theorem lok_parts {l : List (List Int)} (h : Lok l) : ∀ x ∈ l,(ints x).length = 64:=fun x hx => by rw [ints_length]; exact (h x hx).1
theorem ints_one (s : List Int) : ∀ u ∈ ints s,u.oneCell' = true:=fun u hu => by
 obtain ⟨z,_,rfl⟩:=List.mem_map.1 hu; rfl
theorem wcell_one (x : Wr) : ∀ u ∈ wcell x,u.oneCell' = true:=fun u hu => by
 rcases List.mem_cons.1 hu with rfl | hu
 ·rfl
 ·exact ints_one _ u hu
structure Bz where
 n : Nat
 z : Nat -> Prop
instance : Coe Bz Nat:=⟨Bz.n⟩
def Bz.new (w : World) : Bz:=⟨w.heap.size,fun k => k < w.heap.size⟩
def Mine (B : Bz) (v : Value) : Prop:=∀ k,v.ownBlock = some k -> ¬ B.z k
theorem Mine.nil (B : Bz) : Mine B (.slice none 0 0):=fun k h => by simp [Value.ownBlock] at h
/-! ### The program's disk -/
structure PD (w : World) (B : Bz) (p : Nat) (D : Dk) (sv wv : Value) (left : Int) : Prop where
 ok : Dok D
 base : B <= p
 here : w.heap[p]? = some (.cells #[sv,wv,.int .i64 left,.bool D.dead] 121 (0,0))
 secs : w.ownsRow B 152 64 sv D.firm.length (flat (cur D))
 wrs : w.ownsRow B 154 65 wv D.wait.length (wcells (was D.firm D.wait))
 left_hi : left <= 9223372036854775807
 life : D.dead = false -> D.armed = max left 0
 zp : ¬ B.z p
 zs : Mine B sv
 zw : Mine B wv
 zl : ∀ k,B.z k -> k < w.heap.size
def PDisk (w : World) (B : Bz) (p : Nat) (D : Dk) : Prop:=∃ sv wv left,PD w B p D sv wv left
structure Kp (B : Bz) (w w' : World) : Prop where
 below : Below B w w'
 kept : ∀ (k : Nat) (o : Obj),w.heap[k]? = some o -> (B.z k ∨ ∀ cs t fr,o = Obj.cells cs t fr -> t ≠ 121 /\ t ≠ 152 /\ t ≠ 154) -> w'.heap[k]? = some o
theorem Kp.tag {B : Bz} {w w' : World} (h : Kp B w w') (k : Nat) (cs : Array Value) (t : TypeId) (fr : Nat × Nat) (hk : w.heap[k]? = some (Obj.cells cs t fr)) (h1 : t ≠ 121) (h2 : t ≠ 152) (h3 : t ≠ 154) : w'.heap[k]? = some (Obj.cells cs t fr) :=
 h.kept k _ hk (.inr fun _ _ _ e => by injection e with _ e _; subst e; exact ⟨h1,h2,h3⟩)
theorem Kp.refl (B : Bz) (w : World) : Kp B w w:=⟨Below.refl _ _,fun _ _ h _ => h⟩
theorem Kp.trans {B : Bz} {a b c : World} (h : Kp B a b) (k : Kp B b c) : Kp B a c:=⟨h.below.trans k.below,fun i o hi h1 => k.kept i o (h.kept i o hi h1) h1⟩
theorem Kp.of_below {B : Bz} {w w' : World} (h : Below w.heap.size w w') (hB : B <= w.heap.size) : Kp B w w' :=
 ⟨h.mono hB,fun k _ hk _ => (h.block k (Array.getElem?_eq_some_iff.1 hk).1).trans hk⟩
theorem PD.lt {w : World} {B : Bz} {p : Nat} {D : Dk} {sv wv : Value} {left : Int} (h : PD w B p D sv wv left) : p < w.heap.size:=(Array.getElem?_eq_some_iff.1 h.here).1
theorem PD.cell {w : World} {B : Bz} {p : Nat} {D : Dk} {sv wv : Value} {left : Int} (h : PD w B p D sv wv left) :
  w.cell? ⟨p,0,none⟩ = some sv /\ w.cell? ⟨p,1,none⟩ = some wv /\ w.cell? ⟨p,2,none⟩ = some (.int .i64 left) /\ w.cell? ⟨p,3,none⟩ = some (.bool D.dead):=by
 refine ⟨?_,?_,?_,?_⟩ <;> (rw [cell_of_row w p _ _ _ _ h.here]; rfl)
theorem PD.free {w : World} {B : Bz} {p : Nat} {D : Dk} {sv wv : Value} {left : Int} (h : PD w B p D sv wv left) (j : Nat) : w.frozen? ⟨p,j,none⟩ = false:=frozen_of_row w p j _ _ h.here
theorem PD.kept {w w' : World} {B : Bz} {p : Nat} {D : Dk} {sv wv : Value} {left : Int} (h : PD w B p D sv wv left) (hb : Below w.heap.size w w') : PD w' B p D sv wv left :=
 ⟨h.ok,h.base,(hb.block p h.lt).trans h.here,own_below h.secs hb,own_below h.wrs hb,h.left_hi,h.life,h.zp,h.zs,h.zw,fun k hk => Nat.lt_of_lt_of_le (h.zl k hk) hb.size⟩
theorem PDisk.kept {w w' : World} {B : Bz} {p : Nat} {D : Dk} (h : PDisk w B p D) (hb : Below w.heap.size w w') : PDisk w' B p D:=by
 obtain ⟨sv,wv,left,h⟩:=h
 exact ⟨sv,wv,left,h.kept hb⟩
theorem PDisk.mono {w : World} {B B' : Bz} {p : Nat} {D : Dk} (h : PDisk w B p D) (hb : B'.n <= B.n) (hz : B'.z = B.z) : PDisk w B' p D:=by
 obtain ⟨sv,wv,left,h⟩:=h
 obtain ⟨n,z⟩:=B
 obtain ⟨n',z'⟩:=B'
 simp only at hb hz
 subst hz
 exact ⟨sv,wv,left,h.ok,Nat.le_trans hb h.base,h.here,own_base h.secs hb,own_base h.wrs hb,h.left_hi,h.life,h.zp,h.zs,h.zw,h.zl⟩
theorem PDisk.tags {w w' : World} {B : Bz} {p : Nat} {D : Dk} (h : PDisk w B p D) (hsz : w.heap.size <= w'.heap.size) (hk : ∀ (k : Nat) (cs : Array Value) (t : TypeId) (fr : Nat × Nat),w.heap[k]? = some (Obj.cells cs t fr) -> t = 121 ∨ t = 152 ∨ t = 154 -> w'.heap[k]? = some (Obj.cells cs t fr)) : PDisk w' B p D:=by
 obtain ⟨sv,wv,left,h⟩:=h
 exact ⟨sv,wv,left,h.ok,h.base,hk _ _ _ _ h.here (.inl rfl),own_tag h.secs (fun k cs hx => hk _ _ _ _ hx (.inr (.inl rfl))),own_tag h.wrs (fun k cs hx => hk _ _ _ _ hx (.inr (.inr rfl))),h.left_hi,h.life,h.zp,h.zs,h.zw,fun k hk => Nat.lt_of_lt_of_le (h.zl k hk) hsz⟩
theorem PDisk.setCell {w : World} {B : Bz} {p : Nat} {D : Dk} (h : PDisk w B p D) {a : Addr} {cs : Array Value} {t : TypeId} {fr : Nat × Nat} (ha : w.heap[a.block]? = some (.cells cs t fr)) (h1 : t ≠ 121) (h2 : t ≠ 152) (h3 : t ≠ 154) (v : Value) : PDisk (w.setCell a v) B p D:=by
 refine h.tags (by simp) fun k cs' t' fr' hk ht => ?_
 rw [heap_setCell_other w a k v]
 ·exact hk
 ·rintro rfl
  rw [ha] at hk
  injection hk with hk
  injection hk with _ e _
  subst e
  rcases ht with ht | ht | ht <;> contradiction

/-! ### Strings -/
def sb (s : ByteArray) : List Int:=s.data.toList.map fun c => (c.toNat : Int)
theorem sb_str {l : List Int} (h : Bys l) : sb (strOfNums l) = l:=by
 simp only [strOfNums,sb,List.map_map]
 conv => rhs; rw [<- List.map_id l]
 apply List.map_congr_left
 intro c hc
 have:=h c hc
 simp only [Function.comp,id]
 have e : (UInt8.ofNat c.toNat).toNat = c.toNat % 256:=by simp
 rw [e]; omega
theorem str_inj {a b : List Int} (ha : Bys a) (hb : Bys b) (h : strOfNums a = strOfNums b) : a = b:=by
 rw [<- sb_str ha,<- sb_str hb,h]
theorem str_size (l : List Int) : (strOfNums l).size = l.length:=by
 simp [strOfNums,ByteArray.size]
theorem conv_reads {W : World} {A : Option Addr} {m c : Nat} {zs : List Int} (hR : Reads W A m zs) : (convert 82 9 (.slice A m c)).run Tryz.prog W = .ok (.string (strOfNums zs)) W:=by
 obtain ⟨h1,h2,_⟩:=id hR
 rcases Nat.eq_zero_or_pos m with h0 | h0
 ·subst h0
  have hz : zs = []:=List.eq_nil_of_length_eq_zero h1
  subst hz
  cases A with
  | none => exact run_convert_bytes_nil W 82 5 Tryz.underlying82 Tryz.underlying5 0 c 9 Tryz.underlying9
  | some ad =>
   rw [run_convert_bytes_string W 82 9 5 (some ad) 0 c Tryz.underlying82 Tryz.underlying5 Tryz.underlying9,run_bytesToString W ad 0 c [] (by simp [loadCells,loadCellsFrom,Sem.run_pure])]
   rfl
 ·obtain ⟨b,off,rfl,hc⟩:=h2 h0
  exact run_convert_bytes_arg W 82 5 Tryz.underlying82 Tryz.underlying5 b off m c zs h1 hc 9 Tryz.underlying9
open Go.ChangeShapes Go.WideShapes Go.ChangeAt Go.RowKit

theorem many_any (B : Bz) (p : Nat) (D : Dk) (w : World) (h : PDisk w B p D) :
  Calls Tryz.prog 80 #[.pointer (some ⟨p,0,none⟩)] w fun e w' => e = .returned (.int .i64 (D.firm.length : Int)) /\ w = w':=by
 obtain ⟨sv,wv,left,h⟩:=h
 obtain ⟨h0,h1,h2,h3⟩:=h.cell
 obtain ⟨A,c,rfl,-,-,-⟩:=own_form h.secs
 clear h
 go_enter Tryz.func80,Tryz.ntmps80
 go_wp2
 go_ret
 exact ⟨rfl,rfl⟩
theorem dead_any (B : Bz) (p : Nat) (D : Dk) (w : World) (h : PDisk w B p D) :
  Calls Tryz.prog 61 #[.pointer (some ⟨p,0,none⟩)] w fun e w' => e = .returned (.bool D.dead) /\ w = w':=by
 obtain ⟨sv,wv,left,h⟩:=h
 obtain ⟨h0,h1,h2,h3⟩:=h.cell
 clear h
 go_enter Tryz.func61,Tryz.ntmps61
 go_wp2
 go_ret
 exact ⟨rfl,rfl⟩
theorem struct_set {w : World} {p : Nat} {sv wv : Value} {left : Int} {dd : Bool} (h : w.heap[p]? = some (.cells #[sv,wv,.int .i64 left,.bool dd] 121 (0,0))) (x : Int) :
  (w.setCell ⟨p,2,none⟩ (.int .i64 x)).heap[p]? = some (.cells #[sv,wv,.int .i64 x,.bool dd] 121 (0,0)):=heap_setCell_same w p 2 _ 121 _ h
theorem struct_dead {w : World} {p : Nat} {sv wv : Value} {left : Int} {dd : Bool} (h : w.heap[p]? = some (.cells #[sv,wv,.int .i64 left,.bool dd] 121 (0,0))) (x : Bool) :
  (w.setCell ⟨p,3,none⟩ (.bool x)).heap[p]? = some (.cells #[sv,wv,.int .i64 left,.bool x] 121 (0,0)):=heap_setCell_same w p 3 _ 121 _ h
theorem struct_wait {w : World} {p : Nat} {sv wv : Value} {left : Int} {dd : Bool} (h : w.heap[p]? = some (.cells #[sv,wv,.int .i64 left,.bool dd] 121 (0,0))) (x : Value) :
  (w.setCell ⟨p,1,none⟩ x).heap[p]? = some (.cells #[sv,x,.int .i64 left,.bool dd] 121 (0,0)):=heap_setCell_same w p 1 _ 121 _ h
theorem struct_kp {w : World} {B : Bz} {p : Nat} {cs : Array Value} (hB : B <= p) (hz : ¬ B.z p) (h : w.heap[p]? = some (.cells cs 121 (0,0))) (j : Nat) (v : Value) : Kp B w (w.setCell ⟨p,j,none⟩ v) :=
 ⟨(Below.refl _ _).setCell hB v,fun k o hk h1 => by
  rw [heap_setCell_other w _ k v]
  ·exact hk
  ·rintro rfl
   rw [h] at hk
   injection hk with hk
   rcases h1 with h1 | h1
   ·exact hz h1
   ·exact absurd rfl (h1 _ _ _ hk.symm).1⟩
theorem struct_row {w : World} {B base e size n p : Nat} {v : Value} {xs : List Value} {cs : Array Value} (h : w.ownsRow B e size v n xs) (hp : w.heap[p]? = some (.cells cs 121 (0,0))) (he : 121 ≠ e) (_ : base = B) (j : Nat) (x : Value) : (w.setCell ⟨p,j,none⟩ x).ownsRow B e size v n xs :=
 ownsRow_setCell_other h (own_ne h hp he) x
theorem cell_of {w : World} {p j : Nat} {cs : Array Value} {t : TypeId} {v : Value} (h : w.heap[p]? = some (.cells cs t (0,0))) (hv : cs[j]? = some v) : w.cell? ⟨p,j,none⟩ = some v:=by
 rw [cell_of_row w p j cs t _ h]; exact hv

theorem ret_i {k : IntKind} {a b : Int} (h : a = b) : Ending.returned (.int k a) = .returned (.int k b):=by rw [h]
def amiss (D : Dk) (n : Int) : Int:=if D.dead = true then 40 else if n < 0 ∨ (D.firm.length : Int) <= n then 41 else 0
theorem amiss_any (B : Bz) (p : Nat) (D : Dk) (n : Int) (w : World) (h : PDisk w B p D) :
  Calls Tryz.prog 82 #[.pointer (some ⟨p,0,none⟩),.int .i64 n] w fun e w' => e = .returned (.int .i64 (amiss D n)) /\ w = w':=by
 obtain ⟨sv,wv,left,h⟩:=h
 obtain ⟨h0,h1,h2,h3⟩:=h.cell
 obtain ⟨A,c,rfl,-,-,-⟩:=own_form h.secs
 clear h
 obtain ⟨a,ha⟩ : ∃ a,a = amiss D n:=⟨_,rfl⟩
 rw [<- ha]
 have HA : Hid (a = if D.dead = true then 40 else if n < 0 ∨ (D.firm.length : Int) <= n then 41 else 0):=hJQ ha
 clear ha
 cases hd : D.dead with
 | true =>
  rw [hd] at h3
  have HA2:=hJQ (HA.out.trans (by rw [if_pos hd]))
  clear hd
  go_enter Tryz.func82,Tryz.ntmps82
  go_wp2
  go_ret
  exact ⟨ret_i HA2.out.symm,rfl⟩
 | false =>
  rw [hd] at h3
  have HA2 : Hid (a = if n < 0 ∨ (D.firm.length : Int) <= n then 41 else 0):=hJQ (HA.out.trans (by rw [if_neg (by simp [hd])]))
  clear hd
  by_cases hn : n < 0
  ·go_enter Tryz.func82,Tryz.ntmps82
   go_wp2
   go_ret
   exact ⟨ret_i (by rw [HA2.out,if_pos (.inl hn)]),rfl⟩
  by_cases hm : (D.firm.length : Int) <= n
  ·go_enter Tryz.func82,Tryz.ntmps82
   go_wp2
   go_ret
   exact ⟨ret_i (by rw [HA2.out,if_pos (.inr hm)]),rfl⟩
  ·go_enter Tryz.func82,Tryz.ntmps82
   go_wp2
   go_ret
   exact ⟨ret_i (by rw [HA2.out,if_neg (by omega)]),rfl⟩
def SpendPost (w : World) (p : Nat) (sv wv : Value) (left : Int) (dd : Bool) (e : Ending) (w' : World) : Prop :=
 e = .returned (.int .i64 (if left = 1 then 40 else 0)) /\ (∃ v j,w' = w.setCell ⟨p,j,none⟩ v ∨ w' = w) /\ w'.heap[p]? = some (.cells #[sv,wv,.int .i64 (if 1 < left then left - 1 else left),.bool (if left = 1 then true else dd)] 121 (0,0))
theorem spend_any (p : Nat) (sv wv : Value) (left : Int) (dd : Bool) (w : World) (h : w.heap[p]? = some (.cells #[sv,wv,.int .i64 left,.bool dd] 121 (0,0))) (hl : left <= 9223372036854775807) :
  Calls Tryz.prog 83 #[.pointer (some ⟨p,0,none⟩)] w (SpendPost w p sv wv left dd):=by
 have c2 : w.cell? ⟨p,2,none⟩ = some (.int .i64 left):=cell_of h rfl
 have c3 : w.cell? ⟨p,3,none⟩ = some (.bool dd):=cell_of h rfl
 have f2:=frozen_of_row w p 2 _ _ h
 have f3:=frozen_of_row w p 3 _ _ h
 have H:=hJQ h
 clear h
 by_cases h1 : left = 1
 ·subst h1
  go_enter Tryz.func83,Tryz.ntmps83
  go_wp2
  go_ret
  exact ⟨rfl,⟨_,_,.inl rfl⟩,struct_dead H.out true⟩
 have h1' : (left == 1) = false:=by simpa using h1
 have H1:=hJQ h1
 clear h1
 by_cases h2 : 1 < left
 ·go_enter Tryz.func83,Tryz.ntmps83
  go_wp2
  go_ret
  refine ⟨ret_i (by rw [if_neg H1.out]),⟨_,_,.inl rfl⟩,?_⟩
  rw [if_pos h2,if_neg H1.out]
  exact struct_set H.out _
 ·go_enter Tryz.func83,Tryz.ntmps83
  go_wp2
  go_ret
  refine ⟨ret_i (by rw [if_neg H1.out]),⟨.bool true,0,.inr rfl⟩,?_⟩
  rw [if_neg (by omega),if_neg H1.out]
  exact H.out
open Go.ChangeShapes Go.WideShapes Go.ChangeAt Go.RowKit

set_option maxRecDepth 100000 in
theorem sub_any {w : World} {A : Option Addr} {len cap : Nat} {zs : List Int} (hR : Reads w A len zs) (hc : len <= cap) (l h : Nat) (hlh : l <= h) (hh : h <= len) :
  ∃ A' c',(∀ W : World,(Instr.slice 82 (.slice A len cap) (some (.int .i64 (l : Int))) (some (.int .i64 (h : Int))) none).run Tryz.prog W = .ok (.slice A' (h - l) c') W) /\
   Reads w A' (h - l) ((zs.drop l).take (h - l)) /\ h - l <= c' /\ c' <= cap /\ (A ≠ none -> A' ≠ none):=by
 obtain ⟨i0,hi,hz0,hz1,hz2⟩:=info_parts info5
 refine ⟨if cap = l then A else A.map (·.add (l * 1)),cap - l,fun W => ?_,?_,by omega,by omega,fun hA => ?_⟩
 ·rw [run_slice_lh (P:=Tryz.prog) (w:=W) 82 A len cap Tryz.underlying82 .i64 .i64 (l : Int) (h : Int) (by omega) (by omega) (by omega)]
  have e : Tryz.prog.elem 82 = 5:=by kernel_rfl
  simp [e,sizeOf,typeInfo,hi,hz1,sliced]
 ·have hB:=hR.bys
  obtain ⟨h1,h2,_⟩:=hR
  refine reads_mk (by rw [List.length_take,List.length_drop]; omega) (fun hp => ?_) (bys_take _ (bys_drop _ hB))
  obtain ⟨b,off,rfl,hcell⟩:=h2 (by omega)
  rw [if_neg (by omega)]
  refine ⟨b,off + l,by simp [Go.WideShapes.add_plain],fun i hi => ?_⟩
  rw [Nat.add_assoc,hcell (l + i) (by omega),List.getD_eq_getElem?_getD,List.getD_eq_getElem?_getD,List.getElem?_take,if_pos hi,List.getElem?_drop]
 ·split
  ·exact hA
  ·cases A with
   | none => exact absurd rfl hA
   | some a => simp
set_option maxRecDepth 100000 in
theorem sub_from {w : World} {A : Option Addr} {len cap : Nat} {zs : List Int} (hR : Reads w A len zs) (hc : len <= cap) (l : Nat) (hl : l <= len) :
  ∃ A' c',(∀ W : World,(Instr.slice 82 (.slice A len cap) (some (.int .i64 (l : Int))) none none).run Tryz.prog W = .ok (.slice A' (len - l) c') W) /\
   Reads w A' (len - l) (zs.drop l) /\ len - l <= c' /\ c' <= cap:=by
 obtain ⟨A',c',h1,h2,h3,h4,_⟩:=sub_any hR hc l len hl (Nat.le_refl _)
 refine ⟨A',c',fun W => ?_,?_,h3,h4⟩
 ·rw [<- h1 W,run_slice_lh (P:=Tryz.prog) (w:=W) 82 A len cap Tryz.underlying82 .i64 .i64 (l : Int) (len : Int) (by omega) (by omega) (by omega),
   run_slice_l (P:=Tryz.prog) (w:=W) 82 A len cap Tryz.underlying82 .i64 (l : Int) (by omega) (by omega)]
  simp
 ·rw [List.take_of_length_le (by rw [List.length_drop,hR.1]; exact Nat.le_refl _)] at h2
  exact h2
set_option maxRecDepth 100000 in
theorem sub_to {w : World} {A : Option Addr} {len cap : Nat} {zs : List Int} (hR : Reads w A len zs) (hc : len <= cap) (h : Nat) (hh : h <= len) :
  ∃ A' c',(∀ W : World,(Instr.slice 82 (.slice A len cap) none (some (.int .i64 (h : Int))) none).run Tryz.prog W = .ok (.slice A' h c') W) /\ Reads w A' h (zs.take h) /\ h <= c' /\ c' <= cap:=by
 obtain ⟨A',c',h1,h2,h3,h4,_⟩:=sub_any hR hc 0 h (by omega) hh
 refine ⟨A',c',fun W => ?_,h2,h3,h4⟩
 rw [show (h : Nat) - 0 = h from rfl] at h1
 rw [<- h1 W,run_slice_lh (P:=Tryz.prog) (w:=W) 82 A len cap Tryz.underlying82 .i64 .i64 ((0 : Nat) : Int) (h : Int) (by omega) (by omega) (by omega),
  run_slice_h (P:=Tryz.prog) (w:=W) 82 A len cap Tryz.underlying82 .i64 (h : Int) (by omega) (by omega)]
 simp


end Go.Proofs.YtlppinfjdnhlbaaGreatDoor.Gq
