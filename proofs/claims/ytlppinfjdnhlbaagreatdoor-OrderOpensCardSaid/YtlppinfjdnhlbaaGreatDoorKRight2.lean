/-
 Words for memory: rows of the call's own,lists that are read,numbers,marks and entries as cells. No condition.
 Words for memory: cells that are set one by one. No condition.
 What isView,isGroup,Quorum,Primary,MarkOf,Less and before return,and the document's Quorum,Primary,Less. No condition.
 What Primary and Next return,and the document's Quorum,Primary,Next. No condition.
 What the document's atLeast and Held return of any numbers. Condition: memory holds the numbers.
 What Right and MarkOf return of any entries,and the document's Right. Condition: memory holds the entries.
 What before,Less and MarkOf return,and the document's Less. No condition.
 What Best returns of any marks. Condition: memory holds the marks.
 What the document's Right returns of any entries. Condition: memory holds the entries.
-/
import Derived.Test.YtlppinfjdnhlbaaGreatDoorHd
import Derived.Test.YtlppinfjdnhlbaaGreatDoorRMath
import Derived.Test.YtlppinfjdnhlbaaGreatDoorRows
import Derived.WalkKit
import Derived.ProofKit
import Derived.OpenShut
import Derived.Lib.Hide
import Derived.Outline
import Derived.Below
import Derived.OwnWalk
import Derived.OneCell
import Derived.Deep.LoopGhost
import Derived.Deep.Draws
import Derived.Deep.Slices
import Derived.Deep.MidRow
import Derived.Deep.Heap
import Derived.RegionTactic
import Derived.Deep.RegionHeld3
import Derived.StillTailTactics
import Derived.BigQuiet
import Derived.Deep.QuietTactic
import Derived.IntWalk
import Derived.Laws.AppendOwnNone
import Derived.Laws.StructEq
import Derived.Laws.CopyOwn
import Derived.Lib.MinMax
import Derived.Lib.SliceRun
import Derived.Deep.AppendLies
import Derived.Deep.DeepCutAuto
import Derived.Maps.AppendAt
import Derived.Maps.Range
import Derived.Deep.AppendSrc
import Derived.Deep.Upon
namespace Go.Proofs.YtlppinfjdnhlbaaGreatDoor
set_option maxRecDepth 100000
open Go.ChangeShapes Go.WideShapes Go.ChangeAt Go.RowKit Go.Proofs.Rk

theorem cell_lt {w : World} {b : Nat} {o : Nat} {v : Value} (h : w.cell? ⟨b,o,none⟩ = some v) : b < w.heap.size:=by
 rcases Nat.lt_or_ge b w.heap.size with h' | h'
 ·exact h'
 ·simp [World.cell?,Array.getElem?_eq_none h'] at h
theorem below_drewN {B : Nat} {a w : World} (h : Below B a w) (n : Nat) : Below B a (w.drewN n):=⟨h.os,h.tape,h.output,h.size,h.block⟩
theorem new_block (w : World) (o : Obj) : (w.alloc o).heap[w.heap.size]? = some o:=heap_alloc_new w o

/-! ### Rows of the call's own -/
theorem own_ge {w : World} {base e size n : Nat} {v : Value} {xs : List Value} (h : w.ownsRow base e size v n xs) : ∀ k,v.ownBlock = some k -> base <= k:=fun k hk => (h.lt k hk).1
theorem own_base {w : World} {b b' e size n : Nat} {v : Value} {xs : List Value} (h : w.ownsRow b e size v n xs) (hb : b' <= b) : w.ownsRow b' e size v n xs:=by
 refine ⟨h.1,?_⟩
 rcases h.2 with hn | ⟨g,cap,cur,rfl,hbg,rest⟩
 ·exact .inl hn
 ·exact .inr ⟨g,cap,cur,rfl,by omega,rest⟩
theorem own_below {w w' : World} {base e size n : Nat} {v : Value} {xs : List Value} (h : w.ownsRow base e size v n xs) (hb : Below w.heap.size w w') : w'.ownsRow base e size v n xs:=by
 refine ⟨h.1,?_⟩
 rcases h.2 with hn | ⟨g,cap,cur,rfl,hbg,hg,rest⟩
 ·exact .inl hn
 ·exact .inr ⟨g,cap,cur,rfl,hbg,(hb.block g (Array.getElem?_eq_some_iff.1 hg).1).trans hg,rest⟩
theorem own_ne {w : World} {base e size n : Nat} {v : Value} {xs : List Value} (h : w.ownsRow base e size v n xs) {k : Nat} {cs : Array Value} {t : TypeId} {fr : Nat × Nat} (hk : w.heap[k]? = some (.cells cs t fr)) (ht : t ≠ e) : v.ownBlock ≠ some k:=by
 intro e'
 rcases h.2 with ⟨rfl,_⟩ | ⟨g,cap,cur,rfl,_,hg,_⟩
 ·simp [Value.ownBlock] at e'
 ·simp only [Value.ownBlock,Option.some.injEq] at e'
  subst e'
  rw [hk] at hg
  injection hg with hg
  injection hg with _ h2
  exact ht h2
theorem own_form {w : World} {base e size n : Nat} {v : Value} {xs : List Value} (h : w.ownsRow base e size v n xs) : ∃ A c,v = .slice A n c /\ n <= c /\ c <= maxLen /\ (0 < n -> ∃ g,A = some ⟨g,0,none⟩):=by
 rcases h.2 with ⟨rfl,rfl⟩ | ⟨g,cap,cur,rfl,hbg,hg,hn,hc,hs,ht⟩
 ·exact ⟨none,0,rfl,by omega,by unfold maxLen; omega,fun h => absurd h (by omega)⟩
 ·exact ⟨_,cap,rfl,hn,hc,fun _ => ⟨g,rfl⟩⟩
theorem own_cell {w : World} {base e size n g c : Nat} {xs : List Value} (h : w.ownsRow base e size (.slice (some ⟨g,0,none⟩) n c) n xs) (j : Nat) (v : Value) (hv : xs[j]? = some v) : w.cell? ⟨g,j,none⟩ = some v:=by
 have:=h.cells (g:=g) rfl j v hv
 rwa [Go.WideShapes.add_plain,Nat.zero_add] at this
theorem part_at {α : Type} (f : α -> List Value) (m : Nat) : ∀ (l : List α) (k : Nat) (hk : k < l.length),(∀ x ∈ l,(f x).length = m) -> ((l.flatMap f).drop (k * m)).take m = f l[k]
 | x :: l,0,_,h => by
  rw [Nat.zero_mul,List.drop_zero,List.flatMap_cons,List.take_append_of_le_length (by rw [h x (by simp)]; exact Nat.le_refl _),List.take_of_length_le (by rw [h x (by simp)]; exact Nat.le_refl _)]; rfl
 | x :: l,k + 1,hk,h => by
  have hx:=h x (by simp)
  rw [List.flatMap_cons,show (k + 1) * m = (f x).length + k * m by rw [hx,Nat.succ_mul]; omega,List.drop_append,List.drop_eq_nil_of_le (by omega),List.nil_append,Nat.add_sub_cancel_left]
  exact part_at f m l k (by simpa using hk) (fun y hy => h y (by simp [hy]))
theorem part_get {α : Type} (f : α -> List Value) (m : Nat) (l : List α) (k : Nat) (hk : k < l.length) (h : ∀ x ∈ l,(f x).length = m) (j : Nat) (hj : j < m) : (l.flatMap f)[k * m + j]? = (f l[k])[j]?:=by
 rw [<- part_at f m l k hk h,List.getElem?_take,if_pos hj,List.getElem?_drop]
theorem parts_length {α : Type} (f : α -> List Value) (m : Nat) : ∀ (l : List α),(∀ x ∈ l,(f x).length = m) -> (l.flatMap f).length = l.length * m
 | [],_ => by simp
 | x :: l,h => by
  rw [List.flatMap_cons,List.length_append,h x (by simp),parts_length f m l (fun y hy => h y (by simp [hy])),List.length_cons,Nat.succ_mul]; omega
theorem ret_b {a b : Bool} (h : a = b) : Ending.returned (.bool a) = Ending.returned (.bool b):=by rw [h]
theorem ret_i {a b : Int} (h : a = b) : Ending.returned (.int .i64 a) = Ending.returned (.int .i64 b):=by rw [h]
theorem cell_of {w : World} {p j : Nat} {cs : Array Value} {t : TypeId} {v : Value} (h : w.heap[p]? = some (.cells cs t (0,0))) (hv : cs[j]? = some v) : w.cell? ⟨p,j,none⟩ = some v:=by
 rw [cell_of_row w p j cs t _ h]; exact hv
theorem getD_eq {α : Type} {l : List α} {k : Nat} (d : α) (h : k < l.length) : l.getD k d = l[k]:=by
 rw [List.getD_eq_getElem?_getD,List.getElem?_eq_getElem h]; rfl

/-! ### Numbers,marks,entries as cells -/
def icell (n : Int) : List Value:=[.int .i64 n]
def icells (l : List Int) : List Value:=l.flatMap icell
theorem icells_length (l : List Int) : (icells l).length = l.length * 1:=parts_length icell 1 l (fun _ _ => rfl)
theorem icells_map (l : List Int) : icells l = l.map (Value.int .i64):=by
 unfold icells
 induction l with
 | nil => rfl
 | cons x l ih => rw [List.flatMap_cons,List.map_cons,ih]; rfl
def mcell (x : Mk) : List Value:=[.int .i64 x.v,.int .i64 x.n]
def ecell (x : En) : List Value:=[.int .i64 x.v,.int .i64 x.n,.string x.b]
theorem box_below (w : World) (o : Obj) : Below w.heap.size w (w.alloc o):=(Below.refl _ _).alloc (Nat.le_refl _) _
theorem box2 (w : World) (o1 o2 : Obj) : Below w.heap.size w ((w.alloc o1).alloc o2):=((Below.refl _ _).alloc (Nat.le_refl _) _).alloc (by simp) _
theorem blk_alloc {w : World} {q : Nat} {o : Obj} (h : w.heap[q]? = some o) (o' : Obj) : (w.alloc o').heap[q]? = some o:=((box_below w o').block q (Array.getElem?_eq_some_iff.1 h).1).trans h
theorem blk_lt {w : World} {q : Nat} {o : Obj} (h : w.heap[q]? = some o) : q < w.heap.size:=(Array.getElem?_eq_some_iff.1 h).1
theorem blk_below {w w' : World} {q : Nat} {o : Obj} (h : w.heap[q]? = some o) (hb : Below w.heap.size w w') : w'.heap[q]? = some o:=(hb.block q (blk_lt h)).trans h
theorem two_box (w : World) (o1 o2 : Obj) : ∃ w2,w2 = (w.alloc o1).alloc o2 /\ Below w.heap.size w w2 /\ w2.heap[w.heap.size]? = some o1 /\ w2.heap[w.heap.size + 1]? = some o2 /\ w2.heap.size = w.heap.size + 2 :=
 ⟨_,rfl,box2 w o1 o2,blk_alloc (new_block w o1) o2,by have:=new_block (w.alloc o1) o2; simpa using this,by simp⟩
structure Wr (r : Nat) (w w' : World) : Prop where
 below : Below r w w'
 rest : ∀ k,k ≠ r -> w'.heap[k]? = w.heap[k]?
theorem Wr.refl (r : Nat) (w : World) : Wr r w w:=⟨Below.refl _ _,fun _ _ => rfl⟩
theorem Wr.set {r : Nat} {w w' : World} (h : Wr r w w') (j : Nat) (v : Value) : Wr r w (w'.setCell ⟨r,j,none⟩ v) :=
 ⟨h.below.setCell (Nat.le_refl r) v,fun k hk => (Go.Deep.blk_setCell_other w' _ _ k hk).trans (h.rest k hk)⟩
theorem Wr.gb {r : Nat} {w w' : World} (h : Wr r w w') : w.grownBy w' (some r):=⟨h.below.os,h.below.tape,h.below.output,h.below.size,fun k _ hk => h.rest k (by simpa using hk)⟩
def setRow (r : Nat) : World -> Nat -> List Value -> World
 | w,_,[] => w
 | w,j,v :: vs => setRow r (w.setCell ⟨r,j,none⟩ v) (j + 1) vs
theorem setRow_any {r : Nat} {t : TypeId} : ∀ (vs : List Value) {w0 w : World} (j : Nat) (pre rest : List Value),Wr r w0 w -> pre.length = j -> rest.length = vs.length -> w.heap[r]? = some (.cells (pre ++ rest).toArray t (0,0)) ->
  Wr r w0 (setRow r w j vs) /\ (setRow r w j vs).heap[r]? = some (.cells (pre ++ vs).toArray t (0,0))
 | [],w0,w,j,pre,rest,hw,_,hl,hb => by
  have : rest = []:=List.eq_nil_of_length_eq_zero hl
  subst this
  exact ⟨hw,hb⟩
 | v :: vs,w0,w,j,pre,rest,hw,hj,hl,hb => by
  cases rest with
  | nil => simp at hl
  | cons x rest =>
   have h1:=heap_setCell_same w r j _ t v hb
   have e : (pre ++ x :: rest).toArray.setIfInBounds j v = ((pre ++ [v]) ++ rest).toArray:=by
    apply Array.ext'
    simp [hj.symm]
   rw [e] at h1
   have:=setRow_any vs (j + 1) (pre ++ [v]) rest (hw.set j v) (by simp [hj]) (by simpa using hl) h1
   rw [List.append_assoc] at this
   exact this
theorem gb_to {w w' : World} {x B : Nat} (h : w.grownBy w' (some x)) (hx : B <= x) (hw : B <= w.heap.size) : Below B w w':=⟨h.os,h.tape,h.output,h.size,fun k hk => h.block k (by omega) (by simp; omega)⟩
theorem gb_cells {w w' : World} {x k : Nat} (h : w.grownBy w' (some x)) (hk : k ≠ x) {o : Obj} (ho : w.heap[k]? = some o) : w'.heap[k]? = some o:=(h.block k (Array.getElem?_eq_some_iff.1 ho).1 (by simpa using hk)).trans ho
theorem own_new {w : World} {g e sz n base : Nat} {cs : Array Value} (h : w.heap[g]? = some (.cells cs e (0,0))) (hb : base <= g) (hn : n <= maxLen) (hs : cs.size = n * sz) : w.ownsRow base e sz (.slice (some ⟨g,0,none⟩) n n) n cs.toList :=
 ⟨by simpa using hs,.inr ⟨g,n,cs,rfl,hb,h,Nat.le_refl _,hn,hs,by rw [List.take_of_length_le (by simp [hs])]⟩⟩
structure Rd {α : Type} (cell : α -> List Value) (sz : Nat) (w : World) (A : Option Addr) (n : Nat) (l : List α) : Prop where
 len : l.length = n
 cells : 0 < n -> ∃ b off,A = some ⟨b,off,none⟩ /\ ∀ i (hi : i < l.length) j v,(cell l[i])[j]? = some v -> w.cell? ⟨b,off + i * sz + j,none⟩ = some v
theorem Rd.below {α : Type} {cell : α -> List Value} {sz : Nat} {w w' : World} {A : Option Addr} {n : Nat} {l : List α} (h : Rd cell sz w A n l) (hb : Below w.heap.size w w') : Rd cell sz w' A n l:=by
 refine ⟨h.len,fun hn => ?_⟩
 obtain ⟨b,off,e,hc⟩:=h.cells hn
 refine ⟨b,off,e,fun i hi j v hv => ?_⟩
 have hx:=hc i hi j v hv
 exact (hb.cell (p:=⟨b,off + i * sz + j,none⟩) (cell_lt hx)).trans hx
theorem Rd.at {α : Type} {cell : α -> List Value} {sz : Nat} {w : World} {A : Option Addr} {n : Nat} {l : List α} (h : Rd cell sz w A n l) {k : Nat} (hk : k < n) :
  ∃ b off x,A = some ⟨b,off,none⟩ /\ l[k]? = some x /\ ∀ j v,(cell x)[j]? = some v -> w.cell? ⟨b,off + k * sz + j,none⟩ = some v:=by
 obtain ⟨b,off,e,hc⟩:=h.cells (by omega)
 have hk' : k < l.length:=by rw [h.len]; exact hk
 exact ⟨b,off,l[k],e,List.getElem?_eq_getElem hk',hc k hk'⟩
theorem Rd.nil {α : Type} (cell : α -> List Value) (sz : Nat) (w : World) (A : Option Addr) : Rd cell sz w A 0 []:=⟨rfl,fun h => absurd h (by omega)⟩
theorem Rd.of_own {α : Type} {cell : α -> List Value} {sz : Nat} {w : World} {base e n c : Nat} {A : Option Addr} {l : List α} (h : w.ownsRow base e sz (.slice A n c) n (l.flatMap cell)) (hl : ∀ x ∈ l,(cell x).length = sz) (hs : 0 < sz) : Rd cell sz w A n l:=by
 have hlen : l.length = n:=by
  have:=h.1
  rw [parts_length cell sz l hl] at this
  exact Nat.eq_of_mul_eq_mul_right hs this
 refine ⟨hlen,fun hn => ?_⟩
 obtain ⟨A',c',e',-,-,hA⟩:=own_form h
 obtain ⟨g,hg⟩:=hA hn
 injection e' with e1 _ e3
 subst e1 e3
 subst hg
 refine ⟨g,0,rfl,fun i hi j v hv => ?_⟩
 have hj : j < sz:=by
  have:=(List.getElem?_eq_some_iff.1 hv).1
  rw [hl l[i] (List.getElem_mem hi)] at this
  exact this
 have:=part_get cell sz l i hi hl j hj
 rw [hv] at this
 rw [Nat.zero_add]
 exact own_cell h (i * sz + j) v this
theorem run_append_rd {P : Program} {α : Type} {cell : α -> List Value} (w : World) (base : Nat) (t ty e : TypeId) (i : TypeInfo) (z : Value) (size bytes : Nat) (ht : P.underlying t = some (.slice e)) (hi : P.info? e = some i) (hz : i.zero = some z)
  (hsize : i.size = size) (hby : i.bytes = bytes) (hzs : z.cells.size = size) (hsz : 0 < size) (v : Value) (n : Nat) (xs : List Value) (hown : w.ownsRow base e size v n xs) (A : Option Addr) (m c : Nat) (l : List α) (hr : Rd cell size w A m l)
  (hl : ∀ x ∈ l,(cell x).length = size) (h1 : ∀ x,∀ u ∈ cell x,u.oneCell' = true) (hA : A = none -> c = 0) (h63 : n + m <= maxLen) (hbytes : (n + m) * bytes <= 140737488355328) (hbase : base <= w.heap.size) :
  ∃ v' w',(Builtin.append_ #[t,t] ty #[v,.slice A m c]).run P w = .ok v' w' /\ w'.ownsRow base e size v' (n + m) (xs ++ l.flatMap cell) /\ w.grownBy w' v.ownBlock:=by
 have hlen : (l.flatMap cell).length = m * size:=by rw [parts_length cell size l hl,hr.len]
 have hone : ∀ u ∈ l.flatMap cell,u.oneCell' = true:=fun u hu => by
  obtain ⟨x,_,hx⟩:=List.mem_flatMap.1 hu
  exact h1 x u hx
 have hcells : 0 < m -> ∃ a,A = some a /\ ∀ j u,(l.flatMap cell)[j]? = some u -> w.cell? (a.add j) = some u:=fun hm => by
  obtain ⟨b,off,e,hc⟩:=hr.cells hm
  refine ⟨_,e,fun j u hu => ?_⟩
  have hj : j < (l.flatMap cell).length:=(List.getElem?_eq_some_iff.1 hu).1
  have hd : j / size < l.length:=by rw [hr.len]; exact Nat.div_lt_of_lt_mul (by rw [Nat.mul_comm]; omega)
  have hm' : j % size < size:=Nat.mod_lt _ hsz
  have hsplit : j = j / size * size + j % size:=by rw [Nat.mul_comm]; exact (Nat.div_add_mod j size).symm
  have:=part_get cell size l (j / size) hd hl (j % size) hm'
  rw [<- hsplit,hu] at this
  have h2:=hc (j / size) hd (j % size) u this.symm
  rw [Go.WideShapes.add_plain]
  rw [Nat.add_assoc,<- hsplit] at h2
  exact h2
 rcases Nat.eq_zero_or_pos m with h0 | h0
 ·subst h0
  have hn : l = []:=List.eq_nil_of_length_eq_zero hr.len
  subst hn
  have hv : ∃ b s c',v = .slice b s c' /\ s <= c':=by
   rcases hown.2 with ⟨rfl,_⟩ | ⟨g,cap,cur,rfl,_,_,hle,_⟩
   ·exact ⟨none,0,0,rfl,Nat.le_refl _⟩
   ·exact ⟨_,n,cap,rfl,hle⟩
  obtain ⟨b,s,c',rfl,hle⟩:=hv
  have hs : Src P i.size t (.slice A 0 c) 0 [] w:=by
   cases A with
   | none => exact Src.ofNil w ht c
   | some a => exact Src.ofSlice w ht a 0 c [] (by simp) (fun j u hu => by simp at hu) (fun u hu => by cases hu)
  exact ⟨_,w,run_append_nothing w t t ty e i ht hi b s c' hle _ hs,by simpa using hown,World.grownBy.refl w _⟩
 ·obtain ⟨a,rfl,hc⟩:=hcells h0
  obtain ⟨v',w',hrun,g2,g3,_⟩:=run_append_own (P:=P) w base t ty e i z size bytes ht hi hz hsize hby hzs hsz v n xs hown a m c (l.flatMap cell) hlen hc hone h63 hbytes hbase
  exact ⟨v',w',hrun,g2,g3⟩
theorem wpList_append_rd {P : Program} {α : Type} {cell : α -> List Value} {w : World} {ops : Array Oper} {rest : List Oper} {o : Oper} {a : Act} {Q : Exit -> Act -> World -> Prop} (hgd : o.guard = none) (s x : Operand) (t : TypeId)
  (ho : o.op = .call { callee:=.builtin .append,args:=#[s,x],argTypes:=#[t,t] }) (base : Nat) (e : TypeId) (i : TypeInfo) (z : Value) (size bytes : Nat) (ht : P.underlying t = some (.slice e)) (hi : P.info? e = some i) (hz : i.zero = some z)
  (hsize : i.size = size) (hby : i.bytes = bytes) (hzs : z.cells.size = size) (hsz : 0 < size) (v : Value) (n : Nat) (xs : List Value) (hs : a.eval s = v) (hown : w.ownsRow base e size v n xs) (A : Option Addr) (m c : Nat) (l : List α) (hx : a.eval x = .slice A m c) (hr : Rd cell size w A m l)
  (hl : ∀ x ∈ l,(cell x).length = size) (h1 : ∀ x,∀ u ∈ cell x,u.oneCell' = true) (hA : A = none -> c = 0) (h63 : n + m <= maxLen) (hbytes : (n + m) * bytes <= 140737488355328) (hbase : base <= w.heap.size)
  (h : ∀ v' w',w'.ownsRow base e size v' (n + m) (xs ++ l.flatMap cell) -> w.grownBy w' v.ownBlock -> wpList P ops Q rest (a.put o.dst v') w') : wpList P ops Q (o :: rest) a w:=by
 refine wpList_plain hgd fun K hK => ?_
 obtain ⟨v',w',hr',h2,h3⟩:=run_append_rd (P:=P) w base t o.type e i z size bytes ht hi hz hsize hby hzs hsz v n xs hown A m c l hr hl h1 hA h63 hbytes hbase
 unfold Oper.wp execOp
 simp only [ho,resolve,invoke,builtin,Sem.run_bind,Sem.run_pure,Result.andThen_ok,List.map_toArray,List.map_cons,List.map_nil,hs,hx,hr']
 exact hK _ _ (h v' w' h2 h3)
theorem own_gb {w w' : World} {base e sz n x : Nat} {v : Value} {xs : List Value} (h : w.ownsRow base e sz v n xs) (hg : w.grownBy w' (some x)) (hne : v.ownBlock ≠ some x) : w'.ownsRow base e sz v n xs:=by
 refine ⟨h.1,?_⟩
 rcases h.2 with hn | ⟨g,cap,cur,rfl,hbg,hgc,rest⟩
 ·exact .inl hn
 ·exact .inr ⟨g,cap,cur,rfl,hbg,gb_cells hg (fun e => hne (by rw [<- e]; rfl)) hgc,rest⟩
theorem own_gb' {w w' : World} {base e sz n : Nat} {v u : Value} {xs : List Value} (h : w.ownsRow base e sz v n xs) (hg : w.grownBy w' u.ownBlock) (hne : ∀ k,u.ownBlock = some k -> v.ownBlock ≠ some k) : w'.ownsRow base e sz v n xs:=by
 rcases hu : u.ownBlock with _ | k
 ·rw [hu] at hg; exact own_below h ⟨hg.os,hg.tape,hg.output,hg.size,fun k hk => hg.block k hk (by simp)⟩
 ·rw [hu] at hg; exact own_gb h hg (hne k hu)
theorem own_apart {w : World} {b1 e1 s1 n1 b2 e2 s2 n2 : Nat} {v u : Value} {xs ys : List Value} (h : w.ownsRow b1 e1 s1 v n1 xs) (k : w.ownsRow b2 e2 s2 u n2 ys) (hne : e1 ≠ e2) : ∀ j,u.ownBlock = some j -> v.ownBlock ≠ some j:=fun j hj => by
 rcases k.2 with ⟨rfl,_⟩ | ⟨g,cap,cur,rfl,_,hg,_⟩
 ·simp [Value.ownBlock] at hj
 ·simp only [Value.ownBlock,Option.some.injEq] at hj
  subst hj
  exact own_ne h hg (Ne.symm hne)
theorem gb_own {w w' : World} {base e sz n B : Nat} {v : Value} {xs : List Value} (h : w.ownsRow base e sz v n xs) (hg : w.grownBy w' v.ownBlock) (hB : B <= base) (hw : B <= w.heap.size) : Below B w w' :=
 ⟨hg.os,hg.tape,hg.output,hg.size,fun k hk => hg.block k (by omega) (fun e => by have:=own_ge h k e.symm; omega)⟩
open Go.ChangeShapes Go.WideShapes Go.ChangeAt Go.RowKit Go.Proofs.Rk

theorem setl2 {w : World} {r : Nat} {t : TypeId} {a0 a1 : Value} (hb : w.heap[r]? = some (.cells #[a0,a1] t (0,0))) (v0 v1 : Value) : Wr r w ((w.setCell ⟨r,0,none⟩ (v0)).setCell ⟨r,1,none⟩ (v1)) /\ (((w.setCell ⟨r,0,none⟩ (v0)).setCell ⟨r,1,none⟩ (v1))).heap[r]? = some (.cells #[v0,v1] t (0,0)) :=
 setRow_any [v0,v1] 0 [] [a0,a1] (Wr.refl r w) rfl rfl hb
theorem setl3 {w : World} {r : Nat} {t : TypeId} {a0 a1 a2 : Value} (hb : w.heap[r]? = some (.cells #[a0,a1,a2] t (0,0))) (v0 v1 v2 : Value) : Wr r w (((w.setCell ⟨r,0,none⟩ (v0)).setCell ⟨r,1,none⟩ (v1)).setCell ⟨r,2,none⟩ (v2)) /\ ((((w.setCell ⟨r,0,none⟩ (v0)).setCell ⟨r,1,none⟩ (v1)).setCell ⟨r,2,none⟩ (v2))).heap[r]? = some (.cells #[v0,v1,v2] t (0,0)) :=
 setRow_any [v0,v1,v2] 0 [] [a0,a1,a2] (Wr.refl r w) rfl rfl hb
theorem setl5 {w : World} {r : Nat} {t : TypeId} {a0 a1 a2 a3 a4 : Value} (hb : w.heap[r]? = some (.cells #[a0,a1,a2,a3,a4] t (0,0))) (v0 v1 v2 v3 v4 : Value) : Wr r w (((((w.setCell ⟨r,0,none⟩ (v0)).setCell ⟨r,1,none⟩ (v1)).setCell ⟨r,2,none⟩ (v2)).setCell ⟨r,3,none⟩ (v3)).setCell ⟨r,4,none⟩ (v4)) /\ ((((((w.setCell ⟨r,0,none⟩ (v0)).setCell ⟨r,1,none⟩ (v1)).setCell ⟨r,2,none⟩ (v2)).setCell ⟨r,3,none⟩ (v3)).setCell ⟨r,4,none⟩ (v4))).heap[r]? = some (.cells #[v0,v1,v2,v3,v4] t (0,0)) :=
 setRow_any [v0,v1,v2,v3,v4] 0 [] [a0,a1,a2,a3,a4] (Wr.refl r w) rfl rfl hb
theorem seti {w : World} {r : Nat} {t : TypeId} {cs : Array Value} (hb : w.heap[r]? = some (.cells cs t (0,0))) (i : Nat) (x : Value) : Wr r w (w.setCell ⟨r,i,none⟩ x) /\ (w.setCell ⟨r,i,none⟩ x).heap[r]? = some (.cells (cs.setIfInBounds i x) t (0,0)) :=
 ⟨(Wr.refl r w).set i x,heap_setCell_same w r i cs t x hb⟩
theorem Wr.blk {r q : Nat} {w w' : World} (h : Wr r w w') (hne : q ≠ r) {o : Obj} (ho : w.heap[q]? = some o) : w'.heap[q]? = some o:=(h.rest q hne).trans ho
theorem Wr.new {r : Nat} {w0 w w' : World} (h : Wr r w w') (hb : Below w0.heap.size w0 w) (hr : w0.heap.size <= r) : Below w0.heap.size w0 w':=hb.trans (gb_to h.gb hr hb.size)
open Go.ChangeShapes Go.WideShapes Go.ChangeAt Go.RowKit Go.Proofs.Rk

theorem isview_any (v : Int) (w : World) : Calls Tryz.prog 129 #[.int .i64 v] w fun e w' => e = .returned (.bool (isV v)) /\ w = w':=by
 obtain ⟨r,hr⟩ : ∃ r,isV v = r:=⟨_,rfl⟩
 rw [hr]
 obtain ⟨b,hb⟩ : ∃ b,decide (v <= 4611686018427387904) = b:=⟨_,rfl⟩
 obtain ⟨a,ha⟩ : ∃ a,decide (0 <= v) = a:=⟨_,rfl⟩
 have HE : Hid ((a && b) = r):=hJQ (by rw [<- hr,<- hb,<- ha]; rfl)
 clear hr
 cases a with
 | true =>
  go_enter Tryz.func129,Tryz.ntmps129
  go_wp2_with fail
  go_ret
  exact ⟨ret_b HE.out,rfl⟩
 | false =>
  go_enter Tryz.func129,Tryz.ntmps129
  go_wp2_with fail
  go_ret
  exact ⟨ret_b HE.out,rfl⟩
theorem isgroup_any (v : Int) (w : World) : Calls Tryz.prog 123 #[.int .i64 v] w fun e w' => e = .returned (.bool (isG v)) /\ w = w':=by
 obtain ⟨r,hr⟩ : ∃ r,isG v = r:=⟨_,rfl⟩
 rw [hr]
 obtain ⟨b,hb⟩ : ∃ b,decide (v <= 7) = b:=⟨_,rfl⟩
 obtain ⟨a,ha⟩ : ∃ a,decide (1 <= v) = a:=⟨_,rfl⟩
 have HE : Hid ((a && b) = r):=hJQ (by rw [<- hr,<- hb,<- ha]; rfl)
 clear hr
 cases a with
 | true =>
  go_enter Tryz.func123,Tryz.ntmps123
  go_wp2_with fail
  go_ret
  exact ⟨ret_b HE.out,rfl⟩
 | false =>
  go_enter Tryz.func123,Tryz.ntmps123
  go_wp2_with fail
  go_ret
  exact ⟨ret_b HE.out,rfl⟩
theorem quorum_any (m : Int) (w : World) : Calls Tryz.prog 79 #[.int .i64 m] w fun e w' => e = .returned (.int .i64 (quo m)) /\ w = w':=by
 have HG:=hJQ (isgroup_any m w)
 obtain ⟨g,hg⟩ : ∃ g,isG m = g:=⟨_,rfl⟩
 rw [hg] at HG
 cases g with
 | false =>
  have HQ : Hid ((0 : Int) = quo m):=hJQ (by unfold quo; rw [if_neg (by rw [hg]; decide)])
  clear hg
  go_enter Tryz.func79,Tryz.ntmps79
  go_wp2_with fail
  refine HG.out.mono ?_
  rintro e w2 ⟨rfl,rfl⟩
  go_wp2_with fail
  go_ret
  exact ⟨ret_i HQ.out,rfl⟩
 | true =>
  have HQ : Hid (quo m = m / 2 + 1):=hJQ (by unfold quo; rw [if_pos hg])
  have hm : 1 <= m /\ m <= 7:=by rcases isG_cases hg with h | h | h | h | h | h | h <;> omega
  clear hg
  go_enter Tryz.func79,Tryz.ntmps79
  go_wp2_with fail
  refine HG.out.mono ?_
  rintro e w2 ⟨rfl,rfl⟩
  go_wp2_with fail
  go_ret
  exact ⟨ret_i (by rw [HQ.out]),rfl⟩
open Go.ChangeShapes Go.WideShapes Go.ChangeAt Go.RowKit Go.Proofs.Rk

theorem primary_any (v m : Int) (w : World) : Calls Tryz.prog 86 #[.int .i64 v,.int .i64 m] w fun e w' => e = .returned (.int .i64 (pri v m)) /\ w = w':=by
 have HV:=hJQ (fun W => isview_any v W)
 have HG:=hJQ (fun W => isgroup_any m W)
 obtain ⟨a,ha⟩ : ∃ a,isV v = a:=⟨_,rfl⟩
 obtain ⟨g,hg⟩ : ∃ g,isG m = g:=⟨_,rfl⟩
 rw [ha] at HV
 rw [hg] at HG
 cases a with
 | false =>
  have HE : Hid ((-1 : Int) = pri v m):=hJQ (by unfold pri; rw [if_neg (by rw [ha]; simp)])
  clear ha hg
  go_enter Tryz.func86,Tryz.ntmps86
  go_wp2_with fail
  refine (HV.out _).mono ?_
  rintro e w2 ⟨rfl,rfl⟩
  go_wp2_with fail
  go_ret
  exact ⟨ret_i HE.out,rfl⟩
 | true =>
  cases g with
  | false =>
   have HE : Hid ((-1 : Int) = pri v m):=hJQ (by unfold pri; rw [if_neg (by rw [hg]; simp)])
   clear ha hg
   go_enter Tryz.func86,Tryz.ntmps86
   go_wp2_with fail
   refine (HV.out _).mono ?_
   rintro e w2 ⟨rfl,rfl⟩
   go_wp2_with fail
   refine (HG.out _).mono ?_
   rintro e w2 ⟨rfl,rfl⟩
   go_wp2_with fail
   go_ret
   exact ⟨ret_i HE.out,rfl⟩
  | true =>
   have HE : Hid (v % m = pri v m):=hJQ (by unfold pri; rw [if_pos (by rw [ha,hg]; rfl)])
   have hm : 1 <= m /\ m <= 7:=by rcases isG_cases hg with h | h | h | h | h | h | h <;> omega
   have hv : 0 <= v /\ v <= 4611686018427387904:=by simpa [isV] using ha
   obtain ⟨hm1,hm2⟩:=hm
   obtain ⟨hv1,hv2⟩:=hv
   have hr : IntKind.i64.wrap (Int.tmod v m) = v % m:=by
    rw [Int.tmod_eq_emod_of_nonneg hv1,IntKind.wrap_i64]
    have h1:=Int.emod_nonneg v (show m ≠ 0 by omega)
    have h2:=Int.emod_lt_of_pos v (show 0 < m by omega)
    omega
   have hr2 : Int.tmod v m = v % m:=Int.tmod_eq_emod_of_nonneg hv1
   clear ha hg
   go_enter Tryz.func86,Tryz.ntmps86
   go_wp2_with fail
   refine (HV.out _).mono ?_
   rintro e w2 ⟨rfl,rfl⟩
   go_wp2_with fail
   refine (HG.out _).mono ?_
   rintro e w2 ⟨rfl,rfl⟩
   go_wp2_with fail
   go_ret
   exact ⟨ret_i HE.out,rfl⟩
theorem rquorum_any (m : Int) (w : World) : Calls Tryz.prog 35 #[.int .i64 m] w fun e w' => e = .returned (.int .i64 (quo m)) /\ w = w':=by
 obtain ⟨t1,h1⟩ : ∃ t,decide (m < 1) = t:=⟨_,rfl⟩
 obtain ⟨t2,h2⟩ : ∃ t,decide (7 < m) = t:=⟨_,rfl⟩
 cases t1 with
 | true =>
  have HE : Hid ((0 : Int) = quo m):=hJQ (by unfold quo isG; rw [if_neg (by simp at h1 ⊢; omega)])
  go_enter Tryz.func35,Tryz.ntmps35
  go_wp2_with fail
  go_ret
  exact ⟨ret_i HE.out,rfl⟩
 | false =>
  cases t2 with
  | true =>
   have HE : Hid ((0 : Int) = quo m):=hJQ (by unfold quo isG; rw [if_neg (by simp at h2 ⊢; omega)])
   go_enter Tryz.func35,Tryz.ntmps35
   go_wp2_with fail
   go_ret
   exact ⟨ret_i HE.out,rfl⟩
  | false =>
   have hm1 : 1 <= m:=by simpa using h1
   have hm2 : m <= 7:=by simpa using h2
   have HQ : Hid (quo m = m / 2 + 1):=hJQ (by unfold quo isG; rw [if_pos (by simp; omega)])
   go_enter Tryz.func35,Tryz.ntmps35
   go_wp2_with fail
   clear h1 h2
   go_loop [3] (fun u => ∃ k : Int,u = .int .i64 k /\ 1 <= k /\ 2 * (k - 1) <= m) (fun u => (m + 1 - intOf u).toNat)
   case atStart => exact ⟨1,rfl,by omega,by omega⟩
   case round =>
    obtain ⟨k,rfl,hk1,hk2⟩:=hrel
    by_cases hlt : 2 * k <= m
    ·go_wp2_with fail
     go_round
     case rel => exact ⟨k + 1,by go_num,by omega,by omega⟩
     case measure => simp [intOf]; omega
    ·go_wp2_with fail
     go_ret
     exact ⟨ret_i (by rw [HQ.out]; omega),rfl⟩
open Go.ChangeShapes Go.WideShapes Go.ChangeAt Go.RowKit Go.Proofs.Rk

structure HP (l : List Int) (k : Nat) (o : Int) : Prop where
 nn : 0 <= o
 mem : 0 < o -> o ∈ l /\ qn l.length <= cnt l o
 top : ∀ j a,j < k -> l[j]? = some a -> 0 < a -> qn l.length <= cnt l a -> a <= o
theorem hd_none {l : List Int} (h : ¬ (1 <= l.length /\ l.length <= 7)) : Hd l 0:=by unfold Hd; rw [if_neg h]
theorem hd_some {l : List Int} {o : Int} (h : 1 <= l.length /\ l.length <= 7) (k : IsH l o) : Hd l o:=by unfold Hd; rw [if_pos h]; exact k
open Go.ChangeShapes Go.WideShapes Go.ChangeAt Go.RowKit Go.Proofs.Rk

noncomputable def rgtB (l : List En) : Bool:=@decide (Rgt l) (Classical.propDecidable _)
theorem rgtB_no {l : List En} (h : ¬ Rgt l) : false = rgtB l:=by unfold rgtB; simp [h]
theorem rgtB_yes {l : List En} (h : Rgt l) : true = rgtB l:=by unfold rgtB; simp [h]
theorem rgtB_iff {l : List En} : rgtB l = true ↔ Rgt l:=by unfold rgtB; simp
def Lk (l : List En) (k : Nat) (lv : Int) : Prop:=(∀ j,j < k -> Ok l j) /\ 1 <= lv /\ (k = 0 -> lv = 1) /\ ∀ p,0 < k -> l[k - 1]? = some p -> p.v = lv
theorem lk_zero (l : List En) : Lk l 0 1:=⟨fun _ h => absurd h (by omega),by omega,fun _ => rfl,fun _ h => absurd h (by omega)⟩
theorem lk_ok {l : List En} {k : Nat} {lv : Int} {x : En} (h : Lk l k lv) (hx : l[k]? = some x) : Ok l k ↔ (x.n = (k : Int) + 1 /\ lv <= x.v /\ isV x.v = true /\ x.b.size <= 200):=by
 obtain ⟨h1,h2,h3,h4⟩:=h
 simp only [isV,Bool.and_eq_true,decide_eq_true_eq]
 constructor
 ·rintro ⟨e,he,e1,e2,e3,e4,e5⟩
  rw [hx] at he
  injection he with he
  subst he
  refine ⟨e1,?_,⟨by omega,e3⟩,e4⟩
  by_cases h0 : k = 0
  ·rw [h3 h0]; exact e2
  ·have hk : k - 1 < l.length:=by have:=(List.getElem?_eq_some_iff.1 hx).1; omega
   have:=h4 _ (by omega) (List.getElem?_eq_getElem hk)
   rw [<- this]
   exact e5 _ (List.getElem?_eq_getElem hk)
 ·rintro ⟨e1,e2,⟨e3,e4⟩,e5⟩
  refine ⟨x,hx,e1,by omega,e4,e5,fun p hp => ?_⟩
  by_cases h0 : k = 0
  ·subst h0
   rw [hx] at hp
   injection hp with hp
   rw [hp]
   exact Int.le_refl _
  ·rw [h4 p (by omega) hp]; exact e2
theorem lk_next {l : List En} {k : Nat} {lv : Int} {x : En} (h : Lk l k lv) (hx : l[k]? = some x) (ho : Ok l k) : Lk l (k + 1) x.v:=by
 have hh:=(lk_ok h hx).1 ho
 obtain ⟨h1,h2,h3,h4⟩:=h
 refine ⟨fun j hj => ?_,by omega,fun e => absurd e (by omega),fun p _ hp => ?_⟩
 ·by_cases e : j = k
  ·rw [e]; exact ho
  ·exact h1 j (by omega)
 ·rw [Nat.add_sub_cancel,hx] at hp
  injection hp with hp
  rw [hp]
set_option maxHeartbeats 4000000 in
theorem right_any {w : World} {A : Option Addr} {n c : Nat} {l : List En} (h : Rd ecell 3 w A n l) (hn : n <= 9223372036854775807) : Calls Tryz.prog 144 #[.slice A n c] w fun e w' => e = .returned (.bool (rgtB l)) /\ Below w.heap.size w w':=by
 have HR:=hJQ h
 have HL:=hJQ h.len
 clear h
 by_cases hbig : 150 < n
 ·have HE : Hid (false = rgtB l):=hJQ (rgtB_no (fun hr => by have:=hr.1; rw [HL.out] at this; omega))
  have hb : (150 : Int) < (n : Int):=by omega
  go_enter Tryz.func144,Tryz.ntmps144
  go_wp2_with fail
  go_ret
  exact ⟨ret_b HE.out,Below.refl _ _⟩
 have hb : ¬ (150 : Int) < (n : Int):=by omega
 have hnn : n <= 150:=by omega
 clear hbig hn
 go_enter Tryz.func144,Tryz.ntmps144
 go_wp2_with fail
 go_loopw [3,11] (fun u i wr => ∃ (k : Nat) (lv : Int),k <= n /\ i = .int .i64 k /\ u = .int .i64 lv /\ Hid (Lk l k lv) /\ Hid (Below w.heap.size w wr)) (fun _ i _ => n - (intOf i).toNat)
 case atStart => exact ⟨0,1,Nat.zero_le _,rfl,rfl,hJQ (lk_zero l),hJQ (Below.refl _ _)⟩
 case round =>
  obtain ⟨k,lv,hk,rfl,rfl,HK,HX⟩:=hrel
  by_cases hlt : k < n
  ·obtain ⟨b,off,x,rfl,hx,hcc⟩:=(HR.out.below HX.out).at hlt
   have c0 : wr.cell? ⟨b,off + k * 3,none⟩ = some (.int .i64 x.v):=hcc 0 _ rfl
   have c1 : wr.cell? ⟨b,off + k * 3 + 1,none⟩ = some (.int .i64 x.n):=hcc 1 _ rfl
   have c2 : wr.cell? ⟨b,off + k * 3 + 2,none⟩ = some (.string x.b):=hcc 2 _ rfl
   obtain ⟨w3,hw3⟩ : ∃ w3,w3 = wr.alloc (.cells #[.int .i64 x.v,.int .i64 x.n,.string x.b] 45):=⟨_,rfl⟩
   obtain ⟨r,er⟩ : ∃ r,r = wr.heap.size:=⟨_,rfl⟩
   have hb3 : Below wr.heap.size wr w3:=by rw [hw3]; exact box_below wr _
   have hr : w3.heap[r]? = some (.cells #[.int .i64 x.v,.int .i64 x.n,.string x.b] 45 (0,0)):=by rw [hw3,er]; exact new_block wr _
   have HX3:=hJQ (HX.out.trans (hb3.mono HX.out.size))
   have r0:=cell_of hr (j:=0) rfl
   have r1:=cell_of hr (j:=1) rfl
   have r2:=cell_of hr (j:=2) rfl
   have hk0 : (0 : Int) <= (k : Int):=by omega
   have hki : (k : Int) < (n : Int):=by omega
   have hwk : IntKind.i64.wrap ((k : Int) + 1) = (k : Int) + 1:=by rw [IntKind.wrap_i64]; omega
   have HOK:=hJQ (lk_ok HK.out hx)
   have HXX:=hJQ hx
   have HKL : Hid (k < l.length):=hJQ (by rw [HL.out]; exact hlt)
   have HW3:=hJQ hw3
   have ER:=hJQ er
   have HV:=hJQ (isview_any x.v w3)
   obtain ⟨t1,h1⟩ : ∃ t,(x.n == (k : Int) + 1) = t:=⟨_,rfl⟩
   obtain ⟨t2,h2⟩ : ∃ t,decide (x.v < lv) = t:=⟨_,rfl⟩
   obtain ⟨t3,h3⟩ : ∃ t,isV x.v = t:=⟨_,rfl⟩
   obtain ⟨t4,h4⟩ : ∃ t,decide (200 < (x.b.size : Int)) = t:=⟨_,rfl⟩
   rw [h3] at HV
   have HOO : Hid (Ok l k ↔ (t1 = true /\ t2 = false /\ t3 = true /\ t4 = false)):=hJQ (by
    rw [HOK.out,<- h1,<- h2,<- h3,<- h4]
    simp only [beq_iff_eq,decide_eq_false_iff_not]
    constructor
    ·rintro ⟨a1,a2,a3,a4⟩; exact ⟨a1,by omega,a3,by omega⟩
    ·rintro ⟨a1,a2,a3,a4⟩; exact ⟨a1,by omega,a3,by omega⟩)
   clear hx hcc hw3 er hb3 hr h3
   go_upto_region 7 with fail
   rw [<- HW3.out,<- ER.out]
   clear c0 c1 c2
   cases t1 with
   | false =>
    have h1p : ¬ x.n = (k : Int) + 1:=by simpa using h1
    have HE : Hid (false = rgtB l):=hJQ (rgtB_no (fun hr => by have:=HOO.out.1 (hr.2 k HKL.out); simp at this))
    go_wp2_with fail
    go_ret
    exact ⟨ret_b HE.out,HX3.out⟩
   | true =>
    have h1p : x.n = (k : Int) + 1:=by simpa using h1
    cases t2 with
    | true =>
     have HE : Hid (false = rgtB l):=hJQ (rgtB_no (fun hr => by have:=HOO.out.1 (hr.2 k HKL.out); simp at this))
     go_wp2_with fail
     go_ret
     exact ⟨ret_b HE.out,HX3.out⟩
    | false =>
     cases t3 with
     | false =>
      have HE : Hid (false = rgtB l):=hJQ (rgtB_no (fun hr => by have:=HOO.out.1 (hr.2 k HKL.out); simp at this))
      go_wp2_with fail
      refine HV.out.mono ?_
      rintro e w9 ⟨rfl,rfl⟩
      go_wp2_with fail
      go_ret
      exact ⟨ret_b HE.out,HX3.out⟩
     | true =>
      go_wp2_with fail
      refine HV.out.mono ?_
      rintro e w9 ⟨rfl,rfl⟩
      cases t4 with
      | true =>
       have HE : Hid (false = rgtB l):=hJQ (rgtB_no (fun hr => by have:=HOO.out.1 (hr.2 k HKL.out); simp at this))
       go_wp2_with fail
       go_ret
       exact ⟨ret_b HE.out,HX3.out⟩
      | false =>
       have HN:=hJQ (lk_next HK.out HXX.out (HOO.out.2 (by simp)))
       go_wp2_with fail
       go_roundw
       case rel => exact ⟨k + 1,x.v,by omega,by go_num,rfl,HN,HX3⟩
       case measure => simp [intOf]; omega
  ·obtain rfl : k = n:=by omega
   have hki : ¬ (k : Int) < (k : Int):=by omega
   have HE : Hid (true = rgtB l):=hJQ (rgtB_yes ⟨by rw [HL.out]; exact hnn,fun j hj => HK.out.1 j (by rw [HL.out] at hj; exact hj)⟩)
   go_wp2_with fail
   go_ret
   exact ⟨ret_b HE.out,HX.out⟩
open Go.ChangeShapes Go.WideShapes Go.ChangeAt Go.RowKit Go.Proofs.Rk

theorem before_any (a b : Mk) (w : World) : Calls Tryz.prog 163 #[.agg #[.int .i64 a.v,.int .i64 a.n],.agg #[.int .i64 b.v,.int .i64 b.n]] w fun e w' => e = .returned (.bool (less a b)) /\ Below w.heap.size w w':=by
 obtain ⟨w2,hw2,hb2,hq,hr,hs2⟩:=two_box w (.cells #[.int .i64 a.v,.int .i64 a.n] 228) (.cells #[.int .i64 b.v,.int .i64 b.n] 164)
 obtain ⟨q,eq⟩ : ∃ q,q = w.heap.size:=⟨_,rfl⟩
 obtain ⟨r,er⟩ : ∃ r,r = w.heap.size + 1:=⟨_,rfl⟩
 rw [<- eq] at hq
 rw [<- er] at hr
 have q0:=cell_of hq (j:=0) rfl
 have r0:=cell_of hr (j:=0) rfl
 have q1:=cell_of hq (j:=1) rfl
 have r1:=cell_of hr (j:=1) rfl
 have HW2:=hJQ hw2
 have EQ:=hJQ eq
 have ER:=hJQ er
 have HB2:=hJQ hb2
 clear hw2 hb2 hq hr hs2 eq er
 by_cases h : a.v = b.v
 ·have HL : Hid (decide (a.n < b.n) = less a b):=hJQ (by unfold less; rw [if_pos h])
  have HH:=hJQ h
  clear h
  go_enter Tryz.func163,Tryz.ntmps163
  go_upto_region 1 with fail
  rw [<- HW2.out,<- ER.out,<- EQ.out]
  have h:=HH.out
  go_wp2_with fail
  go_ret
  exact ⟨ret_b HL.out,HB2.out⟩
 ·have HL : Hid (decide (a.v < b.v) = less a b):=hJQ (by unfold less; rw [if_neg h])
  have HH:=hJQ h
  clear h
  go_enter Tryz.func163,Tryz.ntmps163
  go_upto_region 1 with fail
  rw [<- HW2.out,<- ER.out,<- EQ.out]
  have h:=HH.out
  go_wp2_with fail
  go_ret
  exact ⟨ret_b HL.out,HB2.out⟩
theorem res_mark {fn : Func} {p : Tmp} (h : fn.results = #[.cell p 164]) (tmps : Array Value) (w : World) (b : Nat) (x y : Int) (hp : tmps.getD p undef = .pointer (some ⟨b,0,none⟩))
  (h4 : w.heap[b]? = some (.cells #[.int .i64 x,.int .i64 y] 164 (0,0))) :
  (results fn tmps).run Tryz.prog w = .ok (.agg #[.int .i64 x,.int .i64 y]) w:=by
 have hp' : tmps[p]?.getD undef = .pointer (some ⟨b,0,none⟩):=by simpa using hp
 have c0:=cell_of h4 (j:=0) rfl
 have c1:=cell_of h4 (j:=1) rfl
 simp [results,h,hp',asAddr,go_sem,c0,c1]
theorem markof_any (v : Int) (A : Option Addr) (n c : Nat) (w : World) : Calls Tryz.prog 135 #[.int .i64 v,.slice A n c] w fun e w' => e = .returned (.agg #[.int .i64 v,.int .i64 (n : Int)]) /\ Below w.heap.size w w':=by
 obtain ⟨w2,hw2⟩ : ∃ w2,w2 = w.alloc (.cells #[.int .i64 0,.int .i64 0] 164):=⟨_,rfl⟩
 obtain ⟨q,eq⟩ : ∃ q,q = w.heap.size:=⟨_,rfl⟩
 have hb2 : Below w.heap.size w w2:=by rw [hw2]; exact box_below w _
 have hq : w2.heap[q]? = some (.cells #[.int .i64 0,.int .i64 0] 164 (0,0)):=by rw [hw2,eq]; exact new_block w _
 have q0:=cell_of hq (j:=0) rfl
 have q1:=cell_of hq (j:=1) rfl
 have f0:=frozen_of_row w2 q 0 _ _ hq
 have f1:=frozen_of_row w2 q 1 _ _ hq
 obtain ⟨w4,hw4⟩ : ∃ w4,w4 = (w2.setCell ⟨q,0,none⟩ (.int .i64 v)).setCell ⟨q,1,none⟩ (.int .i64 (n : Int)):=⟨_,rfl⟩
 have h4 : w4.heap[q]? = some (.cells #[.int .i64 v,.int .i64 (n : Int)] 164 (0,0)):=by
  rw [hw4]
  exact heap_setCell_same _ q 1 _ 164 _ (heap_setCell_same w2 q 0 _ 164 _ hq)
 have HB4 : Hid (Below w.heap.size w w4):=hJQ (by rw [hw4]; exact (hb2.setCell (Nat.le_of_eq eq.symm) _).setCell (Nat.le_of_eq eq.symm) _)
 have H4:=hJQ h4
 have HW2:=hJQ hw2
 have HW4:=hJQ hw4
 have EQ:=hJQ eq
 clear hw2 hw4 eq hb2 hq h4
 go_enter Tryz.func135,Tryz.ntmps135
 go_upto_region 1 with fail
 rw [<- HW2.out,<- EQ.out]
 go_wp2_with fail
 rw [<- HW4.out]
 exact bodyPost_ret (res_mark Tryz.results135 _ _ q v n (by simp) H4.out) rfl ⟨rfl,HB4.out⟩
open Go.ChangeShapes Go.WideShapes Go.ChangeAt Go.RowKit Go.Proofs.Rk

set_option maxHeartbeats 4000000 in
theorem best_any {w : World} {A : Option Addr} {n c : Nat} {l : List Mk} (h : Rd mcell 2 w A n l) (hn : n <= 9223372036854775807) : Calls Tryz.prog 137 #[.slice A n c] w fun e w' => ∃ r,IsB l r /\ e = .returned (.int .i64 r) /\ Below w.heap.size w w':=by
 have HR:=hJQ h
 have HL:=hJQ h.len
 by_cases h0 : n = 0
 ·subst h0
  have HE : Hid (IsB l (-1)):=hJQ (.inl ⟨List.eq_nil_of_length_eq_zero h.len,rfl⟩)
  clear h hn
  go_enter Tryz.func137,Tryz.ntmps137
  go_wp2_with fail
  go_ret
  exact ⟨-1,HE.out,rfl,Below.refl _ _⟩
 ·obtain ⟨b,off,x0,hA,hx0,hcc⟩:=h.at (show 0 < n by omega)
  subst hA
  have c0 : w.cell? ⟨b,off,none⟩ = some (.int .i64 x0.v):=by have:=hcc 0 _ rfl; simpa using this
  have c1 : w.cell? ⟨b,off + 1,none⟩ = some (.int .i64 x0.n):=by have:=hcc 1 _ rfl; simpa using this
  have hn0 : ¬ (n : Int) = 0:=by omega
  have hn1 : (0 : Int) < (n : Int):=by omega
  have hnz : ((n : Int) == 0) = false:=by simpa using hn0
  have HB0:=hJQ (Bst.zero hx0)
  clear h hx0 hcc h0
  go_enter Tryz.func137,Tryz.ntmps137
  go_upto_region 3 with fail
  go_region
  all_goals
   clear c0 c1
   go_wp2_with fail
   go_loopw [3,4,16] (fun u f i wr => ∃ (k bi : Nat) (x : Mk),k <= n /\ i = .int .i64 k /\ u = .int .i64 bi /\ f = .func (.func 163) #[.agg #[.int .i64 x.v,.int .i64 x.n]] #[] /\ Hid (Bst l k bi x) /\ Hid (Below w.heap.size w wr)) (fun _ _ i _ => n - (intOf i).toNat)
   case atStart => exact ⟨0,0,x0,Nat.zero_le _,rfl,rfl,rfl,HB0,hJQ ((Below.refl _ _).drew)⟩
   case round =>
    obtain ⟨k,bi,x,hk,rfl,rfl,rfl,HI,HX⟩:=hrel
    by_cases hlt : k < n
    ·obtain ⟨b2,off2,y,hA2,hy,hcc⟩:=(HR.out.below HX.out).at hlt
     injection hA2 with hA2
     injection hA2 with hA3 hA4
     subst hA3; subst hA4
     have c0 : wr.cell? ⟨b,off + k * 2,none⟩ = some (.int .i64 y.v):=hcc 0 _ rfl
     have c1 : wr.cell? ⟨b,off + k * 2 + 1,none⟩ = some (.int .i64 y.n):=hcc 1 _ rfl
     obtain ⟨w3,hw3⟩ : ∃ w3,w3 = wr.alloc (.cells #[.int .i64 y.v,.int .i64 y.n] 164):=⟨_,rfl⟩
     obtain ⟨r,er⟩ : ∃ r,r = wr.heap.size:=⟨_,rfl⟩
     have hb3 : Below wr.heap.size wr w3:=by rw [hw3]; exact box_below wr _
     have hr : w3.heap[r]? = some (.cells #[.int .i64 y.v,.int .i64 y.n] 164 (0,0)):=by rw [hw3,er]; exact new_block wr _
     have HX3:=hJQ (HX.out.trans (hb3.mono HX.out.size))
     have HR3:=hJQ hr
     have r0:=cell_of hr (j:=0) rfl
     have r1:=cell_of hr (j:=1) rfl
     have hk0 : (0 : Int) <= (k : Int):=by omega
     have hki : (k : Int) < (n : Int):=by omega
     have hwk : IntKind.i64.wrap ((k : Int) + 1) = (k : Int) + 1:=by rw [IntKind.wrap_i64]; omega
     obtain ⟨t,ht⟩ : ∃ t,less x y = t:=⟨_,rfl⟩
     have HC:=hJQ (before_any x y w3)
     rw [ht] at HC
     have HY:=hJQ hy
     have HT:=hJQ ht
     have HW3:=hJQ hw3
     have ER:=hJQ er
     clear hy hcc hw3 er hb3 hr ht
     go_upto_region 7 with fail
     rw [<- HW3.out,<- ER.out]
     clear c0 c1
     go_wp2_with fail
     refine HC.out.mono ?_
     rintro e w4 ⟨rfl,hb4⟩
     have hr4:=blk_below HR3.out hb4
     have HX4:=hJQ (HX3.out.trans (hb4.mono HX3.out.size))
     clear r0 r1 hb4
     have r0:=cell_of hr4 (j:=0) rfl
     have r1:=cell_of hr4 (j:=1) rfl
     clear hr4
     cases t with
     | false =>
      have HN:=hJQ (HI.out.keep HY.out HT.out)
      go_wp2_with fail
      go_roundw
      case rel => exact ⟨k + 1,bi,x,by omega,by go_num,rfl,rfl,HN,HX4⟩
      case measure => simp [intOf]; omega
     | true =>
      have HN:=hJQ (HI.out.next HY.out HT.out)
      go_upto_region 8 with fail
      go_region
      all_goals
       go_wp2_with fail
       go_roundw
       case rel => exact ⟨k + 1,k,y,by omega,by go_num,rfl,rfl,HN,hJQ HX4.out.drew⟩
       case measure => simp [intOf]; omega
    ·obtain rfl : k = n:=by omega
     have hki : ¬ (k : Int) < (k : Int):=by omega
     have HE : Hid (IsB l (bi : Int)):=hJQ (by have:=HI.out; rw [<- HL.out] at this; exact this.isB)
     go_wp2_with fail
     go_ret
     exact ⟨bi,HE.out,rfl,HX.out⟩
open Go.ChangeShapes Go.WideShapes Go.ChangeAt Go.RowKit Go.Proofs.Rk

theorem ok_all {l : List En} {k : Nat} {x : En} (hx : l[k]? = some x) : Ok l k ↔ (x.n = (k : Int) + 1 /\ 1 <= x.v /\ x.v <= 4611686018427387904 /\ x.b.size <= 200 /\ ∀ p,l[k - 1]? = some p -> p.v <= x.v):=by
 constructor
 ·rintro ⟨e,he,h⟩
  rw [hx] at he
  injection he with he
  rw [he]
  exact h
 ·exact fun h => ⟨x,hx,h⟩
set_option maxHeartbeats 8000000 in
theorem rright_any {w : World} {A : Option Addr} {n c : Nat} {l : List En} (h : Rd ecell 3 w A n l) (hn : n <= 9223372036854775807) : Calls Tryz.prog 37 #[.slice A n c] w fun e w' => e = .returned (.bool (rgtB l)) /\ Below w.heap.size w w':=by
 have HR:=hJQ h
 have HL:=hJQ h.len
 clear h
 go_enter Tryz.func37,Tryz.ntmps37
 go_wp2_with fail
 go_loopw [3] (fun i wr => ∃ (k : Nat),k <= n /\ i = .int .i64 k /\ Hid (∀ j,j < k -> Ok l j) /\ Hid (Below w.heap.size w wr)) (fun i _ => n - (intOf i).toNat)
 case atStart => exact ⟨0,Nat.zero_le _,rfl,hJQ (fun j hj => absurd hj (by omega)),hJQ (Below.refl _ _)⟩
 case round =>
  obtain ⟨k,hk,rfl,HK,HX⟩:=hrel
  by_cases hlt : k < n
  ·obtain ⟨b,off,x,hA,hx,hcc⟩:=(HR.out.below HX.out).at hlt
   subst hA
   have c0 : wr.cell? ⟨b,off + k * 3,none⟩ = some (.int .i64 x.v):=hcc 0 _ rfl
   have c1 : wr.cell? ⟨b,off + k * 3 + 1,none⟩ = some (.int .i64 x.n):=hcc 1 _ rfl
   have c2 : wr.cell? ⟨b,off + k * 3 + 2,none⟩ = some (.string x.b):=hcc 2 _ rfl
   have hk0 : (0 : Int) <= (k : Int):=by omega
   have hki : (k : Int) < (n : Int):=by omega
   have hwk : IntKind.i64.wrap ((k : Int) + 1) = (k : Int) + 1:=by rw [IntKind.wrap_i64]; omega
   have HOK:=hJQ (ok_all hx)
   have HXX:=hJQ hx
   have HKL : Hid (k < l.length):=hJQ (by rw [HL.out]; exact hlt)
   obtain ⟨t1,h1⟩ : ∃ t,(x.n == (k : Int) + 1) = t:=⟨_,rfl⟩
   obtain ⟨t2,h2⟩ : ∃ t,decide (x.v < 1) = t:=⟨_,rfl⟩
   obtain ⟨t3,h3⟩ : ∃ t,decide (4611686018427387904 < x.v) = t:=⟨_,rfl⟩
   obtain ⟨t4,h4⟩ : ∃ t,decide (200 < (x.b.size : Int)) = t:=⟨_,rfl⟩
   obtain ⟨t5,HT5⟩ : ∃ t,Hid (t = true ↔ ∃ p,l[k - 1]? = some p /\ x.v < p.v):=by
    by_cases e : ∃ p,l[k - 1]? = some p /\ x.v < p.v
    ·exact ⟨true,hJQ (by simp [e])⟩
    ·exact ⟨false,hJQ (by simp [e])⟩
   have HOO : Hid (Ok l k ↔ (t1 = true /\ t2 = false /\ t3 = false /\ t4 = false /\ t5 = false)):=hJQ (by
    rw [HOK.out,<- h1,<- h2,<- h3,<- h4]
    simp only [beq_iff_eq,decide_eq_false_iff_not]
    constructor
    ·rintro ⟨a1,a2,a3,a4,a5⟩
     refine ⟨a1,by omega,by omega,by omega,?_⟩
     cases t5 with
     | false => rfl
     | true =>
      obtain ⟨p,hp,hl⟩:=HT5.out.1 rfl
      have:=a5 p hp
      omega
    ·rintro ⟨a1,a2,a3,a4,a5⟩
     refine ⟨a1,by omega,by omega,by omega,fun p hp => ?_⟩
     by_cases hl : x.v < p.v
     ·have:=HT5.out.2 ⟨p,hp,hl⟩
      rw [a5] at this
      cases this
     ·omega)
   clear hx hcc
   cases t1 with
   | false =>
    have h1p : ¬ x.n = (k : Int) + 1:=by simpa using h1
    have HE : Hid (false = rgtB l):=hJQ (rgtB_no (fun hr => by have:=HOO.out.1 (hr.2 k HKL.out); simp at this))
    go_wp2_with fail
    go_ret
    exact ⟨ret_b HE.out,HX.out⟩
   | true =>
    have h1p : x.n = (k : Int) + 1:=by simpa using h1
    cases t2 with
    | true =>
     have HE : Hid (false = rgtB l):=hJQ (rgtB_no (fun hr => by have:=HOO.out.1 (hr.2 k HKL.out); simp at this))
     go_wp2_with fail
     go_ret
     exact ⟨ret_b HE.out,HX.out⟩
    | false =>
     cases t3 with
     | true =>
      have HE : Hid (false = rgtB l):=hJQ (rgtB_no (fun hr => by have:=HOO.out.1 (hr.2 k HKL.out); simp at this))
      go_wp2_with fail
      go_ret
      exact ⟨ret_b HE.out,HX.out⟩
     | false =>
      cases t4 with
      | true =>
       have HE : Hid (false = rgtB l):=hJQ (rgtB_no (fun hr => by have:=HOO.out.1 (hr.2 k HKL.out); simp at this))
       go_wp2_with fail
       go_ret
       exact ⟨ret_b HE.out,HX.out⟩
      | false =>
       go_upto_region 6 with fail
       by_cases h0 : k = 0
       ·have g1 : decide ((0 : Int) < (k : Int)) = false:=by simpa using (by omega : ¬ (0 : Int) < (k : Int))
        have g2 : decide (0 < k) = false:=by simpa using h0
        have HF : t5 = false:=by
         cases t5 with
         | false => rfl
         | true =>
          obtain ⟨p,hp,hl⟩:=HT5.out.1 rfl
          have hx:=HXX.out
          rw [h0] at hp hx
          rw [hx] at hp
          injection hp with hp
          rw [hp] at hl
          exact absurd hl (by omega)
        subst HF
        clear h0
        go_quiet (fail)
        obtain ⟨w2,hq9⟩ : ∃ W,W = wr.drewN nq:=⟨_,rfl⟩
        have hb9 : Below wr.heap.size wr w2:=by rw [hq9]; exact below_drewN (Below.refl _ _) _
        have HQQw2:=hJQ hq9
        rw [<- HQQw2.out]
        have HX2:=hJQ (HX.out.trans (hb9.mono HX.out.size))
        clear hq9 hb9
        have HN : Hid (∀ j,j < k + 1 -> Ok l j):=hJQ (fun j hj => by
         by_cases e : j = k
         ·rw [e]; exact HOO.out.2 (by simp)
         ·exact HK.out j (by omega))
        go_wp2_with fail
        go_roundw
        case rel => exact ⟨k + 1,by omega,by go_num,HN,HX2⟩
        case measure => simp [intOf]; omega
       ·have g1 : decide ((0 : Int) < (k : Int)) = true:=by simpa using (by omega : (0 : Int) < (k : Int))
        have g2 : decide (0 < k) = true:=by simpa using (by omega : 0 < k)
        obtain ⟨m,hm⟩ : ∃ m,k = m + 1:=⟨k - 1,by omega⟩
        have hwm : IntKind.i64.wrap ((k : Int) - 1) = (m : Int):=by rw [IntKind.wrap_i64]; omega
        have hm0 : (0 : Int) <= (m : Int):=by omega
        have hmi : (m : Int) < (n : Int):=by omega
        obtain ⟨b2,off2,p,hA2,hp,hpc⟩:=(HR.out.below HX.out).at (show m < n by omega)
        injection hA2 with hA2
        injection hA2 with hA3 hA4
        subst hA3; subst hA4
        have d0 : wr.cell? ⟨b,off + m * 3,none⟩ = some (.int .i64 p.v):=hpc 0 _ rfl
        have HP5 : Hid (decide (x.v < p.v) = t5):=hJQ (by
         have e : l[k - 1]? = some p:=by rw [hm,Nat.add_sub_cancel]; exact hp
         cases t5 with
         | true =>
          obtain ⟨p',hp',hl⟩:=HT5.out.1 rfl
          rw [e] at hp'
          injection hp' with hp'
          rw [hp']
          exact decide_eq_true hl
         | false =>
          refine decide_eq_false fun hl => ?_
          have:=HT5.out.2 ⟨p,e,hl⟩
          cases this)
        have h5:=HP5.out
        clear h0 hm hp hpc
        go_quiet (fail)
        obtain ⟨w2,hq9⟩ : ∃ W,W = wr.drewN nq:=⟨_,rfl⟩
        have hb9 : Below wr.heap.size wr w2:=by rw [hq9]; exact below_drewN (Below.refl _ _) _
        have HQQw2:=hJQ hq9
        rw [<- HQQw2.out]
        have HX2:=hJQ (HX.out.trans (hb9.mono HX.out.size))
        clear hq9 hb9
        clear d0
        cases t5 with
        | true =>
         have HE : Hid (false = rgtB l):=hJQ (rgtB_no (fun hr => by have:=HOO.out.1 (hr.2 k HKL.out); simp at this))
         go_wp2_with fail
         go_ret
         exact ⟨ret_b HE.out,HX2.out⟩
        | false =>
         have HN : Hid (∀ j,j < k + 1 -> Ok l j):=hJQ (fun j hj => by
          by_cases e : j = k
          ·rw [e]; exact HOO.out.2 (by simp)
          ·exact HK.out j (by omega))
         go_wp2_with fail
         go_roundw
         case rel => exact ⟨k + 1,by omega,by go_num,HN,HX2⟩
         case measure => simp [intOf]; omega
  ·obtain rfl : k = n:=by omega
   have hki : ¬ (k : Int) < (k : Int):=by omega
   obtain ⟨t,ht⟩ : ∃ t,decide ((k : Int) <= 150) = t:=⟨_,rfl⟩
   have HE : Hid (t = rgtB l):=hJQ (by
    by_cases e : k <= 150
    ·rw [<- ht,decide_eq_true (by omega)]
     exact rgtB_yes ⟨by rw [HL.out]; exact e,fun j hj => HK.out j (by rw [HL.out] at hj; exact hj)⟩
    ·rw [<- ht,decide_eq_false (by omega)]
     exact rgtB_no (fun hr => e (by have:=hr.1; rw [HL.out] at this; exact this)))
   go_wp2_with fail
   go_ret
   exact ⟨ret_b HE.out,HX.out⟩
end Go.Proofs.YtlppinfjdnhlbaaGreatDoor
