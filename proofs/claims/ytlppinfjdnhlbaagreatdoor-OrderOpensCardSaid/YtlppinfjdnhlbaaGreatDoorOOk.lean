/-
 Plain mathematics of what lasts of a node: its records,and how they are read. No condition.
 Plain mathematics: what holds of a node behind any call (its log is one,its views rise,what it says is a message),and that each call keeps it. No condition but that the node is right and the message is one.
 What the store's add leaves: the entries' records behind those that are there,as far as they last. Condition: there is room.
 Plain mathematics: what a node that is right sends are messages,to members of its group,and not many at once. No condition.
-/
import Derived.Test.YtlppinfjdnhlbaaGreatDoorHd
import Derived.Test.YtlppinfjdnhlbaaGreatDoorORow
import Derived.Test.YtlppinfjdnhlbaaGreatDoorOToE
import Derived.Test.YtlppinfjdnhlbaaGreatDoorGOpened
import Derived.Test.YtlppinfjdnhlbaaGreatDoorOMath
import Derived.Test.YtlppinfjdnhlbaaGreatDoorOKz
namespace Go.Proofs.YtlppinfjdnhlbaaGreatDoor
set_option maxRecDepth 100000
open Go.Proofs.Rk
open Pq (Fld ams errL bytL sm dc Sm Bys byts)
open Gq (Rok enc need le4 enc1)

structure Ls where
 pr : Int
 nm : Int
 log : List En
def Ls0 : Ls:=⟨0,0,[]⟩
structure LsOk (l : Ls) : Prop where
 n0 : 0 <= l.nm
 np : l.nm <= l.pr
 p1 : l.pr <= 4611686018427387904
 log : Rgt l.log
 last : lastV l.log <= l.nm
def recV (p n : Int) : List Int:=bytL (vwF p n)
def recE (e : En) : List Int:=bytL (enF e)
def Ls.recs (l : Ls) : List (List Int):=recV l.pr l.nm :: l.log.map recE
theorem recV_len (p n : Int) : (recV p n).length = 16:=by simp [recV,vwF,bytL,byts,Pq.be8]
theorem recE_len (e : En) : (recE e).length = 18 + e.b.size:=by
 simp [recE,enF,bytL,byts,Pq.be8,Pq.sb_length]; omega
theorem recE_bys (e : En) : Gq.Bys (recE e):=Pq.bytL_bys _
theorem recV_bys (p n : Int) : Gq.Bys (recV p n):=Pq.bytL_bys _
theorem rgt_mem {l : List En} (h : Rgt l) : ∀ e ∈ l,0 <= e.n /\ e.n <= 150 /\ 1 <= e.v /\ e.v <= 4611686018427387904 /\ e.b.size <= 200:=fun e he => by
 obtain ⟨j,hj,rfl⟩:=List.getElem_of_mem he
 obtain ⟨x,hx,h1,h2,h3,h4,_⟩:=h.2 j hj
 rw [List.getElem?_eq_getElem hj] at hx
 injection hx with hx
 subst hx
 have:=h.1
 exact ⟨by omega,by omega,h2,h3,h4⟩
theorem errV {p n : Int} (h0 : 0 <= p) (h1 : p <= 4611686018427387904) (h2 : 0 <= n) (h3 : n <= 4611686018427387904) : errL (vwF p n) = 0:=by
 refine errL_of fun f hf => ?_
 simp only [vwF,List.mem_cons,List.not_mem_nil,or_false] at hf
 rcases hf with rfl | rfl
 ·exact ams_whole h0 (by unfold big; omega)
 ·exact ams_whole h2 (by unfold big; omega)
theorem errE {e : En} (h0 : 0 <= e.n) (h1 : e.n <= 150) (h2 : 1 <= e.v) (h3 : e.v <= 4611686018427387904) (h4 : e.b.size <= 200) : errL (enF e) = 0:=by
 refine errL_of fun f hf => ?_
 simp only [enF,List.mem_cons,List.not_mem_nil,or_false] at hf
 rcases hf with rfl | rfl | rfl
 ·exact ams_whole (by omega) (by unfold big; omega)
 ·exact ams_whole (by omega) (by unfold big; omega)
 ·exact ams_text (by omega)
theorem need_append (a b : List (List Int)) : need (a ++ b) = need a + need b:=by simp [need]
theorem need_map {l : List En} (h : ∀ e ∈ l,e.b.size <= 200) : need (l.map recE) <= 222 * l.length:=by
 induction l with
 | nil => exact Nat.le_refl _
 | cons x l ih =>
  have h1:=ih (fun e he => h e (by simp [he]))
  have h2:=h x (by simp)
  have h3:=recE_len x
  rw [List.map_cons,List.length_cons]
  show need (recE x :: l.map recE) <= _
  have : need (recE x :: l.map recE) = ((recE x).length + 4) + need (l.map recE):=by simp [need]
  omega
theorem recs_need {l : Ls} (h : LsOk l) : need l.recs <= 33320:=by
 have h1:=need_map (l:=l.log) (fun e he => (rgt_mem h.log e he).2.2.2.2)
 have h2:=h.log.1
 have h3 : need l.recs = ((recV l.pr l.nm).length + 4) + need (l.log.map recE):=by simp [need,Ls.recs]
 rw [recV_len] at h3
 omega
theorem recs_rok {l : Ls} (h : LsOk l) : Rok l.recs:=fun s hs => by
 rcases List.mem_cons.1 hs with rfl | hs
 ·exact ⟨by rw [recV_len]; omega,recV_bys _ _⟩
 ·obtain ⟨e,he,rfl⟩:=List.mem_map.1 hs
  have:=(rgt_mem h.log e he).2.2.2.2
  exact ⟨by rw [recE_len]; omega,recE_bys e⟩
theorem enc_append (a b : List (List Int)) : enc (a ++ b) = enc a ++ enc b:=by simp [enc]
theorem enc_one (s : List Int) : enc [s] = le4 s.length ++ s:=by simp [enc,enc1]
/-! ### How records are read -/
def dcV (b : List Int) : Option (Int × Int):=match dc [2,2] b with
 | .bad _ => none
 | .good f _ => some ((f.getD 0 f0).n,(f.getD 1 f0).n)
def dcE (b : List Int) : Option En:=match dc [2,2,3] b with
 | .bad _ => none
 | .good f _ => some ⟨(f.getD 0 f0).n,(f.getD 1 f0).n,(f.getD 2 f0).s⟩
def dcEs : List (List Int) -> Option (List En)
 | [] => some []
 | b :: r => match dcE b with
  | none => none
  | some e => match dcEs r with
   | none => none
   | some l => some (e :: l)
open Classical in
noncomputable def lastOf : List (List Int) -> Option Ls
 | [] => some Ls0
 | v :: r => match dcV v with
  | none => none
  | some (p,n) => match dcEs r with
   | none => none
   | some l => if n <= p /\ Rgt l /\ lastV l <= n then some ⟨p,n,l⟩ else none
theorem dcV_bounds {b : List Int} {p n : Int} (hb : Bys b) (h : dcV b = some (p,n)) : 0 <= p /\ p <= 4611686018427387904 /\ 0 <= n /\ n <= 4611686018427387904:=by
 unfold dcV at h
 cases hd : dc [2,2] b with
 | bad e => rw [hd] at h; cases h
 | good f m =>
  rw [hd] at h
  simp only [Option.some.injEq,Prod.mk.injEq] at h
  have h1:=(Pq.dc_good hb hd).1
  have h2:=sm_kinds hb (dc_sm hd)
  obtain ⟨a,r,rfl,x0,hr⟩:=List.map_eq_cons_iff.1 h2
  obtain ⟨a2,r2,rfl,x1,hr⟩:=List.map_eq_cons_iff.1 hr
  have ma:=errL_mem h1
  have y0:=(k2 (ma a (by simp)) x0).2
  have y1:=(k2 (ma a2 (by simp)) x1).2
  obtain ⟨e1,e2⟩:=h
  have e1' : a.n = p:=e1
  have e2' : a2.n = n:=e2
  omega
theorem last_ok {r : List (List Int)} {l : Ls} (hb : ∀ s ∈ r,Bys s) (h : lastOf r = some l) : LsOk l:=by
 cases r with
 | nil =>
  simp only [lastOf,Option.some.injEq] at h
  subst h
  exact ⟨Int.le_refl _,Int.le_refl _,by decide,rgt_nil,Int.le_refl _⟩
 | cons v r =>
  simp only [lastOf] at h
  cases hv : dcV v with
  | none => rw [hv] at h; cases h
  | some pn =>
   obtain ⟨p,n⟩:=pn
   rw [hv] at h
   simp only at h
   cases he : dcEs r with
   | none => rw [he] at h; cases h
   | some es =>
    rw [he] at h
    simp only at h
    split at h
    ·rename_i hc
     injection h with h
     subst h
     have:=dcV_bounds (hb v (by simp)) hv
     exact ⟨this.2.2.1,hc.1,this.2.1,hc.2.1,hc.2.2⟩
    ·cases h
open Go.Proofs.Rk

/-! ### Logs -/
theorem lastv_get2 {l : List En} {e : En} (h : l[l.length - 1]? = some e) : lastV l = e.v:=by
 unfold lastV
 rw [List.getLast?_eq_getElem?,h]; rfl
theorem lastv_nil2 : lastV [] = 0:=rfl
theorem lastV_snoc (l : List En) (e : En) : lastV (l ++ [e]) = e.v:=by
 unfold lastV; simp
theorem rgt_step {l : List En} (h : Rgt l) {j : Nat} {p e : En} (hp : l[j]? = some p) (he : l[j + 1]? = some e) : p.v <= e.v:=by
 have hj : j + 1 < l.length:=(List.getElem?_eq_some_iff.1 he).1
 obtain ⟨e2,h1,_,_,_,_,h6⟩:=h.2 (j + 1) hj
 rw [he] at h1
 injection h1 with h1
 subst h1
 exact h6 p (by simpa using hp)
theorem rgt_mono2 {l : List En} (h : Rgt l) : ∀ (d j : Nat) (p e : En),l[j]? = some p -> l[j + d]? = some e -> p.v <= e.v
 | 0,j,p,e,hp,he => by
  rw [Nat.add_zero,hp] at he
  injection he with he
  subst he; exact Int.le_refl _
 | d + 1,j,p,e,hp,he => by
  have hj : j + (d + 1) < l.length:=(List.getElem?_eq_some_iff.1 he).1
  obtain ⟨x,hx⟩ : ∃ x,l[j + d]? = some x:=⟨_,List.getElem?_eq_getElem (by omega)⟩
  exact Int.le_trans (rgt_mono2 h d j p x hp hx) (rgt_step h hx he)
theorem rgt_le {l : List En} (h : Rgt l) : ∀ (j : Nat) (e : En),l[j]? = some e -> e.v <= lastV l:=fun j e he => by
 have hj : j < l.length:=(List.getElem?_eq_some_iff.1 he).1
 obtain ⟨x,hx⟩ : ∃ x,l[l.length - 1]? = some x:=⟨_,List.getElem?_eq_getElem (by omega)⟩
 rw [lastv_get2 hx]
 exact rgt_mono2 h (l.length - 1 - j) j e x he (by rw [<- hx]; congr 1; omega)
theorem rw_drop {l : List En} {v : Int} (h : Rgt l) (hv : lastV l <= v) {f : Nat} : Rw f v (l.drop f):=by
 refine ⟨by rw [List.length_drop]; have:=h.1; omega,fun j hj => ?_⟩
 rw [List.length_drop] at hj
 obtain ⟨e,h1,h2,h3,h4,h5,h6⟩:=h.2 (f + j) (by omega)
 have hl:=h.1
 refine ⟨e,by rw [List.getElem?_drop]; exact h1,by omega,by omega,h3,Int.le_trans (rgt_le h _ e h1) hv,h5,fun h0 p hp => ?_⟩
 rw [List.getElem?_drop] at hp
 exact h6 p (by rw [<- hp]; congr 1; omega)
theorem rw_rgt {l : List En} {v : Int} (h : Rgt l) (hv : lastV l <= v) : Rw 0 v l:=rw_drop (f:=0) h hv
theorem rgt_rw {l : List En} {v : Int} (h0 : 0 <= v) (hv : v <= 4611686018427387904) (h : Rw 0 v l) : Rgt l /\ lastV l <= v:=by
 refine ⟨⟨h.1,fun j hj => ?_⟩,?_⟩
 ·obtain ⟨e,h1,h2,h3,h4,h5,h6,h7⟩:=h.2 j hj
  refine ⟨e,h1,by omega,h4,by omega,h6,fun p hp => ?_⟩
  by_cases h0 : 0 < j
  ·exact h7 h0 p hp
  ·have : j = 0:=by omega
   subst this
   rw [show 0 - 1 = 0 from rfl,h1] at hp
   injection hp with hp
   subst hp; exact Int.le_refl _
 ·cases hl : l.length with
  | zero => rw [List.length_eq_zero_iff.1 hl,lastv_nil2]; exact h0
  | succ k =>
   obtain ⟨e,h1,_,_,_,h5,_⟩:=h.2 (l.length - 1) (by omega)
   rw [lastv_get2 h1]; exact h5
theorem rgt_snoc {l : List En} {e : En} (h : Rgt l) (hl : l.length < 150) (hn : e.n = (l.length : Int) + 1) (h1 : 1 <= e.v) (h2 : e.v <= 4611686018427387904) (hb : e.b.size <= 200) (hv : lastV l <= e.v) : Rgt (l ++ [e]):=by
 refine ⟨by rw [List.length_append]; simp; omega,fun j hj => ?_⟩
 rw [List.length_append,List.length_singleton] at hj
 by_cases h3 : j < l.length
 ·obtain ⟨x,k1,k2,k3,k4,k5,k6⟩:=h.2 j h3
  refine ⟨x,by rw [List.getElem?_append_left h3]; exact k1,k2,k3,k4,k5,fun p hp => ?_⟩
  rw [List.getElem?_append_left (by omega)] at hp
  exact k6 p hp
 ·have : j = l.length:=by omega
  subst this
  refine ⟨e,by simp,hn,h1,h2,hb,fun p hp => ?_⟩
  by_cases h0 : l.length = 0
  ·rw [List.length_eq_zero_iff.1 h0] at hp
   simp at hp
   subst hp; exact Int.le_refl _
  ·rw [List.getElem?_append_left (by omega)] at hp
   exact Int.le_trans (rgt_le h _ p hp) hv
theorem rgt_follow {v : Int} (hv : v <= 4611686018427387904) : ∀ (l log : List En),Rgt log -> lastV log <= v -> (∀ e ∈ l,0 <= e.n /\ e.n <= 150 /\ 1 <= e.v /\ e.v <= v /\ e.b.size <= 200) -> Rgt (log ++ follow ((log.length : Int) + 1) (lastV log) l) /\ lastV (log ++ follow ((log.length : Int) + 1) (lastV log) l) <= v
 | [],log,h,hl,_ => by simp only [follow,List.append_nil]; exact ⟨h,hl⟩
 | x :: l,log,h,hl,hx => by
  have h1:=hx x (by simp)
  have h2 : ∀ e ∈ l,0 <= e.n /\ e.n <= 150 /\ 1 <= e.v /\ e.v <= v /\ e.b.size <= 200:=fun e he => hx e (by simp [he])
  unfold follow
  by_cases c1 : (log.length : Int) + 1 < x.n
  ·rw [if_pos c1,List.append_nil]; exact ⟨h,hl⟩
  ·rw [if_neg c1]
   by_cases c2 : x.n = (log.length : Int) + 1 /\ lastV log <= x.v
   ·rw [if_pos c2]
    have h3:=rgt_snoc h (by omega) c2.1 h1.2.2.1 (by omega) h1.2.2.2.2 c2.2
    have h4:=rgt_follow hv l (log ++ [x]) h3 (by rw [lastV_snoc]; exact h1.2.2.2.1) h2
    have e1 : ((log ++ [x]).length : Int) + 1 = (log.length : Int) + 1 + 1:=by simp
    rw [e1,lastV_snoc,List.append_assoc,List.singleton_append] at h4
    exact h4
   ·rw [if_neg c2]; exact rgt_follow hv l log h hl h2
theorem follow_mem : ∀ (l : List En) (k v : Int) (e : En),e ∈ follow k v l -> e ∈ l
 | [],_,_,e,h => by simp [follow] at h
 | x :: l,k,v,e,h => by
  unfold follow at h
  by_cases c1 : k < x.n
  ·rw [if_pos c1] at h; cases h
  ·rw [if_neg c1] at h
   by_cases c2 : x.n = k /\ v <= x.v
   ·rw [if_pos c2] at h
    rcases List.mem_cons.1 h with rfl | h
    ·simp
    ·exact List.mem_cons_of_mem _ (follow_mem l _ _ e h)
   ·rw [if_neg c2] at h
    exact List.mem_cons_of_mem _ (follow_mem l _ _ e h)
/-! ### Nodes -/
def JOk (v : Int) (j : Int × List En) : Prop:=0 <= j.1 /\ j.1 < v /\ Rgt j.2 /\ lastV j.2 <= j.1
structure AskOkL (many me : Nat) (pr nm : Int) (r : Rg) : Prop where
 pri : pri pr many = me
 pos : 1 <= pr
 st : r.st = false
 nm : nm < pr
 js : ∀ i j,r.js i = some j -> JOk pr j /\ i < many
abbrev AskOk (n : Nd) (r : Rg) : Prop:=AskOkL n.many n.self n.pr n.nm r
structure RunOkL (many me : Nat) (pr nm : Int) (log : List En) (r : Rg) : Prop where
 pri : pri pr many = me
 pos : 1 <= pr
 st : r.st = true
 nm : nm = pr
 js : ∀ i,r.js i = none
 bg : r.bg <= log.length
 bv : lastV (log.take r.bg) < pr
 ak : ∀ i,0 <= r.ak i /\ r.ak i <= log.length
abbrev RunOkN (n : Nd) (r : Rg) : Prop:=RunOkL n.many n.self n.pr n.nm n.log r
abbrev RgOk (n : Nd) (r : Rg) : Prop:=(AskOk n r /\ ((joinsL r.js n.many).length : Int) < quo n.many) ∨ RunOkN n r
structure NdOk (n : Nd) : Prop where
 self : n.self < n.many
 many : n.many <= 7
 ls : LsOk ⟨n.pr,n.nm,n.log⟩
 c0 : 0 <= n.com
 c1 : n.com <= n.log.length
 rg : ∀ r,n.rg = some r -> RgOk n r
theorem NdOk.isG {n : Nd} (h : NdOk n) : isG n.many = true:=by
 have:=h.self; have:=h.many
 simp [Rk.isG]; omega
theorem quo_ge {m : Nat} (h : isG m = true) : 1 <= quo m /\ quo m <= m:=⟨(quo_two h).2.2.1,(quo_two h).2.2.2⟩
theorem pri_is {v : Int} {m k : Nat} (h : pri v m = (k : Int)) : k < m /\ 0 <= v /\ v <= 4611686018427387904:=by
 unfold pri at h
 by_cases hc : (isV v && Rk.isG m) = true
 ·rw [if_pos hc] at h
  simp only [Bool.and_eq_true] at hc
  have hg:=hc.2
  have hv:=hc.1
  simp only [isV,Bool.and_eq_true,decide_eq_true_eq] at hv
  have h2 : 0 < (m : Int):=by simp [Rk.isG] at hg; omega
  have h3:=Int.emod_lt_of_pos v h2
  exact ⟨by omega,hv.1,hv.2⟩
 ·rw [if_neg hc] at h; omega
/-! ### What a node sends is a message -/
theorem ms_ask {v : Int} (h1 : 1 <= v) (h2 : v <= 4611686018427387904) : MsOk (mAsk v):=⟨h1,h2,by show (0 : Int) <= 0; omega,by show (0 : Int) < v; omega,by show (0 : Int) <= 0; omega,by show (0 : Int) <= 150; omega,.inr ⟨rfl,.inl ⟨rfl,rfl,rfl⟩⟩⟩
theorem ms_join {v m : Int} {l : List En} (h1 : 1 <= v) (h2 : v <= 4611686018427387904) (h : JOk v (m,l)) : MsOk (mJoin v m l) :=
 ⟨h1,h2,h.1,h.2.1,by show (0 : Int) <= 0; omega,by show (0 : Int) <= 150; omega,.inl ⟨rfl,rfl,rw_rgt h.2.2.1 h.2.2.2⟩⟩
theorem ms_start {v : Int} {l : List En} (h1 : 1 <= v) (h2 : v <= 4611686018427387904) (h : Rgt l) (hv : lastV l < v) : MsOk (mStart v l) :=
 ⟨h1,h2,by show (0 : Int) <= 0; omega,by show (0 : Int) < v; omega,by show (0 : Int) <= 0; omega,by show (0 : Int) <= 150; omega,.inr ⟨rfl,.inr (.inl ⟨rfl,rfl,rw_rgt h (by show lastV l <= v - 1; omega)⟩)⟩⟩
theorem ms_put {v : Int} {l : List En} {f : Nat} (h1 : 1 <= v) (h2 : v <= 4611686018427387904) (h : Rgt l) (hv : lastV l <= v) (hf : f <= l.length) : MsOk (mPut v f (l.drop f)) :=
 ⟨h1,h2,by show (0 : Int) <= 0; omega,by show (0 : Int) < v; omega,by show (0 : Int) <= f; omega,by show (f : Int) <= 150; have:=h.1; omega,.inr ⟨rfl,.inr (.inr (.inl ⟨rfl,rw_drop h hv⟩))⟩⟩
theorem ms_ack {v n : Int} (h1 : 1 <= v) (h2 : v <= 4611686018427387904) (h3 : 0 <= n) (h4 : n <= 150) : MsOk (mAck v n) :=
 ⟨h1,h2,by show (0 : Int) <= 0; omega,by show (0 : Int) < v; omega,h3,h4,.inr ⟨rfl,.inr (.inr (.inr ⟨.inl rfl,rfl⟩))⟩⟩
theorem ms_tell {v n : Int} (h1 : 1 <= v) (h2 : v <= 4611686018427387904) (h3 : 0 <= n) (h4 : n <= 150) : MsOk (mTell v n) :=
 ⟨h1,h2,by show (0 : Int) <= 0; omega,by show (0 : Int) < v; omega,h3,h4,.inr ⟨rfl,.inr (.inr (.inr ⟨.inr rfl,rfl⟩))⟩⟩
/-! ### What a quorum has -/
theorem foldl_max_le {k : Int} : ∀ (l : List Int) (a : Int),a <= k -> (∀ x ∈ l,x <= k) -> l.foldl max a <= k
 | [],_,h,_ => h
 | x :: l,a,h,hx => foldl_max_le l (max a x) (by have:=hx x (by simp); omega) (fun y hy => hx y (by simp [hy]))
theorem foldl_max_lo : ∀ (l : List Int) (a : Int),a <= l.foldl max a
 | [],_ => Int.le_refl _
 | x :: l,a => Int.le_trans (by omega) (foldl_max_lo l (max a x))
theorem held_le {l : List Int} {k : Int} (h0 : 0 <= k) (h : ∀ x ∈ l,x <= k) : 0 <= heldN l /\ heldN l <= k:=by
 unfold heldN
 split
 ·exact ⟨foldl_max_lo _ _,foldl_max_le _ _ h0 (fun x hx => h x (List.mem_filter.1 hx).1)⟩
 ·exact ⟨Int.le_refl _,h0⟩
theorem acks_le {r : Rg} {m : Nat} {k : Int} (h : ∀ i,r.ak i <= k) : ∀ x ∈ acksL r m,x <= k:=fun x hx => by
 unfold acksL at hx
 obtain ⟨i,_,rfl⟩:=List.mem_map.1 hx
 exact h i
/-! ### Each call keeps it -/
theorem NdOk.send {n : Nd} (h : NdOk n) (i : Nat) (m : Ms) : NdOk (n.send i m):=⟨h.self,h.many,h.ls,h.c0,h.c1,fun r hr => h.rg r hr⟩
theorem NdOk.outs {n : Nd} (h : NdOk n) (o : List (Nat × Ms)) : NdOk { n with out:=o }:=⟨h.self,h.many,h.ls,h.c0,h.c1,fun r hr => h.rg r hr⟩
theorem NdOk.spread {n : Nd} (h : NdOk n) (m : Ms) : NdOk (n.spread m):=h.outs _
theorem look_ok {n : Nd} {r : Rg} (h : NdOk n) (hr : n.rg = some r) (ho : RunOkN n r) : NdOk (n.look r):=by
 have hh:=held_le (l:=acksL r n.many) (k:=n.log.length) (by omega) (acks_le fun i => (ho.ak i).2)
 unfold Nd.look
 split
 ·refine NdOk.spread (n:={ n with com:=heldN (acksL r n.many) }) ⟨h.self,h.many,h.ls,hh.1,hh.2,fun r2 hr2 => ?_⟩ _
  have e : r = r2:=by
   have hr3 : n.rg = some r2:=hr2
   rw [hr] at hr3; injection hr3
  subst e
  exact .inr ho
 ·exact h
theorem mem_joins {js : Nat -> Option (Int × List En)} {m : Nat} {j : Int × List En} (h : j ∈ joinsL js m) : ∃ i,i < m /\ js i = some j:=by
 unfold joinsL at h
 obtain ⟨i,hi,e⟩:=List.mem_filterMap.1 h
 exact ⟨i,List.mem_range.1 hi,e⟩
theorem best_in {J : List (Int × List En)} (h : J ≠ []) : ∃ j ∈ J,bestL J = j.2:=by
 unfold bestL
 by_cases hb : bestN (J.map mkOf) < J.length
 ·refine ⟨J[bestN (J.map mkOf)],List.getElem_mem hb,?_⟩
  rw [List.getD_eq_getElem?_getD,List.getElem?_eq_getElem hb]; rfl
 ·exfalso
  apply hb
  have h0 : 0 < J.length:=List.length_pos_iff.2 h
  unfold bestN
  cases hf : (J.map mkOf).findIdx? fun m => (J.map mkOf).all fun x => !less m x with
  | none => simpa using h0
  | some k =>
   have:=(List.findIdx?_eq_some_iff_getElem.1 hf).1
   simpa using this
theorem best_ok {n : Nd} {r : Rg} (h : NdOk n) (ha : AskOk n r) (hq : ¬ ((joinsL r.js n.many).length : Int) < quo n.many) :
  Rgt (bestL (joinsL r.js n.many)) /\ lastV (bestL (joinsL r.js n.many)) < n.pr:=by
 have h1:=(quo_ge h.isG).1
 obtain ⟨j,hj,e⟩:=best_in (J:=joinsL r.js n.many) (by intro e; rw [e] at hq; simp at hq; omega)
 obtain ⟨i,_,e2⟩:=mem_joins hj
 obtain ⟨⟨k1,k2,k3,k4⟩,_⟩:=ha.js i j e2
 rw [e]
 exact ⟨k3,by omega⟩
def Nd.begins (n : Nd) (l : List En) : Nd:={ n with log:=l,com:=min n.com l.length,nm:=n.pr,rg:=some (started n l) }
theorem begins_ok {n : Nd} (h : NdOk { n with rg:=none }) (hp : pri n.pr n.many = n.self) (h1 : 1 <= n.pr) {l : List En} (hl : Rgt l) (hv : lastV l < n.pr) : NdOk (n.begins l) /\ RunOkN (n.begins l) (started n l):=by
 have hls:=h.ls
 have hr : RunOkN (n.begins l) (started n l):=⟨hp,h1,rfl,rfl,fun _ => rfl,Nat.le_refl _,by show lastV (l.take l.length) < n.pr; rw [List.take_length]; exact hv,fun i => by
  show 0 <= (if i = n.self then (l.length : Int) else 0) /\ (if i = n.self then (l.length : Int) else 0) <= (l.length : Int)
  split <;> omega⟩
 refine ⟨⟨h.self,h.many,⟨by show (0 : Int) <= n.pr; omega,Int.le_refl _,hls.p1,hl,by show lastV l <= n.pr; omega⟩,?_,?_,fun r e => ?_⟩,hr⟩
 ·show 0 <= min n.com (l.length : Int); have:=h.c0; have h2 : (0 : Int) <= n.com:=this; omega
 ·show min n.com (l.length : Int) <= (l.length : Int); omega
 ·have e2 : started n l = r:=by injection e
  subst e2
  exact .inr hr
theorem NdOk.noRg {n : Nd} (h : NdOk n) : NdOk { n with rg:=none }:=⟨h.self,h.many,h.ls,h.c0,h.c1,fun _ e => by cases e⟩
theorem begin_ok {n : Nd} {r : Rg} (h : NdOk { n with rg:=none }) (hr : n.rg = some r) (ha : AskOk n r) : NdOk (n.begin r):=by
 unfold Nd.begin
 split
 ·rename_i hc
  refine ⟨h.self,h.many,h.ls,h.c0,h.c1,fun r2 e => ?_⟩
  have e2 : r = r2:=by rw [hr] at e; injection e
  subst e2
  exact .inl ⟨ha,hc⟩
 ·rename_i hc
  obtain ⟨h1,h2⟩:=best_ok (n:={ n with rg:=none }) (r:=r) h ⟨ha.pri,ha.pos,ha.st,ha.nm,ha.js⟩ hc
  obtain ⟨h3,h4⟩:=begins_ok h ha.pri ha.pos h1 h2
  exact look_ok (n:=(n.begins _).spread _) (h3.spread _) rfl ⟨h4.pri,h4.pos,h4.st,h4.nm,h4.js,h4.bg,h4.bv,h4.ak⟩
theorem self_jok {n : Nd} (h : NdOk n) {v : Int} (hv : n.pr < v) : JOk v (n.nm,n.log):=⟨h.ls.n0,by have:=h.ls.np; have h2 : n.nm <= n.pr:=this; show n.nm < v; omega,h.ls.log,h.ls.last⟩
theorem prs_ok {n : Nd} (h : NdOk n) {v : Int} (hv : n.pr < v) (hb : v <= 4611686018427387904) : NdOk { n with pr:=v,rg:=none }:=by
 have h2 : n.nm <= n.pr:=h.ls.np
 exact ⟨h.self,h.many,⟨h.ls.n0,by show n.nm <= v; omega,hb,h.ls.log,h.ls.last⟩,h.c0,h.c1,fun _ e => by cases e⟩
theorem lead_ok {n : Nd} (h : NdOk n) (v : Int) : NdOk (n.lead v):=by
 unfold Nd.lead
 split
 ·rename_i hc
  obtain ⟨_,_,hb⟩:=pri_is hc.2
  have h0:=h.ls.n0
  have h1 : n.nm <= n.pr:=h.ls.np
  have h2 : (0 : Int) <= n.nm:=h0
  have hv:=hc.1
  refine begin_ok (n:=({ n with pr:=v,rg:=some (noRg.join n.self n.nm n.log) } : Nd).spread (mAsk v)) (by exact (prs_ok h hc.1 hb).outs _) rfl ⟨hc.2,by show 1 <= v; omega,rfl,by show n.nm < v; omega,fun i j hj => ?_⟩
  have hj2 : (if i = n.self then some (n.nm,n.log) else none) = some j:=hj
  split at hj2
  ·rename_i e
   injection hj2 with hj2
   subst hj2
   exact ⟨self_jok h hc.1,by rw [e]; exact h.self⟩
  ·cases hj2
 ·exact h
theorem run_ack {n : Nd} {r : Rg} (h : RunOkN n r) (i : Nat) {x : Int} (hx : x <= n.log.length) (f : Nat -> Bool) : RunOkN n { r.ack i x with he:=f } :=
 ⟨h.pri,h.pos,h.st,h.nm,h.js,h.bg,h.bv,fun k => by
  have h1:=h.ak k
  have h2:=h.ak i
  show 0 <= (if k = i then max (r.ak i) x else r.ak k) /\ (if k = i then max (r.ak i) x else r.ak k) <= (n.log.length : Int)
  split <;> omega⟩
theorem offer_ok {n : Nd} (h : NdOk n) (b : ByteArray) : NdOk (n.offer b):=by
 unfold Nd.offer
 split
 ·exact h
 ·rename_i r hr
  split
  ·rename_i hc
   unfold Nd.offerOk at hc
   rw [hr] at hc
   simp only [Bool.and_eq_true,decide_eq_true_eq] at hc
   have ho : RunOkN n r:=by
    rcases h.rg r hr with ⟨ha,_⟩ | ho
    ·rw [ha.st] at hc; simp at hc
    ·exact ho
   have hl : n.log.length < 150:=hc.1.2
   have hlast : lastV n.log <= n.nm:=h.ls.last
   have hrg:=rgt_snoc (e:=⟨n.pr,(n.log.length : Int) + 1,b⟩) h.ls.log hl rfl ho.pos h.ls.p1 hc.2 (by show lastV n.log <= n.pr; have:=ho.nm; omega)
   have hlen : (n.log ++ [(⟨n.pr,(n.log.length : Int) + 1,b⟩ : En)]).length = n.log.length + 1:=by simp
   have hrun : RunOkN ({ n with log:=n.log ++ [⟨n.pr,(n.log.length : Int) + 1,b⟩],rg:=some (r.ack n.self ((n.log.length : Int) + 1)) } : Nd) (r.ack n.self ((n.log.length : Int) + 1)):=by
    refine ⟨ho.pri,ho.pos,ho.st,ho.nm,ho.js,?_,?_,fun k => ?_⟩
    ·have:=ho.bg
     show r.bg <= (n.log ++ [(⟨n.pr,(n.log.length : Int) + 1,b⟩ : En)]).length
     omega
    ·show lastV ((n.log ++ [(⟨n.pr,(n.log.length : Int) + 1,b⟩ : En)]).take r.bg) < n.pr
     rw [List.take_append_of_le_length ho.bg]; exact ho.bv
    ·have h1:=ho.ak k
     have h2:=ho.ak n.self
     show 0 <= (if k = n.self then max (r.ak n.self) ((n.log.length : Int) + 1) else r.ak k) /\ (if k = n.self then max (r.ak n.self) ((n.log.length : Int) + 1) else r.ak k) <= ((n.log ++ [(⟨n.pr,(n.log.length : Int) + 1,b⟩ : En)]).length : Int)
     rw [hlen]
     split <;> omega
   refine look_ok (n:=Nd.spread ({ n with log:=n.log ++ [⟨n.pr,(n.log.length : Int) + 1,b⟩],rg:=some (r.ack n.self ((n.log.length : Int) + 1)) } : Nd) _) (NdOk.spread (n:=({ n with log:=n.log ++ [⟨n.pr,(n.log.length : Int) + 1,b⟩],rg:=some (r.ack n.self ((n.log.length : Int) + 1)) } : Nd)) ⟨h.self,h.many,⟨h.ls.n0,h.ls.np,h.ls.p1,hrg,?_⟩,h.c0,?_,fun r2 e => ?_⟩ _) rfl ⟨hrun.pri,hrun.pos,hrun.st,hrun.nm,hrun.js,hrun.bg,hrun.bv,hrun.ak⟩
   ·show lastV (n.log ++ [(⟨n.pr,(n.log.length : Int) + 1,b⟩ : En)]) <= n.nm
    rw [lastV_snoc]; have:=ho.nm; show n.pr <= n.nm; omega
   ·show n.com <= ((n.log ++ [(⟨n.pr,(n.log.length : Int) + 1,b⟩ : En)]).length : Int)
    rw [hlen]; have:=h.c1; omega
   ·have e2 : r.ack n.self ((n.log.length : Int) + 1) = r2:=by injection e
    subst e2
    exact .inr hrun
  ·exact h
theorem new_ok {self many : Nat} (h : self < many) (hm : many <= 7) : NdOk (newN self many):=⟨h,hm,⟨Int.le_refl _,Int.le_refl _,by show (0 : Int) <= 4611686018427387904; decide,rgt_nil,Int.le_refl _⟩,Int.le_refl _,Int.le_refl _,fun _ e => by cases e⟩
theorem not_lead {n : Nd} (h : NdOk n) {v : Int} {f : Nat} (hp : pri v n.many = (f : Int)) (hf : f ≠ n.self) (hv : n.pr = v) : n.rg = none:=by
 cases hr : n.rg with
 | none => rfl
 | some r =>
  exfalso
  have h1 : pri n.pr n.many = n.self:=by
   rcases h.rg r hr with ⟨ha,_⟩ | ho
   ·exact ha.pri
   ·exact ho.pri
  rw [hv,hp] at h1
  omega
theorem takeAsk_ok {n : Nd} (h : NdOk n) (f : Nat) {m : Ms} (hm : MsOk m) : NdOk (n.takeAsk f m):=by
 unfold Nd.takeAsk
 by_cases hc : n.pr < m.v
 ·simp only [if_pos hc]
  split
  ·exact (prs_ok h hc hm.2.1).send _ _
  ·exact prs_ok h hc hm.2.1
 ·simp only [if_neg hc]
  split
  ·exact h.send _ _
  ·exact h
theorem join_ok {n : Nd} {r : Rg} (ha : AskOk n r) {i : Nat} (hi : i < n.many) {j : Int × List En} (hj : JOk n.pr j) : AskOk { n with rg:=some (r.join i j.1 j.2) } (r.join i j.1 j.2) :=
 ⟨ha.pri,ha.pos,ha.st,ha.nm,fun k x hx => by
  have hx2 : (if k = i then some (j.1,j.2) else r.js k) = some x:=hx
  split at hx2
  ·rename_i e
   injection hx2 with hx2
   subst hx2
   exact ⟨hj,by rw [e]; exact hi⟩
  ·exact ha.js k x hx2⟩
theorem takeJoin_ok {n : Nd} (h : NdOk n) {f : Nat} (hf : f < n.many) {m : Ms} (hm : MsOk m) (hk : m.k = 2) : NdOk (n.takeJoin f m):=by
 unfold Nd.takeJoin
 split
 ·exact h
 ·rename_i r hr
  split
  ·rename_i hc
   simp only [Bool.and_eq_true,decide_eq_true_eq,Bool.not_eq_true'] at hc
   have ha : AskOk n r:=by
    rcases h.rg r hr with ⟨ha,_⟩ | ho
    ·exact ha
    ·rw [ho.st] at hc; simp at hc
   obtain ⟨h1,h2,h3,h4,_,_,h7⟩:=hm
   have hrw : Rw 0 m.m m.l:=by
    rcases h7 with ⟨_,_,h8⟩ | ⟨_,⟨h8,_⟩ | ⟨h8,_⟩ | ⟨h8,_⟩ | ⟨h8 | h8,_⟩⟩
    ·exact h8
    all_goals (rw [hk] at h8; exact absurd h8 (by decide))
   unfold big at h2
   obtain ⟨h9,h10⟩:=rgt_rw h3 (by omega) hrw
   exact begin_ok (n:=({ n with rg:=some (r.join f m.m m.l) } : Nd)) h.noRg rfl (join_ok (j:=(m.m,m.l)) ha hf ⟨h3,by rw [hc.1.2]; exact h4,h9,h10⟩)
  ·exact h
theorem takeStart_ok {n : Nd} (h : NdOk n) (f : Nat) {m : Ms} (hm : MsOk m) (hk : m.k = 3) : NdOk (n.takeStart f m):=by
 unfold Nd.takeStart
 obtain ⟨h1,h2,h3,h4,_,_,h7⟩:=hm
 have hrw : Rw 0 (m.v - 1) m.l:=by
  rcases h7 with ⟨h8,_⟩ | ⟨_,⟨h8,_⟩ | ⟨_,_,h8⟩ | ⟨h8,_⟩ | ⟨h8 | h8,_⟩⟩
  ·rw [hk] at h8; exact absurd h8 (by decide)
  ·rw [hk] at h8; exact absurd h8 (by decide)
  ·exact h8
  all_goals (rw [hk] at h8; exact absurd h8 (by decide))
 unfold big at h2
 obtain ⟨h9,h10⟩:=rgt_rw (by omega) (by omega) hrw
 by_cases hc : n.pr <= m.v /\ n.nm < m.v
 ·have h11 : NdOk ({ n with pr:=m.v,nm:=m.v,log:=m.l,com:=min n.com m.l.length,rg:=none } : Nd):=by
   refine ⟨h.self,h.many,⟨by show (0 : Int) <= m.v; omega,Int.le_refl _,h2,h9,by show lastV m.l <= m.v; omega⟩,?_,?_,fun _ e => by cases e⟩
   ·show 0 <= min n.com (m.l.length : Int); have:=h.c0; omega
   ·show min n.com (m.l.length : Int) <= (m.l.length : Int); omega
  simp only [if_pos hc]
  split
  ·exact h11.send _ _
  ·exact h11
 ·simp only [if_neg hc]
  split
  ·exact h.send _ _
  ·exact h
theorem takePut_ok {n : Nd} (h : NdOk n) {f : Nat} {m : Ms} (hm : MsOk m) (hp : pri m.v n.many = (f : Int)) (hf : f ≠ n.self) : NdOk (n.takePut f m):=by
 unfold Nd.takePut
 split
 ·rename_i hc
  have hr:=not_lead h hp hf hc.1
  have hrows:=(ms_rows hm).1
  have hlast : lastV n.log <= n.nm:=h.ls.last
  obtain ⟨h1,h2⟩:=rgt_follow (v:=m.v) hm.2.1 m.l n.log h.ls.log (by rw [<- hc.2]; exact hlast) hrows
  refine NdOk.send (n:=({ n with log:=n.log ++ follow ((n.log.length : Int) + 1) (lastV n.log) m.l } : Nd)) ⟨h.self,h.many,⟨h.ls.n0,h.ls.np,h.ls.p1,h1,by rw [<- hc.2] at h2; exact h2⟩,h.c0,?_,fun r e => by have e2 : n.rg = some r:=e; rw [hr] at e2; cases e2⟩ _ _
  have:=h.c1
  show n.com <= ((n.log ++ _).length : Int)
  rw [List.length_append]; omega
 ·exact h
theorem takeAck_ok {n : Nd} (h : NdOk n) (f : Nat) {m : Ms} : NdOk (n.takeAck f m):=by
 unfold Nd.takeAck
 split
 ·exact h
 ·rename_i r hr
  split
  ·rename_i hc
   simp only [Bool.and_eq_true,decide_eq_true_eq] at hc
   have ho : RunOkN n r:=by
    rcases h.rg r hr with ⟨ha,_⟩ | ho
    ·rw [ha.st] at hc; simp at hc
    ·exact ho
   have h1:=run_ack ho f hc.2 (fun k => if k = f then true else r.he k)
   have h2 : RunOkN ({ n with rg:=some { r.ack f m.n with he:=fun k => if k = f then true else r.he k } } : Nd) { r.ack f m.n with he:=fun k => if k = f then true else r.he k }:=⟨h1.pri,h1.pos,h1.st,h1.nm,h1.js,h1.bg,h1.bv,h1.ak⟩
   have h3 : NdOk ({ n with rg:=some { r.ack f m.n with he:=fun k => if k = f then true else r.he k } } : Nd):=⟨h.self,h.many,h.ls,h.c0,h.c1,fun r2 e => by
    have e2 : { r.ack f m.n with he:=fun k => if k = f then true else r.he k } = r2:=by injection e
    subst e2
    exact .inr h2⟩
   have h4:=look_ok h3 rfl h2
   simp only []
   split
   ·exact h4.send _ _
   ·exact h4
  ·exact h
theorem takeTell_ok {n : Nd} (h : NdOk n) {f : Nat} {m : Ms} (hp : pri m.v n.many = (f : Int)) (hf : f ≠ n.self) : NdOk (n.takeTell m):=by
 unfold Nd.takeTell
 split
 ·rename_i hc
  have hr:=not_lead h hp hf hc.1
  have h0:=h.c0
  have h1:=h.c1
  refine ⟨h.self,h.many,h.ls,?_,?_,fun r e => by rw [hr] at e; cases e⟩
  ·show 0 <= max n.com (min m.n (n.log.length : Int)); omega
  ·show max n.com (min m.n (n.log.length : Int)) <= (n.log.length : Int); omega
 ·exact h
theorem takeM_ok {n : Nd} (h : NdOk n) {f : Nat} (hf : f < n.many) (hs : f ≠ n.self) {m : Ms} (hm : MsOk m) : NdOk (n.takeM f m):=by
 unfold Nd.takeM
 split
 ·rename_i hk; exact takeJoin_ok h hf hm hk
 ·split
  ·exact takeAck_ok h f
  ·split
   ·exact h
   ·rename_i hp
    have hp2 : pri m.v n.many = (f : Int):=by omega
    split
    ·exact takeAsk_ok h f hm
    ·split
     ·rename_i hk; exact takeStart_ok h f hm hk
     ·split
      ·exact takePut_ok h hm hp2 hs
      ·exact takeTell_ok h hp2 hs
theorem deM_ok {b : List Int} {m : Ms} (h : deM b = some m) : MsOk m:=by
 unfold deM at h
 split at h
 ·cases h
 ·split at h
  ·rename_i h2
   injection h with h
   subst h
   exact h2
  ·cases h
theorem take_ok {n : Nd} (h : NdOk n) (f t : Int) (b : List Int) : NdOk (n.take f t b):=by
 unfold Nd.take
 split
 ·exact h
 ·rename_i m hm
  split
  ·rename_i hc
   exact takeM_ok h (by omega) (by omega) (deM_ok hm)
  ·exact h
open Go.ChangeShapes Go.WideShapes Go.ChangeAt Go.RowKit Go.Proofs.Rk
open Pq (Fld FReads errL bytL fcs)
open Gq (Bz Mine PL PDisk Kp Kl Lg Dk putL SReads enc le4)

def addG (G : Lg) (l : List En) : Lg:={ G with bs:=G.bs ++ enc (l.map recE) }
theorem amiss_no {d : Bool} {u sz : Nat} {s : List Int} (hd : d = false) (h1 : s.length <= 4096) (h2 : u + (s.length + 4) <= sz * 64) : Gq.amissL d u [s] sz = 0:=by
 unfold Gq.amissL
 rw [if_neg (by rw [hd]; simp),if_neg (by rintro ⟨x,hx,h⟩; rw [List.mem_singleton] at hx; subst hx; omega),if_neg (by rw [Gq.need_one]; omega)]
theorem addG_nil (G : Lg) : addG G [] = G:=by simp [addG,enc]
theorem addG_snoc (G : Lg) (l : List En) (x : En) : addG G (l ++ [x]) = { addG G l with bs:=(addG G l).bs ++ le4 (recE x).length ++ recE x }:=by
 simp [addG,enc_append,enc_one]
theorem enc_le {l : List En} (k : Nat) : (enc ((l.take k).map recE)).length <= (enc (l.map recE)).length:=by
 rw [Gq.enc_length,Gq.enc_length]
 rw [show l.map recE = (l.take k).map recE ++ (l.drop k).map recE by rw [<- List.map_append,List.take_append_drop],need_append]
 omega
structure AdPost (z : Nat -> Prop) (q p : Nat) (G1 : Lg) (D : Dk) (w : World) (e : Ending) (w' : World) : Prop where
 ret : e = .returned (.tuple #[])
 kl : Kl ⟨0,z⟩ w w'
 pl : ∃ bv,PL w' ⟨0,z⟩ q p (putL G1 D G1.m.half G1.m.used G1.bs).1 bv (putL G1 D G1.m.half G1.m.used G1.bs).2.1
theorem ad_end {z : Nat -> Prop} {q p : Nat} {G1 : Lg} {bv : Value} {D : Dk} {w w1 w' : World} {e0 : Ending} (hk : Kl ⟨0,z⟩ w w1) (h : Gq.SePost (Gq.sgS ⟨0,z⟩ q p G1 bv D) w1 e0 w') : AdPost z q p G1 D w (.returned (.tuple #[])) w':=by
 refine ⟨rfl,Gq.Kl.trans hk h.kl,?_⟩
 rcases h.pl with ⟨h1,h2⟩ | ⟨h1,h2⟩
 ·refine ⟨bv,?_⟩
  have e1 : (putL G1 D G1.m.half G1.m.used G1.bs).1 = (Gq.sgS ⟨0,z⟩ q p G1 bv D).next:=if_pos h1
  rw [e1]
  exact h2
 ·refine ⟨bv,?_⟩
  have e1 : (putL G1 D G1.m.half G1.m.used G1.bs).1 = G1:=if_neg h1
  rw [e1]
  exact h2
set_option maxHeartbeats 8000000 in
theorem add_any {z : Nat -> Prop} {w : World} {st q p : Nat} {sg : Bool} {G : Lg} {bv : Value} {D : Dk} {A : Option Addr} {c : Nat} {l : List En} (hst : w.heap[st]? = some (.cells #[.pointer (some ⟨p,0,none⟩),.pointer (some ⟨q,0,none⟩),.bool sg] 124 (0,0)))
  (hpl : PL w ⟨0,z⟩ q p G bv D) (hd : D.dead = false) (hwt : D.wait.length <= 30000) (hA : w.ownsRow 0 45 3 (.slice A l.length c) l.length (l.flatMap ecell)) (hl : l.length <= 150) (hb : ∀ e ∈ l,errL (enF e) = 0 /\ e.b.size <= 200) (hroom : G.bs.length + (enc (l.map recE)).length <= G.sz * 64) :
  Calls Tryz.prog 107 #[.pointer (some ⟨st,0,none⟩),.slice A l.length c] w (AdPost z q p (addG G l) D w):=by
 obtain ⟨n,hn⟩ : ∃ n,l.length = n:=⟨_,rfl⟩
 rw [hn] at hA ⊢
 have HN:=hJQ hn
 have HST:=hJQ hst
 have HPL : Hid (PL w ⟨0,z⟩ q p (addG G []) bv D):=hJQ (by rw [addG_nil]; exact hpl)
 have HA:=hJQ hA
 have HB:=hJQ hb
 have HR:=hJQ hroom
 have HD:=hJQ hd
 have HWT:=hJQ hwt
 have HK0:=hJQ (Gq.Kl.refl ⟨0,z⟩ w)
 have hn1 : n <= 150:=by omega
 clear hst hpl hA hb hroom hd hwt hn hl
 go_enter Tryz.func107,Tryz.ntmps107
 go_wp2_with fail
 go_loopw [8] (fun i wr => ∃ (k : Nat) (bvk : Value),k <= n /\ i = .int .i64 k /\ Hid (PL wr ⟨0,z⟩ q p (addG G (l.take k)) bvk D) /\ Hid (Kl ⟨0,z⟩ w wr)) (fun i _ => n - (intOf i).toNat)
 case atStart => exact ⟨0,bv,Nat.zero_le _,rfl,by rw [List.take_zero]; exact HPL,HK0⟩
 case round =>
  obtain ⟨k,bvk,hk,rfl,HP,HX⟩:=hrel
  by_cases hlt : k < n
  ·have hki : (k : Int) < (n : Int):=by omega
   have hwk : IntKind.i64.wrap ((k : Int) + 1) = (k : Int) + 1:=by rw [IntKind.wrap_i64]; omega
   have hrow:=Kl.own HX.out HA.out far_entry
   have hrd : Rd ecell 3 wr A n l:=Rd.of_own hrow (fun _ _ => rfl) (by omega)
   obtain ⟨b0,o0,x,hA0,hx,hcx⟩:=hrd.at hlt
   subst hA0
   have c0:=hcx 0 _ rfl
   have c1:=hcx 1 _ rfl
   have c2:=hcx 2 _ rfl
   rw [Nat.add_zero] at c0
   have hxe:=HB.out x (List.mem_of_getElem? hx)
   have HXE:=hJQ hxe
   have HTK : Hid (l.take (k + 1) = l.take k ++ [x]):=hJQ (by
    rw [List.take_succ_eq_append_getElem (List.getElem?_eq_some_iff.1 hx).1]
    congr 2
    exact (List.getElem?_eq_some_iff.1 hx).2)
   obtain ⟨w3,hw3⟩ : ∃ W,W = wr.alloc (.cells #[.int .i64 x.v,.int .i64 x.n,.string x.b] 45):=⟨_,rfl⟩
   obtain ⟨xb,exb⟩ : ∃ b,b = wr.heap.size:=⟨_,rfl⟩
   have hb3 : Below wr.heap.size wr w3:=by rw [hw3]; exact box_below wr _
   have hx3 : w3.heap[xb]? = some (.cells #[.int .i64 x.v,.int .i64 x.n,.string x.b] 45 (0,0)):=by rw [hw3,exb]; exact new_block wr _
   have hs3:=blk_below (Kl.cells HX.out HST.out far_store) hb3
   have HS : Hid (∀ W,Kl ⟨0,z⟩ w3 W -> W.cell? ⟨st,1,none⟩ = some (.pointer (some ⟨q,0,none⟩)) /\ W.cell? ⟨xb,0,none⟩ = some (.int .i64 x.v) /\ W.cell? ⟨xb,1,none⟩ = some (.int .i64 x.n) /\ W.cell? ⟨xb,2,none⟩ = some (.string x.b)):=hJQ (fun W hW => by
    have h1:=Kl.cells hW hs3 far_store
    have h2:=Kl.cells hW hx3 far_entry
    exact ⟨cell_of h1 (j:=1) rfl,cell_of h2 (j:=0) rfl,cell_of h2 (j:=1) rfl,cell_of h2 (j:=2) rfl⟩)
   have HP3:=hJQ (HP.out.kept hb3)
   have HX3:=hJQ (Kl.after HX.out hb3)
   have HOF:=hJQ (ofentry_any x w3.drew)
   have HRC : Hid (∀ W b,w3.heap.size <= W.heap.size -> W.heap[b]? = some (.cells (fcs (enF x)).toArray 135 (0,0)) -> Calls Tryz.prog 68 #[.slice (some ⟨b,0,none⟩) 3 3] W fun e w' => e = .returned (.string (strOfNums (recE x))) /\ Below W.heap.size W w'):=hJQ (fun W b _ hW => record_any (fs:=enF x) (of_fields (l:=enF x) hW (by simp [enF])) (by decide) HXE.out.1)
   have hsz : (strOfNums (recE x)).size = (recE x).length:=Gq.str_size _
   have hsl : (recE x).length = 18 + x.b.size:=recE_len x
   have HAP : Hid (∀ W,Below w3.heap.size w3 W -> Calls Tryz.prog 141 #[.pointer (some ⟨q,0,none⟩),.string (strOfNums (recE x))] W fun e w' => (∃ v,e = .returned v) /\ Kl ⟨0,z⟩ w3 w' /\ ∃ bv',PL w' ⟨0,z⟩ q p (addG G (l.take (k + 1))) bv' D):=hJQ (fun W hW => by
    have hP:=HP3.out.kept hW
    have hx2:=HXE.out.2
    refine (Gq.append_led ⟨0,z⟩ q p _ bvk D (strOfNums (recE x)) W hP (by omega)).mono ?_
    rintro e w' ⟨he,hkl,hpl⟩
    rw [Gq.sb_str (recE_bys x)] at he hpl
    have ha : Gq.amissL D.dead (addG G (l.take k)).bs.length [recE x] (addG G (l.take k)).sz = 0:=by
     have h1:=enc_le (l:=l) (k + 1)
     rw [HTK.out,List.map_append,enc_append,List.length_append] at h1
     simp only [List.map_cons,List.map_nil,enc_one,List.length_append] at h1
     have h2:=HR.out
     refine amiss_no HD.out (by omega) ?_
     show (G.bs ++ enc ((l.take k).map recE)).length + _ <= G.sz * 64
     rw [List.length_append]
     have h3 : (le4 (recE x).length).length = 4:=rfl
     omega
    rcases hpl with ⟨h1,_⟩ | ⟨_,bv',h2⟩
    ·exact absurd ha h1
    ·refine ⟨⟨_,he⟩,Gq.Kl.trans (Kl.of_new hW) hkl,bv',?_⟩
     rw [HTK.out,addG_snoc]
     exact h2)
   have HW3:=hJQ hw3
   have EXB:=hJQ exb
   clear hrow hrd hcx hx hxe hw3 exb hb3 hx3 hs3 hsz hsl
   go_upto_region 3 with fail
   rw [<- HW3.out,<- EXB.out]
   go_region_held3 (fun W => W.cell? ⟨st,1,none⟩ = some (.pointer (some ⟨q,0,none⟩)) /\ W.cell? ⟨xb,0,none⟩ = some (.int .i64 x.v) /\ W.cell? ⟨xb,1,none⟩ = some (.int .i64 x.n) /\ W.cell? ⟨xb,2,none⟩ = some (.string x.b))
    (first
     | exact HS.out _ (Kl.of_new (Below.refl _ _).drew)
     | (with_reducible assumption))
    (first
     | (go_at_call 67; refine HOF.out.mono ?_; rintro e w5 ⟨b5,rfl,hk5,hg5,hb5⟩; have HB5:=hJQ ((Below.refl _ _).drew.trans hb5); have HK5:=hJQ hk5; have hS5:=HS.out _ (Kl.of_new HB5.out); clear hk5 hg5 hb5)
     | (go_at_call 68; refine (HRC.out _ _ HB5.out.size HK5.out).mono ?_; rintro e w6 ⟨rfl,hb6⟩; have HB6:=hJQ (HB5.out.trans (hb6.mono HB5.out.size)); have hS6:=HS.out _ (Kl.of_new HB6.out); clear hb6)
     | (go_at_call 141; refine (HAP.out _ HB6.out).mono ?_; rintro e w7 ⟨⟨v7,rfl⟩,hkl7,bv7,hpl7⟩; have hS7:=HS.out _ hkl7; have HK7:=hJQ (Gq.Kl.trans HX3.out hkl7); have HP7:=hJQ hpl7; clear hkl7 hpl7))
   go_wp2_with fail
   go_roundw
   case rel => exact ⟨k + 1,bv7,by omega,by go_num,HP7,HK7⟩
   case measure => simp [intOf]; omega
  ·obtain rfl : k = n:=by omega
   have htk : l.take k = l:=by rw [<- HN.out]; exact List.take_length
   rw [htk] at HP
   have hse:=Gq.sync_led ⟨0,z⟩ q p _ bvk D wr HP.out HWT.out
   have HSE:=hJQ hse
   have HS1:=Kl.cells HX.out HST.out far_store
   have s1:=cell_of HS1 (j:=1) rfl
   clear HS1 hse htk
   go_wp2_with fail
   refine HSE.out.mono ?_
   intro e w5 h5
   have HE:=hJQ (ad_end HX.out h5)
   obtain rfl:=h5.ret
   clear h5
   go_wp2_with fail
   go_end0
   exact HE.out
open Go.Proofs.Rk
open Pq (bytL byts)

def OutOk (n : Nd) : Prop:=∀ o ∈ n.out,MsOk o.2 /\ o.1 < n.many
theorem OutOk.send {n : Nd} (h : OutOk n) {i : Nat} {m : Ms} (hm : MsOk m) (hi : i < n.many) : OutOk (n.send i m):=fun o ho => by
 rcases List.mem_append.1 ho with ho | ho
 ·exact h o ho
 ·rw [List.mem_singleton] at ho; subst ho; exact ⟨hm,hi⟩
theorem others_mem {n : Nd} {i : Nat} (h : i ∈ n.others) : i < n.many:=List.mem_range.1 (List.mem_filter.1 h).1
theorem OutOk.spread {n : Nd} (h : OutOk n) {m : Ms} (hm : MsOk m) : OutOk (n.spread m):=fun o ho => by
 rcases List.mem_append.1 ho with ho | ho
 ·exact h o ho
 ·obtain ⟨i,hi,rfl⟩:=List.mem_map.1 ho
  exact ⟨hm,others_mem hi⟩
theorem OutOk.look {n : Nd} {r : Rg} (h : OutOk n) (hm : ∀ k : Int,k = heldN (acksL r n.many) -> MsOk (mTell n.pr k)) : OutOk (n.look r):=by
 unfold Nd.look
 split
 ·exact OutOk.spread (n:={ n with com:=_ }) h (hm _ rfl)
 ·exact h
theorem look_tell {n : Nd} {r : Rg} (hk : NdOk n) (ho : RunOkN n r) : ∀ k : Int,k = heldN (acksL r n.many) -> MsOk (mTell n.pr k):=fun k e => by
 have hh:=held_le (l:=acksL r n.many) (k:=n.log.length) (by omega) (acks_le fun i => (ho.ak i).2)
 have hl : n.log.length <= 150:=hk.ls.log.1
 subst e
 exact ms_tell ho.pos hk.ls.p1 hh.1 (by omega)
theorem begin_out {n : Nd} {r : Rg} (h : OutOk n) (hk : NdOk { n with rg:=none }) (ha : AskOk n r) : OutOk (n.begin r):=by
 unfold Nd.begin
 split
 ·exact h
 ·rename_i hc
  obtain ⟨h1,h2⟩:=best_ok (n:={ n with rg:=none }) (r:=r) hk ⟨ha.pri,ha.pos,ha.st,ha.nm,ha.js⟩ hc
  obtain ⟨h3,h4⟩:=begins_ok hk ha.pri ha.pos h1 h2
  have hb : n.pr <= 4611686018427387904:=hk.ls.p1
  exact OutOk.look (n:=(n.begins _).spread _) (OutOk.spread (n:=n.begins _) h (ms_start ha.pos hb h1 h2)) (look_tell (n:=(n.begins _).spread _) (h3.spread _) h4)
theorem lead_out {n : Nd} (h : OutOk n) (hk : NdOk n) (v : Int) : OutOk (n.lead v):=by
 unfold Nd.lead
 split
 ·rename_i hc
  obtain ⟨_,_,hb⟩:=pri_is hc.2
  have h1 : n.nm <= n.pr:=hk.ls.np
  have h2 : (0 : Int) <= n.nm:=hk.ls.n0
  have hv:=hc.1
  refine begin_out (n:=({ n with pr:=v,rg:=some (noRg.join n.self n.nm n.log) } : Nd).spread (mAsk v)) (OutOk.spread (n:=({ n with pr:=v,rg:=some (noRg.join n.self n.nm n.log) } : Nd)) h (ms_ask (by omega) hb)) (by exact (prs_ok hk hc.1 hb).outs _) ⟨hc.2,by show 1 <= v; omega,rfl,by show n.nm < v; omega,fun i j hj => ?_⟩
  have hj2 : (if i = n.self then some (n.nm,n.log) else none) = some j:=hj
  split at hj2
  ·rename_i e
   injection hj2 with hj2
   subst hj2
   exact ⟨self_jok hk hc.1,by rw [e]; exact hk.self⟩
  ·cases hj2
 ·exact h
theorem offer_out {n : Nd} (h : OutOk n) (hk : NdOk n) (b : ByteArray) : OutOk (n.offer b):=by
 have hok:=offer_ok hk b
 unfold Nd.offer at hok ⊢
 split
 ·exact h
 ·rename_i r hr
  rw [hr] at hok
  simp only [] at hok
  split
  ·rename_i hc
   rw [if_pos hc] at hok
   have hc0:=hc
   unfold Nd.offerOk at hc
   rw [hr] at hc
   simp only [Bool.and_eq_true,decide_eq_true_eq] at hc
   have ho : RunOkN n r:=by
    rcases hk.rg r hr with ⟨ha,_⟩ | ho
    ·rw [ha.st] at hc; simp at hc
    ·exact ho
   have hl : n.log.length < 150:=hc.1.2
   have hlast : lastV n.log <= n.nm:=hk.ls.last
   have hrg:=rgt_snoc (e:=⟨n.pr,(n.log.length : Int) + 1,b⟩) hk.ls.log hl rfl ho.pos hk.ls.p1 hc.2 (by show lastV n.log <= n.pr; have:=ho.nm; omega)
   have hlen : (n.log ++ [(⟨n.pr,(n.log.length : Int) + 1,b⟩ : En)]).length = n.log.length + 1:=by simp
   have hput : MsOk (mPut n.pr n.log.length [⟨n.pr,(n.log.length : Int) + 1,b⟩]):=by
    have h9:=ms_put (f:=n.log.length) ho.pos hk.ls.p1 hrg (by rw [lastV_snoc]; exact Int.le_refl _) (by rw [hlen]; omega)
    rw [List.drop_left] at h9
    exact h9
   refine OutOk.look (n:=Nd.spread ({ n with log:=n.log ++ [⟨n.pr,(n.log.length : Int) + 1,b⟩],rg:=some (r.ack n.self ((n.log.length : Int) + 1)) } : Nd) _) (OutOk.spread (n:=({ n with log:=n.log ++ [⟨n.pr,(n.log.length : Int) + 1,b⟩],rg:=some (r.ack n.self ((n.log.length : Int) + 1)) } : Nd)) h hput) (fun k e => ?_)
   subst e
   have hh:=held_le (l:=acksL (r.ack n.self ((n.log.length : Int) + 1)) n.many) (k:=(n.log.length : Int) + 1) (by omega) (acks_le fun i => by
    have h1:=ho.ak i
    have h2:=ho.ak n.self
    show (if i = n.self then max (r.ak n.self) ((n.log.length : Int) + 1) else r.ak i) <= _
    split <;> omega)
   exact ms_tell ho.pos hk.ls.p1 hh.1 (by have h3:=hh.2; show heldN (acksL (r.ack n.self ((n.log.length : Int) + 1)) n.many) <= 150; omega)
  ·exact h
theorem takeM_out {n : Nd} (h : OutOk n) (hk : NdOk n) {f : Nat} (hf : f < n.many) {m : Ms} (hm : MsOk m) : OutOk (n.takeM f m):=by
 have h3 : n.nm <= n.pr:=hk.ls.np
 have h0 : (0 : Int) <= n.nm:=hk.ls.n0
 have hl : n.log.length <= 150:=hk.ls.log.1
 have hpb : n.pr <= 4611686018427387904:=hk.ls.p1
 have hm1:=hm.1
 have hm2 : m.v <= 4611686018427387904:=hm.2.1
 unfold Nd.takeM
 split
 ·rename_i hk2
  unfold Nd.takeJoin
  split
  ·exact h
  ·rename_i r hr
   split
   ·rename_i hc
    simp only [Bool.and_eq_true,decide_eq_true_eq,Bool.not_eq_true'] at hc
    have ha : AskOk n r:=by
     rcases hk.rg r hr with ⟨ha,_⟩ | ho
     ·exact ha
     ·rw [ho.st] at hc; simp at hc
    obtain ⟨h1,h2,h3,h4,_,_,h7⟩:=hm
    have hrw : Rw 0 m.m m.l:=by
     rcases h7 with ⟨_,_,h8⟩ | ⟨_,⟨h8,_⟩ | ⟨h8,_⟩ | ⟨h8,_⟩ | ⟨h8 | h8,_⟩⟩
     ·exact h8
     all_goals (rw [hk2] at h8; exact absurd h8 (by decide))
    unfold big at h2
    obtain ⟨h9,h10⟩:=rgt_rw h3 (by omega) hrw
    exact begin_out (n:=({ n with rg:=some (r.join f m.m m.l) } : Nd)) h hk.noRg (join_ok (j:=(m.m,m.l)) ha hf ⟨h3,by rw [hc.1.2]; exact h4,h9,h10⟩)
   ·exact h
 ·split
  ·rename_i hk5
   unfold Nd.takeAck
   split
   ·exact h
   ·rename_i r hr
    split
    ·rename_i hc
     simp only [Bool.and_eq_true,decide_eq_true_eq] at hc
     have ho : RunOkN n r:=by
      rcases hk.rg r hr with ⟨ha,_⟩ | ho
      ·rw [ha.st] at hc; simp at hc
      ·exact ho
     have h1:=run_ack ho f hc.2 (fun k => if k = f then true else r.he k)
     have h2 : OutOk (({ n with rg:=some { r.ack f m.n with he:=fun k => if k = f then true else r.he k } } : Nd).look { r.ack f m.n with he:=fun k => if k = f then true else r.he k }):=OutOk.look (n:=({ n with rg:=some { r.ack f m.n with he:=fun k => if k = f then true else r.he k } } : Nd)) h (look_tell (n:=({ n with rg:=some { r.ack f m.n with he:=fun k => if k = f then true else r.he k } } : Nd)) ⟨hk.self,hk.many,hk.ls,hk.c0,hk.c1,fun r2 e => by
      have e2 : { r.ack f m.n with he:=fun k => if k = f then true else r.he k } = r2:=by injection e
      subst e2
      exact .inr h1⟩ h1)
     simp only []
     split
     ·rename_i hlt
      have hlast : lastV n.log <= n.nm:=hk.ls.last
      have hnm:=ho.nm
      have h5 : 0 <= m.n:=hm.2.2.2.2.1
      have h9:=ms_put (f:=m.n.toNat) ho.pos hk.ls.p1 hk.ls.log (by show lastV n.log <= n.pr; omega) (by show m.n.toNat <= n.log.length; omega)
      have e : (m.n.toNat : Int) = m.n:=by omega
      rw [e] at h9
      refine h2.send h9 ?_
      unfold Nd.look
      split <;> exact hf
     ·exact h2
    ·exact h
  ·split
   ·exact h
   ·rename_i hp
    split
    ·unfold Nd.takeAsk
     by_cases hc : n.pr < m.v
     ·simp only [if_pos hc]
      split
      ·exact OutOk.send (n:=({ n with pr:=m.v,rg:=none } : Nd)) h (ms_join hm1 hm2 (self_jok hk hc)) hf
      ·exact h
     ·simp only [if_neg hc]
      split
      ·rename_i hc2
       exact h.send (ms_join hm1 hm2 ⟨hk.ls.n0,hc2.2,hk.ls.log,hk.ls.last⟩) hf
      ·exact h
    ·split
     ·unfold Nd.takeStart
      by_cases hc : n.pr <= m.v /\ n.nm < m.v
      ·simp only [if_pos hc]
       split
       ·have h9:=(ms_rows hm).2.1
        exact OutOk.send (n:=({ n with pr:=m.v,nm:=m.v,log:=m.l,com:=min n.com m.l.length,rg:=none } : Nd)) h (ms_ack hm1 hm2 (by show (0 : Int) <= (m.l.length : Int); omega) (by show (m.l.length : Int) <= 150; omega)) hf
       ·exact h
      ·simp only [if_neg hc]
       split
       ·exact h.send (ms_ack hm1 hm2 (by omega) (by omega)) hf
       ·exact h
     ·split
      ·unfold Nd.takePut
       split
       ·rename_i hc
        have hlast : lastV n.log <= n.nm:=hk.ls.last
        obtain ⟨k1,_⟩:=rgt_follow (v:=m.v) hm2 m.l n.log hk.ls.log (by rw [<- hc.2]; exact hlast) (ms_rows hm).1
        have h9 : (n.log ++ follow ((n.log.length : Int) + 1) (lastV n.log) m.l).length <= 150:=k1.1
        exact OutOk.send (n:=({ n with log:=n.log ++ follow ((n.log.length : Int) + 1) (lastV n.log) m.l } : Nd)) h (ms_ack hm1 hm2 (by omega) (by show ((n.log ++ follow ((n.log.length : Int) + 1) (lastV n.log) m.l).length : Int) <= 150; omega)) hf
       ·exact h
      ·unfold Nd.takeTell
       split <;> exact h
theorem take_out {n : Nd} (h : OutOk n) (hk : NdOk n) (f t : Int) (b : List Int) : OutOk (n.take f t b):=by
 unfold Nd.take
 split
 ·exact h
 ·rename_i m hm
  split
  ·rename_i hc
   exact takeM_out h hk (by omega) (deM_ok hm)
  ·exact h
/-! ### Not many at once -/
theorem others_len {n : Nd} : n.others.length <= n.many:=by
 unfold Nd.others
 have:=List.length_filter_le (fun k => decide (k ≠ n.self)) (List.range n.many)
 rw [List.length_range] at this
 exact this
theorem spread_len {n : Nd} {m : Ms} : (n.spread m).out.length <= n.out.length + n.many:=by
 show (n.out ++ _).length <= _
 rw [List.length_append,List.length_map]
 exact Nat.add_le_add_left others_len _
theorem look_len {n : Nd} {r : Rg} : (n.look r).out.length <= n.out.length + n.many:=by
 unfold Nd.look
 split
 ·exact spread_len (n:={ n with com:=_ })
 ·omega
theorem begin_len {n : Nd} {r : Rg} : (n.begin r).out.length <= n.out.length + 2 * n.many:=by
 unfold Nd.begin
 split
 ·omega
 ·simp only []
  refine Nat.le_trans look_len ?_
  have h1:=spread_len (n:=({ n with log:=bestL (joinsL r.js n.many),com:=min n.com (bestL (joinsL r.js n.many)).length,nm:=n.pr,rg:=some (started n (bestL (joinsL r.js n.many))) } : Nd)) (m:=mStart n.pr (bestL (joinsL r.js n.many)))
  have h2 : (({ n with log:=bestL (joinsL r.js n.many),com:=min n.com (bestL (joinsL r.js n.many)).length,nm:=n.pr,rg:=some (started n (bestL (joinsL r.js n.many))) } : Nd).spread (mStart n.pr (bestL (joinsL r.js n.many)))).out.length <= n.out.length + n.many:=h1
  show _ + n.many <= _
  omega
theorem lead_len {n : Nd} {v : Int} : (n.lead v).out.length <= n.out.length + 3 * n.many:=by
 unfold Nd.lead
 split
 ·refine Nat.le_trans begin_len ?_
  have h1:=spread_len (n:=({ n with pr:=v,rg:=some (noRg.join n.self n.nm n.log) } : Nd)) (m:=mAsk v)
  have h2 : (({ n with pr:=v,rg:=some (noRg.join n.self n.nm n.log) } : Nd).spread (mAsk v)).out.length <= n.out.length + n.many:=h1
  show _ + 2 * n.many <= _
  omega
 ·omega
theorem offer_len {n : Nd} {b : ByteArray} : (n.offer b).out.length <= n.out.length + 2 * n.many:=by
 unfold Nd.offer
 split
 ·omega
 ·split
  ·simp only []
   refine Nat.le_trans look_len ?_
   rename_i r _ _
   have h1:=spread_len (n:=({ n with log:=n.log ++ [⟨n.pr,(n.log.length : Int) + 1,b⟩],rg:=some (r.ack n.self ((n.log.length : Int) + 1)) } : Nd)) (m:=mPut n.pr n.log.length [⟨n.pr,(n.log.length : Int) + 1,b⟩])
   have h2 : (({ n with log:=n.log ++ [⟨n.pr,(n.log.length : Int) + 1,b⟩],rg:=some (r.ack n.self ((n.log.length : Int) + 1)) } : Nd).spread (mPut n.pr n.log.length [⟨n.pr,(n.log.length : Int) + 1,b⟩])).out.length <= n.out.length + n.many:=h1
   show _ + n.many <= _
   omega
  ·omega
theorem send_len {n : Nd} {f : Nat} {m : Ms} : (n.send f m).out.length = n.out.length + 1:=by show (n.out ++ _).length = _; rw [List.length_append,List.length_singleton]
theorem takeM_len {n : Nd} {f : Nat} {m : Ms} : (n.takeM f m).out.length <= n.out.length + 2 * n.many + 1:=by
 unfold Nd.takeM
 split
 ·unfold Nd.takeJoin
  split
  ·omega
  ·split
   ·rename_i r _ _
    have h1:=begin_len (n:=({ n with rg:=some (r.join f m.m m.l) } : Nd)) (r:=r.join f m.m m.l)
    have h2 : (({ n with rg:=some (r.join f m.m m.l) } : Nd).begin (r.join f m.m m.l)).out.length <= n.out.length + 2 * n.many:=h1
    omega
   ·omega
 ·split
  ·unfold Nd.takeAck
   split
   ·omega
   ·split
    ·rename_i r _ _
     have h1:=look_len (n:=({ n with rg:=some { r.ack f m.n with he:=fun k => if k = f then true else r.he k } } : Nd)) (r:={ r.ack f m.n with he:=fun k => if k = f then true else r.he k })
     have h2 : (({ n with rg:=some { r.ack f m.n with he:=fun k => if k = f then true else r.he k } } : Nd).look { r.ack f m.n with he:=fun k => if k = f then true else r.he k }).out.length <= n.out.length + n.many:=h1
     simp only []
     split
     ·exact Nat.le_trans (Nat.le_of_eq send_len) (Nat.le_trans (Nat.add_le_add_right h2 1) (by omega))
     ·exact Nat.le_trans h2 (by omega)
    ·omega
  ·split
   ·omega
   ·split
    ·unfold Nd.takeAsk
     by_cases hc : n.pr < m.v
     ·simp only [if_pos hc]
      split
      ·show (n.out ++ _).length <= _
       rw [List.length_append,List.length_singleton]; omega
      ·show n.out.length <= _; omega
     ·simp only [if_neg hc]
      split
      ·show (n.out ++ _).length <= _
       rw [List.length_append,List.length_singleton]; omega
      ·omega
    ·split
     ·unfold Nd.takeStart
      by_cases hc : n.pr <= m.v /\ n.nm < m.v
      ·simp only [if_pos hc]
       split
       ·show (n.out ++ _).length <= _
        rw [List.length_append,List.length_singleton]; omega
       ·show n.out.length <= _; omega
      ·simp only [if_neg hc]
       split
       ·show (n.out ++ _).length <= _
        rw [List.length_append,List.length_singleton]; omega
       ·omega
     ·split
      ·unfold Nd.takePut
       split
       ·show (n.out ++ _).length <= _
        rw [List.length_append,List.length_singleton]; omega
       ·omega
      ·unfold Nd.takeTell
       split
       ·show n.out.length <= _; omega
       ·omega
theorem take_len {n : Nd} {f t : Int} {b : List Int} : (n.take f t b).out.length <= n.out.length + 2 * n.many + 1:=by
 unfold Nd.take
 split
 ·omega
 ·split
  ·exact takeM_len
  ·omega
/-! ### How long a message is -/
theorem rows_bytes {l : List En} (h : ∀ e ∈ l,e.b.size <= 200) : (bytL (l.flatMap enF)).length <= 218 * l.length:=by
 induction l with
 | nil => simp [bytL]
 | cons e l ih =>
  have h1:=h e (by simp)
  have h2:=ih (fun x hx => h x (by simp [hx]))
  have h3:=recE_len e
  have e1 : bytL ((e :: l).flatMap enF) = recE e ++ bytL (l.flatMap enF):=by simp [bytL,recE]
  rw [e1,List.length_append,List.length_cons]; omega
theorem ms_bytes {m : Ms} (h : MsOk m) : (enM m).length <= 40000:=by
 obtain ⟨h1,h2,_,_⟩:=ms_rows h
 have h3:=rows_bytes (l:=m.l) (fun e he => (h1 e he).2.2.2.2)
 have e1 : enM m = bytL (hdM m) ++ bytL (m.l.flatMap enF):=by simp [enM,fldM,bytL]
 have e2 : (bytL (hdM m)).length = 26:=by simp [hdM,bytL,byts,Pq.be8]
 rw [e1,List.length_append,e2]; omega
end Go.Proofs.YtlppinfjdnhlbaaGreatDoor
