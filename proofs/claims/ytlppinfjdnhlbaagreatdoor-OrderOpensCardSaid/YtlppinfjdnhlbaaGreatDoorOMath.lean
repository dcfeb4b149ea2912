/-
 The plain mathematics of records: a field's bytes,what is amiss with it,and how bytes are read as fields; that reading undoes writing,and writing reading. No condition.
 Plain mathematics of messages between nodes: which are right,how they are written and read. No condition.
 Plain mathematics of a node of a group: what its calls make of it. No condition.
-/
import Derived.Laws.BytesArg
import Derived.Test.YtlppinfjdnhlbaaGreatDoorRMath
namespace Go.Proofs.YtlppinfjdnhlbaaGreatDoor.Pq
set_option maxRecDepth 100000

structure Fld where
 k : Int
 n : Int
 s : ByteArray
def sb (s : ByteArray) : List Int:=s.data.toList.map fun c => (c.toNat : Int)
def big : Int:=4611686018427387904
def grt (k : Int) : Int:=if k = 1 then 255 else if k = 2 then big else if k = 3 then 0 else if k = 4 then 1 else -1
def ams (f : Fld) : Int:=if f.n < 0 ∨ grt f.k < f.n ∨ (f.s.size ≠ 0 /\ f.k ≠ 3) then 21 else if 1024 < f.s.size then 22 else 0
def be8 (n : Int) : List Int:=[n / 72057594037927936 % 256,n / 281474976710656 % 256,n / 1099511627776 % 256,n / 4294967296 % 256,n / 16777216 % 256,n / 65536 % 256,n / 256 % 256,n % 256]
def byts (f : Fld) : List Int:=if f.k = 2 then be8 f.n else if f.k = 3 then (f.s.size : Int) / 256 % 256 :: (f.s.size : Int) % 256 :: sb f.s else [f.n % 256]
def errL : List Fld -> Int
 | [] => 0
 | f :: r => if ams f = 0 then errL r else ams f
def bytL (l : List Fld) : List Int:=l.flatMap byts
def num (l : List Int) : Int:=l.foldl (fun v x => v * 256 + x) 0
def wd (k : Int) : Nat:=if k = 2 then 8 else if k = 3 then 2 else 1
inductive Rd where
 | bad (e : Int)
 | good (f : Fld) (n : Nat)
def rd (k : Int) (b : List Int) : Rd :=
 if k < 1 ∨ 4 < k then .bad 21
 else if b.length < wd k then .bad 20
 else if (k = 2 /\ big < num (b.take 8)) ∨ (k = 4 /\ 1 < num (b.take 1)) then .bad 21
 else if k ≠ 3 then .good ⟨k,num (b.take (wd k)),⟨#[]⟩⟩ (wd k)
 else if 1024 < num (b.take 2) then .bad 22
 else if b.length < 2 + (num (b.take 2)).toNat then .bad 20
 else .good ⟨3,0,strOfNums ((b.drop 2).take (num (b.take 2)).toNat)⟩ (2 + (num (b.take 2)).toNat)
inductive Sm where
 | bad (e : Int)
 | good (l : List Fld) (n : Nat)
def Sm.put (l : List Fld) (n : Nat) : Sm -> Sm
 | .bad e => .bad e
 | .good m k => .good (l ++ m) (n + k)
def sm : List Int -> List Int -> Sm
 | [],_ => .good [] 0
 | k :: ks,b => match rd k b with
  | .bad e => .bad e
  | .good f n => (sm ks (b.drop n)).put [f] n
def dc (ks b : List Int) : Sm:=match sm ks b with
 | .bad e => .bad e
 | .good l n => if n < b.length then .bad 21 else .good l n
def Bys (l : List Int) : Prop:=∀ z ∈ l,0 <= z /\ z <= 255

theorem bys_nil : Bys []:=fun _ h => by cases h
theorem bys_append {a b : List Int} (ha : Bys a) (hb : Bys b) : Bys (a ++ b):=fun z h => (List.mem_append.1 h).elim (ha z) (hb z)
theorem bys_take {a : List Int} (n : Nat) (ha : Bys a) : Bys (a.take n):=fun z h => ha z (List.mem_of_mem_take h)
theorem bys_drop {a : List Int} (n : Nat) (ha : Bys a) : Bys (a.drop n):=fun z h => ha z (List.mem_of_mem_drop h)
theorem sb_length (s : ByteArray) : (sb s).length = s.size:=by
 unfold sb
 rw [List.length_map]; rfl
theorem sb_bys (s : ByteArray) : Bys (sb s):=fun z h => by
 obtain ⟨c,_,rfl⟩:=List.mem_map.1 h
 have : c.toNat < 256:=c.toNat_lt
 omega
theorem str_sb (s : ByteArray) : strOfNums (sb s) = s:=by
 obtain ⟨⟨l⟩⟩:=s
 simp only [strOfNums,sb,List.map_map]
 congr 2
 conv => rhs; rw [<- List.map_id l]
 apply List.map_congr_left
 intro c _
 simp
theorem sb_str {l : List Int} (h : Bys l) : sb (strOfNums l) = l:=by
 simp only [strOfNums,sb,List.map_map]
 conv => rhs; rw [<- List.map_id l]
 apply List.map_congr_left
 intro c hc
 have:=h c hc
 simp only [Function.comp,id]
 have e : (UInt8.ofNat c.toNat).toNat = c.toNat % 256:=by simp
 rw [e]; omega
theorem size_zero {s : ByteArray} (h : s.size = 0) : s = ⟨#[]⟩:=by
 obtain ⟨⟨l⟩⟩:=s
 have : l = []:=List.eq_nil_of_length_eq_zero (by simpa [ByteArray.size] using h)
 rw [this]
theorem num_two (a b : Int) (r : List Int) : num ((a :: b :: r).take 2) = a * 256 + b:=by simp [num]
theorem num_one (a : Int) (r : List Int) : num ((a :: r).take 1) = a:=by simp [num]
theorem be8_num (n : Int) (h0 : 0 <= n) (h1 : n <= big) (r : List Int) : num ((be8 n ++ r).take 8) = n:=by
 unfold big at h1
 simp only [be8,List.cons_append,List.nil_append,List.take_succ_cons,List.take_zero,num,List.foldl_cons,List.foldl_nil]
 omega
theorem be8_length (n : Int) : (be8 n).length = 8:=rfl
theorem be8_bys (n : Int) : Bys (be8 n):=fun z h => by
 simp only [be8,List.mem_cons,List.not_mem_nil,or_false] at h
 rcases h with rfl | rfl | rfl | rfl | rfl | rfl | rfl | rfl <;> omega
theorem byts_bys (f : Fld) : Bys (byts f):=by
 unfold byts
 split
 ·exact be8_bys _
 ·split
  ·intro z h
   simp only [List.mem_cons] at h
   rcases h with rfl | rfl | h
   ·omega
   ·omega
   ·exact sb_bys _ z h
  ·intro z h
   simp only [List.mem_cons,List.not_mem_nil,or_false] at h
   subst h; omega
theorem bytL_bys (l : List Fld) : Bys (bytL l):=fun z h => by
 obtain ⟨f,_,hz⟩:=List.mem_flatMap.1 h
 exact byts_bys f z hz

theorem ams_zero {f : Fld} (h : ams f = 0) : (f.k = 1 /\ 0 <= f.n /\ f.n <= 255 /\ f.s = ⟨#[]⟩) ∨ (f.k = 2 /\ 0 <= f.n /\ f.n <= big /\ f.s = ⟨#[]⟩) ∨ (f.k = 3 /\ f.n = 0 /\ f.s.size <= 1024) ∨ (f.k = 4 /\ 0 <= f.n /\ f.n <= 1 /\ f.s = ⟨#[]⟩):=by
 unfold ams at h
 split at h
 ·cases h
 rename_i h1
 split at h
 ·cases h
 rename_i h2
 unfold grt at h1
 by_cases k1 : f.k = 1
 ·rw [if_pos k1] at h1
  exact .inl ⟨k1,by omega,by omega,size_zero (by omega)⟩
 rw [if_neg k1] at h1
 by_cases k2 : f.k = 2
 ·rw [if_pos k2] at h1
  exact .inr (.inl ⟨k2,by omega,by omega,size_zero (by omega)⟩)
 rw [if_neg k2] at h1
 by_cases k3 : f.k = 3
 ·rw [if_pos k3] at h1
  exact .inr (.inr (.inl ⟨k3,by omega,by omega⟩))
 rw [if_neg k3] at h1
 by_cases k4 : f.k = 4
 ·rw [if_pos k4] at h1
  exact .inr (.inr (.inr ⟨k4,by omega,by omega,size_zero (by omega)⟩))
 rw [if_neg k4] at h1
 omega
theorem size_empty : (⟨#[]⟩ : ByteArray).size = 0:=rfl
theorem rd_byts {f : Fld} (h : ams f = 0) (more : List Int) : rd f.k (byts f ++ more) = .good f (byts f).length:=by
 obtain ⟨k,n,s⟩:=f
 rcases ams_zero h with ⟨hk,h0,h1,hs⟩ | ⟨hk,h0,h1,hs⟩ | ⟨hk,hn,hs⟩ | ⟨hk,h0,h1,hs⟩
 ·simp only at hk h0 h1 hs
  subst hk hs
  have e : n % 256 = n:=by omega
  simp [rd,byts,wd,e,num]
 ·simp only at hk h0 h1 hs
  subst hk hs
  have e:=be8_num n h0 h1 more
  have l : ¬ ((be8 n ++ more).length < 8):=by rw [List.length_append,be8_length]; omega
  have hb : ¬ big < n:=by omega
  simp only [rd,byts,wd,if_true,e,if_neg l,be8_length]
  simp [hb]
 ·simp only at hk hn hs
  subst hk hn
  have e : num (((s.size : Int) / 256 % 256 :: (s.size : Int) % 256 :: (sb s ++ more)).take 2) = (s.size : Int):=by rw [num_two]; omega
  have hl : (sb s).length = s.size:=sb_length s
  have ht : (sb s ++ more).take s.size = sb s:=by rw [<- hl]; simp
  have hb : byts ⟨3,0,s⟩ = (s.size : Int) / 256 % 256 :: (s.size : Int) % 256 :: sb s:=rfl
  rw [hb,List.cons_append,List.cons_append]
  unfold rd
  rw [e]
  have n1 : ¬ (1024 < (s.size : Int)):=by omega
  have n2 : ¬ (((s.size : Int) / 256 % 256 :: (s.size : Int) % 256 :: (sb s ++ more)).length < wd 3):=by show ¬ (_ < 2); simp
  have n3 : ¬ (((s.size : Int) / 256 % 256 :: (s.size : Int) % 256 :: (sb s ++ more)).length < 2 + (s.size : Int).toNat):=by simp [hl]; omega
  rw [if_neg (by simp),if_neg n2,if_neg (by simp),if_neg (by simp),if_neg n1,if_neg n3]
  simp [hl,ht,str_sb]
  omega
 ·simp only at hk h0 h1 hs
  subst hk hs
  have e : n % 256 = n:=by omega
  have hb : ¬ 1 < n:=by omega
  simp [rd,byts,wd,e,num,hb]
theorem byts_len {f : Fld} (h : ams f = 0) : (byts f).length <= 1026:=by
 unfold byts
 split
 ·simp [be8]
 ·split
  ·rename_i h3
   have : f.s.size <= 1024:=by
    rcases ams_zero h with ⟨hk,_⟩ | ⟨hk,_⟩ | ⟨_,_,hs⟩ | ⟨hk,_⟩
    ·omega
    ·omega
    ·exact hs
    ·omega
   simp [sb_length]; omega
  ·simp
theorem errL_cons {f : Fld} {l : List Fld} (h : errL (f :: l) = 0) : ams f = 0 /\ errL l = 0:=by
 unfold errL at h
 split at h
 ·exact ⟨by assumption,h⟩
 ·contradiction
theorem bytL_cons (f : Fld) (l : List Fld) : bytL (f :: l) = byts f ++ bytL l:=rfl
theorem bytL_append (a b : List Fld) : bytL (a ++ b) = bytL a ++ bytL b:=by simp [bytL]
theorem errL_append (a b : List Fld) : errL (a ++ b) = if errL a = 0 then errL b else errL a:=by
 induction a with
 | nil => simp [errL]
 | cons f a ih =>
  simp only [List.cons_append,errL]
  split
  ·exact ih
  ·rfl
theorem bytL_len {l : List Fld} (h : errL l = 0) : (bytL l).length <= 1026 * l.length:=by
 induction l with
 | nil => simp [bytL]
 | cons f l ih =>
  obtain ⟨h1,h2⟩:=errL_cons h
  have:=ih h2
  have:=byts_len h1
  rw [bytL_cons,List.length_append,List.length_cons]; omega
theorem sm_back {l : List Fld} (h : errL l = 0) (more : List Int) : sm (l.map (·.k)) (bytL l ++ more) = .good l (bytL l).length:=by
 induction l with
 | nil => rfl
 | cons f l ih =>
  obtain ⟨h1,h2⟩:=errL_cons h
  simp only [List.map_cons,sm,bytL_cons,List.append_assoc,rd_byts h1]
  rw [List.drop_left,ih h2]
  simp [Sm.put]
theorem dc_back {l : List Fld} (h : errL l = 0) : dc (l.map (·.k)) (bytL l) = .good l (bytL l).length:=by
 have:=sm_back h []
 rw [List.append_nil] at this
 simp [dc,this]
theorem num_two_bd {l : List Int} (h : Bys l) (hl : 2 <= l.length) : ∃ a b r,l = a :: b :: r /\ 0 <= a /\ a <= 255 /\ 0 <= b /\ b <= 255:=by
 match l,hl with
 | a :: b :: r,_ =>
  have h1:=h a (by simp)
  have h2:=h b (by simp)
  exact ⟨a,b,r,rfl,h1.1,h1.2,h2.1,h2.2⟩
theorem num_one_bd {l : List Int} (h : Bys l) (hl : 1 <= l.length) : ∃ a r,l = a :: r /\ 0 <= a /\ a <= 255:=by
 match l,hl with
 | a :: r,_ =>
  have h1:=h a (by simp)
  exact ⟨a,r,rfl,h1.1,h1.2⟩
theorem num_eight_bd {l : List Int} (h : Bys l) (hl : 8 <= l.length) : be8 (num (l.take 8)) = l.take 8 /\ 0 <= num (l.take 8) /\ num (l.take 8) <= 18446744073709551615:=by
 match l,hl with
 | a :: b :: c :: d :: e :: f :: g :: i :: r,_ =>
  have h1:=h a (by simp)
  have h2:=h b (by simp)
  have h3:=h c (by simp)
  have h4:=h d (by simp)
  have h5:=h e (by simp)
  have h6:=h f (by simp)
  have h7:=h g (by simp)
  have h8:=h i (by simp)
  simp only [List.take_succ_cons,List.take_zero,num,List.foldl_cons,List.foldl_nil,be8]
  refine ⟨?_,by omega,by omega⟩
  simp only [List.cons.injEq,and_true]
  refine ⟨?_,?_,?_,?_,?_,?_,?_,?_⟩ <;> omega
theorem rd_good {k : Int} {b : List Int} {f : Fld} {n : Nat} (hb : Bys b) (h : rd k b = .good f n) : n <= b.length /\ f.k = k /\ ams f = 0 /\ byts f = b.take n /\ 0 < n:=by
 unfold rd at h
 split at h
 ·cases h
 rename_i h1
 split at h
 ·cases h
 rename_i h2
 split at h
 ·cases h
 rename_i h3
 split at h
 ·rename_i h4
  injection h with e1 e2
  subst e1 e2
  by_cases k2 : k = 2
  ·subst k2
   have hw : wd 2 = 8:=rfl
   rw [hw] at h2 ⊢
   obtain ⟨g1,g2,g3⟩:=num_eight_bd hb (by omega)
   refine ⟨by omega,rfl,?_,?_,by omega⟩
   ·have : ¬ big < num (b.take 8):=fun hh => h3 (.inl ⟨rfl,hh⟩)
    simp [ams,grt,size_empty]
    omega
   ·simp only [byts,if_true]; exact g1
  ·have hw : wd k = 1:=by unfold wd; rw [if_neg k2,if_neg h4]
   rw [hw] at h2 ⊢
   obtain ⟨a,r,rfl,ha0,ha1⟩:=num_one_bd hb (by omega)
   rw [num_one] at h3 ⊢
   refine ⟨by simp,rfl,?_,?_,by omega⟩
   ·have hk : k = 1 ∨ k = 4:=by omega
    rcases hk with rfl | rfl
    ·simp [ams,grt,size_empty]; omega
    ·have : ¬ 1 < a:=fun hh => h3 (.inr ⟨rfl,hh⟩)
     simp [ams,grt,size_empty]; omega
   ·simp only [byts,if_neg k2,if_neg h4]
    have : a % 256 = a:=by omega
    rw [this]; rfl
 ·rename_i h4
  have hk : k = 3:=by omega
  subst hk
  have hw : wd 3 = 2:=rfl
  rw [hw] at h2
  split at h
  ·cases h
  rename_i h5
  split at h
  ·cases h
  rename_i h6
  injection h with e1 e2
  subst e1 e2
  obtain ⟨a,c,r,rfl,ha0,ha1,hc0,hc1⟩:=num_two_bd hb (by omega)
  rw [num_two] at h5 h6 ⊢
  have hr : Bys r:=fun z hz => hb z (by simp [hz])
  have hlen : (a * 256 + c).toNat <= r.length:=by simp at h6; omega
  have hsz : (strOfNums ((a :: c :: r).drop 2 |>.take (a * 256 + c).toNat)).size = (a * 256 + c).toNat:=by
   rw [strOfNums_size,List.length_take]; simp; omega
  refine ⟨by simp at h6 ⊢; omega,rfl,?_,?_,by omega⟩
  ·simp only [ams,grt,hsz]
   simp
   omega
  ·simp only [byts,hsz]
   have e1 : ((a * 256 + c).toNat : Int) / 256 % 256 = a:=by omega
   have e2 : ((a * 256 + c).toNat : Int) % 256 = c:=by omega
   rw [e1,e2]
   have e3 : 2 + (a * 256 + c).toNat = (a * 256 + c).toNat + 1 + 1:=by omega
   rw [e3]
   simp [sb_str (bys_take _ hr)]
theorem sm_good {ks b : List Int} {l : List Fld} {n : Nat} (hb : Bys b) (h : sm ks b = .good l n) : n <= b.length /\ errL l = 0 /\ bytL l = b.take n /\ l.length = ks.length:=by
 induction ks generalizing b l n with
 | nil =>
  simp only [sm] at h
  injection h with e1 e2
  subst e1 e2
  simp [errL,bytL]
 | cons k ks ih =>
  simp only [sm] at h
  split at h
  ·cases h
  ·rename_i f m hr
   obtain ⟨g1,g2,g3,g4,g5⟩:=rd_good hb hr
   cases hs : sm ks (b.drop m) with
   | bad e => rw [hs] at h; cases h
   | good l' n' =>
    rw [hs] at h
    simp only [Sm.put] at h
    injection h with e1 e2
    subst e1 e2
    obtain ⟨i1,i2,i3,i4⟩:=ih (bys_drop m hb) hs
    rw [List.length_drop] at i1
    refine ⟨by omega,?_,?_,by simp [i4]⟩
    ·simp [errL,g3,i2]
    ·simp only [List.cons_append,List.nil_append,bytL_cons,g4,i3]
     rw [List.take_add]
theorem dc_good {ks b : List Int} {l : List Fld} {n : Nat} (hb : Bys b) (h : dc ks b = .good l n) : errL l = 0 /\ bytL l = b /\ l.length = ks.length:=by
 unfold dc at h
 split at h
 ·cases h
 ·rename_i l' n' hs
  obtain ⟨i1,i2,i3,i4⟩:=sm_good hb hs
  split at h
  ·cases h
  ·injection h with e1 e2
   subst e1 e2
   refine ⟨i2,?_,i4⟩
   rw [i3,List.take_of_length_le (by omega)]
end Go.Proofs.YtlppinfjdnhlbaaGreatDoor.Pq
namespace Go.Proofs.YtlppinfjdnhlbaaGreatDoor
set_option maxRecDepth 100000
open Go.Proofs.Rk
open Pq (Fld ams errL bytL sm dc Sm Bys byts)

def f0 : Fld:=⟨0,0,⟨#[]⟩⟩
structure Ms where
 k : Int
 v : Int
 m : Int
 n : Int
 l : List En
def RwOk (a v : Int) (l : List En) (j : Nat) : Prop:=∃ e,l[j]? = some e /\ e.n = a + j + 1 /\ e.n <= 150 /\ 1 <= e.v /\ e.v <= v /\ e.b.size <= 200 /\ (0 < j -> ∀ p,l[j - 1]? = some p -> p.v <= e.v)
def Rw (a v : Int) (l : List En) : Prop:=l.length <= 150 /\ ∀ j,j < l.length -> RwOk a v l j
def big : Int:=4611686018427387904
def MsOk (m : Ms) : Prop:=1 <= m.v /\ m.v <= big /\ 0 <= m.m /\ m.m < m.v /\ 0 <= m.n /\ m.n <= 150 /\
 ((m.k = 2 /\ m.n = 0 /\ Rw 0 m.m m.l) ∨ (m.m = 0 /\ ((m.k = 1 /\ m.n = 0 /\ m.l = []) ∨ (m.k = 3 /\ m.n = 0 /\ Rw 0 (m.v - 1) m.l) ∨ (m.k = 4 /\ Rw m.n m.v m.l) ∨ ((m.k = 5 ∨ m.k = 6) /\ m.l = []))))
def hdM (m : Ms) : List Fld:=[⟨1,m.k,⟨#[]⟩⟩,⟨2,m.v,⟨#[]⟩⟩,⟨2,m.m,⟨#[]⟩⟩,⟨2,m.n,⟨#[]⟩⟩,⟨1,(m.l.length : Int),⟨#[]⟩⟩]
def enF (e : En) : List Fld:=[⟨2,e.v,⟨#[]⟩⟩,⟨2,e.n,⟨#[]⟩⟩,⟨3,0,e.b⟩]
def fldM (m : Ms) : List Fld:=hdM m ++ m.l.flatMap enF
def enM (m : Ms) : List Int:=bytL (fldM m)
def ens : List Fld -> List En
 | a :: b :: c :: r => ⟨a.n,b.n,c.s⟩ :: ens r
 | _ => []
def hk5 : List Int:=[1,2,2,2,1]
def pk3 : List Int:=[2,2,3]
def repL (m : Nat) (l : List Int) : List Int:=(List.replicate m l).flatten
def rdM (b : List Int) : Option Ms:=match sm hk5 b with
 | .bad _ => none
 | .good f n => match dc (repL (f.getD 4 f0).n.toNat pk3) (b.drop n) with
  | .bad _ => none
  | .good g _ => some ⟨(f.getD 0 f0).n,(f.getD 1 f0).n,(f.getD 2 f0).n,(f.getD 3 f0).n,ens g⟩
open Classical in
noncomputable def deM (b : List Int) : Option Ms:=match rdM b with
 | none => none
 | some m => if MsOk m then some m else none

theorem errL_two {a b : List Fld} (h : errL (a ++ b) = 0) : errL a = 0 /\ errL b = 0:=by
 rw [Pq.errL_append] at h
 by_cases e : errL a = 0
 ·rw [if_pos e] at h; exact ⟨e,h⟩
 ·rw [if_neg e] at h; exact absurd h e
theorem errL_join {a b : List Fld} (h : errL a = 0) (k : errL b = 0) : errL (a ++ b) = 0:=by rw [Pq.errL_append,if_pos h]; exact k
theorem errL_mem : ∀ {l : List Fld},errL l = 0 -> ∀ f ∈ l,ams f = 0
 | [],_,_,h => by cases h
 | x :: l,h,f,hf => by
  obtain ⟨h1,h2⟩:=Pq.errL_cons h
  rcases List.mem_cons.1 hf with rfl | hf
  ·exact h1
  ·exact errL_mem h2 f hf
theorem errL_of : ∀ {l : List Fld},(∀ f ∈ l,ams f = 0) -> errL l = 0
 | [],_ => rfl
 | x :: l,h => by unfold errL; rw [if_pos (h x (by simp))]; exact errL_of (fun f hf => h f (by simp [hf]))
theorem repL_succ (m : Nat) (l : List Int) : repL (m + 1) l = l ++ repL m l:=by simp [repL,List.replicate_succ]
theorem repL_length (m : Nat) (l : List Int) : (repL m l).length = m * l.length:=by
 induction m with
 | zero => simp [repL]
 | succ m ih => rw [repL_succ,List.length_append,ih,Nat.succ_mul]; omega
theorem kinds_en (l : List En) : (l.flatMap enF).map (·.k) = repL l.length pk3:=by
 induction l with
 | nil => rfl
 | cons c l ih => rw [List.flatMap_cons,List.map_append,ih,List.length_cons,repL_succ]; rfl
theorem ens_back : ∀ l : List En,ens (l.flatMap enF) = l
 | [] => rfl
 | e :: l => by
  rw [List.flatMap_cons]
  show (⟨e.v,e.n,e.b⟩ : En) :: ens (l.flatMap enF) = _
  rw [ens_back l]
theorem ams_small {x : Int} (h0 : 0 <= x) (h1 : x <= 255) : ams ⟨1,x,⟨#[]⟩⟩ = 0:=by
 simp [ams,Pq.grt,Pq.size_empty]; omega
theorem ams_whole {x : Int} (h0 : 0 <= x) (h1 : x <= big) : ams ⟨2,x,⟨#[]⟩⟩ = 0:=by
 unfold big at h1
 simp [ams,Pq.grt,Pq.size_empty,Pq.big]; omega
theorem ams_text {s : ByteArray} (h : s.size <= 1024) : ams ⟨3,0,s⟩ = 0:=by
 simp [ams,Pq.grt]; omega
theorem rw_mem {a v : Int} {l : List En} (h : Rw a v l) (h0 : 0 <= a) : ∀ e ∈ l,0 <= e.n /\ e.n <= 150 /\ 1 <= e.v /\ e.v <= v /\ e.b.size <= 200:=fun e he => by
 obtain ⟨j,hj,rfl⟩:=List.getElem_of_mem he
 obtain ⟨x,hx,h1,h2,h3,h4,h5,_⟩:=h.2 j hj
 rw [List.getElem?_eq_getElem hj] at hx
 injection hx with hx
 subst hx
 exact ⟨by omega,h2,h3,h4,h5⟩
theorem ms_rows {m : Ms} (h : MsOk m) : (∀ e ∈ m.l,0 <= e.n /\ e.n <= 150 /\ 1 <= e.v /\ e.v <= m.v /\ e.b.size <= 200) /\ m.l.length <= 150 /\ 1 <= m.k /\ m.k <= 6:=by
 obtain ⟨h1,h2,h3,h4,h5,h6,h7⟩:=h
 rcases h7 with ⟨e,hn,hr⟩ | ⟨-,⟨e,-,hl⟩ | ⟨e,hn,hr⟩ | ⟨e,hr⟩ | ⟨e,hl⟩⟩
 ·exact ⟨fun x hx => by have:=rw_mem hr (Int.le_refl 0) x hx; omega,hr.1,by omega,by omega⟩
 ·rw [hl]; exact ⟨fun x hx => (by cases hx),by simp,by omega,by omega⟩
 ·exact ⟨fun x hx => by have:=rw_mem hr (Int.le_refl 0) x hx; omega,hr.1,by omega,by omega⟩
 ·exact ⟨fun x hx => by have:=rw_mem hr h5 x hx; omega,hr.1,by omega,by omega⟩
 ·rw [hl]; exact ⟨fun x hx => (by cases hx),by simp,by omega,by omega⟩
theorem ms_err {m : Ms} (h : MsOk m) : errL (fldM m) = 0:=by
 obtain ⟨h1,h2,h3,h4⟩:=ms_rows h
 obtain ⟨g1,g2,g3,g4,g5,g6,-⟩:=h
 refine errL_of fun f hf => ?_
 unfold big at g2
 rcases List.mem_append.1 hf with hf | hf
 ·simp only [hdM,List.mem_cons,List.not_mem_nil,or_false] at hf
  rcases hf with rfl | rfl | rfl | rfl | rfl
  ·exact ams_small (by omega) (by omega)
  ·exact ams_whole (by omega) (by unfold big; omega)
  ·exact ams_whole (by omega) (by unfold big; omega)
  ·exact ams_whole (by omega) (by unfold big; omega)
  ·exact ams_small (by omega) (by omega)
 ·obtain ⟨e,he,hf⟩:=List.mem_flatMap.1 hf
  have hx:=h1 e he
  simp only [enF,List.mem_cons,List.not_mem_nil,or_false] at hf
  rcases hf with rfl | rfl | rfl
  ·exact ams_whole (by omega) (by unfold big; omega)
  ·exact ams_whole (by omega) (by unfold big; omega)
  ·exact ams_text (by omega)
theorem rd_en {m : Ms} (h : errL (fldM m) = 0) : rdM (enM m) = some m:=by
 obtain ⟨e1,e2⟩:=errL_two h
 have hb : enM m = bytL (hdM m) ++ bytL (m.l.flatMap enF):=Pq.bytL_append _ _
 have hs:=Pq.sm_back e1 (bytL (m.l.flatMap enF))
 have hd:=Pq.dc_back e2
 rw [kinds_en] at hd
 unfold rdM
 rw [hb,show hk5 = (hdM m).map (·.k) from rfl,hs]
 simp only
 rw [List.drop_left,show ((hdM m).getD 4 f0).n.toNat = m.l.length from Int.toNat_natCast _,hd]
 simp only
 congr 1
 show (⟨m.k,m.v,m.m,m.n,ens (m.l.flatMap enF)⟩ : Ms) = m
 rw [ens_back]
theorem de_en {m : Ms} (h : MsOk m) : deM (enM m) = some m:=by
 unfold deM
 rw [rd_en (ms_err h)]
 exact if_pos h
theorem sm_kinds : ∀ {ks b : List Int} {l : List Fld} {n : Nat},Bys b -> sm ks b = .good l n -> l.map (·.k) = ks
 | [],b,l,n,_,h => by simp only [sm] at h; injection h with h1 h2; subst h1; rfl
 | k :: ks,b,l,n,hb,h => by
  simp only [sm] at h
  cases hr : Pq.rd k b with
  | bad e => rw [hr] at h; cases h
  | good f m =>
   rw [hr] at h
   simp only at h
   cases hs : sm ks (b.drop m) with
   | bad e => rw [hs] at h; cases h
   | good l2 n2 =>
    rw [hs] at h
    simp only [Sm.put] at h
    injection h with h1 h2
    subst h1
    have:=sm_kinds (Pq.bys_drop m hb) hs
    have hk:=(Pq.rd_good hb hr).2.1
    simp [this,hk]
theorem dc_sm {ks b : List Int} {l : List Fld} {n : Nat} (h : dc ks b = .good l n) : sm ks b = .good l n:=by
 unfold dc at h
 cases hs : sm ks b with
 | bad e => rw [hs] at h; cases h
 | good l2 n2 =>
  rw [hs] at h
  simp only at h
  split at h
  ·cases h
  ·exact h
theorem k1 {f : Fld} (h : ams f = 0) (k : f.k = 1) : f = ⟨1,f.n,⟨#[]⟩⟩ /\ 0 <= f.n /\ f.n <= 255:=by
 rcases Pq.ams_zero h with ⟨e,e3,e4,e2⟩ | ⟨e,_⟩ | ⟨e,_⟩ | ⟨e,_⟩
 ·refine ⟨?_,e3,e4⟩; obtain ⟨a,b,c⟩:=f; simp only at e e2 ⊢; rw [e,e2]
 all_goals omega
theorem k2 {f : Fld} (h : ams f = 0) (k : f.k = 2) : f = ⟨2,f.n,⟨#[]⟩⟩ /\ 0 <= f.n /\ f.n <= 4611686018427387904:=by
 rcases Pq.ams_zero h with ⟨e,_⟩ | ⟨e,e3,e4,e2⟩ | ⟨e,_⟩ | ⟨e,_⟩
 ·omega
 ·refine ⟨?_,e3,e4⟩; obtain ⟨a,b,c⟩:=f; simp only at e e2 ⊢; rw [e,e2]
 all_goals omega
theorem k3 {f : Fld} (h : ams f = 0) (k : f.k = 3) : f = ⟨3,0,f.s⟩:=by
 rcases Pq.ams_zero h with ⟨e,_⟩ | ⟨e,_⟩ | ⟨e,e2,_⟩ | ⟨e,_⟩
 ·omega
 ·omega
 ·obtain ⟨a,b,c⟩:=f; simp only at e e2 ⊢; rw [e,e2]
 ·omega
theorem three {g : List Fld} {x0 x1 x2 : Int} {t : List Int} (h : g.map (·.k) = x0 :: x1 :: x2 :: t) : ∃ a b c r,g = a :: b :: c :: r /\ a.k = x0 /\ b.k = x1 /\ c.k = x2 /\ r.map (·.k) = t:=by
 obtain ⟨a,g1,rfl,h0,h⟩:=List.map_eq_cons_iff.1 h
 obtain ⟨b,g2,rfl,h1,h⟩:=List.map_eq_cons_iff.1 h
 obtain ⟨c,g3,rfl,h2,h⟩:=List.map_eq_cons_iff.1 h
 exact ⟨a,b,c,g3,rfl,h0,h1,h2,h⟩
theorem ens_fields : ∀ (m : Nat) {g : List Fld},errL g = 0 -> g.map (·.k) = repL m pk3 -> (ens g).flatMap enF = g /\ (ens g).length = m /\ g.length = m * 3
 | 0,g,_,h => by
  have : g = []:=by
   cases g with
   | nil => rfl
   | cons a l => simp [repL] at h
  subst this; exact ⟨rfl,rfl,rfl⟩
 | m + 1,g,he,h => by
  rw [repL_succ] at h
  obtain ⟨a,b,c,r,rfl,ha,hb,hc,hr⟩:=three h
  have ma:=errL_mem he
  have ih:=ens_fields m (g:=r) (errL_of (fun x hx => ma x (by simp [hx]))) (by rw [hr]; rfl)
  have e1:=(k2 (ma a (by simp)) ha).1
  have e2:=(k2 (ma b (by simp)) hb).1
  have e3:=k3 (ma c (by simp)) hc
  refine ⟨?_,by show (ens r).length + 1 = m + 1; rw [ih.2.1],by simp only [List.length_cons,ih.2.2]; omega⟩
  show [(⟨2,a.n,⟨#[]⟩⟩ : Fld),⟨2,b.n,⟨#[]⟩⟩,⟨3,0,c.s⟩] ++ (ens r).flatMap enF = _
  rw [ih.1,<- e1,<- e2,<- e3]
  rfl
theorem rd_some {b : List Int} {m : Ms} (hb : Bys b) (h : rdM b = some m) : errL (fldM m) = 0 /\ enM m = b:=by
 unfold rdM at h
 cases hs : sm hk5 b with
 | bad e => rw [hs] at h; cases h
 | good f n =>
  rw [hs] at h
  simp only at h
  cases hd : dc (repL (f.getD 4 f0).n.toNat pk3) (b.drop n) with
  | bad e => rw [hd] at h; cases h
  | good g n2 =>
   rw [hd] at h
   simp only [Option.some.injEq] at h
   obtain ⟨s1,s2,s3,s4⟩:=Pq.sm_good hb hs
   obtain ⟨d1,d2,d3⟩:=Pq.dc_good (Pq.bys_drop n hb) hd
   have hkf:=sm_kinds hb hs
   obtain ⟨a0,a1,a2,r,rfl,x0,x1,x2,hr⟩:=three hkf
   obtain ⟨a3,r3,rfl,x3,hr⟩:=List.map_eq_cons_iff.1 hr
   obtain ⟨a4,r4,rfl,x4,hr⟩:=List.map_eq_cons_iff.1 hr
   obtain rfl : r4 = []:=List.map_eq_nil_iff.1 hr
   have ma:=errL_mem s2
   have y0:=(k1 (ma a0 (by simp)) x0).1
   have y1:=(k2 (ma a1 (by simp)) x1).1
   have y2:=(k2 (ma a2 (by simp)) x2).1
   have y3:=(k2 (ma a3 (by simp)) x3).1
   obtain ⟨y4,n4,-⟩:=k1 (ma a4 (by simp)) x4
   have hl : ([a0,a1,a2,a3,a4].getD 4 f0).n.toNat = a4.n.toNat:=rfl
   rw [hl] at hd
   obtain ⟨c1,c2,-⟩:=ens_fields _ d1 (sm_kinds (Pq.bys_drop n hb) (dc_sm hd))
   have hf : fldM m = [a0,a1,a2,a3,a4] ++ g:=by
    rw [<- h]
    show [(⟨1,a0.n,⟨#[]⟩⟩ : Fld),⟨2,a1.n,⟨#[]⟩⟩,⟨2,a2.n,⟨#[]⟩⟩,⟨2,a3.n,⟨#[]⟩⟩,⟨1,((ens g).length : Int),⟨#[]⟩⟩] ++ (ens g).flatMap enF = _
    rw [c1,c2,show ((a4.n.toNat : Nat) : Int) = a4.n by omega,<- y0,<- y1,<- y2,<- y3,<- y4]
   refine ⟨by rw [hf]; exact errL_join s2 d1,?_⟩
   show bytL (fldM m) = b
   rw [hf,Pq.bytL_append,s3,d2,List.take_append_drop]
open Go.Proofs.Rk

def heldN (l : List Int) : Int:=if l.length <= 7 then (l.filter fun a => decide (qn l.length <= cnt l a)).foldl max 0 else 0
def bestN (l : List Mk) : Nat:=(l.findIdx? fun m => l.all fun x => !less m x).getD 0

structure Rg where
 js : Nat -> Option (Int × List En)
 st : Bool
 bg : Nat
 he : Nat -> Bool
 ak : Nat -> Int
structure Nd where
 self : Nat
 many : Nat
 pr : Int
 nm : Int
 log : List En
 com : Int
 rg : Option Rg
 out : List (Nat × Ms)
def mAsk (v : Int) : Ms:=⟨1,v,0,0,[]⟩
def mJoin (v m : Int) (l : List En) : Ms:=⟨2,v,m,0,l⟩
def mStart (v : Int) (l : List En) : Ms:=⟨3,v,0,0,l⟩
def mPut (v n : Int) (l : List En) : Ms:=⟨4,v,0,n,l⟩
def mAck (v n : Int) : Ms:=⟨5,v,0,n,[]⟩
def mTell (v n : Int) : Ms:=⟨6,v,0,n,[]⟩
def Nd.others (n : Nd) : List Nat:=(List.range n.many).filter (· ≠ n.self)
def Nd.send (n : Nd) (to : Nat) (m : Ms) : Nd:={ n with out:=n.out ++ [(to,m)] }
def Nd.spread (n : Nd) (m : Ms) : Nd:={ n with out:=n.out ++ n.others.map fun i => (i,m) }
def acksL (r : Rg) (many : Nat) : List Int:=(List.range many).map r.ak
def Nd.look (n : Nd) (r : Rg) : Nd:=if n.com < heldN (acksL r n.many) then { n with com:=heldN (acksL r n.many) }.spread (mTell n.pr (heldN (acksL r n.many))) else n
def joinsL (js : Nat -> Option (Int × List En)) (many : Nat) : List (Int × List En):=(List.range many).filterMap js
def mkOf (j : Int × List En) : Mk:=⟨j.1,(j.2.length : Int)⟩
def bestL (J : List (Int × List En)) : List En:=(J.getD (bestN (J.map mkOf)) (0,[])).2
def started (n : Nd) (l : List En) : Rg:=⟨fun _ => none,true,l.length,fun _ => false,fun i => if i = n.self then (l.length : Int) else 0⟩
def Nd.begin (n : Nd) (r : Rg) : Nd :=
 if ((joinsL r.js n.many).length : Int) < quo n.many then n
 else
  let l:=bestL (joinsL r.js n.many)
  let m : Nd:={ n with log:=l,com:=min n.com l.length,nm:=n.pr,rg:=some (started n l) }
  (m.spread (mStart n.pr l)).look (started n l)
def noRg : Rg:=⟨fun _ => none,false,0,fun _ => false,fun _ => 0⟩
def Rg.join (r : Rg) (i : Nat) (m : Int) (l : List En) : Rg:={ r with js:=fun k => if k = i then some (m,l) else r.js k }
def Nd.leadOk (n : Nd) (v : Int) : Prop:=n.pr < v /\ pri v n.many = n.self
instance (n : Nd) (v : Int) : Decidable (n.leadOk v):=by unfold Nd.leadOk; infer_instance
def Nd.lead (n : Nd) (v : Int) : Nd :=
 if n.leadOk v then
  let r:=noRg.join n.self n.nm n.log
  ({ n with pr:=v,rg:=some r }.spread (mAsk v)).begin r
 else n
def Rg.ack (r : Rg) (i : Nat) (x : Int) : Rg:={ r with ak:=fun k => if k = i then max (r.ak i) x else r.ak k }
def Nd.offerOk (n : Nd) (b : ByteArray) : Bool:=(match n.rg with | some r => r.st | none => false) && decide (n.log.length < 150) && decide (b.size <= 200)
def Nd.offer (n : Nd) (b : ByteArray) : Nd:=match n.rg with
 | none => n
 | some r => if n.offerOk b then
   let e : En:=⟨n.pr,(n.log.length : Int) + 1,b⟩
   let r':=r.ack n.self ((n.log.length : Int) + 1)
   ({ n with log:=n.log ++ [e],rg:=some r' }.spread (mPut n.pr n.log.length [e])).look r'
  else n
def Nd.takeAsk (n : Nd) (f : Nat) (m : Ms) : Nd :=
 let n:=if n.pr < m.v then { n with pr:=m.v,rg:=none } else n
 if m.v = n.pr /\ n.nm < m.v then n.send f (mJoin m.v n.nm n.log) else n
def Nd.takeJoin (n : Nd) (f : Nat) (m : Ms) : Nd:=match n.rg with
 | none => n
 | some r => if !r.st && decide (n.pr = m.v) && (r.js f).isNone then { n with rg:=some (r.join f m.m m.l) }.begin (r.join f m.m m.l) else n
def Nd.takeStart (n : Nd) (f : Nat) (m : Ms) : Nd :=
 let n:=if n.pr <= m.v /\ n.nm < m.v then { n with pr:=m.v,nm:=m.v,log:=m.l,com:=min n.com m.l.length,rg:=none } else n
 if m.v = n.pr /\ m.v = n.nm then n.send f (mAck m.v n.log.length) else n
def lastV (l : List En) : Int:=(l.getLast?.map (·.v)).getD 0
def follow : Int -> Int -> List En -> List En
 | _,_,[] => []
 | k,v,x :: l => if k < x.n then [] else if x.n = k /\ v <= x.v then x :: follow (k + 1) x.v l else follow k v l
def Nd.takePut (n : Nd) (f : Nat) (m : Ms) : Nd :=
 if n.pr = m.v /\ n.nm = m.v then
  let n:={ n with log:=n.log ++ follow ((n.log.length : Int) + 1) (lastV n.log) m.l }
  n.send f (mAck m.v n.log.length)
 else n
def Nd.takeAck (n : Nd) (f : Nat) (m : Ms) : Nd:=match n.rg with
 | none => n
 | some r => if r.st && decide (n.pr = m.v) && decide (m.n <= n.log.length) then
   let r':={ r.ack f m.n with he:=fun k => if k = f then true else r.he k }
   let n':={ n with rg:=some r' }.look r'
   if m.n < n.log.length then n'.send f (mPut n.pr m.n (n.log.drop m.n.toNat)) else n'
  else n
def Nd.takeTell (n : Nd) (m : Ms) : Nd:=if n.pr = m.v /\ n.nm = m.v then { n with com:=max n.com (min m.n n.log.length) } else n
def Nd.takeM (n : Nd) (f : Nat) (m : Ms) : Nd :=
 if m.k = 2 then n.takeJoin f m else if m.k = 5 then n.takeAck f m else if pri m.v n.many ≠ f then n
 else if m.k = 1 then n.takeAsk f m else if m.k = 3 then n.takeStart f m else if m.k = 4 then n.takePut f m else n.takeTell m
noncomputable def Nd.take (n : Nd) (f t : Int) (b : List Int) : Nd:=match deM b with
 | none => n
 | some m => if t = n.self /\ f ≠ n.self /\ 0 <= f /\ f < n.many then n.takeM f.toNat m else n
def newN (self many : Nat) : Nd:=⟨self,many,0,0,[],0,none,[]⟩
end Go.Proofs.YtlppinfjdnhlbaaGreatDoor
