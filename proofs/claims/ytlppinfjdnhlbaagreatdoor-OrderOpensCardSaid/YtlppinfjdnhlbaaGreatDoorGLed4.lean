/-
 Plain mathematics of disks: sectors,writes that wait,what a crash leaves; taking writes back. No condition.
 Plain mathematics of records: numbers of four bytes,records laid one behind the other,what of bytes are whole records. No condition.
 Plain mathematics of marks: the number that follows,which of two slots counts,what a torn mark is. No condition.
 Plain mathematics of ledgers on sectors: what is held; the writes that lay bytes behind those that are there,or into the other half,and the mark behind them; what a crash leaves of them. No condition.
 Plain mathematics of ledgers on disks: the writes and the Sync of a call,one by one,and how they end; what is found on sectors; a ledger in memory. No condition.
-/
import Derived.Carry
namespace Go.Proofs.YtlppinfjdnhlbaaGreatDoor.Gq
set_option maxRecDepth 100000

def Bys (l : List Int) : Prop:=∀ z ∈ l,0 <= z /\ z <= 255
theorem bys_nil : Bys []:=fun _ h => by cases h
theorem bys_append {a b : List Int} (ha : Bys a) (hb : Bys b) : Bys (a ++ b):=fun z h => (List.mem_append.1 h).elim (ha z) (hb z)
theorem bys_take {a : List Int} (n : Nat) (ha : Bys a) : Bys (a.take n):=fun z h => ha z (List.mem_of_mem_take h)
theorem bys_drop {a : List Int} (n : Nat) (ha : Bys a) : Bys (a.drop n):=fun z h => ha z (List.mem_of_mem_drop h)
theorem bys_zero (n : Nat) : Bys (List.replicate n 0):=fun z h => by rw [List.eq_of_mem_replicate h]; decide
theorem bys_getD {zs : List Int} (h : Bys zs) (k : Nat) : 0 <= zs.getD k 0 /\ zs.getD k 0 <= 255:=by
 rw [List.getD_eq_getElem?_getD]
 by_cases hk : k < zs.length
 ·rw [List.getElem?_eq_getElem hk]; exact h _ (List.getElem_mem hk)
 ·rw [List.getElem?_eq_none (by omega)]; decide
theorem getD_bys {zs : List Int} (h : ∀ k,0 <= zs.getD k 0 /\ zs.getD k 0 <= 255) : Bys zs:=fun z hz => by
 obtain ⟨i,hi,rfl⟩:=List.mem_iff_getElem.1 hz
 have:=h i
 rwa [List.getD_eq_getElem?_getD,List.getElem?_eq_getElem hi] at this

def Sok (s : List Int) : Prop:=s.length = 64 /\ Bys s
theorem sok_zero : Sok (List.replicate 64 0):=⟨List.length_replicate,bys_zero 64⟩
abbrev Wr:=Nat × List Int
structure Dk where
 firm : List (List Int)
 wait : List Wr
 armed : Int
 dead : Bool

def put1 (l : List (List Int)) (x : Wr) : List (List Int):=l.set x.1 x.2
def ups (l : List (List Int)) (ws : List Wr) : List (List Int):=ws.foldl put1 l
def was : List (List Int) -> List Wr -> List Wr
 | _,[] => []
 | l,x :: ws => (x.1,l.getD x.1 []) :: was (put1 l x) ws

theorem put1_length (l : List (List Int)) (x : Wr) : (put1 l x).length = l.length:=by simp [put1]
theorem ups_length (l : List (List Int)) (ws : List Wr) : (ups l ws).length = l.length:=by
 induction ws generalizing l with
 | nil => rfl
 | cons x ws ih => exact (ih (put1 l x)).trans (put1_length l x)
theorem ups_snoc (l : List (List Int)) (a : List Wr) (x : Wr) : ups l (a ++ [x]) = put1 (ups l a) x:=by simp [ups]
theorem ups_succ (l : List (List Int)) (ws : List Wr) (k : Nat) (hk : k < ws.length) : ups l (ws.take (k + 1)) = put1 (ups l (ws.take k)) ws[k]:=by
 rw [List.take_succ_eq_append_getElem hk,ups_snoc]
theorem was_snoc (l : List (List Int)) (a : List Wr) (x : Wr) : was l (a ++ [x]) = was l a ++ [(x.1,(ups l a).getD x.1 [])]:=by
 induction a generalizing l with
 | nil => rfl
 | cons y a ih => simp only [List.cons_append,was,ih]; rfl
def Lok (l : List (List Int)) : Prop:=∀ s ∈ l,Sok s
def Wok (n : Nat) (ws : List Wr) : Prop:=∀ x ∈ ws,x.1 < n /\ Sok x.2
theorem lok_put1 {l : List (List Int)} {x : Wr} (hl : Lok l) (hx : Sok x.2) : Lok (put1 l x):=fun s hs => by
 rcases List.mem_or_eq_of_mem_set hs with h | h
 ·exact hl s h
 ·rw [h]; exact hx
theorem lok_ups {l : List (List Int)} {ws : List Wr} (hl : Lok l) (hw : Wok l.length ws) : Lok (ups l ws):=by
 induction ws generalizing l with
 | nil => exact hl
 | cons x ws ih =>
  refine ih (l:=put1 l x) (lok_put1 hl (hw x (by simp)).2) fun y hy => ?_
  rw [put1_length]; exact hw y (by simp [hy])
theorem wok_snoc {n : Nat} {ws : List Wr} {x : Wr} (h : Wok n ws) (h1 : x.1 < n) (h2 : Sok x.2) : Wok n (ws ++ [x]):=fun y hy => by
 rcases List.mem_append.1 hy with hy | hy
 ·exact h y hy
 ·rcases List.mem_singleton.1 hy with rfl; exact ⟨h1,h2⟩
theorem lok_getD {l : List (List Int)} (h : Lok l) {k : Nat} (hk : k < l.length) : Sok (l.getD k []):=by
 rw [List.getD_eq_getElem?_getD,List.getElem?_eq_getElem hk]; exact h _ (List.getElem_mem hk)
theorem getD_eq {α : Type} {l : List α} {k : Nat} (d : α) (h : k < l.length) : l.getD k d = l[k]:=by
 rw [List.getD_eq_getElem?_getD,List.getElem?_eq_getElem h]; rfl
theorem getD_set_same {l : List (List Int)} {k : Nat} (h : k < l.length) (s : List Int) : (l.set k s).getD k [] = s:=by
 rw [getD_eq _ (by simpa using h)]; simp
theorem getD_set_other {l : List (List Int)} {k j : Nat} (h : k ≠ j) (s : List Int) : (l.set k s).getD j [] = l.getD j []:=by
 simp [List.getD_eq_getElem?_getD,h]
def tearL (l : List (List Int)) (x : Wr) (t : Nat) : List (List Int):=l.set x.1 (x.2.take t ++ (l.getD x.1 []).drop t)
def crashL (l : List (List Int)) (ws : List Wr) (K t : Nat) : List (List Int) :=
 if K < ws.length then tearL (ups l (ws.take K)) (ws.getD K (0,[])) t else ups l ws
theorem tear_ok {l : List (List Int)} {x : Wr} {t : Nat} (hl : Lok l) (hx : x.1 < l.length) (hs : Sok x.2) (ht : t <= 64) : Lok (tearL l x t):=fun s h => by
 rcases List.mem_or_eq_of_mem_set h with h | h
 ·exact hl s h
 ·have h2:=lok_getD hl hx
  rw [h]
  refine ⟨?_,bys_append (bys_take t hs.2) (bys_drop t h2.2)⟩
  rw [List.length_append,List.length_take,List.length_drop,hs.1,h2.1]; omega
theorem crash_length (l : List (List Int)) (ws : List Wr) (K t : Nat) : (crashL l ws K t).length = l.length:=by
 unfold crashL; split
 ·simp [tearL,ups_length]
 ·exact ups_length l ws
def cur (D : Dk) : List (List Int):=ups D.firm D.wait
def Dok (D : Dk) : Prop:=Lok D.firm /\ Wok D.firm.length D.wait /\ 0 <= D.armed /\ D.armed <= 9223372036854775807
def kp (keep : Int) : Nat:=keep.toNat
def tr (tear : Int) : Nat:=min tear.toNat 64
def crash (D : Dk) (keep tear : Int) : Dk:=⟨crashL D.firm D.wait (kp keep) (tr tear),[],0,false⟩
def dies (D : Dk) : Dk:=if 0 < D.armed then { D with armed:=D.armed - 1,dead:=decide (D.armed - 1 = 0) } else D
def pad (b : List Int) : List Int:=b ++ List.replicate (64 - b.length) 0
theorem pad_ok {b : List Int} (h : Bys b) (hl : b.length <= 64) : Sok (pad b):=⟨by rw [pad,List.length_append,List.length_replicate]; omega,bys_append h (bys_zero _)⟩
def putD (D : Dk) (n : Nat) (b : List Int) : Dk:={ D with wait:=D.wait ++ [(n,pad b)] }
def syncD (D : Dk) : Dk:={ D with firm:=cur D,wait:=[] }
theorem dies_firm (D : Dk) : (dies D).firm = D.firm:=by unfold dies; split <;> rfl
theorem dies_wait (D : Dk) : (dies D).wait = D.wait:=by unfold dies; split <;> rfl
theorem dies_dok {D : Dk} (h : Dok D) : Dok (dies D):=by
 unfold dies; split
 ·obtain ⟨h1,h2,h3,h4⟩:=h
  exact ⟨h1,h2,by simp only; omega,by simp only; omega⟩
 ·exact h
theorem put_dok {D : Dk} (h : Dok D) {n : Nat} {b : List Int} (hn : n < D.firm.length) (hb : Bys b) (hl : b.length <= 64) : Dok (putD D n b) :=
 ⟨h.1,wok_snoc h.2.1 hn (pad_ok hb hl),h.2.2⟩
theorem sync_dok {D : Dk} (h : Dok D) : Dok (syncD D):=⟨lok_ups h.1 h.2.1,fun x hx => by simp [syncD] at hx,h.2.2⟩
theorem cur_len (D : Dk) : (cur D).length = D.firm.length:=ups_length _ _
theorem cur_ok {D : Dk} (h : Dok D) : Lok (cur D):=lok_ups h.1 h.2.1

def doD (D : Dk) (k n t : Int) (b : List Int) : Dk × List Int × Int :=
 if k = 3 then ({ D with armed:=max n 0 },[],0)
 else if k = 4 then (crash D n t,[],0)
 else if k < 0 ∨ 4 < k then (D,[],0)
 else if D.dead = true then (D,[],40)
 else if k = 2 then (if (dies D).dead = true then (dies D,[],40) else (syncD (dies D),[],0))
 else if n < 0 ∨ (D.firm.length : Int) <= n ∨ (k = 0 /\ 64 < b.length) then (D,[],41)
 else if k = 1 then (D,(cur D).getD n.toNat [],0)
 else (dies (putD D n.toNat b),[],if (dies (putD D n.toNat b)).dead = true then 40 else 0)
theorem do_len (D : Dk) (k n t : Int) (b : List Int) : (doD D k n t b).1.firm.length = D.firm.length:=by
 unfold doD
 repeat' split
 all_goals first
  | rfl
  | exact crash_length _ _ _ _
  | rw [dies_firm]; rfl
  | (show (cur (dies D)).length = _; rw [cur_len,dies_firm])
  | rw [dies_firm]
theorem do_wait (D : Dk) (k n t : Int) (b : List Int) : (doD D k n t b).1.wait.length <= D.wait.length + 1:=by
 unfold doD
 repeat' split
 all_goals first
  | exact Nat.le_succ _
  | exact Nat.zero_le _
  | (rw [dies_wait]; simp [putD])
  | (rw [dies_wait]; omega)

def le : List Int -> Int
 | [] => 0
 | z :: l => z + 256 * le l
def le4 (n : Nat) : List Int:=[(n : Int) % 256,(n : Int) / 256 % 256,(n : Int) / 65536 % 256,(n : Int) / 16777216 % 256]
theorem le4_len (n : Nat) : (le4 n).length = 4:=rfl
theorem le4_bys (n : Nat) : Bys (le4 n):=fun z hz => by
 simp only [le4,List.mem_cons,List.not_mem_nil,or_false] at hz
 rcases hz with rfl | rfl | rfl | rfl <;> omega
theorem le_le4 (n : Nat) (h : n < 4294967296) : le (le4 n) = (n : Int):=by
 simp only [le4,le]; omega
theorem le_lo {l : List Int} (h : Bys l) : 0 <= le l:=by
 induction l with
 | nil => exact Int.le_refl _
 | cons z l ih =>
  have h1:=h z (by simp)
  have h2:=ih (fun x hx => h x (by simp [hx]))
  simp only [le]; omega
theorem le_hi {l : List Int} (h : Bys l) : le l < 256 ^ l.length:=by
 induction l with
 | nil => decide
 | cons z l ih =>
  have h1:=h z (by simp)
  have h2:=ih (fun x hx => h x (by simp [hx]))
  simp only [le,List.length_cons,Int.pow_succ]; omega
theorem le_snoc (l : List Int) (z : Int) : le (l ++ [z]) = le l + 256 ^ l.length * z:=by
 induction l with
 | nil => simp [le]
 | cons y l ih =>
  simp only [List.cons_append,le,ih,List.length_cons,Int.pow_succ,Int.mul_add]
  rw [Int.mul_comm (256 ^ l.length) 256,Int.mul_assoc]; omega
theorem le_take4 {l : List Int} (h : Bys l) : 0 <= le (l.take 4) /\ le (l.take 4) < 4294967296:=by
 refine ⟨le_lo (bys_take 4 h),?_⟩
 have h1:=le_hi (bys_take 4 h)
 have h2 : (l.take 4).length <= 4:=by rw [List.length_take]; omega
 generalize (l.take 4).length = k at h1 h2
 have : k = 0 ∨ k = 1 ∨ k = 2 ∨ k = 3 ∨ k = 4:=by omega
 rcases this with rfl | rfl | rfl | rfl | rfl <;> omega

def enc1 (s : List Int) : List Int:=le4 s.length ++ s
def enc (l : List (List Int)) : List Int:=l.flatMap enc1
def need (l : List (List Int)) : Nat:=(l.map fun s => s.length + 4).sum
def Rok (l : List (List Int)) : Prop:=∀ s ∈ l,s.length <= 4096 /\ Bys s
theorem enc_snoc (l : List (List Int)) (s : List Int) : enc (l ++ [s]) = enc l ++ le4 s.length ++ s:=by
 simp [enc,enc1]
theorem enc_cons (l : List (List Int)) (s : List Int) : enc (s :: l) = le4 s.length ++ s ++ enc l:=by
 simp [enc,enc1]
theorem enc_length (l : List (List Int)) : (enc l).length = need l:=by
 induction l with
 | nil => rfl
 | cons s l ih => rw [enc_cons,List.length_append,List.length_append,ih,le4_len]; simp only [need,List.map_cons,List.sum_cons]; omega
theorem need_snoc (l : List (List Int)) (s : List Int) : need (l ++ [s]) = need l + (s.length + 4):=by simp [need]
theorem need_take_succ (l : List (List Int)) (k : Nat) (h : k < l.length) : need (l.take (k + 1)) = need (l.take k) + ((l.getD k []).length + 4):=by
 rw [List.take_succ_eq_append_getElem h,need_snoc,getD_eq _ h]
theorem enc_take_succ (l : List (List Int)) (k : Nat) (h : k < l.length) : enc (l.take (k + 1)) = enc (l.take k) ++ le4 (l.getD k []).length ++ l.getD k []:=by
 rw [List.take_succ_eq_append_getElem h,enc_snoc,getD_eq _ h]
theorem need_len (l : List (List Int)) : l.length * 4 <= need l:=by
 induction l with
 | nil => simp
 | cons s l ih => simp only [need,List.map_cons,List.sum_cons,List.length_cons] at *; omega
theorem need_le {l : List (List Int)} (h : ∀ s ∈ l,s.length <= 4096) : need l <= l.length * 4100:=by
 induction l with
 | nil => simp [need]
 | cons s l ih =>
  have h1:=h s (by simp)
  have h2:=ih (fun x hx => h x (by simp [hx]))
  simp only [need,List.map_cons,List.sum_cons,List.length_cons] at *; omega
theorem rok_nil : Rok []:=fun s hs => by cases hs
theorem enc_bys {l : List (List Int)} (h : Rok l) : Bys (enc l):=fun z hz => by
 obtain ⟨s,hs,hz⟩:=List.mem_flatMap.1 hz
 exact bys_append (le4_bys _) (h s hs).2 z hz

def gt (r : List Int) : Option Nat:=if r ≠ [] /\ le (r.take 4) <= 4096 /\ le (r.take 4) + 4 <= (r.length : Int) then some (le (r.take 4)).toNat else none
def body (r : List Int) (n : Nat) : List Int:=(r.drop 4).take n
inductive Rc : List Int -> List (List Int) -> List Int -> Prop
 | nil (zs) : Rc zs [] zs
 | cons {zs n l r} : gt zs = some n -> Rc (zs.drop (4 + n)) l r -> Rc zs (body zs n :: l) r
theorem Rc.snoc {zs : List Int} {l : List (List Int)} {r : List Int} {n : Nat} (h : Rc zs l r) (hn : gt r = some n) : Rc zs (l ++ [body r n]) (r.drop (4 + n)):=by
 induction h with
 | nil zs => exact .cons hn (.nil _)
 | cons h1 _ ih => exact .cons h1 (ih hn)
theorem Rc.same {zs : List Int} {l l' : List (List Int)} {r r' : List Int} (h : Rc zs l r) (h' : Rc zs l' r') (e : gt r = none) (e' : gt r' = none) : l = l' /\ r = r':=by
 induction h generalizing l' with
 | nil zs =>
  cases h' with
  | nil => exact ⟨rfl,rfl⟩
  | cons h1 _ => rw [e] at h1; cases h1
 | cons h1 _ ih =>
  cases h' with
  | nil => rw [e'] at h1; cases h1
  | cons h2 h3 =>
   rw [h1] at h2
   injection h2 with h2
   subst h2
   obtain ⟨a,b⟩:=ih h3 e
   exact ⟨by rw [a],b⟩
theorem gt_nil : gt [] = none:=by unfold gt; rw [if_neg]; simp
theorem gt_some {r : List Int} {n : Nat} (hB : Bys r) (h : gt r = some n) : r ≠ [] /\ le (r.take 4) = (n : Int) /\ n <= 4096 /\ n + 4 <= r.length:=by
 unfold gt at h
 split at h
 ·rename_i hc
  injection h with h
  have:=(le_take4 hB).1
  exact ⟨hc.1,by omega,by omega,by omega⟩
 ·cases h
theorem gt_mk {r : List Int} (h1 : r ≠ []) (h2 : le (r.take 4) <= 4096) (h3 : le (r.take 4) + 4 <= (r.length : Int)) : gt r = some (le (r.take 4)).toNat:=by
 unfold gt; rw [if_pos ⟨h1,h2,h3⟩]
theorem gt_none {r : List Int} (h : ¬ (le (r.take 4) <= 4096 /\ le (r.take 4) + 4 <= (r.length : Int))) : gt r = none:=by
 unfold gt; rw [if_neg (fun x => h x.2)]
theorem gt_enc (s : List Int) (t : List Int) (h : s.length <= 4096) : gt (le4 s.length ++ s ++ t) = some s.length /\ body (le4 s.length ++ s ++ t) s.length = s /\ (le4 s.length ++ s ++ t).drop (4 + s.length) = t:=by
 have e4 : (le4 s.length ++ s ++ t).take 4 = le4 s.length:=by
  rw [List.append_assoc,List.take_append_of_le_length (by rw [le4_len]; exact Nat.le_refl _),List.take_of_length_le (by rw [le4_len]; exact Nat.le_refl _)]
 have e5 : (le4 s.length ++ s ++ t).drop 4 = s ++ t:=by
  rw [List.append_assoc,List.drop_append_of_le_length (by rw [le4_len]; exact Nat.le_refl _),List.drop_of_length_le (by rw [le4_len]; exact Nat.le_refl _),List.nil_append]
 have hl : le ((le4 s.length ++ s ++ t).take 4) = (s.length : Int):=by rw [e4]; exact le_le4 _ (by omega)
 refine ⟨?_,?_,?_⟩
 ·rw [gt_mk (fun e => by have:=congrArg List.length e; simp [le4] at this) (by omega) (by rw [hl]; simp only [List.length_append,le4_len]; omega),hl]; rfl
 ·unfold body; rw [e5,List.take_append_of_le_length (Nat.le_refl _),List.take_of_length_le (Nat.le_refl _)]
 ·rw [<- List.drop_drop,e5,List.drop_append_of_le_length (Nat.le_refl _),List.drop_of_length_le (Nat.le_refl _),List.nil_append]
theorem rc_enc {l : List (List Int)} (h : Rok l) : Rc (enc l) l []:=by
 induction l with
 | nil => exact .nil _
 | cons s l ih =>
  rw [enc_cons]
  obtain ⟨h1,h2,h3⟩:=gt_enc s (enc l) (h s (by simp)).1
  have:=Rc.cons h1 (l:=l) (r:=[]) (by rw [h3]; exact ih (fun x hx => h x (by simp [hx])))
  rwa [h2] at this
theorem rc_of_enc {l l' : List (List Int)} {r : List Int} (h : Rok l) (h' : Rc (enc l) l' r) (hr : gt r = none) : l' = l /\ r = []:=by
 obtain ⟨a,b⟩:=(rc_enc h).same h' gt_nil hr
 exact ⟨a.symm,b.symm⟩
theorem Rc.bys {zs : List Int} {l : List (List Int)} {r : List Int} (h : Rc zs l r) (hB : Bys zs) : Bys r /\ Rok l:=by
 induction h with
 | nil zs => exact ⟨hB,rok_nil⟩
 | cons h1 _ ih =>
  obtain ⟨a,b⟩:=ih (bys_drop _ hB)
  refine ⟨a,fun x hx => ?_⟩
  rcases List.mem_cons.1 hx with rfl | hx
  ·exact ⟨Nat.le_trans (List.length_take_le _ _) (gt_some hB h1).2.2.1,bys_take _ (bys_drop _ hB)⟩
  ·exact b x hx
theorem Rc.len {zs : List Int} {l : List (List Int)} {r : List Int} (h : Rc zs l r) (hB : Bys zs) : need l + r.length = zs.length:=by
 induction h with
 | nil zs => simp [need]
 | @cons zs n l r h1 _ ih =>
  have h2:=ih (bys_drop _ hB)
  have h3:=gt_some hB h1
  have hb : (body zs n).length = n:=by unfold body; rw [List.length_take,List.length_drop]; omega
  rw [List.length_drop] at h2
  simp only [need,List.map_cons,List.sum_cons,hb] at *; omega

def nxt : List Int -> List Int
 | [] => []
 | x :: l => if x = 255 then 0 :: nxt l else (x + 1) :: l
theorem nxt_len (l : List Int) : (nxt l).length = l.length:=by
 induction l with
 | nil => rfl
 | cons x l ih => unfold nxt; split <;> simp [ih]
theorem nxt_bys {l : List Int} (h : Bys l) : Bys (nxt l):=by
 induction l with
 | nil => exact bys_nil
 | cons x l ih =>
  have hx:=h x (by simp)
  have hl : Bys l:=fun z hz => h z (by simp [hz])
  unfold nxt; split
  ·intro z hz
   rcases List.mem_cons.1 hz with rfl | hz
   ·decide
   ·exact ih hl z hz
  ·intro z hz
   rcases List.mem_cons.1 hz with rfl | hz
   ·omega
   ·exact hl z hz
theorem nxt_head {l : List Int} (h : l ≠ []) (hB : Bys l) : (nxt l).getD 0 0 = (l.getD 0 0 + 1) % 256:=by
 cases l with
 | nil => exact absurd rfl h
 | cons x l =>
  have hx:=hB x (by simp)
  unfold nxt; split
  ·rename_i e; subst e; rfl
  ·show x + 1 = (x + 1) % 256
   omega

structure Mk where
 slot : Nat
 num : List Int
 half : Nat
 used : Nat
def mkOf (S : List Int) (slot : Nat) : Mk × Bool:=(⟨slot,S.take 8,(S.getD 8 0).toNat,(le ((S.drop 9).take 4)).toNat⟩,decide (S.take 8 = S.drop 56))
def secOf (m : Mk) : List Int:=m.num ++ ((m.half : Int) :: (le4 m.used ++ (List.replicate 43 0 ++ m.num)))
def pick (a b : Mk × Bool) : Mk × Bool:=if b.2 = true /\ (a.2 = false ∨ b.1.num = nxt a.1.num) then (b.1,true) else a
def Good (S : List Int) (m : Mk) : Prop :=
 (S.take 8 = S.drop 56 /\ S.getD 0 0 ≠ (nxt m.num).getD 0 0 /\ (m.slot = 1 -> nxt (S.take 8) = m.num)) ∨
 (S.getD 0 0 = (nxt m.num).getD 0 0 /\ S.getD 56 0 ≠ (nxt m.num).getD 0 0) ∨ (S.take 8 = nxt m.num /\ S.drop 56 ≠ nxt m.num)
def Nok (l : List Int) : Prop:=l.length = 8 /\ Bys l
theorem nok_nxt {l : List Int} (h : Nok l) : Nok (nxt l):=⟨by rw [nxt_len]; exact h.1,nxt_bys h.2⟩

theorem ext_getD {a b : List Int} (hl : a.length = b.length) (h : ∀ i,i < a.length -> a.getD i 0 = b.getD i 0) : a = b:=by
 refine List.ext_getElem hl fun i h1 h2 => ?_
 have:=h i h1
 rwa [getD_eq _ h1,getD_eq _ h2] at this
theorem take_getD (l : List Int) (n i : Nat) (h : i < n) : (l.take n).getD i 0 = l.getD i 0:=by
 rw [List.getD_eq_getElem?_getD,List.getD_eq_getElem?_getD,List.getElem?_take,if_pos h]
theorem drop_getD (l : List Int) (n i : Nat) : (l.drop n).getD i 0 = l.getD (n + i) 0:=by
 rw [List.getD_eq_getElem?_getD,List.getD_eq_getElem?_getD,List.getElem?_drop]
theorem append_getD_left (a b : List Int) (i : Nat) (h : i < a.length) : (a ++ b).getD i 0 = a.getD i 0:=by
 rw [List.getD_eq_getElem?_getD,List.getD_eq_getElem?_getD,List.getElem?_append_left h]
theorem append_getD_right (a b : List Int) (i : Nat) (h : a.length <= i) : (a ++ b).getD i 0 = b.getD (i - a.length) 0:=by
 rw [List.getD_eq_getElem?_getD,List.getD_eq_getElem?_getD,List.getElem?_append_right h]
theorem tear_len {X S : List Int} (hX : X.length = 64) (hS : S.length = 64) {t : Nat} (ht : t <= 64) : (X.take t ++ S.drop t).length = 64:=by
 rw [List.length_append,List.length_take,List.length_drop]; omega
theorem tear_getD {X S : List Int} (hX : X.length = 64) {t : Nat} (ht : t <= 64) (i : Nat) : (X.take t ++ S.drop t).getD i 0 = if i < t then X.getD i 0 else S.getD i 0:=by
 have h1 : (X.take t).length = t:=by rw [List.length_take]; omega
 by_cases h : i < t
 ·rw [if_pos h,append_getD_left _ _ _ (by omega),take_getD _ _ _ h]
 ·rw [if_neg h,append_getD_right _ _ _ (by omega),drop_getD,h1]
  congr 1; omega
theorem sec_len' {m : Mk} (h : Nok m.num) : (secOf m).length = 64:=by
 simp [secOf,le4_len,h.1]
theorem sec_bys {m : Mk} (h : Nok m.num) (hh : m.half <= 1) : Bys (secOf m):=by
 refine bys_append h.2 fun z hz => ?_
 rcases List.mem_cons.1 hz with rfl | hz
 ·omega
 ·exact bys_append (le4_bys _) (bys_append (bys_zero 43) h.2) z hz
theorem sec_front {m : Mk} (h : Nok m.num) : (secOf m).take 8 = m.num:=by
 unfold secOf
 rw [List.take_append_of_le_length (by rw [h.1]; exact Nat.le_refl _),List.take_of_length_le (by rw [h.1]; exact Nat.le_refl _)]
theorem sec_drop9 {m : Mk} (h : Nok m.num) : (secOf m).drop 9 = le4 m.used ++ (List.replicate 43 0 ++ m.num):=by
 unfold secOf
 rw [List.drop_append,List.drop_eq_nil_of_le (by rw [h.1]; omega),List.nil_append,h.1]
 rfl
theorem sec_tail {m : Mk} (h : Nok m.num) : (secOf m).drop 56 = m.num:=by
 have : (secOf m).drop 56 = ((secOf m).drop 9).drop 47:=by rw [List.drop_drop]
 rw [this,sec_drop9 h,<- List.append_assoc,List.drop_append,List.drop_eq_nil_of_le (by simp [le4_len]),List.nil_append]
 simp [le4_len]
theorem sec_8 {m : Mk} (h : Nok m.num) : (secOf m).getD 8 0 = (m.half : Int):=by
 unfold secOf
 rw [append_getD_right _ _ _ (by rw [h.1]; exact Nat.le_refl _),h.1]; rfl
theorem mk_sec {m : Mk} (h : Nok m.num) (hu : m.used < 4294967296) : mkOf (secOf m) m.slot = (m,true):=by
 unfold mkOf
 rw [sec_front h,sec_tail h,sec_8 h,sec_drop9 h,List.take_append_of_le_length (by rw [le4_len]; exact Nat.le_refl _),List.take_of_length_le (by rw [le4_len]; exact Nat.le_refl _),le_le4 _ hu]
 simp
theorem tear_good {S : List Int} {m m' : Mk} (hS : S.length = 64) (hm : Nok m.num) (hn : m'.num = nxt m.num) (hg : Good S m) {t : Nat} (ht : t <= 64) :
  (secOf m').take t ++ S.drop t = secOf m' ∨ Good ((secOf m').take t ++ S.drop t) m:=by
 have hN : Nok m'.num:=by rw [hn]; exact nok_nxt hm
 obtain ⟨X,hX⟩ : ∃ X,X = secOf m':=⟨_,rfl⟩
 have hXl : X.length = 64:=by rw [hX]; exact sec_len' hN
 have hXf : X.take 8 = nxt m.num:=by rw [hX,sec_front hN,hn]
 have hXt : X.drop 56 = nxt m.num:=by rw [hX,sec_tail hN,hn]
 obtain ⟨M,hM⟩ : ∃ M,M = nxt m.num:=⟨_,rfl⟩
 have hMl : M.length = 8:=by rw [hM,nxt_len]; exact hm.1
 have hX0 : ∀ i,i < 8 -> X.getD i 0 = M.getD i 0:=fun i hi => by rw [<- take_getD X 8 i hi,hXf,hM]
 have hX5 : ∀ i,X.getD (56 + i) 0 = M.getD i 0:=fun i => by rw [<- drop_getD,hXt,hM]
 unfold Good at hg ⊢
 rw [<- hX]
 rw [<- hM] at hg ⊢
 have hg':=tear_getD (S:=S) hXl ht
 obtain ⟨Y,hY⟩ : ∃ Y,Y = X.take t ++ S.drop t:=⟨_,rfl⟩
 have hYl : Y.length = 64:=by rw [hY]; exact tear_len hXl hS ht
 rw [<- hY] at hg' ⊢
 rcases Nat.eq_zero_or_pos t with h0 | h0
 ·subst h0
  have : Y = S:=ext_getD (by omega) fun i hi => by rw [hg',if_neg (by omega)]
  rw [this]; exact .inr hg
 ·have y0 : Y.getD 0 0 = M.getD 0 0:=by rw [hg',if_pos h0,hX0 0 (by omega)]
  by_cases h56 : t <= 56
  ·have y5 : ∀ i,Y.getD (56 + i) 0 = S.getD (56 + i) 0:=fun i => by rw [hg',if_neg (by omega)]
   have yt : Y.drop 56 = S.drop 56:=ext_getD (by rw [List.length_drop,List.length_drop]; omega) fun i hi => by rw [drop_getD,drop_getD,y5]
   rcases hg with ⟨h1,h2,_⟩ | ⟨_,h2⟩ | ⟨h1,h2⟩
   ·refine .inr (.inr (.inl ⟨y0,?_⟩))
    have : S.getD 0 0 = S.getD 56 0:=by
     rw [<- take_getD S 8 0 (by omega),h1,drop_getD]
    rw [show (56 : Nat) = 56 + 0 from rfl,y5]
    rw [<- this]; exact h2
   ·exact .inr (.inr (.inl ⟨y0,by rw [show (56 : Nat) = 56 + 0 from rfl,y5]; exact h2⟩))
   ·refine .inr (.inr (.inr ⟨?_,by rw [yt]; exact h2⟩))
    refine ext_getD (by rw [List.length_take,hMl]; omega) fun i hi => ?_
    rw [List.length_take] at hi
    rw [take_getD _ _ _ (by omega),hg']
    split
    ·exact hX0 i (by omega)
    ·rw [<- h1,take_getD _ _ _ (by omega)]
  ·have yf : Y.take 8 = M:=ext_getD (by rw [List.length_take,hMl]; omega) fun i hi => by
    rw [List.length_take] at hi
    rw [take_getD _ _ _ (by omega),hg',if_pos (by omega)]; exact hX0 i (by omega)
   by_cases hw : Y.drop 56 = M
   ·refine .inl (ext_getD (by omega) fun i hi => ?_)
    by_cases h : i < t
    ·rw [hg',if_pos h]
    ·have e1 : Y.getD i 0 = M.getD (i - 56) 0:=by rw [<- hw,drop_getD]; congr 1; omega
     have e2 : X.getD i 0 = M.getD (i - 56) 0:=by rw [<- hX5]; congr 1; omega
     rw [e1,e2]
   ·exact .inr (.inr (.inr ⟨yf,hw⟩))
theorem pick_counts {S0 S1 : List Int} {m : Mk} (hs : m.slot <= 1) (h0 : S0.length = 64) (h1 : S1.length = 64) (hm : mkOf (if m.slot = 0 then S0 else S1) m.slot = (m,true)) (hg : Good (if m.slot = 0 then S1 else S0) m) : pick (mkOf S0 0) (mkOf S1 1) = (m,true):=by
 have notwhole : ∀ S : List Int,S.length = 64 -> ((S.getD 0 0 = (nxt m.num).getD 0 0 /\ S.getD 56 0 ≠ (nxt m.num).getD 0 0) ∨ (S.take 8 = nxt m.num /\ S.drop 56 ≠ nxt m.num)) -> S.take 8 ≠ S.drop 56:=fun S _ h e => by
  rcases h with ⟨h1,h2⟩ | ⟨h1,h2⟩
  ·have : S.getD 0 0 = S.getD 56 0:=by rw [<- take_getD S 8 0 (by omega),e,drop_getD]
   rw [this] at h1; exact h2 h1
  ·rw [e] at h1; exact h2 h1
 have : m.slot = 0 ∨ m.slot = 1:=by omega
 rcases this with e | e
 ·rw [if_pos e,e] at hm
  rw [if_pos e] at hg
  unfold pick
  rw [hm]
  rw [if_neg]
  rintro ⟨hb,hc⟩
  have hb' : S1.take 8 = S1.drop 56:=of_decide_eq_true hb
  rcases hg with ⟨_,h2,_⟩ | h2 | h2
  ·rcases hc with hc | hc
   ·cases hc
   ·apply h2
    have hc' : S1.take 8 = nxt m.num:=hc
    rw [<- take_getD S1 8 0 (by omega),hc']
  ·exact notwhole S1 h1 (.inl h2) hb'
  ·exact notwhole S1 h1 (.inr h2) hb'
 ·rw [if_neg (by omega),e] at hm
  rw [if_neg (by omega)] at hg
  unfold pick
  rw [hm,if_pos]
  refine ⟨rfl,?_⟩
  rcases hg with ⟨_,_,h3⟩ | h2 | h2
  ·exact .inr (h3 e).symm
  ·exact .inl (decide_eq_false (notwhole S0 h0 (.inl h2)))
  ·exact .inl (decide_eq_false (notwhole S0 h0 (.inr h2)))
theorem good_elder {S : List Int} {m m' : Mk} (hm : Nok m.num) (hn : m'.num = nxt m.num) (hS : mkOf S m.slot = (m,true)) : Good S m':=by
 have h1 : S.take 8 = m.num:=by have:=congrArg (fun x => x.1.num) hS; exact this
 have h2 : S.take 8 = S.drop 56:=of_decide_eq_true (congrArg (fun x => x.2) hS)
 refine .inl ⟨h2,?_,fun _ => by rw [h1,hn]⟩
 have hne : m.num ≠ []:=fun e => by have:=hm.1; rw [e] at this; simp at this
 have hN:=nok_nxt hm
 have hne' : nxt m.num ≠ []:=fun e => by have:=hN.1; rw [e] at this; simp at this
 rw [hn,nxt_head hne' hN.2,nxt_head hne hm.2,<- take_getD S 8 0 (by omega),h1]
 have:=bys_getD hm.2 0
 omega
def mk0 : Mk:=⟨0,List.replicate 8 0,0,0⟩
theorem nok0 : Nok mk0.num:=⟨rfl,bys_zero 8⟩
theorem mk_zero : mkOf (List.replicate 64 0) 0 = (mk0,true):=by rfl
theorem good_zero : Good (List.replicate 64 0) mk0:=.inl ⟨by decide,by decide,fun h => by cases h⟩

def rd (L : List (List Int)) (b u : Nat) : List Int:=(List.range u).map fun p => (L.getD (b + p / 64) []).getD (p % 64) 0
theorem rd_len (L : List (List Int)) (b u : Nat) : (rd L b u).length = u:=by simp [rd]
theorem rd_getD (L : List (List Int)) (b u p : Nat) (h : p < u) : (rd L b u).getD p 0 = (L.getD (b + p / 64) []).getD (p % 64) 0:=by
 unfold rd; rw [List.getD_eq_getElem?_getD,List.getElem?_map,List.getElem?_range h]; rfl
theorem rd_ext {L L' : List (List Int)} {b u : Nat} (h : ∀ p,p < u -> (L'.getD (b + p / 64) []).getD (p % 64) 0 = (L.getD (b + p / 64) []).getD (p % 64) 0) : rd L' b u = rd L b u :=
 ext_getD (by rw [rd_len,rd_len]) fun i hi => by
  rw [rd_len] at hi
  rw [rd_getD _ _ _ _ hi,rd_getD _ _ _ _ hi,h i hi]
theorem rd_more (L : List (List Int)) (b i c : Nat) (hc : c <= 64) (hs : (L.getD (b + i) []).length = 64) : rd L b (64 * i + c) = rd L b (64 * i) ++ (L.getD (b + i) []).take c:=by
 refine ext_getD (by rw [List.length_append,rd_len,rd_len,List.length_take]; omega) fun p hp => ?_
 rw [rd_len] at hp
 rw [rd_getD _ _ _ _ hp]
 by_cases h : p < 64 * i
 ·rw [append_getD_left _ _ _ (by rw [rd_len]; exact h),rd_getD _ _ _ _ h]
 ·rw [append_getD_right _ _ _ (by rw [rd_len]; omega),rd_len,take_getD _ _ _ (by omega),show p / 64 = i by omega,show p % 64 = p - 64 * i by omega]
theorem rd_bys {L : List (List Int)} (h : Lok L) (b u : Nat) : Bys (rd L b u):=fun z hz => by
 obtain ⟨p,_,rfl⟩:=List.mem_map.1 hz
 by_cases hk : b + p / 64 < L.length
 ·exact bys_getD (lok_getD h hk).2 _
 ·have : L.getD (b + p / 64) [] = []:=by rw [List.getD_eq_getElem?_getD,List.getElem?_eq_none (by omega)]; rfl
  rw [this]; simp

structure Holds (L : List (List Int)) (fr sz : Nat) (m : Mk) (bs : List Int) : Prop where
 lok : Lok L
 fit : fr + 2 + 2 * sz <= L.length
 slot : m.slot <= 1
 num : Nok m.num
 half : m.half <= 1
 used : m.used = bs.length
 room : bs.length <= sz * 64
 mine : mkOf (L.getD (fr + m.slot) []) m.slot = (m,true)
 other : Good (L.getD (fr + (1 - m.slot)) []) m
 data : rd L (fr + 2 + m.half * sz) m.used = bs
theorem holds_new {n fr sz : Nat} (h : fr + 2 + 2 * sz <= n) : Holds (List.replicate n (List.replicate 64 0)) fr sz mk0 []:=by
 have e : ∀ k,k < n -> (List.replicate n (List.replicate 64 (0 : Int))).getD k [] = List.replicate 64 0:=fun k hk => by
  rw [List.getD_eq_getElem?_getD,List.getElem?_replicate,if_pos hk]; rfl
 refine ⟨fun s hs => by rw [List.eq_of_mem_replicate hs]; exact sok_zero,by rw [List.length_replicate]; exact h,by decide,nok0,by decide,rfl,Nat.zero_le _,?_,?_,rfl⟩
 ·rw [e _ (by show fr + 0 < n; omega)]; exact mk_zero
 ·rw [e _ (by show fr + (1 - 0) < n; omega)]; exact good_zero
theorem tear_other {L : List (List Int)} {x : Wr} {t k : Nat} (h : x.1 ≠ k) : (tearL L x t).getD k [] = L.getD k []:=getD_set_other h _
theorem tear_same {L : List (List Int)} {x : Wr} {t : Nat} (h : x.1 < L.length) : (tearL L x t).getD x.1 [] = x.2.take t ++ (L.getD x.1 []).drop t:=getD_set_same h _
theorem tear_length (L : List (List Int)) (x : Wr) (t : Nat) : (tearL L x t).length = L.length:=by simp [tearL]
theorem put_tear {L : List (List Int)} {x : Wr} (hL : Lok L) (hx : x.1 < L.length) (hs : Sok x.2) : put1 L x = tearL L x 64:=by
 unfold put1 tearL
 rw [List.take_of_length_le (by rw [hs.1]; exact Nat.le_refl _),List.drop_eq_nil_of_le (by rw [(lok_getD hL hx).1]; exact Nat.le_refl _),List.append_nil]

def chunkW (n : Nat) (b : List Int) : List Wr:=(List.range ((b.length + 63) / 64)).map fun i => (n + i,(b.drop (64 * i)).take 64)
def nextMk (m : Mk) (half used : Nat) : Mk:=⟨1 - m.slot,nxt m.num,half,used⟩
def setW (fr sz : Nat) (m : Mk) (half there : Nat) (b : List Int) : List Wr :=
 chunkW (fr + 2 + half * sz + there / 64) (b.drop (there / 64 * 64)) ++ [(fr + (1 - m.slot),secOf (nextMk m half b.length))]
def pw (ws : List Wr) : List Wr:=ws.map fun x => (x.1,pad x.2)
theorem chunkW_length (n : Nat) (b : List Int) : (chunkW n b).length = (b.length + 63) / 64:=by simp [chunkW]
theorem chunkW_at (n : Nat) (b : List Int) (i : Nat) (h : i < (b.length + 63) / 64) : (chunkW n b)[i]'(by rw [chunkW_length]; exact h) = (n + i,(b.drop (64 * i)).take 64):=by
 simp [chunkW]
theorem setW_length (fr sz : Nat) (m : Mk) (half there : Nat) (b : List Int) : (setW fr sz m half there b).length = (b.length - there / 64 * 64 + 63) / 64 + 1:=by
 simp [setW,chunkW_length]
theorem pad_getD (s : List Int) (i : Nat) : (pad s).getD i 0 = s.getD i 0:=by
 unfold pad
 by_cases h : i < s.length
 ·rw [append_getD_left _ _ _ h]
 ·rw [append_getD_right _ _ _ (by omega),List.getD_eq_getElem?_getD,List.getD_eq_getElem?_getD,List.getElem?_eq_none (l:=s) (by omega),List.getElem?_replicate]
  split <;> rfl
structure Fits (fr sz : Nat) (m : Mk) (bs : List Int) (half there : Nat) (b : List Int) : Prop where
 hf : half <= 1
 bys : Bys b
 rm : b.length <= sz * 64
 th : there <= b.length
 safe : (half ≠ m.half /\ there = 0) ∨ (half = m.half /\ there = m.used /\ b.take there = bs)
theorem sector_far {fr sz h h' k j : Nat} (h1 : h <= 1) (h2 : h' <= 1) (hk : k < sz) (hj : j < sz) (hne : h ≠ h') : fr + 2 + h * sz + k ≠ fr + 2 + h' * sz + j:=by
 have : (h = 0 /\ h' = 1) ∨ (h = 1 /\ h' = 0):=by omega
 rcases this with ⟨rfl,rfl⟩ | ⟨rfl,rfl⟩ <;> omega
theorem half_le {h sz : Nat} (h1 : h <= 1) : h * sz <= sz:=by
 have : h = 0 ∨ h = 1:=by omega
 rcases this with rfl | rfl <;> omega
theorem chunk_tear {L : List (List Int)} {fr sz : Nat} {m : Mk} {bs b : List Int} {half there i t : Nat} (hH : Holds L fr sz m bs) (hF : Fits fr sz m bs half there b) (hi : there / 64 * 64 + 64 * i < b.length) (ht : t <= 64) :
  Holds (tearL L (fr + 2 + half * sz + there / 64 + i,pad ((b.drop (there / 64 * 64 + 64 * i)).take 64)) t) fr sz m bs:=by
 obtain ⟨k,hk⟩ : ∃ k,k = there / 64 + i:=⟨_,rfl⟩
 have e1 : fr + 2 + half * sz + there / 64 + i = fr + 2 + half * sz + k:=by omega
 have e2 : there / 64 * 64 + 64 * i = 64 * k:=by omega
 rw [e1,e2]
 rw [e2] at hi
 have hksz : k < sz:=by have:=hF.rm; omega
 have hh:=half_le (sz:=sz) hF.hf
 have hfit:=hH.fit
 have hmine:=hH.slot
 have hin : fr + 2 + half * sz + k < L.length:=by omega
 have hsok : Sok (pad ((b.drop (64 * k)).take 64)):=pad_ok (bys_take _ (bys_drop _ hF.bys)) (List.length_take_le _ _)
 have hlok : Lok (tearL L (fr + 2 + half * sz + k,pad ((b.drop (64 * k)).take 64)) t):=tear_ok hH.lok hin hsok ht
 refine ⟨hlok,by rw [tear_length]; exact hfit,hH.slot,hH.num,hH.half,hH.used,hH.room,?_,?_,?_⟩
 ·rw [tear_other (by show fr + 2 + half * sz + k ≠ fr + m.slot; omega)]; exact hH.mine
 ·rw [tear_other (by show fr + 2 + half * sz + k ≠ fr + (1 - m.slot); omega)]; exact hH.other
 ·have hd:=hH.data
  have hu:=hH.used
  have hr:=hH.room
  refine (rd_ext fun p hp => ?_).trans hd
  have hpz : p / 64 < sz:=by omega
  by_cases hhalf : half = m.half
  ·by_cases hpk : p / 64 = k
   ·rcases hF.safe with ⟨h1,_⟩ | ⟨_,h2,h3⟩
    ·exact absurd hhalf h1
    ·have e3 : fr + 2 + m.half * sz + p / 64 = fr + 2 + half * sz + k:=by rw [hhalf,hpk]
     rw [e3]
     have e4:=tear_same (L:=L) (x:=(fr + 2 + half * sz + k,pad ((b.drop (64 * k)).take 64))) (t:=t) hin
     simp only at e4
     rw [e4,tear_getD hsok.1 ht]
     split
     ·rw [pad_getD,take_getD _ _ _ (by omega),drop_getD]
      have : (rd L (fr + 2 + m.half * sz) m.used).getD p 0 = b.getD p 0:=by
       rw [hd,<- h3,take_getD _ _ _ (by omega)]
      rw [rd_getD _ _ _ _ hp,e3] at this
      rw [this]; congr 1; omega
     ·rfl
   ·rw [tear_other (by show fr + 2 + half * sz + k ≠ fr + 2 + m.half * sz + p / 64; rw [hhalf]; omega)]
  ·rw [tear_other (by exact sector_far hF.hf hH.half hksz hpz hhalf)]
theorem ups_take_succ {L : List (List Int)} {ws : List Wr} {k : Nat} (h : k < ws.length) : ups L (ws.take (k + 1)) = put1 (ups L (ws.take k)) ws[k]:=ups_succ L ws k h
structure Laid (L : List (List Int)) (fr sz : Nat) (m : Mk) (bs : List Int) (half there : Nat) (b : List Int) (i : Nat) : Prop where
 holds : Holds L fr sz m bs
 laid : ∀ p,p < b.length -> p < there / 64 * 64 + 64 * i -> (L.getD (fr + 2 + half * sz + p / 64) []).getD (p % 64) 0 = b.getD p 0
theorem laid_next {L : List (List Int)} {fr sz : Nat} {m : Mk} {bs b : List Int} {half there i : Nat} (h : Laid L fr sz m bs half there b i) (hF : Fits fr sz m bs half there b) (hi : there / 64 * 64 + 64 * i < b.length) :
  Laid (put1 L (fr + 2 + half * sz + there / 64 + i,pad ((b.drop (there / 64 * 64 + 64 * i)).take 64))) fr sz m bs half there b (i + 1):=by
 have hh:=half_le (sz:=sz) hF.hf
 have hfit:=h.holds.fit
 have hr:=hF.rm
 have hin : fr + 2 + half * sz + there / 64 + i < L.length:=by omega
 have hsok : Sok (pad ((b.drop (there / 64 * 64 + 64 * i)).take 64)):=pad_ok (bys_take _ (bys_drop _ hF.bys)) (List.length_take_le _ _)
 have hp:=put_tear (x:=(fr + 2 + half * sz + there / 64 + i,pad ((b.drop (there / 64 * 64 + 64 * i)).take 64))) h.holds.lok hin hsok
 refine ⟨by rw [hp]; exact chunk_tear h.holds hF hi (Nat.le_refl _),fun p hpb hpi => ?_⟩
 by_cases hpk : p / 64 = there / 64 + i
 ·have e : fr + 2 + half * sz + p / 64 = fr + 2 + half * sz + there / 64 + i:=by omega
  rw [e]
  show ((L.set _ _).getD _ []).getD _ 0 = _
  rw [getD_set_same hin,pad_getD,take_getD _ _ _ (by omega),drop_getD]
  congr 1; omega
 ·show ((L.set _ _).getD _ []).getD _ 0 = _
  rw [getD_set_other (by omega)]
  exact h.laid p hpb (by omega)
theorem laid_start {L : List (List Int)} {fr sz : Nat} {m : Mk} {bs b : List Int} {half there : Nat} (h : Holds L fr sz m bs) (hF : Fits fr sz m bs half there b) : Laid L fr sz m bs half there b 0:=by
 refine ⟨h,fun p hpb hp => ?_⟩
 rcases hF.safe with ⟨_,h2⟩ | ⟨h1,h2,h3⟩
 ·omega
 ·have hpu : p < m.used:=by omega
  have:=rd_getD L (fr + 2 + m.half * sz) m.used p hpu
  rw [h.data,<- h3,take_getD _ _ _ (by omega)] at this
  rw [h1]; exact this.symm
theorem pw_length (ws : List Wr) : (pw ws).length = ws.length:=by simp [pw]
theorem pw_at (ws : List Wr) (i : Nat) (h : i < ws.length) : (pw ws)[i]'(by rw [pw_length]; exact h) = (ws[i].1,pad ws[i].2):=by simp [pw]
theorem setW_chunk (fr sz : Nat) (m : Mk) (half there : Nat) (b : List Int) (i : Nat) (h : there / 64 * 64 + 64 * i < b.length) :
  ∃ hi : i < (pw (setW fr sz m half there b)).length,(pw (setW fr sz m half there b))[i] = (fr + 2 + half * sz + there / 64 + i,pad ((b.drop (there / 64 * 64 + 64 * i)).take 64)):=by
 have hc : i < (chunkW (fr + 2 + half * sz + there / 64) (b.drop (there / 64 * 64))).length:=by rw [chunkW_length,List.length_drop]; omega
 have hl : i < (setW fr sz m half there b).length:=by rw [setW_length]; omega
 refine ⟨by rw [pw_length]; exact hl,?_⟩
 rw [pw_at _ _ hl]
 have e : (setW fr sz m half there b)[i] = (fr + 2 + half * sz + there / 64 + i,((b.drop (there / 64 * 64)).drop (64 * i)).take 64):=by
  unfold setW
  exact (List.getElem_append_left hc).trans (chunkW_at _ _ _ (by rw [List.length_drop]; omega))
 rw [e,List.drop_drop]
theorem setW_last (fr sz : Nat) (m : Mk) (half there : Nat) (b : List Int) (c : Nat) (hc : c = (b.length - there / 64 * 64 + 63) / 64) :
  ∃ hi : c < (pw (setW fr sz m half there b)).length,(pw (setW fr sz m half there b))[c] = (fr + (1 - m.slot),pad (secOf (nextMk m half b.length))):=by
 have hl : c < (setW fr sz m half there b).length:=by rw [setW_length]; omega
 refine ⟨by rw [pw_length]; exact hl,?_⟩
 rw [pw_at _ _ hl]
 have e : (setW fr sz m half there b)[c] = (fr + (1 - m.slot),secOf (nextMk m half b.length)):=by
  unfold setW
  refine (List.getElem_append_right (by rw [chunkW_length,List.length_drop]; omega)).trans ?_
  simp
 rw [e]
theorem laid_all {L : List (List Int)} {fr sz : Nat} {m : Mk} {bs b : List Int} {half there : Nat} (h : Holds L fr sz m bs) (hF : Fits fr sz m bs half there b) :
  ∀ i,there / 64 * 64 + 64 * i < b.length + 64 -> i <= (b.length - there / 64 * 64 + 63) / 64 -> Laid (ups L ((pw (setW fr sz m half there b)).take i)) fr sz m bs half there b i
 | 0,_,_ => by rw [List.take_zero]; exact laid_start h hF
 | i + 1,h1,h2 => by
  have ih:=laid_all h hF i (by omega) (by omega)
  have hi : there / 64 * 64 + 64 * i < b.length:=by omega
  obtain ⟨hl,e⟩:=setW_chunk fr sz m half there b i hi
  rw [ups_take_succ hl,e]
  exact laid_next ih hF hi
theorem pad_full {s : List Int} (h : s.length = 64) : pad s = s:=by simp [pad,h]
theorem mark_tear {L : List (List Int)} {fr sz : Nat} {m : Mk} {bs b : List Int} {half there c t : Nat} (h : Laid L fr sz m bs half there b c) (hF : Fits fr sz m bs half there b) (hc : b.length <= there / 64 * 64 + 64 * c) (hb : b.length < 4294967296) (ht : t <= 64) :
  Holds (tearL L (fr + (1 - m.slot),pad (secOf (nextMk m half b.length))) t) fr sz m bs ∨ Holds (tearL L (fr + (1 - m.slot),pad (secOf (nextMk m half b.length))) t) fr sz (nextMk m half b.length) b:=by
 have hH:=h.holds
 have hslot:=hH.slot
 have hfit:=hH.fit
 have hN : Nok (nextMk m half b.length).num:=nok_nxt hH.num
 have hsl:=sec_len' hN
 rw [pad_full hsl]
 have hin : fr + (1 - m.slot) < L.length:=by omega
 have hin2 : fr + m.slot < L.length:=by omega
 have hsok : Sok (secOf (nextMk m half b.length)):=⟨hsl,sec_bys hN hF.hf⟩
 have hlok : Lok (tearL L (fr + (1 - m.slot),secOf (nextMk m half b.length)) t):=tear_ok hH.lok hin hsok ht
 have hdata : ∀ hh : Nat,hh <= 1 -> ∀ u,u <= sz * 64 -> rd (tearL L (fr + (1 - m.slot),secOf (nextMk m half b.length)) t) (fr + 2 + hh * sz) u = rd L (fr + 2 + hh * sz) u:=fun hh _ u _ =>
  rd_ext fun p _ => by rw [tear_other (by show fr + (1 - m.slot) ≠ fr + 2 + hh * sz + p / 64; omega)]
 have hS:=(lok_getD hH.lok hin).1
 have e:=tear_same (L:=L) (x:=(fr + (1 - m.slot),secOf (nextMk m half b.length))) (t:=t) hin
 simp only at e
 have eo : (tearL L (fr + (1 - m.slot),secOf (nextMk m half b.length)) t).getD (fr + m.slot) [] = L.getD (fr + m.slot) []:=tear_other (by show fr + (1 - m.slot) ≠ fr + m.slot; omega)
 rcases tear_good (m':=nextMk m half b.length) hS hH.num rfl hH.other ht with hw | hg
 ·refine .inr ⟨hlok,by rw [tear_length]; exact hfit,by show 1 - m.slot <= 1; omega,hN,hF.hf,rfl,hF.rm,?_,?_,?_⟩
  ·show mkOf ((tearL L _ t).getD (fr + (1 - m.slot)) []) (1 - m.slot) = _
   rw [e,hw]
   exact mk_sec (m:=nextMk m half b.length) hN hb
  ·show Good ((tearL L _ t).getD (fr + (1 - (1 - m.slot))) []) _
   rw [show 1 - (1 - m.slot) = m.slot by omega,eo]
   exact good_elder hH.num rfl hH.mine
  ·show rd _ (fr + 2 + half * sz) b.length = b
   rw [hdata half hF.hf _ hF.rm]
   refine ext_getD (rd_len _ _ _) fun p hp => ?_
   rw [rd_len] at hp
   rw [rd_getD _ _ _ _ hp]
   exact h.laid p hp (by omega)
 ·refine .inl ⟨hlok,by rw [tear_length]; exact hfit,hH.slot,hH.num,hH.half,hH.used,hH.room,?_,?_,?_⟩
  ·rw [eo]; exact hH.mine
  ·rw [e]; exact hg
  ·rw [hdata m.half hH.half _ (by rw [hH.used]; exact hH.room)]; exact hH.data
theorem set_done {L : List (List Int)} {fr sz : Nat} {m : Mk} {bs b : List Int} {half there : Nat} (h : Holds L fr sz m bs) (hF : Fits fr sz m bs half there b) (hb : b.length < 4294967296) :
  Holds (ups L (pw (setW fr sz m half there b))) fr sz (nextMk m half b.length) b:=by
 obtain ⟨c,hc⟩ : ∃ c,c = (b.length - there / 64 * 64 + 63) / 64:=⟨_,rfl⟩
 have hth:=hF.th
 have hl:=laid_all h hF c (by omega) (by omega)
 obtain ⟨hi,e⟩:=setW_last fr sz m half there b c hc
 have hfull : (pw (setW fr sz m half there b)).take (c + 1) = pw (setW fr sz m half there b):=List.take_of_length_le (by rw [pw_length,setW_length]; omega)
 rw [<- hfull,ups_take_succ hi,e]
 have hH:=hl.holds
 have hslot:=hH.slot
 have hfit:=hH.fit
 have hN : Nok (nextMk m half b.length).num:=nok_nxt hH.num
 have hsl:=sec_len' hN
 have hin : fr + (1 - m.slot) < (ups L ((pw (setW fr sz m half there b)).take c)).length:=by omega
 have hsok : Sok (pad (secOf (nextMk m half b.length))):=pad_ok (sec_bys hN hF.hf) (by omega)
 rw [put_tear hH.lok hin hsok]
 rcases mark_tear (t:=64) hl hF (by omega) hb (Nat.le_refl _) with hx | hx
 ·exfalso
  -- the whole mark can't leave the old one counting
  have h1:=hx.other
  have e1:=tear_same (L:=ups L ((pw (setW fr sz m half there b)).take c)) (x:=(fr + (1 - m.slot),pad (secOf (nextMk m half b.length)))) (t:=64) hin
  simp only at e1
  rw [e1,pad_full hsl,List.take_of_length_le (by omega),List.drop_eq_nil_of_le (by rw [(lok_getD hH.lok hin).1]; exact Nat.le_refl _),List.append_nil] at h1
  have hf : (secOf (nextMk m half b.length)).take 8 = nxt m.num:=sec_front hN
  have ht : (secOf (nextMk m half b.length)).drop 56 = nxt m.num:=sec_tail hN
  have h0 : (secOf (nextMk m half b.length)).getD 0 0 = (nxt m.num).getD 0 0:=by rw [<- take_getD _ 8 0 (by omega),hf]
  have h5 : (secOf (nextMk m half b.length)).getD 56 0 = (nxt m.num).getD 0 0:=by
   have:=drop_getD (secOf (nextMk m half b.length)) 56 0
   rw [ht] at this; exact this.symm
  rcases h1 with ⟨_,h2,_⟩ | ⟨_,h2⟩ | ⟨_,h2⟩
  ·exact h2 h0
  ·exact h2 h5
  ·exact h2 ht
 ·exact hx

def runW : Dk -> List Wr -> Dk × Int
 | D,[] => ((doD D 2 0 0 []).1,(doD D 2 0 0 []).2.2)
 | D,x :: ws => if (doD D 0 (x.1 : Int) 0 x.2).2.2 = 0 then runW (doD D 0 (x.1 : Int) 0 x.2).1 ws else ((doD D 0 (x.1 : Int) 0 x.2).1,(doD D 0 (x.1 : Int) 0 x.2).2.2)
def RunOk (D : Dk) (ws : List Wr) (D' : Dk) (e : Int) : Prop:=e = 0 /\ D.dead = false /\ D'.firm = ups (cur D) (pw ws) /\ D'.wait = [] /\ D'.dead = false /\ (D.armed = 0 -> D'.armed = 0)
def RunDead (D : Dk) (ws : List Wr) (D' : Dk) (e : Int) : Prop:=e = 40 /\ D'.dead = true /\ (D.dead = true ∨ D.armed ≠ 0) /\ D'.firm = D.firm /\ ∃ j,D'.wait = D.wait ++ (pw ws).take j
theorem d_sync_dead {D : Dk} (hd : D.dead = true) : doD D 2 0 0 [] = (D,[],40):=by
 unfold doD
 rw [if_neg (by decide),if_neg (by decide),if_neg (by decide),if_pos hd]
theorem d_sync {D : Dk} (hd : D.dead = false) : doD D 2 0 0 [] = if (dies D).dead = true then (dies D,[],40) else (syncD (dies D),[],0):=by
 unfold doD
 rw [if_neg (by decide),if_neg (by decide),if_neg (by decide),if_neg (by simp [hd]),if_pos rfl]
theorem d_write_dead {D : Dk} (hd : D.dead = true) (n : Int) (b : List Int) : doD D 0 n 0 b = (D,[],40):=by
 unfold doD
 rw [if_neg (by decide),if_neg (by decide),if_neg (by decide),if_pos hd]
theorem d_write {D : Dk} {n : Nat} {zs : List Int} (hd : D.dead = false) (hn : n < D.firm.length) (hz : zs.length <= 64) :
  doD D 0 (n : Int) 0 zs = (dies (putD D n zs),[],if (dies (putD D n zs)).dead = true then 40 else 0):=by
 unfold doD
 rw [if_neg (by decide),if_neg (by decide),if_neg (by decide),if_neg (by simp [hd]),if_neg (by decide),if_neg (by omega),if_neg (by decide)]
 rfl
theorem dies_armed {D : Dk} (_ : 0 <= D.armed) : (D.armed = 0 -> (dies D).armed = 0 /\ (dies D).dead = D.dead) /\ ((dies D).armed ≠ 0 -> D.armed ≠ 0) /\ ((dies D).dead = true -> D.dead = false -> D.armed ≠ 0):=by
 unfold dies
 refine ⟨fun h0 => by rw [if_neg (by omega)]; exact ⟨h0,rfl⟩,fun h1 => ?_,fun h1 h2 => ?_⟩
 ·split at h1
  ·omega
  ·exact h1
 ·split at h1
  ·omega
  ·rw [h2] at h1; cases h1
theorem run_ends (ws : List Wr) : ∀ (D : Dk),0 <= D.armed -> (∀ x ∈ ws,x.1 < D.firm.length /\ x.2.length <= 64) -> RunOk D ws (runW D ws).1 (runW D ws).2 ∨ RunDead D ws (runW D ws).1 (runW D ws).2:=by
 induction ws with
 | nil =>
  intro D ha _
  cases hd : D.dead with
  | true =>
   right
   simp only [runW,d_sync_dead hd]
   exact ⟨rfl,hd,.inl hd,rfl,0,by simp⟩
  | false =>
   simp only [runW,d_sync hd]
   by_cases h : (dies D).dead = true
   ·right
    rw [if_pos h]
    exact ⟨rfl,h,.inr ((dies_armed ha).2.2 h hd),dies_firm D,0,by rw [dies_wait]; simp⟩
   ·left
    rw [if_neg h]
    refine ⟨rfl,hd,?_,rfl,by show (dies D).dead = false; simpa using h,fun h0 => ((dies_armed ha).1 h0).1⟩
    show cur (dies D) = ups (cur D) []
    unfold cur; rw [dies_firm,dies_wait]; rfl
 | cons x ws ih =>
  intro D ha hw
  obtain ⟨hx,hl⟩:=hw x (by simp)
  cases hd : D.dead with
  | true =>
   right
   simp only [runW,d_write_dead hd,if_neg (show ¬ (40 : Int) = 0 by decide)]
   exact ⟨rfl,hd,.inl hd,rfl,0,by simp⟩
  | false =>
   have hput : (putD D x.1 x.2).armed = D.armed /\ (putD D x.1 x.2).dead = false:=⟨rfl,hd⟩
   have hda:=dies_armed (D:=putD D x.1 x.2) ha
   by_cases h : (dies (putD D x.1 x.2)).dead = true
   ·right
    simp only [runW,d_write hd hx hl,if_pos h,if_neg (show ¬ (40 : Int) = 0 by decide)]
    refine ⟨rfl,h,.inr (hda.2.2 h hd),dies_firm _,1,?_⟩
    rw [dies_wait]; simp [putD,pw]
   ·simp only [runW,d_write hd hx hl,if_neg h,if_true]
    have hf : (dies (putD D x.1 x.2)).firm = D.firm:=dies_firm _
    have hwt : (dies (putD D x.1 x.2)).wait = D.wait ++ [(x.1,pad x.2)]:=dies_wait _
    have h0 : 0 <= (dies (putD D x.1 x.2)).armed:=by
     unfold dies; split
     ·rename_i hp; simp only; omega
     ·exact ha
    rcases ih (dies (putD D x.1 x.2)) h0 (fun y hy => by rw [hf]; exact hw y (by simp [hy])) with ⟨h1,h2,h3,h4,h5,h6⟩ | ⟨h1,h2,h3,h4,j,h5⟩
    ·left
     refine ⟨h1,hd,?_,h4,h5,fun e => h6 ((hda.1 e).1)⟩
     rw [h3]
     unfold cur
     rw [hf,hwt,ups_snoc]; rfl
    ·right
     refine ⟨h1,h2,.inr ?_,by rw [h4,hf],j + 1,?_⟩
     ·rcases h3 with h3 | h3
      ·exact absurd h3 h
      ·exact hda.2.1 h3
     ·rw [h5,hwt,List.append_assoc]; rfl
theorem setW_fits {fr sz n : Nat} {m : Mk} {half there : Nat} {b : List Int} (hf : half <= 1) (hs : m.slot <= 1) (hN : Nok m.num) (hb : b.length <= sz * 64) (hn : fr + 2 + 2 * sz <= n) : ∀ x ∈ setW fr sz m half there b,x.1 < n /\ x.2.length <= 64:=by
 intro x hx
 have hh:=half_le (sz:=sz) hf
 rcases List.mem_append.1 hx with hx | hx
 ·obtain ⟨i,hi,rfl⟩:=List.mem_map.1 hx
  rw [List.mem_range,List.length_drop] at hi
  exact ⟨by show fr + 2 + half * sz + there / 64 + i < n; omega,List.length_take_le _ _⟩
 ·rcases List.mem_singleton.1 hx with rfl
  have hN' : Nok (nextMk m half b.length).num:=nok_nxt hN
  exact ⟨by show fr + (1 - m.slot) < n; omega,by rw [sec_len' hN']; exact Nat.le_refl _⟩

def rdMk (L : List (List Int)) (fr : Nat) : Mk × Bool:=pick (mkOf (L.getD fr []) 0) (mkOf (L.getD (fr + 1) []) 1)
structure Found (L : List (List Int)) (fr sz : Nat) (m : Mk) (bs : List Int) : Prop where
 pk : rdMk L fr = (m,true)
 half : m.half <= 1
 used : m.used <= sz * 64
 data : rd L (fr + 2 + m.half * sz) m.used = bs
 whole : ∃ l,Rc bs l []
theorem Holds.found {L : List (List Int)} {fr sz : Nat} {m : Mk} {bs : List Int} {l : List (List Int)} (h : Holds L fr sz m bs) (he : bs = enc l) (hl : Rok l) : Found L fr sz m bs:=by
 have hs:=h.slot
 have hfit:=h.fit
 refine ⟨?_,h.half,by rw [h.used]; exact h.room,h.data,l,by rw [he]; exact rc_enc hl⟩
 have h0:=(lok_getD h.lok (k:=fr) (by omega)).1
 have h1:=(lok_getD h.lok (k:=fr + 1) (by omega)).1
 have hm:=h.mine
 have ho:=h.other
 refine pick_counts hs h0 h1 ?_ ?_
 ·have : m.slot = 0 ∨ m.slot = 1:=by omega
  rcases this with e | e
  ·rw [if_pos e]; rw [e] at hm ⊢; exact hm
  ·rw [if_neg (by omega)]; rw [e] at hm ⊢; exact hm
 ·have : m.slot = 0 ∨ m.slot = 1:=by omega
  rcases this with e | e
  ·rw [if_pos e]; rw [e] at ho; exact ho
  ·rw [if_neg (by omega)]; rw [e] at ho; exact ho
theorem Found.same {L : List (List Int)} {fr sz : Nat} {m m' : Mk} {bs bs' : List Int} (h : Found L fr sz m bs) (h' : Found L fr sz m' bs') : m' = m /\ bs' = bs:=by
 have e:=h.pk.symm.trans h'.pk
 injection e with e _
 subst e
 exact ⟨rfl,h'.data.symm.trans h.data⟩
structure Lg where
 fr : Nat
 sz : Nat
 m : Mk
 bs : List Int
structure Gok (G : Lg) (n : Nat) : Prop where
 fit : G.fr + 2 + 2 * G.sz <= n
 n : n <= 65536
 slot : G.m.slot <= 1
 num : Nok G.m.num
 half : G.m.half <= 1
 used : G.m.used <= G.bs.length
 room : G.bs.length <= G.sz * 64
 bys : Bys G.bs
theorem mkOf_ok {S : List Int} (h : Sok S) (slot : Nat) : (mkOf S slot).1.slot = slot /\ Nok (mkOf S slot).1.num :=
 ⟨rfl,by show (S.take 8).length = 8; rw [List.length_take,h.1]; rfl,bys_take 8 h.2⟩
theorem pick_or (a b : Mk × Bool) : (pick a b = (b.1,true)) ∨ pick a b = a:=by
 unfold pick; split
 ·exact .inl rfl
 ·exact .inr rfl
theorem rdMk_ok {L : List (List Int)} {fr : Nat} (hL : Lok L) (h : fr + 1 < L.length) : (rdMk L fr).1.slot <= 1 /\ Nok (rdMk L fr).1.num:=by
 have h0:=lok_getD hL (k:=fr) (by omega)
 have h1:=lok_getD hL (k:=fr + 1) h
 unfold rdMk
 rcases pick_or (mkOf (L.getD fr []) 0) (mkOf (L.getD (fr + 1) []) 1) with e | e
 ·rw [e]; exact ⟨Nat.le_refl _,(mkOf_ok h1 1).2⟩
 ·rw [e]; exact ⟨Nat.zero_le _,(mkOf_ok h0 0).2⟩
theorem Found.gok {L : List (List Int)} {fr sz : Nat} {m : Mk} {bs : List Int} (h : Found L fr sz m bs) (hL : Lok L) (hf : fr + 2 + 2 * sz <= L.length) (hn : L.length <= 65536) : Gok ⟨fr,sz,m,bs⟩ L.length:=by
 have hm:=rdMk_ok hL (fr:=fr) (by omega)
 rw [h.pk] at hm
 have hb : bs.length = m.used:=by rw [<- h.data,rd_len]
 exact ⟨hf,hn,hm.1,hm.2,h.half,by show m.used <= bs.length; omega,by show bs.length <= sz * 64; have:=h.used; omega,by show Bys bs; rw [<- h.data]; exact rd_bys hL _ _⟩
end Go.Proofs.YtlppinfjdnhlbaaGreatDoor.Gq
