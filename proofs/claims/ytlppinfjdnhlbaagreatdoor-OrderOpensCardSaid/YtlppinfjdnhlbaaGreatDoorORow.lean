/-
 Plain mathematics of logs in messages: the program's own questions,and the document's. Condition: numbers fit.
-/
import Derived.Laws.BitsLemmas
import Derived.Test.YtlppinfjdnhlbaaGreatDoorOMath
namespace Go.Proofs.YtlppinfjdnhlbaaGreatDoor
set_option maxRecDepth 100000
open Go.Proofs.Rk

theorem lastV_get {l : List En} {x : En} (h : l[l.length - 1]? = some x) : lastV l = x.v:=by
 unfold lastV
 rw [List.getLast?_eq_getElem?,h]; rfl
theorem rgt_mono {l : List En} (h : Rgt l) : ∀ (d j : Nat) (x y : En),l[j]? = some x -> l[j + d]? = some y -> x.v <= y.v
 | 0,j,x,y,hx,hy => by
  rw [Nat.add_zero,hx] at hy
  injection hy with hy
  rw [hy]; exact Int.le_refl _
 | d + 1,j,x,y,hx,hy => by
  have hl:=(List.getElem?_eq_some_iff.1 hy).1
  obtain ⟨e,he,_,_,_,_,hp⟩:=h.2 (j + (d + 1)) hl
  rw [hy] at he
  injection he with he
  subst he
  obtain ⟨z,hz⟩ : ∃ z,l[j + d]? = some z:=⟨_,List.getElem?_eq_getElem (by omega)⟩
  have h1:=rgt_mono h d j x z hx hz
  have h2:=hp z (by rw [show j + (d + 1) - 1 = j + d by omega]; exact hz)
  omega
theorem row_right {v : Int} {l : List En} (h0 : 0 <= v) (h1 : v <= 4611686018427387904) : Rw 0 v l ↔ Rgt l /\ lastV l <= v:=by
 constructor
 ·intro h
  refine ⟨⟨h.1,fun j hj => ?_⟩,?_⟩
  ·obtain ⟨e,he,h2,h3,h4,h5,h6,h7⟩:=h.2 j hj
   refine ⟨e,he,by omega,h4,by omega,h6,fun p hp => ?_⟩
   rcases Nat.eq_zero_or_pos j with rfl | hj0
   ·rw [show 0 - 1 = 0 from rfl,he] at hp
    injection hp with hp
    rw [hp]; exact Int.le_refl _
   ·exact h7 hj0 p hp
  ·rcases Nat.eq_zero_or_pos l.length with hl | hl
   ·have : l = []:=List.eq_nil_of_length_eq_zero hl
    subst this; exact h0
   ·obtain ⟨e,he,h2,h3,h4,h5,_⟩:=h.2 (l.length - 1) (by omega)
    rw [lastV_get he]; exact h5
 ·rintro ⟨h,hv⟩
  refine ⟨h.1,fun j hj => ?_⟩
  obtain ⟨e,he,h2,h3,h4,h5,h6⟩:=h.2 j hj
  obtain ⟨z,hz⟩ : ∃ z,l[l.length - 1]? = some z:=⟨_,List.getElem?_eq_getElem (by omega)⟩
  have hm:=rgt_mono h (l.length - 1 - j) j e z he (by rw [show j + (l.length - 1 - j) = l.length - 1 by omega]; exact hz)
  rw [lastV_get hz] at hv
  have:=h.1
  exact ⟨e,he,by omega,by omega,h3,by omega,h5,fun _ p hp => h6 p hp⟩
def down (a : Int) (e : En) : En:=⟨e.v,IntKind.i64.wrap (e.n - a),e.b⟩
def In64 (l : List En) : Prop:=∀ e ∈ l,-9223372036854775808 <= e.n /\ e.n <= 9223372036854775807
theorem down_get {a : Int} {l : List En} {j : Nat} {e : En} (h : l[j]? = some e) : (l.map (down a))[j]? = some (down a e):=by rw [List.getElem?_map,h]; rfl
theorem part_right {a v : Int} {l : List En} (ha : 0 <= a) (ha2 : a <= 150) (_ : 0 <= v) (_ : v <= 4611686018427387904) (hn : In64 l) : Rw a v l ↔ (l.length : Int) <= 150 - a /\ Rw 0 v (l.map (down a)):=by
 have hw : ∀ e ∈ l,∀ j : Nat,j < l.length -> l.length <= 150 -> ((down a e).n = 0 + (j : Int) + 1 ↔ e.n = a + j + 1):=fun e he j hj hl => by
  have:=hn e he
  show IntKind.i64.wrap (e.n - a) = _ ↔ _
  rw [IntKind.wrap_i64]
  omega
 constructor
 ·intro h
  have hlen : (l.length : Int) <= 150 - a:=by
   rcases Nat.eq_zero_or_pos l.length with hl | hl
   ·omega
   ·obtain ⟨e,he,h2,h3,_⟩:=h.2 (l.length - 1) (by omega)
    omega
  refine ⟨hlen,by rw [List.length_map]; exact h.1,fun j hj => ?_⟩
  rw [List.length_map] at hj
  obtain ⟨e,he,h2,h3,h4,h5,h6,h7⟩:=h.2 j hj
  refine ⟨down a e,down_get he,((hw e (List.mem_of_getElem? he) j hj h.1).2 h2),?_,h4,h5,h6,fun hj0 p hp => ?_⟩
  ·rw [(hw e (List.mem_of_getElem? he) j hj h.1).2 h2]; omega
  ·obtain ⟨z,hz⟩ : ∃ z,l[j - 1]? = some z:=⟨_,List.getElem?_eq_getElem (by omega)⟩
   rw [down_get hz] at hp
   injection hp with hp
   rw [<- hp]
   exact h7 hj0 z hz
 ·rintro ⟨hlen,h⟩
  have hl150 : l.length <= 150:=by omega
  refine ⟨hl150,fun j hj => ?_⟩
  obtain ⟨x,hx,h2,h3,h4,h5,h6,h7⟩:=h.2 j (by rw [List.length_map]; exact hj)
  obtain ⟨e,he⟩ : ∃ e,l[j]? = some e:=⟨_,List.getElem?_eq_getElem hj⟩
  rw [down_get he] at hx
  injection hx with hx
  subst hx
  have hen:=(hw e (List.mem_of_getElem? he) j hj hl150).1 h2
  refine ⟨e,he,hen,by omega,h4,h5,h6,fun hj0 p hp => ?_⟩
  exact h7 hj0 (down a p) (down_get hp)
end Go.Proofs.YtlppinfjdnhlbaaGreatDoor
