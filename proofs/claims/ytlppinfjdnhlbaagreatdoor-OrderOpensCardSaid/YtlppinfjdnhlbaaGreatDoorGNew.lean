/-
 What New returns: a disk of so many sectors of bytes 0; what a copy of sectors is. Condition: no more than 65536 sectors are asked for.
-/
import Derived.Test.YtlppinfjdnhlbaaGreatDoorHd
import Derived.Test.YtlppinfjdnhlbaaGreatDoorGSync
import Derived.Lib.LazyBuf
namespace Go.Proofs.YtlppinfjdnhlbaaGreatDoor.Gq
set_option maxRecDepth 100000
open Go.ChangeShapes Go.WideShapes Go.ChangeAt Go.RowKit

def newD (n : Nat) : Dk:=⟨List.replicate n (List.replicate 64 0),[],0,false⟩
theorem new_ok (n : Nat) : Dok (newD n):=⟨fun s hs => by rw [List.eq_of_mem_replicate hs]; exact sok_zero,fun x hx => by simp [newD] at hx,by simp [newD],by simp [newD]⟩
theorem made_zero (n : Nat) : (madeCells Z64 (n * 64)).toList = flat (List.replicate n (List.replicate 64 0)):=by
 have h1 : (madeCells Z64 (n * 64)).toList = List.replicate (n * 64) (Value.int .u8 0):=by
  rw [List.eq_replicate_iff]
  refine ⟨by rw [Array.length_toList,size_madeCells],fun b hb => ?_⟩
  simp only [madeCells,Array.toList_map,List.mem_map] at hb
  obtain ⟨i,_,rfl⟩:=hb
  have : i % Z64.size < 64:=by rw [z64_size]; omega
  simp [Z64] at this ⊢
  rw [getElem!_pos _ _ (by simpa using this)]
  simp
 have h2 : flat (List.replicate n (List.replicate 64 0)) = List.replicate (n * 64) (Value.int .u8 0):=by
  induction n with
  | zero => rfl
  | succ n ih =>
   rw [List.replicate_succ]
   have e : flat (List.replicate 64 0 :: List.replicate n (List.replicate 64 0)) = ints (List.replicate 64 0) ++ flat (List.replicate n (List.replicate 64 0)):=rfl
   rw [e,ih (by
    rw [List.eq_replicate_iff]
    refine ⟨by rw [Array.length_toList,size_madeCells],fun b hb => ?_⟩
    simp only [madeCells,Array.toList_map,List.mem_map] at hb
    obtain ⟨i,_,rfl⟩:=hb
    have : i % Z64.size < 64:=by rw [z64_size]; omega
    simp [Z64] at this ⊢
    rw [getElem!_pos _ _ (by simpa using this)]
    simp)]
   unfold ints
   rw [List.map_replicate,List.replicate_append_replicate]
   congr 1
   omega
 rw [h1,h2]
def NwPost (w : World) (n : Nat) (e : Ending) (w' : World) : Prop:=∃ p,e = .returned (.pointer (some ⟨p,0,none⟩)) /\ PDisk w' (Bz.new w) p (newD n) /\ Below w.heap.size w w'
theorem new_end (w : World) (n : Nat) (hn : n <= 65536) (b : Nat) (hb : b = w.heap.size + 1) (C : Array Value) (hC : C = madeCells Z64 (n * 64)) : NwPost w n (.returned (.pointer (some ⟨b,0,none⟩))) ((w.alloc (.cells C 152)).alloc (.cells #[.slice (some ⟨w.heap.size,0,none⟩) n n,.slice none 0 0,.int .i64 0,.bool false] 121)):=by
 subst hb hC
 have e : (w.alloc (.cells (madeCells Z64 (n * 64)) 152)).heap.size = w.heap.size + 1:=by simp
 have h1 : (w.alloc (.cells (madeCells Z64 (n * 64)) 152)).heap[w.heap.size]? = some (.cells (madeCells Z64 (n * 64)) 152 (0,0)):=new_block w _
 have h2:=new_block (w.alloc (.cells (madeCells Z64 (n * 64)) 152)) (.cells #[.slice (some ⟨w.heap.size,0,none⟩) n n,.slice none 0 0,.int .i64 0,.bool false] 121)
 rw [e] at h2
 refine ⟨_,rfl,⟨.slice (some ⟨w.heap.size,0,none⟩) n n,.slice none 0 0,0,new_ok n,by show w.heap.size <= _; omega,h2,?_,World.ownsRow_nil _ _ _ _,by decide,fun _ => rfl,by show ¬ (_ < w.heap.size); omega,fun k hk => by simp only [Value.ownBlock,Option.some.injEq] at hk; show ¬ (k < w.heap.size); omega,Mine.nil _,fun k hk => by have h : k < w.heap.size:=hk; simp; omega⟩,(box_below _ _).trans ((box_below _ _).mono (by omega))⟩
 show World.ownsRow _ _ 152 64 _ (List.replicate n (List.replicate 64 (0 : Int))).length (flat (ups (List.replicate n (List.replicate 64 0)) []))
 rw [List.length_replicate]
 refine ⟨by show (flat (List.replicate n (List.replicate 64 0))).length = _; rw [flat_length (l:=List.replicate n (List.replicate 64 0)) (new_ok n).1]; simp,.inr ⟨w.heap.size,n,madeCells Z64 (n * 64),rfl,Nat.le_refl _,?_,Nat.le_refl _,by unfold maxLen; omega,size_madeCells _ _,?_⟩⟩
 ·rw [Below.heap_alloc _ _ _ (by omega)]; exact h1
 ·rw [List.take_of_length_le (by rw [Array.length_toList,size_madeCells]; exact Nat.le_refl _),made_zero]; rfl
theorem new_any (many : Int) (n : Nat) (w : World) (hn : n <= 65536) (h : (many < 0 /\ n = 0) ∨ many = (n : Int)) : Calls Tryz.prog 33 #[.int .i64 many] w (NwPost w n):=by
 obtain ⟨i0,hi,hz0,hz1,hz2⟩:=info_parts info66
 obtain ⟨C,hC⟩ : ∃ C,C = madeCells Z64 (n * 64):=⟨_,rfl⟩
 have hmk : ∀ w : World,(Instr.makeSlice 118 (.int .i64 (n : Int)) (.int .i64 (n : Int))).run Tryz.prog w = .ok (.slice (some ⟨w.heap.size,0,none⟩) n n) (w.alloc (.cells C 152)):=fun w => by
  have h:=run_make (P:=Tryz.prog) w 118 152 i0 (.agg Z64) Tryz.underlying118 hi hz0 .i64 .i64 (n : Int) (n : Int) (by omega) (by omega) (by rw [hz2]; omega) (by omega)
  rw [hz1] at h
  simpa [Value.cells,<- hC] using h
 have HC:=hJQ hC
 have hn1 : (n : Int) <= 65536:=by omega
 have hn0 : (0 : Int) <= (n : Int):=by omega
 clear hC hi hz0 hz1 hz2
 rcases h with ⟨h,h0⟩ | h
 ·subst h0
  have hmk' : ∀ w : World,(Instr.makeSlice 118 (.int .i64 0) (.int .i64 0)).run Tryz.prog w = .ok (.slice (some ⟨w.heap.size,0,none⟩) 0 0) (w.alloc (.cells C 152)):=hmk
  clear hmk
  go_enter Tryz.func33,Tryz.ntmps33
  go_wp2_with fail
  go_ret
  exact new_end w 0 hn _ (by simp) C HC.out
 ·subst h
  by_cases h0 : n = 0
  ·subst h0
   have hmk' : ∀ w : World,(Instr.makeSlice 118 (.int .i64 0) (.int .i64 0)).run Tryz.prog w = .ok (.slice (some ⟨w.heap.size,0,none⟩) 0 0) (w.alloc (.cells C 152)):=hmk
   clear hmk
   go_enter Tryz.func33,Tryz.ntmps33
   go_wp2_with fail
   go_ret
   exact new_end w 0 hn _ (by simp) C HC.out
  ·have h1 : (0 : Int) < (n : Int):=by omega
   clear h0
   go_enter Tryz.func33,Tryz.ntmps33
   go_wp2_with fail
   go_ret
   exact new_end w n hn _ (by simp) C HC.out
end Go.Proofs.YtlppinfjdnhlbaaGreatDoor.Gq
