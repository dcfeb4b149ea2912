/-
  What the document's own change, end and Apply return. Condition: memory holds a good state.
  What the document's own change returns. Condition: memory holds a good state, and the changes; no path is very long.
-/
import Derived.Test.YtflgemlhocjipaaGreatDoorSDoc1
import Derived.Test.YtflgemlhocjipaaGreatDoorRef11
import Derived.Test.YtflgemlhocjipaaGreatDoorLDoc2
import Derived.Test.YtflgemlhocjipaaGreatDoorSSeen
namespace Go.Proofs.YtflgemlhocjipaaGreatDoor
set_option maxRecDepth 100000
open Go.ChangeShapes Go.WideShapes Go.ChangeAt Go.RowKit Go.Proofs.Zn Go.Proofs.Zt
open Go.Proofs.Zs (St Lst Rep Tx)

theorem four_box (w : World) (o1 o2 o3 o4 : Obj) : ∃ w4, w4 = (((w.alloc o1).alloc o2).alloc o3).alloc o4 ∧ Below w.heap.size w w4 ∧ w4.heap[w.heap.size]? = some o1 ∧ w4.heap[w.heap.size + 1]? = some o2 ∧ w4.heap[w.heap.size + 1 + 1]? = some o3 ∧ w4.heap[w.heap.size + 1 + 1 + 1]? = some o4 ∧ w4.heap.size = w.heap.size + 4 := by
  have s1 : (w.alloc o1).heap.size = w.heap.size + 1 := by simp
  have s2 : ((w.alloc o1).alloc o2).heap.size = w.heap.size + 1 + 1 := by simp
  have s3 : (((w.alloc o1).alloc o2).alloc o3).heap.size = w.heap.size + 1 + 1 + 1 := by simp
  refine ⟨_, rfl, (((((Below.refl w.heap.size w).alloc (Nat.le_refl _) o1).alloc (by omega) o2).alloc (by omega) o3).alloc (by omega) o4), ?_, ?_, ?_, ?_, by simp⟩
  · exact blk_alloc (blk_alloc (blk_alloc (new_block w o1) o2) o3) o4
  · have := new_block (w.alloc o1) o2
    rw [s1] at this
    exact blk_alloc (blk_alloc this o3) o4
  · have := new_block ((w.alloc o1).alloc o2) o3
    rw [s2] at this
    exact blk_alloc this o4
  · have := new_block (((w.alloc o1).alloc o2).alloc o3) o4
    rw [s3] at this
    exact this
def RaPost (B : Nat) (a : St × Rep × List Evt) (w : World) (e : Ending) (w' : World) : Prop := ∃ vT vL vD vp ve, e = .returned (.tuple #[.agg #[.int .i64 a.1.z, vT, vL, vD], .agg #[.int .i64 a.2.1.c, .int .i64 a.2.1.s, vp], ve]) ∧ RW w' B vT vL vD a.1 ∧ PsW w' B vp a.2.1.ps ∧ EvW w' B ve a.2.2 ∧ Below w.heap.size w w'
theorem LsW.of_own {w : World} {base B : Nat} {A : Option Addr} {c : Nat} {l : List Lv} (h : w.ownsRow base 102 5 (.slice A l.length c) l.length (lvcells l)) (he : ∀ x ∈ l, LvOk w B x) : LsW w B (.slice A l.length c) (l.map lvL) :=
  ⟨A, c, l, rfl, ⟨Rd.of_own (cell := lvcell) h (fun _ _ => rfl) (by omega), Tg.of_own h (by decide), he⟩, rfl⟩
end Go.Proofs.YtflgemlhocjipaaGreatDoor
namespace Go.Proofs.YtflgemlhocjipaaGreatDoor
set_option maxRecDepth 100000
open Go.ChangeShapes Go.WideShapes Go.ChangeAt Go.RowKit Go.Proofs.Zn Go.Proofs.Zt
open Go.Proofs.Zs (St Lst Rep Tx)

theorem Tg.kept {w W : World} {B : Nat} {A : Option Addr} {n : Nat} (hg : Tg w B A n) (hs : ∀ b o, w.heap[b]? = some o → (b < B ∨ ∃ cs t fr, o = .cells cs t fr ∧ rowTy t = true) → W.heap[b]? = some o) : Tg W B A n := fun h0 a e => by
  rcases hg h0 a e with h1 | ⟨cs, t, fr, h1, h2⟩
  · exact .inl h1
  · exact .inr ⟨cs, t, fr, hs _ _ h1 (.inr ⟨cs, t, fr, rfl, h2⟩), h2⟩
theorem TrW.kept {w W : World} {B : Nat} {v : Value} {T : Tr} (h : TrW w B v T) (hs : ∀ b o, w.heap[b]? = some o → (b < B ∨ ∃ cs t fr, o = .cells cs t fr ∧ rowTy t = true) → W.heap[b]? = some o) : TrW W B v T := by
  obtain ⟨A, c, e, h1, h2⟩ := h
  exact ⟨A, c, e, h1.kept h2 hs, h2.kept hs⟩
theorem PsW.kept {w W : World} {B : Nat} {v : Value} {T : List Txt} (h : PsW w B v T) (hs : ∀ b o, w.heap[b]? = some o → (b < B ∨ ∃ cs t fr, o = .cells cs t fr ∧ rowTy t = true) → W.heap[b]? = some o) : PsW W B v T := by
  obtain ⟨A, c, e, h1, h2⟩ := h
  exact ⟨A, c, e, h1.kept h2 hs, h2.kept hs⟩
theorem EvW.kept {w W : World} {B : Nat} {v : Value} {T : List Evt} (h : EvW w B v T) (hs : ∀ b o, w.heap[b]? = some o → (b < B ∨ ∃ cs t fr, o = .cells cs t fr ∧ rowTy t = true) → W.heap[b]? = some o) : EvW W B v T := by
  obtain ⟨A, c, e, h1, h2⟩ := h
  exact ⟨A, c, e, h1.kept h2 hs, h2.kept hs⟩
end Go.Proofs.YtflgemlhocjipaaGreatDoor
