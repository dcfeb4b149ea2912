/-
  What the laws share: an own transaction applied; two seen states that are the same; what a transaction of an old number does. No condition.
-/
import Derived.Test.YtflgemlhocjipaaGreatDoorSFew
import Derived.Test.YtflgemlhocjipaaGreatDoorSSame
import Derived.Test.YtflgemlhocjipaaGreatDoorSSeen
namespace Go.Proofs.YtflgemlhocjipaaGreatDoor
set_option maxRecDepth 100000
open Go.ChangeShapes Go.WideShapes Go.ChangeAt Go.RowKit Go.Proofs.Zn Go.Proofs.Zt
open Go.Proofs.Zs (St Lst Rep Tx)

/-- An own transaction, then Apply of it. -/
theorem apply_own {w : World} {B sp : Nat} {S : St} (h : StW w B sp S) (hg : Zs.Gd S) (zx : Int) {o : Opc} (ho : OpcOk w o) (ht : Tg w B o.A o.m) : Calls Tryz.prog 16 #[.pointer (some ⟨sp, 0, none⟩), .int .i64 zx, .agg #[.int .i64 o.k, .int .i64 o.s, .int .i64 o.n, .int .i64 o.sp, .int .i64 o.now, .slice o.A o.m o.c]] w (ApPost B sp (Zs.app S zx (txO o)) w) :=
  sapply_any h hg zx (txO o) ho.rd ht ho.ok
theorem cell_alloc {w : World} {b o : Nat} {v : Value} (h : w.cell? ⟨b, o, none⟩ = some v) (x : Obj) : (w.alloc x).cell? ⟨b, o, none⟩ = some v := by
  have hb := cell_lt h
  rw [← h]
  unfold World.cell?
  rw [(box_below w x).block b hb]
theorem StW.wr {w w' : World} {B sp r : Nat} {S : St} (h : StW w B sp S) (hw : Wr r w w') {cs : Array Value} {t : TypeId} {fr : Nat × Nat} (hr : w.heap[r]? = some (.cells cs t fr)) (ht : okTy t = true) (ht2 : t ≠ 9) : StW w' B sp S := by
  obtain ⟨tp, tmb, lp, lv, mb, h⟩ := h
  exact ⟨tp, tmb, lp, lv, mb, h.wr hw hr ht ht2⟩
/-- A seen state is like itself. -/
theorem seen_same {w : World} {B : Nat} {S : St} {vT vL vD vT2 vL2 vD2 : Value} (hg : Zs.Gd S) (h : RW w B vT vL vD ⟨S.z, S.T, S.L, seenD S.D S.L⟩) (h2 : RW w B vT2 vL2 vD2 ⟨S.z, S.T, S.L, seenD S.D S.L⟩) :
    Calls Tryz.prog 21 #[.agg #[.int .i64 S.z, vT, vL, vD], .agg #[.int .i64 S.z, vT2, vL2, vD2]] w fun e w' => e = .returned (.bool true) ∧ Below w.heap.size w w' :=
  vsame_any (S := ⟨S.z, S.T, S.L, seenD S.D S.L⟩) (S2 := ⟨S.z, S.T, S.L, seenD S.D S.L⟩) h h2 (Alk.refl _) (Nat.le_trans hg.T.len (by decide)) (Nat.le_trans hg.L.len (by decide)) (Nat.le_trans (seen_len _ _) (Nat.le_trans hg.L.len (by decide))) (Nat.le_trans (seen_len _ _) (Nat.le_trans hg.L.len (by decide))) (fun x hx => by
    dsimp only
    rw [seen_fd hg hx]
    have h9 := (fd_ps hg x.i).1
    omega)
end Go.Proofs.YtflgemlhocjipaaGreatDoor
