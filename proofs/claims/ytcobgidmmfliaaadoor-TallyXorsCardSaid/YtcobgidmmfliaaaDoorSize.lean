/-
  How many bytes a slice that came in may take, out of what a row says of the reach. No condition.
-/
import Derived.Test.YtcobgidmmfliaaaDoorFrame
import Derived.SizedLaws
namespace Go.Proofs.YtcobgidmmfliaaaDoor
open Go.ChangeShapes Go.WideShapes Go.ChangeAt Go.RowKit Go.Proofs.Crc

theorem bytes5 : Tryd.prog.bytesOf 5 = 1 := by kernel_rfl
theorem cap_le {H : Type} {ts : List TypeId} {ds : List (DataW H)} {j cap : Nat} {d : DataW H} (h : (DataW.weightsEach Tryd.prog ts ds).all (· ≤ reachBytes) = true) (ht : ts[j]? = some 22) (hd : ds[j]? = some d)
    (hs : (d = .nil ∧ cap = 0) ∨ ∃ es sp, d = .slice es sp ∧ es.length + sp.length = cap) : cap ≤ 140737488351232 := by
  rcases hs with ⟨_, rfl⟩ | ⟨es, sp, rfl, rfl⟩
  · omega
  · have := sized_slice h ht hd Tryd.underlying22
    rw [bytes5] at this
    simp only [reachBytes] at this
    omega
end Go.Proofs.YtcobgidmmfliaaaDoor
