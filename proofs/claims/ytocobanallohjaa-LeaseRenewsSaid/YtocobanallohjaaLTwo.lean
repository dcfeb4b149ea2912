/-
  Two tables beside each other. No condition.
-/
import Derived.Test.YtocobanallohjaaLDoes
namespace Go.Proofs.Ytocobanallohjaa
set_option maxRecDepth 100000
open Go.ChangeShapes Go.WideShapes Go.ChangeAt Go.RowKit Go.Proofs.Le

/-- Two tables beside each other. -/
structure Two (w : World) (Bs t1 : Nat) (v1 : Value) (L1 : Tb) (t2 : Nat) (v2 : Value) (L2 : Tb) : Prop where
  a : TabW w Bs t1 v1 L1
  b : TabW w Bs t2 v2 L2
  ne : t1 ≠ t2
  sep : ∀ g, v1.ownBlock = some g → v2.ownBlock ≠ some g
theorem Two.swap {w : World} {Bs t1 t2 : Nat} {v1 v2 : Value} {L1 L2 : Tb} (h : Two w Bs t1 v1 L1 t2 v2 L2) : Two w Bs t2 v2 L2 t1 v1 L1 := ⟨h.b, h.a, h.ne.symm, fun g hg e => h.sep g e hg⟩
theorem Two.below {w w' : World} {Bs t1 t2 : Nat} {v1 v2 : Value} {L1 L2 : Tb} (h : Two w Bs t1 v1 L1 t2 v2 L2) (hb : Below w.heap.size w w') : Two w' Bs t1 v1 L1 t2 v2 L2 := ⟨h.a.below hb, h.b.below hb, h.ne, h.sep⟩
/-- What a call on the first leaves. -/
theorem Two.one {w w' : World} {Bs t1 t2 : Nat} {v1 v2 : Value} {L1 L2 M : Tb} (h : Two w Bs t1 v1 L1 t2 v2 L2) (k : KpPost Bs t1 v1 M w w') : ∃ v', Two w' Bs t1 v' M t2 v2 L2 := by
  obtain ⟨v', h1, h2, h3⟩ := k
  have hh := h.b.here
  refine ⟨v', h1, ⟨(h2.block t2 (blk_lt hh) h.ne.symm (own_ne h.a.row hh (by decide))).trans hh, ⟨h.b.row.1, ?_⟩, h.b.ge⟩, h.ne, fun g hg e => ?_⟩
  · rcases h.b.row.2 with hn | ⟨g, cap, cur, he, hbg, hg, rest⟩
    · exact .inl hn
    · refine .inr ⟨g, cap, cur, he, hbg, (h2.block g (blk_lt hg) (fun e => ?_) (fun e => h.sep g e (by rw [he]; rfl))).trans hg, rest⟩
      rw [e, h.a.here] at hg
      injection hg with hg
      injection hg with _ hg _
      exact absurd hg (by decide)
  · rcases h3 g hg with h4 | h4
    · exact h.sep g h4 e
    · have h5 : g < w.heap.size := by
        rcases h.b.row.2 with ⟨he, _⟩ | ⟨g', cap, cur, he, hbg, hg', rest⟩
        · rw [he] at e; cases e
        · rw [he] at e
          simp only [Value.ownBlock, Option.some.injEq] at e
          rw [← e]
          exact blk_lt hg'
      omega
theorem two_of {w1 w2 : World} {Bs t1 t2 : Nat} {v1 v2 : Value} {L1 L2 : Tb} (h1 : TabW w1 Bs t1 v1 L1) (hB : Bs ≤ w1.heap.size) (h2 : TabW w2 w1.heap.size t2 v2 L2) (hb : Below w1.heap.size w1 w2) : Two w2 Bs t1 v1 L1 t2 v2 L2 := by
  refine ⟨h1.below hb, ⟨h2.here, own_base h2.row hB, Nat.le_trans hB h2.ge⟩, ?_, fun g hg e => ?_⟩
  · have := blk_lt h1.here
    have := h2.ge
    omega
  · have h3 := own_ge h2.row g e
    rcases h1.row.2 with ⟨he, _⟩ | ⟨g', cap, cur, he, hbg, hg', rest⟩
    · rw [he] at hg; cases hg
    · rw [he] at hg
      simp only [Value.ownBlock, Option.some.injEq] at hg
      have := blk_lt hg'
      omega
end Go.Proofs.Ytocobanallohjaa
