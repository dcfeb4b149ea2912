/-
  What a law's own walk keeps: a file system, the law's own boxes, and its own rows of handles. Condition: how much was done.
-/
import Derived.Test.YtoaahhgngelnaaaFSt
import Derived.Test.YtoaahhgngelnaaaFStaleM
namespace Go.Proofs.Ytoaahhgngelnaaa
set_option maxRecDepth 100000
open Go.ChangeShapes Go.WideShapes Go.ChangeAt Go.RowKit Go.Proofs.Sg Go.Proofs.Fz

abbrev hcell (h : Hd) : List Value := [.int .i64 h.id, .int .i64 h.gen]
theorem hcell_len : ∀ l : List Hd, ∀ x ∈ l, (hcell x).length = 2 := fun _ _ _ => rfl
/-- A row of handles that the law has made. -/
def HRow (b : Nat) (W : World) (v : Value) (l : List Hd) : Prop := W.ownsRow b 40 2 v l.length (l.flatMap hcell)
theorem HRow.nil (b : Nat) (W : World) : HRow b W (.slice none 0 0) [] := World.ownsRow_nil _ _ _ _
theorem HRow.below {b : Nat} {W W' : World} {v : Value} {l : List Hd} (h : HRow b W v l) (hb : Below W.heap.size W W') : HRow b W' v l := own_below h hb
/-- A file system, boxes, rows. -/
def SR (w : World) (fp R : Nat) (K : List (Nat × Obj)) (V : List (Nat × Value × List Hd)) (W : World) (f : Fst) (T : Nat) : Prop := ∃ Z, FM W w.heap.size Z f ∧ Z.fp = fp ∧ Below w.heap.size w W ∧ Wl f T R ∧ (∀ k ∈ K, W.heap[k.1]? = some k.2 ∧ ¬ foot Z f.I k.1) ∧ ∀ r ∈ V, w.heap.size ≤ r.1 ∧ HRow r.1 W r.2.1 r.2.2
section
variable {w W W' : World} {fp R : Nat} {K : List (Nat × Obj)} {V : List (Nat × Value × List Hd)} {f g : Fst} {T T' : Nat}
theorem SR.st (h : SR w fp R K V W f T) : St w fp R K W f T := by obtain ⟨Z, h1, h2, h3, h4, h5, -⟩ := h; exact ⟨Z, h1, h2, h3, h4, h5⟩
theorem SR.mono (h : SR w fp R K V W f T) (hT : T ≤ T') : SR w fp R K V W f T' := by
  obtain ⟨Z, h1, h2, h3, h4, h5, h6⟩ := h
  exact ⟨Z, h1, h2, h3, h4.mono hT, h5, h6⟩
theorem SR.row (h : SR w fp R K V W f T) {r : Nat × Value × List Hd} (hr : r ∈ V) : HRow r.1 W r.2.1 r.2.2 := by obtain ⟨Z, -, -, -, -, -, h6⟩ := h; exact (h6 r hr).2
theorem own_lt {W : World} {b e s n k : Nat} {v : Value} {xs : List Value} (h : W.ownsRow b e s v n xs) (hk : v.ownBlock = some k) : k < W.heap.size := by
  rcases h.2 with ⟨rfl, _⟩ | ⟨g, cap, cur, rfl, _, hg, _⟩
  · simp [Value.ownBlock] at hk
  · have e : k = g := by simp [Value.ownBlock] at hk; exact hk.symm
    rw [e]; exact blk_lt hg
theorem SR.below (h : SR w fp R K V W f T) (hb : Below W.heap.size W W') : SR w fp R K V W' f T := by
  obtain ⟨Z, h1, h2, h3, h4, h5, h6⟩ := h
  exact ⟨Z, h1.below h4.gd.kind hb, h2, h3.trans (hb.mono h3.size), h4, fun k hk => ⟨blk_below (h5 k hk).1 hb, (h5 k hk).2⟩, fun r hr => ⟨(h6 r hr).1, (h6 r hr).2.below hb⟩⟩
theorem SR.box (h : SR w fp R K V W f T) (o : Obj) : SR w fp R ((W.heap.size, o) :: K) V (W.alloc o) f T := by
  have hb := h.below (box_below W o)
  obtain ⟨Z0, i1, i2, i3, i4, i5, i6⟩ := h
  refine ⟨Z0, i1.below i4.gd.kind (box_below W o), i2, i3.trans ((box_below W o).mono i3.size), i4, fun k hk => ?_, fun r hr => ⟨(i6 r hr).1, (i6 r hr).2.below (box_below W o)⟩⟩
  rcases List.mem_cons.1 hk with rfl | hk
  · exact ⟨new_block W o, fun hf => by have := i1.foot_lt i4.gd.kind _ hf; simp at this⟩
  · exact ⟨blk_below (i5 k hk).1 (box_below W o), (i5 k hk).2⟩
theorem own_fk {b e s n : Nat} {v : Value} {xs : List Value} {Y : Lay} {I : List Nod} (h : W.ownsRow b e s v n xs) (hk : FK Y I W W') (hn : ∀ k, v.ownBlock = some k → ¬ foot Y I k) : W'.ownsRow b e s v n xs := by
  refine ⟨h.1, ?_⟩
  rcases h.2 with hn2 | ⟨g, cap, cur, rfl, hbg, hgc, rest⟩
  · exact .inl hn2
  · exact .inr ⟨g, cap, cur, rfl, hbg, (hk.block g (blk_lt hgc) (hn g rfl)).trans hgc, rest⟩
theorem own_map {b e s n k : Nat} {v : Value} {xs : List Value} (h : W.ownsRow b e s v n xs) {es : Array MapEntry} {c : Nat} (hk : W.heap[k]? = some (.map es c)) : v.ownBlock ≠ some k := fun he => by
  rcases h.2 with ⟨rfl, _⟩ | ⟨g, cap, cur, rfl, _, hg, _⟩
  · simp [Value.ownBlock] at he
  · have e : g = k := by simpa [Value.ownBlock] using he
    subst e
    rw [hk] at hg; cases hg
theorem own_foot {bs b n : Nat} {v : Value} {xs : List Value} {Z : Lay} (h : W.ownsRow b 40 2 v n xs) (hm : FM W bs Z f) (hkd : ∀ x ∈ f.I, x.kind = 1 ∨ x.kind = 2 ∨ x.kind = 3) : ∀ k, v.ownBlock = some k → ¬ foot Z f.I k := fun k hk hf => by
  rcases hf with rfl | rfl | ⟨x, hx, hf⟩
  · exact own_ne h hm.here (by decide) hk
  · obtain ⟨es, c, h1⟩ := hm.map.is_map
    exact own_map h h1 hk
  · rcases hf with rfl | ⟨h3, hf⟩
    · exact own_ne h (hm.nod x hx).box (by decide) hk
    · rcases hkd x hx with k1 | k1 | k1
      · have hs := (hm.nod x hx).fil k1
        rcases hf with rfl | rfl
        · exact own_ne h hs.here (by decide) hk
        · obtain ⟨es, c, h1⟩ := hs.map.is_map
          exact own_map h h1 hk
      · obtain ⟨g1, g2⟩ := (hm.nod x hx).fol k1
        rcases hf with rfl | rfl
        · exact own_ne h g1 (by decide) hk
        · obtain ⟨es, c, h1⟩ := g2.is_map
          exact own_map h h1 hk
      · exact h3 k1
theorem own_at_ge {b e s n k : Nat} {v : Value} {xs : List Value} (h : W.ownsRow b e s v n xs) (hk : v.ownBlock = some k) : b ≤ k := own_ge h k hk
/-- A handle is laid behind the first row; the others lie below its base. -/
theorem SR.app {b : Nat} {v v' : Value} {l : List Hd} {x : Hd} {o : Obj} (h : SR w fp R K ((b, v, l) :: V) W f T) (hK : ∀ k ∈ K, k.1 < b) (hV : ∀ r ∈ V, ∀ k, r.2.1.ownBlock = some k → k < b) (hbW : b ≤ W.heap.size)
    (hown : W'.ownsRow b 40 2 v' (l.length + 1) (l.flatMap hcell ++ hcell x)) (hg : (W.alloc o).grownBy W' v.ownBlock) : SR w fp R K ((b, v', l ++ [x]) :: V) W' f T := by
  obtain ⟨Z, h1, h2, h3, h4, h5, h6⟩ := h
  have hr := h6 (b, v, l) (by simp)
  have hr1 : w.heap.size ≤ b := hr.1
  have hr2 : W.ownsRow b 40 2 v l.length (l.flatMap hcell) := hr.2
  have hbl : ∀ k, k < W.heap.size → v.ownBlock ≠ some k → W'.heap[k]? = W.heap[k]? := fun k hk hne => (hg.block k (by simp; omega) (fun e => hne e.symm)).trans ((box_below W o).block k hk)
  have hB : Below w.heap.size W W' := by
    have h8 : Below w.heap.size W (W.alloc o) := (box_below W o).mono h3.size
    exact h8.grown hg (Nat.le_trans h3.size h8.size) (fun k hk => Nat.le_trans hr1 (own_ge hr2 k hk))
  refine ⟨Z, h1.keep (fun k hk => hbl k (h1.foot_lt h4.gd.kind k hk) (fun e => own_foot hr2 h1 h4.gd.kind k e hk)), h2, h3.trans hB, h4, fun k hk => ⟨(hbl k.1 (blk_lt (h5 k hk).1) (fun e => by have := own_ge hr2 k.1 e; have := hK k hk; omega)).trans (h5 k hk).1, (h5 k hk).2⟩, fun r hr3 => ?_⟩
  rcases List.mem_cons.1 hr3 with rfl | hr4
  · refine ⟨hr1, ?_⟩
    show W'.ownsRow b 40 2 v' (l ++ [x]).length ((l ++ [x]).flatMap hcell)
    rw [List.length_append, List.flatMap_append]
    simpa using hown
  · refine ⟨(h6 r (by simp [hr4])).1, ?_⟩
    have h7 := (h6 r (by simp [hr4])).2
    have h8 : Below b W W' := by
      have h9 : Below b W (W.alloc o) := (box_below W o).mono hbW
      exact h9.grown hg (Nat.le_trans hbW h9.size) (fun k hk => own_ge hr2 k hk)
    refine ⟨h7.1, ?_⟩
    rcases h7.2 with hn | ⟨g, cap, cur, e, hbg, hgc, rest⟩
    · exact .inl hn
    · exact .inr ⟨g, cap, cur, e, hbg, (h8.block g (hV r hr4 g (by rw [e]; rfl))).trans hgc, rest⟩
theorem SR.call (h : SR w fp R K V W f T) (hw : Wl g T' R) {fn : Nat} {args : Array Value} {v : Value} (hc : ∀ Z, FM W w.heap.size Z f → Z.fp = fp → Below w.heap.size w W → Calls Try.prog fn args W (ChF W w.heap.size Z f g v)) : Calls Try.prog fn args W fun e W' => e = .returned v ∧ SR w fp R K V W' g T' := by
  obtain ⟨Z, h1, h2, h3, h4, h5, h6⟩ := h
  refine (hc Z h1 h2 h3).mono ?_
  rintro e W' ⟨X, rfl, g1, g2, g3, g4⟩
  exact ⟨rfl, X, g1, g4.trans h2, h3.trans (g2.below h1.ge h3.size), hw, fun k hk => ⟨(g2.block k.1 (blk_lt (h5 k hk).1) (h5 k hk).2).trans (h5 k hk).1, fun hf => (g3 _ hf).elim (h5 k hk).2 (fun h => by have := blk_lt (h5 k hk).1; omega)⟩,
    fun r hr => ⟨(h6 r hr).1, own_fk (h6 r hr).2 g2 (own_foot (h6 r hr).2 h1 h4.gd.kind)⟩⟩
theorem sr_does (h : SR w fp R K V W f T) (hT : T ≤ 1000000) (hR : R ≤ 9223372036854775807) (o : Opf) (ho : OpOk o) {A : Option Addr} {n c : Nat} (hr : Rd bcell 1 W A n o.b) (hc : n ≤ c) : Calls Try.prog 10 #[pA fp, opW o A n c] W fun e W' => e = .returned (anW (stepF f o).2) ∧ SR w fp R K V W' (stepF f o).1 (T + 1) :=
  h.call (h.st.wl.step o) (fun Z h1 h2 h3 => by
    have h9 := does_any h1 h3.size h.st.wl hT hR o ho hr hc
    rw [h2] at h9
    exact h9)
end
end Go.Proofs.Ytoaahhgngelnaaa
