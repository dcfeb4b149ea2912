/-
  What a law's own walk keeps of a file system and of its own boxes; the calls, so told. Condition: how much was done.
-/
import Derived.Test.YtoaahhgngelnaaaFBackM
import Derived.Test.YtoaahhgngelnaaaFLawM
namespace Go.Proofs.Ytoaahhgngelnaaa
set_option maxRecDepth 100000
open Go.ChangeShapes Go.WideShapes Go.ChangeAt Go.RowKit Go.Proofs.Sg Go.Proofs.Fz

/-- A file system of so many blocks, and the law's own boxes. -/
def St (w : World) (fp R : Nat) (K : List (Nat × Obj)) (W : World) (f : Fst) (T : Nat) : Prop := ∃ Z, FM W w.heap.size Z f ∧ Z.fp = fp ∧ Below w.heap.size w W ∧ Wl f T R ∧ ∀ k ∈ K, W.heap[k.1]? = some k.2 ∧ ¬ foot Z f.I k.1
section
variable {w W W' : World} {fp R : Nat} {K : List (Nat × Obj)} {f g : Fst} {T T' : Nat}
theorem St.wl (h : St w fp R K W f T) : Wl f T R := by obtain ⟨Z, -, -, -, h4, -⟩ := h; exact h4
theorem St.bl (h : St w fp R K W f T) : Below w.heap.size w W := by obtain ⟨Z, -, -, h3, -, -⟩ := h; exact h3
theorem St.at (h : St w fp R K W f T) {k : Nat × Obj} (hk : k ∈ K) : W.heap[k.1]? = some k.2 := by obtain ⟨Z, -, -, -, -, h5⟩ := h; exact (h5 k hk).1
theorem St.mono (h : St w fp R K W f T) (hT : T ≤ T') : St w fp R K W f T' := by
  obtain ⟨Z, h1, h2, h3, h4, h5⟩ := h
  exact ⟨Z, h1, h2, h3, h4.mono hT, h5⟩
theorem St.below (h : St w fp R K W f T) (hb : Below W.heap.size W W') : St w fp R K W' f T := by
  obtain ⟨Z, h1, h2, h3, h4, h5⟩ := h
  exact ⟨Z, h1.below h4.gd.kind hb, h2, h3.trans (hb.mono h3.size), h4, fun k hk => ⟨blk_below (h5 k hk).1 hb, (h5 k hk).2⟩⟩
theorem St.box (h : St w fp R K W f T) (o : Obj) : St w fp R ((W.heap.size, o) :: K) (W.alloc o) f T := by
  have hb := h.below (box_below W o)
  obtain ⟨Z, h1, h2, h3, h4, h5⟩ := hb
  obtain ⟨Z0, i1, i2, i3, i4, i5⟩ := h
  refine ⟨Z0, i1.below i4.gd.kind (box_below W o), i2, h3, h4, fun k hk => ?_⟩
  rcases List.mem_cons.1 hk with rfl | hk
  · exact ⟨new_block W o, fun hf => by have := i1.foot_lt i4.gd.kind _ hf; simp at this⟩
  · exact ⟨blk_below (i5 k hk).1 (box_below W o), (i5 k hk).2⟩
theorem St.call (h : St w fp R K W f T) (hw : Wl g T' R) {fn : Nat} {args : Array Value} {v : Value} (hc : ∀ Z, FM W w.heap.size Z f → Z.fp = fp → Below w.heap.size w W → Calls Try.prog fn args W (ChF W w.heap.size Z f g v)) : Calls Try.prog fn args W fun e W' => e = .returned v ∧ St w fp R K W' g T' := by
  obtain ⟨Z, h1, h2, h3, h4, h5⟩ := h
  refine (hc Z h1 h2 h3).mono ?_
  rintro e W' ⟨V, rfl, g1, g2, g3, g4⟩
  exact ⟨rfl, V, g1, g4.trans h2, h3.trans (g2.below h1.ge h3.size), hw, fun k hk => ⟨(g2.block k.1 (blk_lt (h5 k hk).1) (h5 k hk).2).trans (h5 k hk).1, fun hf => (g3 _ hf).elim (h5 k hk).2 (fun h => by have := blk_lt (h5 k hk).1; omega)⟩⟩
theorem st_make (h : St w fp R K W f T) (hT : T ≤ 1000000) (d : Hd) (hd : HdOk d) (s : Txt) (hs : s.length ≤ maxLen) (m : Mk) : Calls Try.prog 16 #[pA fp, hV d, .string (B s), .agg #[.int .i64 m.kind, .int .i64 m.mode, .int .i64 m.time, .string (B m.tg)]] W fun e W' => e = .returned (.tuple #[hV (mkF f d s m).2.1, .int .i64 (mkF f d s m).2.2]) ∧ St w fp R K W' (mkF f d s m).1 (T + 1) :=
  h.call (h.wl.make d s m) (fun Z h1 h2 h3 => by
    have h9 := fmake_any h1 h3.size h.wl.gd h.wl.bd (by omega) d hd (B s) (by rw [B_size]; exact hs) m (B m.tg) (LB _)
    rw [LB, h2] at h9
    exact h9)
theorem st_write (h : St w fp R K W f T) (hR : R ≤ 9223372036854775807) (d : Hd) (hd : HdOk d) (z : Int) (hz : z ≤ 9223372036854775807) {A : Option Addr} {n c : Nat} {b : List UInt8} (hr : Rd bcell 1 W A n b) (hc : n ≤ c) (hn : n ≤ 4611686018427387904) (t : Int) : Calls Try.prog 17 #[pA fp, hV d, .int .i64 z, .slice A n c, .int .i64 t] W fun e W' => e = .returned (.int .i64 (wrF f d z b t).2) ∧ St w fp R K W' (wrF f d z b t).1 (T + 1) :=
  h.call (h.wl.write d z b t) (fun Z h1 h2 h3 => by
    have h9 := fwrite_any h1 h.wl.gd d hd z hz hr hc hn t (by rw [h.wl.rm]; exact hR)
    rw [h2] at h9
    exact h9)
theorem st_link (h : St w fp R K W f T) (hT : T ≤ 1000000) (d e : Hd) (hd : HdOk d) (he : HdOk e) (s : Txt) (hs : s.length ≤ maxLen) : Calls Try.prog 18 #[pA fp, hV d, hV e, .string (B s)] W fun e' W' => e' = .returned (.int .i64 (lkF f d e s).2) ∧ St w fp R K W' (lkF f d e s).1 (T + 1) :=
  h.call (h.wl.link d e s) (fun Z h1 h2 h3 => by
    have h9 := flink_any h1 h.wl.gd h.wl.bd (by omega) d e hd he (B s) (by rw [B_size]; exact hs)
    rw [LB, h2] at h9
    exact h9)
theorem st_remove (h : St w fp R K W f T) (hT : T ≤ 1000000) (d : Hd) (hd : HdOk d) (s : Txt) (hs : s.length ≤ maxLen) (b : Bool) : Calls Try.prog 19 #[pA fp, hV d, .string (B s), .bool b] W fun e' W' => e' = .returned (.int .i64 (rmF f d s b).2) ∧ St w fp R K W' (rmF f d s b).1 (T + 1) :=
  h.call (h.wl.remove d s b) (fun Z h1 h2 h3 => by
    have h9 := fremove_any h1 h.wl.gd h.wl.bd (by omega) d hd (B s) (by rw [B_size]; exact hs) b
    rw [LB, h2] at h9
    exact h9)
theorem st_look (h : St w fp R K W f T) (d : Hd) (hd : HdOk d) (s : Txt) (hs : s.length ≤ maxLen) : Calls Try.prog 15 #[pA fp, hV d, .string (B s)] W fun e W' => e = .returned (.tuple #[hV (loF f d s).1, .int .i64 (loF f d s).2]) ∧ Below W.heap.size W W' := by
  obtain ⟨Z, h1, h2, h3, h4, h5⟩ := h
  have h9 := flook_any h1 h4.gd d hd (B s) (by rw [B_size]; exact hs)
  rw [LB, h2] at h9
  exact h9
def SrPost (W : World) (l : Txt) (c : Int) (e : Ending) (W' : World) : Prop := ∃ A k, e = .returned (.tuple #[.slice A l.length k, .int .i64 c]) ∧ Rd bcell 1 W' A l.length l ∧ Below W.heap.size W W'
theorem st_read (h : St w fp R K W f T) (d : Hd) (hd : HdOk d) (z m : Int) (hz : z ≤ 9223372036854775807) : Calls Try.prog 20 #[pA fp, hV d, .int .i64 z, .int .i64 m] W (SrPost W (rdF f d z m).1 (rdF f d z m).2) := by
  obtain ⟨Z, h1, h2, h3, h4, h5⟩ := h
  have h9 := fread_any h1 h4.gd d hd z m hz
  rw [h2] at h9
  refine h9.mono ?_
  rintro e W' ⟨v, rfl, hr, hb⟩
  obtain ⟨A', c', rfl, -⟩ := own_form hr
  exact ⟨A', c', rfl, Rd.of_own hr (fun _ _ => rfl) (by omega), hb⟩
theorem st_stat (h : St w fp R K W f T) (d : Hd) (hd : HdOk d) : Calls Try.prog 13 #[pA fp, hV d] W fun e W' => e = .returned (.tuple #[infV (stF f d).1, .int .i64 (stF f d).2]) ∧ Below W.heap.size W W' := by
  obtain ⟨Z, h1, h2, h3, h4, h5⟩ := h
  have h9 := fstat_any h1 h4.gd d hd
  rw [h2] at h9
  exact h9
theorem rt_ok : HdOk rtH := hdok 1 1 (by omega) (by omega)
theorem mine_ok {h : Hd} {x : Nod} {s : Txt} (hw : Wl f T R) (hT : T ≤ 1000) (k : Mine f h x s) : HdOk h := by
  have hx := (fnd_mem k.fd).1
  have h1 := hw.gd.rng x hx
  have h2 := hw.gd.gen x hx
  have h3 := hw.bd.gns x.id
  rw [k.he]
  exact ⟨by dsimp only; omega, by dsimp only; omega, by dsimp only; omega, by dsimp only; omega⟩
end
end Go.Proofs.Ytoaahhgngelnaaa
