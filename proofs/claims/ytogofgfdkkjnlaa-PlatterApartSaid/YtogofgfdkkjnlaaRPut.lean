/-
  What the document's put returns: a disk with one write more that waits. Condition: no more bytes than a sector has; not too many writes wait.
-/
import Derived.Test.YtogofgfdkkjnlaaRNew
namespace Go.Proofs.Ytogofgfdkkjnlaa
open Go.ChangeShapes Go.WideShapes Go.ChangeAt Go.RowKit

/-- What put leaves. -/
def PuPost (w : World) (B : Nat) (fv : Value) (D : Dk) (n : Nat) (zs : List Int) (e : Ending) (w' : World) : Prop :=
  ∃ Aw cw, e = .returned (.agg #[fv, .slice Aw (D.wait.length + 1) cw, .int .i64 D.armed, .bool D.dead]) ∧ RDisk w' B fv (.slice Aw (D.wait.length + 1) cw) (putD D n zs) ∧ Below w.heap.size w w'
/-- The world at the end of put, by what was made. -/
structure PuMid (w : World) (B : Nat) (fv : Value) (D : Dk) (wv : Value) (n : Nat) (zs : List Int) (v3 : Value) (w3 : World) : Prop where
  b0 : w3.heap[w.heap.size]? = some (.cells #[fv, wv, .int .i64 D.armed, .bool D.dead] 28 (0, 0))
  b1 : w3.heap[w.heap.size + 1]? = some (.cells #[.slice none 0 0, .slice none 0 0, .int .i64 0, .bool false] 28 (0, 0))
  row : w3.ownsRow w.heap.size 71 2 v3 (D.wait.length + 1) (rcells (D.wait ++ [(n, pad zs)]))
  below : Below w.heap.size w w3
theorem put_end {w w3 w9 : World} {B : Nat} {fv wv : Value} {D : Dk} {n : Nat} {zs : List Int} {A3 : Option Addr} {c3 : Nat} (h : RDisk w B fv wv D) (hB : B ≤ w.heap.size) (hm : PuMid w B fv D wv n zs (.slice A3 (D.wait.length + 1) c3) w3)
    (h9 : ∀ k, k ≠ w.heap.size → k ≠ w.heap.size + 1 → w9.heap[k]? = w3.heap[k]?) (hb : Below w.heap.size w3 w9) : PuPost w B fv D n zs (.returned (.agg #[fv, .slice A3 (D.wait.length + 1) c3, .int .i64 D.armed, .bool D.dead])) w9 := by
  have hb9 := hm.below.trans hb
  refine ⟨A3, c3, rfl, ⟨own_below h.firm hb9, ?_⟩, hb9⟩
  show w9.ownsRow B 71 2 _ (D.wait ++ [(n, pad zs)]).length (rcells (D.wait ++ [(n, pad zs)]))
  rw [List.length_append]
  refine own_base (own_tag hm.row fun k cs hx => ?_) hB
  have hne : ∀ b C, w3.heap[b]? = some (.cells C 28 (0, 0)) → k ≠ b := by
    rintro b C hC rfl
    rw [hC] at hx
    injection hx with hx
    injection hx with _ e _
    exact absurd e (by decide)
  rw [h9 k (hne _ _ hm.b0) (hne _ _ hm.b1)]
  exact hx
theorem zero_over (zs : List Int) : splice (ints (List.replicate 64 0)) 0 (ints zs) = ints (pad zs) := by
  rw [ints_pad]
  simp only [splice, List.take_zero, List.nil_append, Nat.zero_add, ints_length, ints_zero_drop]
/-- The boxes of put: the disk's, the result's, the bytes'. -/
theorem put_mid1 {w w4 : World} {B : Nat} {fv wv : Value} {D : Dk} {zs : List Int} {C0 C1 : Array Value} (h : RDisk w B fv wv D)
    (hg4 : w4.heap[w.heap.size + 1 + 1]? = some (.cells (splice (ints (List.replicate 64 0)) 0 (ints zs)).toArray 5 (0, 0))) (hgr4 : (((w.alloc (.cells C0 28)).alloc (.cells C1 28)).alloc (.cells Z64 5)).grownBy w4 (some (w.heap.size + 1 + 1))) :
    Below w.heap.size w w4 ∧ w4.heap[w.heap.size]? = some (.cells C0 28 (0, 0)) ∧ w4.heap[w.heap.size + 1]? = some (.cells C1 28 (0, 0)) ∧ w4.heap[w.heap.size + 1 + 1]? = some (.cells (ints (pad zs)).toArray 5 (0, 0)) ∧ RDisk w4 B fv wv D ∧ w.heap.size + 3 ≤ w4.heap.size := by
  have hb : Below w.heap.size w (((w.alloc (.cells C0 28)).alloc (.cells C1 28)).alloc (.cells Z64 5)) := (((Below.refl _ _).alloc (Nat.le_refl _) _).alloc (by simp) _).alloc (by simp; omega) _
  have hb4 : Below w.heap.size w w4 := hb.grown hgr4 (by simp; omega) (fun k hk => by injection hk with hk; omega)
  have hbx := two_boxes w C0 C1 28 28
  have hs : ((w.alloc (.cells C0 28)).alloc (.cells C1 28)).heap.size = w.heap.size + 2 := by simp
  refine ⟨hb4, ?_, ?_, by rw [zero_over] at hg4; exact hg4, h.kept hb4, by have := hgr4.size; simp at this; omega⟩
  · rw [hgr4.block _ (by simp; omega) (by simp; omega), Below.heap_alloc _ _ _ (by omega)]; exact hbx.1
  · rw [hgr4.block _ (by simp) (by simp), Below.heap_alloc _ _ _ (by omega)]; exact hbx.2
theorem put_mid2 {w w4 w6 : World} {v6 : Value} {D : Dk} {zs : List Int} {C0 C1 : Array Value} (hb4 : Below w.heap.size w w4) (h0 : w4.heap[w.heap.size]? = some (.cells C0 28 (0, 0))) (h1 : w4.heap[w.heap.size + 1]? = some (.cells C1 28 (0, 0)))
    (h2 : w4.heap[w.heap.size + 1 + 1]? = some (.cells (ints (pad zs)).toArray 5 (0, 0))) (h3 : w6.ownsRow w.heap.size 71 2 v6 (0 + D.wait.length) ([] ++ rcells D.wait)) (hgr : (w4.alloc (.cells #[] 71)).grownBy w6 (some w4.heap.size)) (hs : w.heap.size + 3 ≤ w4.heap.size) :
    Below w.heap.size w w6 ∧ w6.heap[w.heap.size]? = some (.cells C0 28 (0, 0)) ∧ w6.heap[w.heap.size + 1]? = some (.cells C1 28 (0, 0)) ∧ w6.heap[w.heap.size + 1 + 1]? = some (.cells (ints (pad zs)).toArray 5 (0, 0)) ∧ w6.ownsRow w.heap.size 71 2 v6 D.wait.length (rcells D.wait) := by
  rw [Nat.zero_add, List.nil_append] at h3
  have keep : ∀ (k : Nat) o, k < w4.heap.size → w4.heap[k]? = some o → w6.heap[k]? = some o := fun k o hk ho => by
    rw [hgr.block k (by simp; omega) (by simp; omega), Below.heap_alloc _ _ _ hk]; exact ho
  exact ⟨(hb4.alloc (by omega) _).grown hgr (by simp; omega) (fun k hk => by injection hk with hk; omega), keep _ _ (by omega) h0, keep _ _ (by omega) h1, keep _ _ (by omega) h2, h3⟩
theorem put_mid3 {w w6 w8 : World} {B n : Nat} {fv wv v6 v8 : Value} {D : Dk} {zs : List Int} {S : ByteArray} (hb : Below w.heap.size w w6) (h0 : w6.heap[w.heap.size]? = some (.cells #[fv, wv, .int .i64 D.armed, .bool D.dead] 28 (0, 0)))
    (h1 : w6.heap[w.heap.size + 1]? = some (.cells #[.slice none 0 0, .slice none 0 0, .int .i64 0, .bool false] 28 (0, 0))) (h6 : w6.ownsRow w.heap.size 71 2 v6 D.wait.length (rcells D.wait)) (hS : S = strOfNums (pad zs))
    (h8 : w8.ownsRow w.heap.size 71 2 v8 (D.wait.length + 1) (rcells D.wait ++ [.int .i64 (n : Int), .string S])) (hgr : (w6.alloc (.cells #[.int .i64 (n : Int), .string S] 71)).grownBy w8 v6.ownBlock) : PuMid w B fv D wv n zs v8 w8 := by
  have hl := lt_of_block h1
  refine ⟨?_, ?_, ?_, (hb.alloc (by omega) _).grown hgr (by simp; omega) (own_ge h6)⟩
  · rw [hgr.block _ (by simp; omega) (fun e => own_ne h6 h0 (by decide) e.symm), Below.heap_alloc _ _ _ (by omega)]; exact h0
  · rw [hgr.block _ (by simp; omega) (fun e => own_ne h6 h1 (by decide) e.symm), Below.heap_alloc _ _ _ hl]; exact h1
  · have e : rcells (D.wait ++ [(n, pad zs)]) = rcells D.wait ++ [.int .i64 (n : Int), .string S] := by rw [hS]; simp [rcells, rcell]
    rw [e]; exact h8
set_option maxHeartbeats 1000000 in
theorem rput_any (B : Nat) (fv wv : Value) (D : Dk) (n : Nat) (A : Option Addr) (len cap : Nat) (zs : List Int) (w : World) (h : RDisk w B fv wv D) (hB : B ≤ w.heap.size) (hR : Reads w A len zs) (hl : len ≤ 64) (hn : D.wait.length ≤ 100000) :
    Calls Try.prog 33 #[.agg #[fv, wv, .int .i64 D.armed, .bool D.dead], .int .i64 (n : Int), .slice A len cap] w (PuPost w B fv D n zs) := by
  have H := Lib.hid h
  obtain ⟨Af, cf, rfl, -, -, -⟩ := own_form h.firm
  obtain ⟨Aw, cw, rfl, -, -, -⟩ := own_form h.wait
  have hmk := run_make64
  obtain ⟨C0, hC0⟩ : ∃ C0 : Array Value, C0 = #[.slice Af D.firm.length cf, .slice Aw D.wait.length cw, .int .i64 D.armed, .bool D.dead] := ⟨_, rfl⟩
  obtain ⟨C1, hC1⟩ : ∃ C1 : Array Value, C1 = #[.slice none 0 0, .slice none 0 0, .int .i64 0, .bool false] := ⟨_, rfl⟩
  have hs2 : ((w.alloc (.cells C0 28)).alloc (.cells C1 28)).heap.size = w.heap.size + 1 + 1 := by simp
  have hblk : (((w.alloc (.cells C0 28)).alloc (.cells C1 28)).alloc (.cells Z64 5)).heap[w.heap.size + 1 + 1]? = some (.cells (ints (List.replicate 64 0)).toArray 5 (0, 0)) := by
    rw [← hs2, ← z64_ints]; exact new_block _ _
  have hbl : Below w.heap.size w (((w.alloc (.cells C0 28)).alloc (.cells C1 28)).alloc (.cells Z64 5)) := (((Below.refl _ _).alloc (Nat.le_refl _) _).alloc (by simp) _).alloc (by simp; omega) _
  have hrd := hR.kept hbl
  have hzl : zs.length = len := hR.1
  have HZ : Hid (zs.length ≤ 64) := Lib.hid (by omega)
  have HRC : Hid (0 < (ints zs).length → ∃ ad, A = some ad ∧ ∀ j v, (ints zs)[j]? = some v → (((w.alloc (.cells C0 28)).alloc (.cells C1 28)).alloc (.cells Z64 5)).cell? (ad.add j) = some v) := Lib.hid (fun hp => reads_cells hrd (by rw [ints_length] at hp; omega))
  have HMN : Hid ((ints zs).length = Nat.min len 64) := Lib.hid (by rw [ints_length, hzl]; simp [Nat.min_def]; omega)
  have HF : Hid (0 + (ints zs).length ≤ (ints (List.replicate 64 (0 : Int))).length) := Lib.hid (by rw [ints_length, ints_length, List.length_replicate]; omega)
  obtain ⟨S, hS⟩ : ∃ S, S = strOfNums (pad zs) := ⟨_, rfl⟩
  have HS := Lib.hid hS
  have HPD := Lib.hid (pad_ok hR.bys HZ.out)
  have HG := Lib.hid hblk
  rw [hC0, hC1] at HRC HG
  obtain ⟨i0, hi, hz0, hz1, hz2⟩ := info_parts info71
  have HON : Hid (∀ u ∈ [Value.int .i64 (n : Int), .string S], u.oneCell' = true) := Lib.hid (fun u hu => by simp only [List.mem_cons, List.not_mem_nil, or_false] at hu; rcases hu with rfl | rfl <;> rfl)
  have HMX : Hid (D.wait.length + 1 ≤ maxLen) := Lib.hid (by unfold maxLen; omega)
  have HMB : Hid ((D.wait.length + 1) * 24 ≤ 140737488355328) := Lib.hid (by omega)
  have HN2 : Hid (0 + D.wait.length ≤ 1000000) := Lib.hid (by omega)
  clear h hC0 hC1 hs2 hblk hbl hrd hzl hS hR
  go_enter Try.func33, Try.ntmps33
  go_wp2_with (first
    | ((with_reducible refine wpList_copy_grown rfl (.tmp 10) (.tmp 11) rfl (some ⟨w.heap.size + 1 + 1, 0, none⟩) A 64 64 len cap ?_ ?_ (w.heap.size + 1 + 1) 0 (ints (List.replicate 64 0)) 5 HG.out (ints zs) HMN.out (fun hp => ⟨rfl, HRC.out hp⟩) HF.out (ints_one zs) ?_); rfl; rfl; intro w4 hg4 hgr4; have HX := Lib.hid (put_mid1 H.out hg4 hgr4); clear hg4 hgr4; have HSW := Lib.hid (own_below HX.out.2.2.2.2.1.wait (box_below w4 (.cells #[] 71))); have HO4 : Hid ((w4.alloc (.cells #[] 71)).ownsRow w.heap.size 71 2 (.slice (some ⟨w4.heap.size, 0, none⟩) 0 0) 0 []) := Lib.hid (World.ownsRow_made w4 #[] 0 (by have := HX.out.2.2.2.2.2; omega) (by unfold maxLen; omega) rfl); have HB4 : Hid (w.heap.size ≤ (w4.alloc (.cells #[] 71)).heap.size) := Lib.hid (by have := HX.out.2.2.2.2.2; simp; omega); have d1 : (w4.alloc (.cells #[] 71)).cell? ⟨w.heap.size, 1, none⟩ = some (.slice Aw D.wait.length cw) := ((box_below w4 _).cell (p := ⟨w.heap.size, 1, none⟩) (by have := HX.out.2.2.2.2.2; show w.heap.size < _; omega)).trans (cell_of HX.out.2.1 rfl))
    | (at_builtin; refine wpList_append_src rfl (.tmp 13) (.tmp 15) 26 rfl 71 2 24 (.agg #[.int .i64 0, .string ⟨#[]⟩]) Try.underlying26 info71 rfl (by decide) w.heap.size B (.slice (some ⟨w4.heap.size, 0, none⟩) 0 0) 0 [] rfl HO4.out (.slice Aw D.wait.length cw) D.wait.length (rcells D.wait) rfl HSW.out (rcells_one _) HN2.out (by decide) HB4.out ?_; intro v6 w6 h3 hgr6; have HY := Lib.hid (put_mid2 HX.out.1 HX.out.2.1 HX.out.2.2.1 HX.out.2.2.2.1 h3 hgr6 HX.out.2.2.2.2.2); clear h3 hgr6; obtain ⟨A6, c6, rfl, -, -, -⟩ := own_form HY.out.2.2.2.2; have hcv : (convert 36 9 (.slice (some ⟨w.heap.size + 1 + 1, 0, none⟩) 64 64)).run Try.prog w6 = .ok (.string S) w6 := (by rw [HS.out]; exact conv_reads (ints_read' HPD.out HY.out.2.2.2.1)); have HO6 := Lib.hid (HY.out.2.2.2.2.alloc (.cells #[.int .i64 (n : Int), .string S] 71)); have HN6 : Hid (∀ j u, [Value.int .i64 (n : Int), .string S][j]? = some u → (w6.alloc (.cells #[.int .i64 (n : Int), .string S] 71)).cell? ((⟨w6.heap.size, 0, none⟩ : Addr).add j) = some u) := Lib.hid (World.news_of_block' (new_block w6 _)); have HB6 : Hid (w.heap.size ≤ (w6.alloc (.cells #[.int .i64 (n : Int), .string S] 71)).heap.size) := Lib.hid (by have := HY.out.1.size; simp; omega))
    | (at_builtin; refine wpList_append_own (P := Try.prog) _ rfl (.tmp 17) (.tmp 22) 26 rfl w.heap.size 71 i0 (.agg #[.int .i64 0, .string ⟨#[]⟩]) 2 24 Try.underlying26 hi hz0 hz1 hz2 rfl (by decide) (.slice A6 D.wait.length c6) D.wait.length (rcells D.wait) rfl HO6.out ⟨w6.heap.size, 0, none⟩ 1 1 [.int .i64 (n : Int), .string S] rfl rfl HN6.out HON.out HMX.out HMB.out HB6.out ?_; intro v8 w8 h8 hgr8 _; obtain ⟨A8, c8, rfl, -, -, -⟩ := own_form h8; have HW := Lib.hid (put_mid3 (B := B) HY.out.1 HY.out.2.1 HY.out.2.2.1 HY.out.2.2.2.2 HS.out h8 hgr8); clear h8 hgr8 hcv; have q0 := cell_of HW.out.b0 (j := 0) rfl; have q1 := cell_of HW.out.b0 (j := 1) rfl; have q2 := cell_of HW.out.b0 (j := 2) rfl; have q3 := cell_of HW.out.b0 (j := 3) rfl; have qf := frozen_of_row w8 w.heap.size 1 _ _ HW.out.b0; have p0 := cell_of HW.out.b1 (j := 0) rfl; have p1 := cell_of HW.out.b1 (j := 1) rfl; have p2 := cell_of HW.out.b1 (j := 2) rfl; have p3 := cell_of HW.out.b1 (j := 3) rfl; have pf0 := frozen_of_row w8 (w.heap.size + 1) 0 _ _ HW.out.b1; have pf1 := frozen_of_row w8 (w.heap.size + 1) 1 _ _ HW.out.b1; have pf2 := frozen_of_row w8 (w.heap.size + 1) 2 _ _ HW.out.b1; have pf3 := frozen_of_row w8 (w.heap.size + 1) 3 _ _ HW.out.b1)
    | fail)
  (try simp only [Exit.inBlock, Exit.then])
  have hb1 : (w8.setCell ⟨w.heap.size, 1, none⟩ (.slice A8 (D.wait.length + 1) c8)).heap[w.heap.size + 1]? = some (.cells #[.slice none 0 0, .slice none 0 0, .int .i64 0, .bool false] 28 (0, 0)) := by
    rw [heap_setCell_other _ _ _ _ (by simp)]; exact HW.out.b1
  have hS := set4 hb1 (.slice Af D.firm.length cf) (.slice A8 (D.wait.length + 1) c8) (.int .i64 D.armed) (.bool D.dead)
  refine bodyPost_ret (v := .agg #[.slice Af D.firm.length cf, .slice A8 (D.wait.length + 1) c8, .int .i64 D.armed, .bool D.dead]) (results_cell_row (P := Try.prog) rfl _ _ (w.heap.size + 1) 28 _ (0, 0) _ rfl hS.1 Try.underlying28 rfl (by kernel_rfl)) rfl ?_
  exact put_end H.out hB HW.out (fun k h0 h1 => by rw [hS.2.1 k h1, heap_setCell_other _ _ _ _ h0]) (((Below.refl _ _).setCell (Nat.le_refl _) _).trans (hS.2.2 _ (by simp)))
end Go.Proofs.Ytogofgfdkkjnlaa
