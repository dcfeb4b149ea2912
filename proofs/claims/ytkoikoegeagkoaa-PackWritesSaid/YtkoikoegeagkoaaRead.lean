/-
  What pack.read returns of a kind and a slice of bytes that reads: the field of that kind that they begin with, and how many bytes it has; or what is amiss first. Condition: the slice's length fits its capacity.
-/
import Derived.Test.YtkoikoegeagkoaaJoin
namespace Go.Proofs.Ytkoikoegeagkoaa
open Go.ChangeShapes Go.WideShapes Go.ChangeAt Go.RowKit

def Rd.e : Rd → Int
  | .bad e => e
  | .good _ _ => 0
def Rd.f : Rd → Fld
  | .bad _ => z0
  | .good f _ => f
def Rd.n : Rd → Nat
  | .bad _ => 0
  | .good _ n => n
def ReadPost (w : World) (r : Rd) (e : Ending) (w' : World) : Prop :=
  e = .returned (.tuple #[.agg #[.int .i64 r.f.k, .int .i64 r.f.n, .string r.f.s], .int .i64 (r.n : Int), .int .i64 r.e]) ∧ Below w.heap.size w w'
theorem read_bad (w w' : World) (er : Int) (hb : Below w.heap.size w w') : ReadPost w (.bad er) (.returned (.tuple #[.agg #[.int .i64 0, .int .i64 0, .string ⟨#[]⟩], .int .i64 0, .int .i64 er])) w' := ⟨rfl, hb⟩
theorem read_good (w w' : World) (f : Fld) (n : Nat) (hb : Below w.heap.size w w') : ReadPost w (.good f n) (.returned (.tuple #[.agg #[.int .i64 f.k, .int .i64 f.n, .string f.s], .int .i64 (n : Int), .int .i64 0])) w' := ⟨rfl, hb⟩
theorem read_no (k : Int) (ad : Option Addr) (len cap : Nat) (w : World) (hk : k < 1 ∨ 4 < k) :
    Calls Try.prog 22 #[.int .i64 k, .slice ad len cap] w (ReadPost w (.bad 21)) := by
  have t1 : (k == 1) = false := by simp; omega
  have t2 : (k == 2) = false := by simp; omega
  have t3 : (k == 3) = false := by simp; omega
  have t4 : (k == 4) = false := by simp; omega
  clear hk
  go_enter Try.func22, Try.ntmps22
  go_wp2
  go_step3
  go_wp2
  rw [Exit.noGoto_ret]
  exact bodyPost_ret (v := .tuple #[.agg #[.int .i64 0, .int .i64 0, .string ⟨#[]⟩], .int .i64 0, .int .i64 21]) (by simp [results, Try.results22, go_sem]) rfl (read_bad _ _ _ (boxbox_below _ _ _))
/-- Two new blocks of a field each, as a callee leaves them. -/
theorem two_boxes {w w1 : World} {x0 x1 x2 y0 y1 y2 : Value} (hb : Below ((w.alloc (.cells #[x0, x1, x2] 40)).alloc (.cells #[y0, y1, y2] 40)).heap.size ((w.alloc (.cells #[x0, x1, x2] 40)).alloc (.cells #[y0, y1, y2] 40)) w1) :
    Whole1 w1 w.heap.size 40 #[x0, x1, x2] ∧ Whole1 w1 (w.heap.size + 1) 40 #[y0, y1, y2] ∧ Below w.heap.size w w1 ∧ w.heap.size + 2 ≤ w1.heap.size := by
  have h1 : Whole1 ((w.alloc (.cells #[x0, x1, x2] 40)).alloc (.cells #[y0, y1, y2] 40)) w.heap.size 40 #[x0, x1, x2] := (new_whole w _ _).alloc _
  have h2 : Whole1 ((w.alloc (.cells #[x0, x1, x2] 40)).alloc (.cells #[y0, y1, y2] 40)) (w.heap.size + 1) 40 #[y0, y1, y2] := by
    have h := new_whole (w.alloc (.cells #[x0, x1, x2] 40)) #[y0, y1, y2] 40
    rw [show (w.alloc (.cells #[x0, x1, x2] 40)).heap.size = w.heap.size + 1 by simp] at h
    exact h
  exact ⟨(hb.block _ h1.lt).trans h1, (hb.block _ h2.lt).trans h2, (boxbox_below _ _ _).trans (hb.mono (by simp; omega)), by have := hb.size; simp at this; omega⟩
theorem Whole1.frozen {w : World} {g : Nat} {t : TypeId} {cs : Array Value} (h : Whole1 w g t cs) (i : Nat) : w.frozen? ⟨g, i, none⟩ = false := frozen_of_row w g i cs t h
theorem reads_take {K : IntKind} {w : World} {ad : Option Addr} {len n : Nat} {zs : List Int} (hR : Reads K w ad len zs) (hn : n ≤ len) : Reads K w ad n (zs.take n) := by
  obtain ⟨h1, h2⟩ := hR
  refine ⟨by rw [List.length_take]; omega, fun hp => ?_⟩
  obtain ⟨b, off, rfl, hc⟩ := h2 (by omega)
  refine ⟨b, off, rfl, fun i hi => ?_⟩
  rw [hc i (by omega), List.getD_eq_getElem?_getD, List.getD_eq_getElem?_getD, List.getElem?_take, if_pos hi]
theorem read_small_short (ad : Option Addr) (len cap : Nat) (w : World) (h1 : len < 1) :
    Calls Try.prog 22 #[.int .i64 1, .slice ad len cap] w (ReadPost w (.bad 20)) := by
  have hl1 : (len : Int) < 1 := by omega
  go_enter Try.func22, Try.ntmps22
  go_wp2
  refine wp_scope_once 0 rfl ?_
  go_wp2
  go_step3
  refine ⟨rfl, ?_⟩
  go_wp2
  rw [Exit.noGoto_ret]
  exact bodyPost_ret (v := .tuple #[.agg #[.int .i64 0, .int .i64 0, .string ⟨#[]⟩], .int .i64 0, .int .i64 20]) (by simp [results, Try.results22, go_sem]) rfl (read_bad _ _ _ (boxbox_below _ _ _))
theorem read_small_bad (b off len cap : Nat) (zs : List Int) (w : World) (hR : Reads .u8 w (some ⟨b, off, none⟩) len zs) (hB : Bys zs) (hc : len ≤ cap) (h1 : 1 ≤ len) (N a : Int) (hN : wrap64 (num (zs.take 1)) = N) (ha : ams ⟨1, N, ⟨#[]⟩⟩ = a) (hz : a ≠ 0) :
    Calls Try.prog 22 #[.int .i64 1, .slice (some ⟨b, off, none⟩) len cap] w (ReadPost w (.bad a)) := by
  have HR := Lib.hid (reads_take hR h1)
  have HB := Lib.hid (bys_take 1 hB)
  have HN := Lib.hid hN
  have HA := Lib.hid ha
  have hc1 : (1 : Int) ≤ (cap : Int) := by omega
  have hl1 : (1 : Int) ≤ (len : Int) := by omega
  have hz' : (a != 0) = true := by simpa using hz
  clear hR hB hN ha hz
  go_enter Try.func22, Try.ntmps22
  go_wp2
  refine wp_scope_once 0 rfl ?_
  go_wp2
  go_step3
  refine ⟨rfl, ?_⟩
  go_wp2_with fail
  refine (join_any _ 1 cap (zs.take 1) _ (HR.out.kept (boxbox_below _ _ _)) HB.out (by decide)).mono ?_
  rintro e w0 ⟨rfl, rfl⟩
  rw [HN.out]
  go_wp2_with fail
  refine (amiss_any ⟨1, N, ⟨#[]⟩⟩ _).mono ?_
  rintro e w1 ⟨rfl, hb1⟩
  rw [HA.out]
  have HX := Lib.hid (two_boxes hb1)
  have x0 := HX.out.1.cell 0
  have x1 := HX.out.1.cell 1
  have x2 := HX.out.1.cell 2
  have f0 := HX.out.1.frozen 0
  have f1 := HX.out.1.frozen 1
  have f2 := HX.out.1.frozen 2
  have hs := HX.out.2.2.2
  clear hb1
  go_wp2
  rw [Exit.noGoto_ret]
  exact bodyPost_ret (v := .tuple #[.agg #[.int .i64 0, .int .i64 0, .string ⟨#[]⟩], .int .i64 0, .int .i64 a]) (by simp [results, Try.results22, go_sem, x0, x1, x2]) rfl (read_bad _ _ _ (((HX.out.2.2.1.setCell (by simp) _).setCell (by simp) _).setCell (by simp) _))
theorem read_small_good (b off len cap : Nat) (zs : List Int) (w : World) (hR : Reads .u8 w (some ⟨b, off, none⟩) len zs) (hB : Bys zs) (hc : len ≤ cap) (h1 : 1 ≤ len) (N : Int) (hN : wrap64 (num (zs.take 1)) = N) (ha : ams ⟨1, N, ⟨#[]⟩⟩ = 0) :
    Calls Try.prog 22 #[.int .i64 1, .slice (some ⟨b, off, none⟩) len cap] w (ReadPost w (.good ⟨1, N, ⟨#[]⟩⟩ 1)) := by
  have HR := Lib.hid (reads_take hR h1)
  have HB := Lib.hid (bys_take 1 hB)
  have HN := Lib.hid hN
  have HA := Lib.hid ha
  have hc1 : (1 : Int) ≤ (cap : Int) := by omega
  have hl1 : (1 : Int) ≤ (len : Int) := by omega
  clear hR hB hN ha
  go_enter Try.func22, Try.ntmps22
  go_wp2
  refine wp_scope_once 0 rfl ?_
  go_wp2
  go_step3
  refine ⟨rfl, ?_⟩
  go_wp2_with fail
  refine (join_any _ 1 cap (zs.take 1) _ (HR.out.kept (boxbox_below _ _ _)) HB.out (by decide)).mono ?_
  rintro e w0 ⟨rfl, rfl⟩
  rw [HN.out]
  go_wp2_with fail
  refine (amiss_any ⟨1, N, ⟨#[]⟩⟩ _).mono ?_
  rintro e w1 ⟨rfl, hb1⟩
  rw [HA.out]
  have HX := Lib.hid (two_boxes hb1)
  have x0 := HX.out.1.cell 0
  have x1 := HX.out.1.cell 1
  have x2 := HX.out.1.cell 2
  have f0 := HX.out.1.frozen 0
  have f1 := HX.out.1.frozen 1
  have f2 := HX.out.1.frozen 2
  have y0 := HX.out.2.1.cell 0
  have y1 := HX.out.2.1.cell 1
  have y2 := HX.out.2.1.cell 2
  have hs := HX.out.2.2.2
  clear hb1
  go_wp2
  rw [Exit.noGoto_ret]
  exact bodyPost_ret (v := .tuple #[.agg #[.int .i64 1, .int .i64 N, .string ⟨#[]⟩], .int .i64 1, .int .i64 0]) (by simp [results, Try.results22, go_sem, x0, x1, x2]) rfl (read_good _ _ ⟨1, N, ⟨#[]⟩⟩ 1 (((HX.out.2.2.1.setCell (by simp) _).setCell (by simp) _).setCell (by simp) _))
theorem read_switch_short (ad : Option Addr) (len cap : Nat) (w : World) (h1 : len < 1) :
    Calls Try.prog 22 #[.int .i64 4, .slice ad len cap] w (ReadPost w (.bad 20)) := by
  have hl1 : (len : Int) < 1 := by omega
  go_enter Try.func22, Try.ntmps22
  go_wp2
  refine wp_scope_once 0 rfl ?_
  go_wp2
  go_step3
  refine ⟨rfl, ?_⟩
  go_wp2
  rw [Exit.noGoto_ret]
  exact bodyPost_ret (v := .tuple #[.agg #[.int .i64 0, .int .i64 0, .string ⟨#[]⟩], .int .i64 0, .int .i64 20]) (by simp [results, Try.results22, go_sem]) rfl (read_bad _ _ _ (boxbox_below _ _ _))
theorem read_switch_bad (b off len cap : Nat) (zs : List Int) (w : World) (hR : Reads .u8 w (some ⟨b, off, none⟩) len zs) (hB : Bys zs) (hc : len ≤ cap) (h1 : 1 ≤ len) (N a : Int) (hN : wrap64 (num (zs.take 1)) = N) (ha : ams ⟨4, N, ⟨#[]⟩⟩ = a) (hz : a ≠ 0) :
    Calls Try.prog 22 #[.int .i64 4, .slice (some ⟨b, off, none⟩) len cap] w (ReadPost w (.bad a)) := by
  have HR := Lib.hid (reads_take hR h1)
  have HB := Lib.hid (bys_take 1 hB)
  have HN := Lib.hid hN
  have HA := Lib.hid ha
  have hc1 : (1 : Int) ≤ (cap : Int) := by omega
  have hl1 : (1 : Int) ≤ (len : Int) := by omega
  have hz' : (a != 0) = true := by simpa using hz
  clear hR hB hN ha hz
  go_enter Try.func22, Try.ntmps22
  go_wp2
  refine wp_scope_once 0 rfl ?_
  go_wp2
  go_step3
  refine ⟨rfl, ?_⟩
  go_wp2_with fail
  refine (join_any _ 1 cap (zs.take 1) _ (HR.out.kept (boxbox_below _ _ _)) HB.out (by decide)).mono ?_
  rintro e w0 ⟨rfl, rfl⟩
  rw [HN.out]
  go_wp2_with fail
  refine (amiss_any ⟨4, N, ⟨#[]⟩⟩ _).mono ?_
  rintro e w1 ⟨rfl, hb1⟩
  rw [HA.out]
  have HX := Lib.hid (two_boxes hb1)
  have x0 := HX.out.1.cell 0
  have x1 := HX.out.1.cell 1
  have x2 := HX.out.1.cell 2
  have f0 := HX.out.1.frozen 0
  have f1 := HX.out.1.frozen 1
  have f2 := HX.out.1.frozen 2
  have hs := HX.out.2.2.2
  clear hb1
  go_wp2
  rw [Exit.noGoto_ret]
  exact bodyPost_ret (v := .tuple #[.agg #[.int .i64 0, .int .i64 0, .string ⟨#[]⟩], .int .i64 0, .int .i64 a]) (by simp [results, Try.results22, go_sem, x0, x1, x2]) rfl (read_bad _ _ _ (((HX.out.2.2.1.setCell (by simp) _).setCell (by simp) _).setCell (by simp) _))
theorem read_switch_good (b off len cap : Nat) (zs : List Int) (w : World) (hR : Reads .u8 w (some ⟨b, off, none⟩) len zs) (hB : Bys zs) (hc : len ≤ cap) (h1 : 1 ≤ len) (N : Int) (hN : wrap64 (num (zs.take 1)) = N) (ha : ams ⟨4, N, ⟨#[]⟩⟩ = 0) :
    Calls Try.prog 22 #[.int .i64 4, .slice (some ⟨b, off, none⟩) len cap] w (ReadPost w (.good ⟨4, N, ⟨#[]⟩⟩ 1)) := by
  have HR := Lib.hid (reads_take hR h1)
  have HB := Lib.hid (bys_take 1 hB)
  have HN := Lib.hid hN
  have HA := Lib.hid ha
  have hc1 : (1 : Int) ≤ (cap : Int) := by omega
  have hl1 : (1 : Int) ≤ (len : Int) := by omega
  clear hR hB hN ha
  go_enter Try.func22, Try.ntmps22
  go_wp2
  refine wp_scope_once 0 rfl ?_
  go_wp2
  go_step3
  refine ⟨rfl, ?_⟩
  go_wp2_with fail
  refine (join_any _ 1 cap (zs.take 1) _ (HR.out.kept (boxbox_below _ _ _)) HB.out (by decide)).mono ?_
  rintro e w0 ⟨rfl, rfl⟩
  rw [HN.out]
  go_wp2_with fail
  refine (amiss_any ⟨4, N, ⟨#[]⟩⟩ _).mono ?_
  rintro e w1 ⟨rfl, hb1⟩
  rw [HA.out]
  have HX := Lib.hid (two_boxes hb1)
  have x0 := HX.out.1.cell 0
  have x1 := HX.out.1.cell 1
  have x2 := HX.out.1.cell 2
  have f0 := HX.out.1.frozen 0
  have f1 := HX.out.1.frozen 1
  have f2 := HX.out.1.frozen 2
  have y0 := HX.out.2.1.cell 0
  have y1 := HX.out.2.1.cell 1
  have y2 := HX.out.2.1.cell 2
  have hs := HX.out.2.2.2
  clear hb1
  go_wp2
  rw [Exit.noGoto_ret]
  exact bodyPost_ret (v := .tuple #[.agg #[.int .i64 4, .int .i64 N, .string ⟨#[]⟩], .int .i64 1, .int .i64 0]) (by simp [results, Try.results22, go_sem, x0, x1, x2]) rfl (read_good _ _ ⟨4, N, ⟨#[]⟩⟩ 1 (((HX.out.2.2.1.setCell (by simp) _).setCell (by simp) _).setCell (by simp) _))
theorem read_whole_short (ad : Option Addr) (len cap : Nat) (w : World) (h1 : len < 8) :
    Calls Try.prog 22 #[.int .i64 2, .slice ad len cap] w (ReadPost w (.bad 20)) := by
  have hl1 : (len : Int) < 8 := by omega
  go_enter Try.func22, Try.ntmps22
  go_wp2
  refine wp_scope_once 0 rfl ?_
  go_wp2
  go_step3
  refine ⟨rfl, ?_⟩
  go_wp2
  rw [Exit.noGoto_ret]
  exact bodyPost_ret (v := .tuple #[.agg #[.int .i64 0, .int .i64 0, .string ⟨#[]⟩], .int .i64 0, .int .i64 20]) (by simp [results, Try.results22, go_sem]) rfl (read_bad _ _ _ (boxbox_below _ _ _))
theorem read_whole_bad (b off len cap : Nat) (zs : List Int) (w : World) (hR : Reads .u8 w (some ⟨b, off, none⟩) len zs) (hB : Bys zs) (hc : len ≤ cap) (h1 : 8 ≤ len) (N a : Int) (hN : wrap64 (num (zs.take 8)) = N) (ha : ams ⟨2, N, ⟨#[]⟩⟩ = a) (hz : a ≠ 0) :
    Calls Try.prog 22 #[.int .i64 2, .slice (some ⟨b, off, none⟩) len cap] w (ReadPost w (.bad a)) := by
  have HR := Lib.hid (reads_take hR h1)
  have HB := Lib.hid (bys_take 8 hB)
  have HN := Lib.hid hN
  have HA := Lib.hid ha
  have hc1 : (8 : Int) ≤ (cap : Int) := by omega
  have hl1 : (8 : Int) ≤ (len : Int) := by omega
  have hz' : (a != 0) = true := by simpa using hz
  clear hR hB hN ha hz
  go_enter Try.func22, Try.ntmps22
  go_wp2
  refine wp_scope_once 0 rfl ?_
  go_wp2
  go_step3
  refine ⟨rfl, ?_⟩
  go_wp2_with fail
  refine (join_any _ 8 cap (zs.take 8) _ (HR.out.kept (boxbox_below _ _ _)) HB.out (by decide)).mono ?_
  rintro e w0 ⟨rfl, rfl⟩
  rw [HN.out]
  go_wp2_with fail
  refine (amiss_any ⟨2, N, ⟨#[]⟩⟩ _).mono ?_
  rintro e w1 ⟨rfl, hb1⟩
  rw [HA.out]
  have HX := Lib.hid (two_boxes hb1)
  have x0 := HX.out.1.cell 0
  have x1 := HX.out.1.cell 1
  have x2 := HX.out.1.cell 2
  have f0 := HX.out.1.frozen 0
  have f1 := HX.out.1.frozen 1
  have f2 := HX.out.1.frozen 2
  have hs := HX.out.2.2.2
  clear hb1
  go_wp2
  rw [Exit.noGoto_ret]
  exact bodyPost_ret (v := .tuple #[.agg #[.int .i64 0, .int .i64 0, .string ⟨#[]⟩], .int .i64 0, .int .i64 a]) (by simp [results, Try.results22, go_sem, x0, x1, x2]) rfl (read_bad _ _ _ (((HX.out.2.2.1.setCell (by simp) _).setCell (by simp) _).setCell (by simp) _))
theorem read_whole_good (b off len cap : Nat) (zs : List Int) (w : World) (hR : Reads .u8 w (some ⟨b, off, none⟩) len zs) (hB : Bys zs) (hc : len ≤ cap) (h1 : 8 ≤ len) (N : Int) (hN : wrap64 (num (zs.take 8)) = N) (ha : ams ⟨2, N, ⟨#[]⟩⟩ = 0) :
    Calls Try.prog 22 #[.int .i64 2, .slice (some ⟨b, off, none⟩) len cap] w (ReadPost w (.good ⟨2, N, ⟨#[]⟩⟩ 8)) := by
  have HR := Lib.hid (reads_take hR h1)
  have HB := Lib.hid (bys_take 8 hB)
  have HN := Lib.hid hN
  have HA := Lib.hid ha
  have hc1 : (8 : Int) ≤ (cap : Int) := by omega
  have hl1 : (8 : Int) ≤ (len : Int) := by omega
  clear hR hB hN ha
  go_enter Try.func22, Try.ntmps22
  go_wp2
  refine wp_scope_once 0 rfl ?_
  go_wp2
  go_step3
  refine ⟨rfl, ?_⟩
  go_wp2_with fail
  refine (join_any _ 8 cap (zs.take 8) _ (HR.out.kept (boxbox_below _ _ _)) HB.out (by decide)).mono ?_
  rintro e w0 ⟨rfl, rfl⟩
  rw [HN.out]
  go_wp2_with fail
  refine (amiss_any ⟨2, N, ⟨#[]⟩⟩ _).mono ?_
  rintro e w1 ⟨rfl, hb1⟩
  rw [HA.out]
  have HX := Lib.hid (two_boxes hb1)
  have x0 := HX.out.1.cell 0
  have x1 := HX.out.1.cell 1
  have x2 := HX.out.1.cell 2
  have f0 := HX.out.1.frozen 0
  have f1 := HX.out.1.frozen 1
  have f2 := HX.out.1.frozen 2
  have y0 := HX.out.2.1.cell 0
  have y1 := HX.out.2.1.cell 1
  have y2 := HX.out.2.1.cell 2
  have hs := HX.out.2.2.2
  clear hb1
  go_wp2
  rw [Exit.noGoto_ret]
  exact bodyPost_ret (v := .tuple #[.agg #[.int .i64 2, .int .i64 N, .string ⟨#[]⟩], .int .i64 8, .int .i64 0]) (by simp [results, Try.results22, go_sem, x0, x1, x2]) rfl (read_good _ _ ⟨2, N, ⟨#[]⟩⟩ 8 (((HX.out.2.2.1.setCell (by simp) _).setCell (by simp) _).setCell (by simp) _))
theorem read_text_short (ad : Option Addr) (len cap : Nat) (w : World) (h1 : len < 2) :
    Calls Try.prog 22 #[.int .i64 3, .slice ad len cap] w (ReadPost w (.bad 20)) := by
  have hl1 : (len : Int) < 2 := by omega
  go_enter Try.func22, Try.ntmps22
  go_wp2
  refine wp_scope_once 1 rfl ?_
  go_wp2
  go_step3
  refine ⟨rfl, ?_⟩
  go_wp2
  rw [Exit.noGoto_ret]
  exact bodyPost_ret (v := .tuple #[.agg #[.int .i64 0, .int .i64 0, .string ⟨#[]⟩], .int .i64 0, .int .i64 20]) (by simp [results, Try.results22, go_sem]) rfl (read_bad _ _ _ (boxbox_below _ _ _))
theorem read_text_long (b off len cap m : Nat) (zs : List Int) (w : World) (hR : Reads .u8 w (some ⟨b, off, none⟩) len zs) (hB : Bys zs) (hc : len ≤ cap) (h1 : 2 ≤ len) (hN : wrap64 (num (zs.take 2)) = (m : Int)) (hm : 1024 < m) (hm2 : m ≤ 65535) :
    Calls Try.prog 22 #[.int .i64 3, .slice (some ⟨b, off, none⟩) len cap] w (ReadPost w (.bad 22)) := by
  have HR := Lib.hid (reads_take hR h1)
  have HB := Lib.hid (bys_take 2 hB)
  have HN := Lib.hid hN
  have hc1 : (2 : Int) ≤ (cap : Int) := by omega
  have hl1 : (2 : Int) ≤ (len : Int) := by omega
  clear hR hB hN
  go_enter Try.func22, Try.ntmps22
  go_wp2
  refine wp_scope_once 1 rfl ?_
  go_wp2
  go_step3
  refine ⟨rfl, ?_⟩
  go_wp2_with fail
  refine (join_any _ 2 cap (zs.take 2) _ (HR.out.kept (boxbox_below _ _ _)) HB.out (by decide)).mono ?_
  rintro e w0 ⟨rfl, rfl⟩
  rw [HN.out]
  go_wp2
  rw [Exit.noGoto_ret]
  exact bodyPost_ret (v := .tuple #[.agg #[.int .i64 0, .int .i64 0, .string ⟨#[]⟩], .int .i64 0, .int .i64 22]) (by simp [results, Try.results22, go_sem]) rfl (read_bad _ _ _ (boxbox_below _ _ _))
theorem read_text_cut (b off len cap m : Nat) (zs : List Int) (w : World) (hR : Reads .u8 w (some ⟨b, off, none⟩) len zs) (hB : Bys zs) (hc : len ≤ cap) (h1 : 2 ≤ len) (hN : wrap64 (num (zs.take 2)) = (m : Int)) (hm : m ≤ 1024) (hl : len < 2 + m) :
    Calls Try.prog 22 #[.int .i64 3, .slice (some ⟨b, off, none⟩) len cap] w (ReadPost w (.bad 20)) := by
  have HR := Lib.hid (reads_take hR h1)
  have HB := Lib.hid (bys_take 2 hB)
  have HN := Lib.hid hN
  have hc1 : (2 : Int) ≤ (cap : Int) := by omega
  have hl1 : (2 : Int) ≤ (len : Int) := by omega
  have hl2 : (len : Int) < 2 + (m : Int) := by omega
  clear hR hB hN
  go_enter Try.func22, Try.ntmps22
  go_wp2
  refine wp_scope_once 1 rfl ?_
  go_wp2
  go_step3
  refine ⟨rfl, ?_⟩
  go_wp2_with fail
  refine (join_any _ 2 cap (zs.take 2) _ (HR.out.kept (boxbox_below _ _ _)) HB.out (by decide)).mono ?_
  rintro e w0 ⟨rfl, rfl⟩
  rw [HN.out]
  go_wp2
  rw [Exit.noGoto_ret]
  exact bodyPost_ret (v := .tuple #[.agg #[.int .i64 0, .int .i64 0, .string ⟨#[]⟩], .int .i64 0, .int .i64 20]) (by simp [results, Try.results22, go_sem]) rfl (read_bad _ _ _ (boxbox_below _ _ _))
end Go.Proofs.Ytkoikoegeagkoaa
