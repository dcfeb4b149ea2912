/-
  What pack.read returns of a kind and a slice of bytes that reads: the field of that kind that they begin with, and how many bytes it has; or what is amiss first. Condition: the slice's length fits its capacity.
  What pack.read returns of a kind and a slice of bytes that reads, all kinds together. Condition: the slice's length fits its capacity.
-/
import Derived.Test.YtflgemlhocjipaaGreatDoorQJoin
import Derived.Laws.BytesArg
namespace Go.Proofs.YtflgemlhocjipaaGreatDoor.Pq
set_option maxRecDepth 100000
open Go.ChangeShapes Go.WideShapes Go.ChangeAt Go.RowKit

def Rd.e : Rd → Int
  | .bad e => e
  | .good _ _ => 0
def Rd.f : Rd → Fld
  | .bad _ => z0
  | .good f _ => f
def Rd.n : Rd → Nat
  | .bad _ => 0
  | .good _ n => n
def ReadPost (w : World) (r : Rd) (e : Ending) (w' : World) : Prop :=
  e = .returned (.tuple #[.agg #[.int .i64 r.f.k, .int .i64 r.f.n, .string r.f.s], .int .i64 (r.n : Int), .int .i64 r.e]) ∧ Below w.heap.size w w'
theorem read_bad (w w' : World) (er : Int) (hb : Below w.heap.size w w') : ReadPost w (.bad er) (.returned (.tuple #[.agg #[.int .i64 0, .int .i64 0, .string ⟨#[]⟩], .int .i64 0, .int .i64 er])) w' := ⟨rfl, hb⟩
theorem read_good (w w' : World) (f : Fld) (n : Nat) (hb : Below w.heap.size w w') : ReadPost w (.good f n) (.returned (.tuple #[.agg #[.int .i64 f.k, .int .i64 f.n, .string f.s], .int .i64 (n : Int), .int .i64 0])) w' := ⟨rfl, hb⟩
theorem read_no (k : Int) (ad : Option Addr) (len cap : Nat) (w : World) (hk : k < 1 ∨ 4 < k) :
    Calls Tryz.prog 134 #[.int .i64 k, .slice ad len cap] w (ReadPost w (.bad 21)) := by
  have t1 : (k == 1) = false := by simp; omega
  have t2 : (k == 2) = false := by simp; omega
  have t3 : (k == 3) = false := by simp; omega
  have t4 : (k == 4) = false := by simp; omega
  clear hk
  go_enter Tryz.func134, Tryz.ntmps134
  go_wp2
  go_step3
  go_wp2
  rw [Exit.noGoto_ret]
  exact bodyPost_ret (v := .tuple #[.agg #[.int .i64 0, .int .i64 0, .string ⟨#[]⟩], .int .i64 0, .int .i64 21]) (by simp [results, Tryz.results134, go_sem]) rfl (read_bad _ _ _ (boxbox_below _ _ _))
/-- Two new blocks of a field each, as a callee leaves them. -/
theorem two_boxes {w w1 : World} {x0 x1 x2 y0 y1 y2 : Value} (hb : Below ((w.alloc (.cells #[x0, x1, x2] 112)).alloc (.cells #[y0, y1, y2] 112)).heap.size ((w.alloc (.cells #[x0, x1, x2] 112)).alloc (.cells #[y0, y1, y2] 112)) w1) :
    Whole1 w1 w.heap.size 112 #[x0, x1, x2] ∧ Whole1 w1 (w.heap.size + 1) 112 #[y0, y1, y2] ∧ Below w.heap.size w w1 ∧ w.heap.size + 2 ≤ w1.heap.size := by
  have h1 : Whole1 ((w.alloc (.cells #[x0, x1, x2] 112)).alloc (.cells #[y0, y1, y2] 112)) w.heap.size 112 #[x0, x1, x2] := (new_whole w _ _).alloc _
  have h2 : Whole1 ((w.alloc (.cells #[x0, x1, x2] 112)).alloc (.cells #[y0, y1, y2] 112)) (w.heap.size + 1) 112 #[y0, y1, y2] := by
    have h := new_whole (w.alloc (.cells #[x0, x1, x2] 112)) #[y0, y1, y2] 112
    rw [show (w.alloc (.cells #[x0, x1, x2] 112)).heap.size = w.heap.size + 1 by simp] at h
    exact h
  exact ⟨(hb.block _ h1.lt).trans h1, (hb.block _ h2.lt).trans h2, (boxbox_below _ _ _).trans (hb.mono (by simp; omega)), by have := hb.size; simp at this; omega⟩
theorem Whole1.frozen {w : World} {g : Nat} {t : TypeId} {cs : Array Value} (h : Whole1 w g t cs) (i : Nat) : w.frozen? ⟨g, i, none⟩ = false := frozen_of_row w g i cs t h
theorem reads_take {K : IntKind} {w : World} {ad : Option Addr} {len n : Nat} {zs : List Int} (hR : Reads K w ad len zs) (hn : n ≤ len) : Reads K w ad n (zs.take n) := by
  obtain ⟨h1, h2⟩ := hR
  refine ⟨by rw [List.length_take]; omega, fun hp => ?_⟩
  obtain ⟨b, off, rfl, hc⟩ := h2 (by omega)
  refine ⟨b, off, rfl, fun i hi => ?_⟩
  rw [hc i (by omega), List.getD_eq_getElem?_getD, List.getD_eq_getElem?_getD, List.getElem?_take, if_pos hi]
theorem read_small_short (ad : Option Addr) (len cap : Nat) (w : World) (h1 : len < 1) :
    Calls Tryz.prog 134 #[.int .i64 1, .slice ad len cap] w (ReadPost w (.bad 20)) := by
  have hl1 : (len : Int) < 1 := by omega
  go_enter Tryz.func134, Tryz.ntmps134
  go_wp2
  refine wp_scope_once 0 rfl ?_
  go_wp2
  go_step3
  refine ⟨rfl, ?_⟩
  go_wp2
  rw [Exit.noGoto_ret]
  exact bodyPost_ret (v := .tuple #[.agg #[.int .i64 0, .int .i64 0, .string ⟨#[]⟩], .int .i64 0, .int .i64 20]) (by simp [results, Tryz.results134, go_sem]) rfl (read_bad _ _ _ (boxbox_below _ _ _))
theorem read_small_bad (b off len cap : Nat) (zs : List Int) (w : World) (hR : Reads .u8 w (some ⟨b, off, none⟩) len zs) (hB : Bys zs) (hc : len ≤ cap) (h1 : 1 ≤ len) (N a : Int) (hN : wrap64 (num (zs.take 1)) = N) (ha : ams ⟨1, N, ⟨#[]⟩⟩ = a) (hz : a ≠ 0) :
    Calls Tryz.prog 134 #[.int .i64 1, .slice (some ⟨b, off, none⟩) len cap] w (ReadPost w (.bad a)) := by
  have HR := Lib.hid (reads_take hR h1)
  have HB := Lib.hid (bys_take 1 hB)
  have HN := Lib.hid hN
  have HA := Lib.hid ha
  have hc1 : (1 : Int) ≤ (cap : Int) := by omega
  have hl1 : (1 : Int) ≤ (len : Int) := by omega
  have hz' : (a != 0) = true := by simpa using hz
  clear hR hB hN ha hz
  go_enter Tryz.func134, Tryz.ntmps134
  go_wp2
  refine wp_scope_once 0 rfl ?_
  go_wp2
  go_step3
  refine ⟨rfl, ?_⟩
  go_wp2_with fail
  refine (join_any _ 1 cap (zs.take 1) _ (HR.out.kept (boxbox_below _ _ _)) HB.out (by decide)).mono ?_
  rintro e w0 ⟨rfl, rfl⟩
  rw [HN.out]
  go_wp2_with fail
  refine (amiss_any ⟨1, N, ⟨#[]⟩⟩ _).mono ?_
  rintro e w1 ⟨rfl, hb1⟩
  rw [HA.out]
  have HX := Lib.hid (two_boxes hb1)
  have x0 := HX.out.1.cell 0
  have x1 := HX.out.1.cell 1
  have x2 := HX.out.1.cell 2
  have f0 := HX.out.1.frozen 0
  have f1 := HX.out.1.frozen 1
  have f2 := HX.out.1.frozen 2
  have hs := HX.out.2.2.2
  clear hb1
  go_wp2
  rw [Exit.noGoto_ret]
  exact bodyPost_ret (v := .tuple #[.agg #[.int .i64 0, .int .i64 0, .string ⟨#[]⟩], .int .i64 0, .int .i64 a]) (by simp [results, Tryz.results134, go_sem, x0, x1, x2]) rfl (read_bad _ _ _ (((HX.out.2.2.1.setCell (by simp) _).setCell (by simp) _).setCell (by simp) _))
theorem read_small_good (b off len cap : Nat) (zs : List Int) (w : World) (hR : Reads .u8 w (some ⟨b, off, none⟩) len zs) (hB : Bys zs) (hc : len ≤ cap) (h1 : 1 ≤ len) (N : Int) (hN : wrap64 (num (zs.take 1)) = N) (ha : ams ⟨1, N, ⟨#[]⟩⟩ = 0) :
    Calls Tryz.prog 134 #[.int .i64 1, .slice (some ⟨b, off, none⟩) len cap] w (ReadPost w (.good ⟨1, N, ⟨#[]⟩⟩ 1)) := by
  have HR := Lib.hid (reads_take hR h1)
  have HB := Lib.hid (bys_take 1 hB)
  have HN := Lib.hid hN
  have HA := Lib.hid ha
  have hc1 : (1 : Int) ≤ (cap : Int) := by omega
  have hl1 : (1 : Int) ≤ (len : Int) := by omega
  clear hR hB hN ha
  go_enter Tryz.func134, Tryz.ntmps134
  go_wp2
  refine wp_scope_once 0 rfl ?_
  go_wp2
  go_step3
  refine ⟨rfl, ?_⟩
  go_wp2_with fail
  refine (join_any _ 1 cap (zs.take 1) _ (HR.out.kept (boxbox_below _ _ _)) HB.out (by decide)).mono ?_
  rintro e w0 ⟨rfl, rfl⟩
  rw [HN.out]
  go_wp2_with fail
  refine (amiss_any ⟨1, N, ⟨#[]⟩⟩ _).mono ?_
  rintro e w1 ⟨rfl, hb1⟩
  rw [HA.out]
  have HX := Lib.hid (two_boxes hb1)
  have x0 := HX.out.1.cell 0
  have x1 := HX.out.1.cell 1
  have x2 := HX.out.1.cell 2
  have f0 := HX.out.1.frozen 0
  have f1 := HX.out.1.frozen 1
  have f2 := HX.out.1.frozen 2
  have y0 := HX.out.2.1.cell 0
  have y1 := HX.out.2.1.cell 1
  have y2 := HX.out.2.1.cell 2
  have hs := HX.out.2.2.2
  clear hb1
  go_wp2
  rw [Exit.noGoto_ret]
  exact bodyPost_ret (v := .tuple #[.agg #[.int .i64 1, .int .i64 N, .string ⟨#[]⟩], .int .i64 1, .int .i64 0]) (by simp [results, Tryz.results134, go_sem, x0, x1, x2]) rfl (read_good _ _ ⟨1, N, ⟨#[]⟩⟩ 1 (((HX.out.2.2.1.setCell (by simp) _).setCell (by simp) _).setCell (by simp) _))
theorem read_switch_short (ad : Option Addr) (len cap : Nat) (w : World) (h1 : len < 1) :
    Calls Tryz.prog 134 #[.int .i64 4, .slice ad len cap] w (ReadPost w (.bad 20)) := by
  have hl1 : (len : Int) < 1 := by omega
  go_enter Tryz.func134, Tryz.ntmps134
  go_wp2
  refine wp_scope_once 0 rfl ?_
  go_wp2
  go_step3
  refine ⟨rfl, ?_⟩
  go_wp2
  rw [Exit.noGoto_ret]
  exact bodyPost_ret (v := .tuple #[.agg #[.int .i64 0, .int .i64 0, .string ⟨#[]⟩], .int .i64 0, .int .i64 20]) (by simp [results, Tryz.results134, go_sem]) rfl (read_bad _ _ _ (boxbox_below _ _ _))
theorem read_switch_bad (b off len cap : Nat) (zs : List Int) (w : World) (hR : Reads .u8 w (some ⟨b, off, none⟩) len zs) (hB : Bys zs) (hc : len ≤ cap) (h1 : 1 ≤ len) (N a : Int) (hN : wrap64 (num (zs.take 1)) = N) (ha : ams ⟨4, N, ⟨#[]⟩⟩ = a) (hz : a ≠ 0) :
    Calls Tryz.prog 134 #[.int .i64 4, .slice (some ⟨b, off, none⟩) len cap] w (ReadPost w (.bad a)) := by
  have HR := Lib.hid (reads_take hR h1)
  have HB := Lib.hid (bys_take 1 hB)
  have HN := Lib.hid hN
  have HA := Lib.hid ha
  have hc1 : (1 : Int) ≤ (cap : Int) := by omega
  have hl1 : (1 : Int) ≤ (len : Int) := by omega
  have hz' : (a != 0) = true := by simpa using hz
  clear hR hB hN ha hz
  go_enter Tryz.func134, Tryz.ntmps134
  go_wp2
  refine wp_scope_once 0 rfl ?_
  go_wp2
  go_step3
  refine ⟨rfl, ?_⟩
  go_wp2_with fail
  refine (join_any _ 1 cap (zs.take 1) _ (HR.out.kept (boxbox_below _ _ _)) HB.out (by decide)).mono ?_
  rintro e w0 ⟨rfl, rfl⟩
  rw [HN.out]
  go_wp2_with fail
  refine (amiss_any ⟨4, N, ⟨#[]⟩⟩ _).mono ?_
  rintro e w1 ⟨rfl, hb1⟩
  rw [HA.out]
  have HX := Lib.hid (two_boxes hb1)
  have x0 := HX.out.1.cell 0
  have x1 := HX.out.1.cell 1
  have x2 := HX.out.1.cell 2
  have f0 := HX.out.1.frozen 0
  have f1 := HX.out.1.frozen 1
  have f2 := HX.out.1.frozen 2
  have hs := HX.out.2.2.2
  clear hb1
  go_wp2
  rw [Exit.noGoto_ret]
  exact bodyPost_ret (v := .tuple #[.agg #[.int .i64 0, .int .i64 0, .string ⟨#[]⟩], .int .i64 0, .int .i64 a]) (by simp [results, Tryz.results134, go_sem, x0, x1, x2]) rfl (read_bad _ _ _ (((HX.out.2.2.1.setCell (by simp) _).setCell (by simp) _).setCell (by simp) _))
theorem read_switch_good (b off len cap : Nat) (zs : List Int) (w : World) (hR : Reads .u8 w (some ⟨b, off, none⟩) len zs) (hB : Bys zs) (hc : len ≤ cap) (h1 : 1 ≤ len) (N : Int) (hN : wrap64 (num (zs.take 1)) = N) (ha : ams ⟨4, N, ⟨#[]⟩⟩ = 0) :
    Calls Tryz.prog 134 #[.int .i64 4, .slice (some ⟨b, off, none⟩) len cap] w (ReadPost w (.good ⟨4, N, ⟨#[]⟩⟩ 1)) := by
  have HR := Lib.hid (reads_take hR h1)
  have HB := Lib.hid (bys_take 1 hB)
  have HN := Lib.hid hN
  have HA := Lib.hid ha
  have hc1 : (1 : Int) ≤ (cap : Int) := by omega
  have hl1 : (1 : Int) ≤ (len : Int) := by omega
  clear hR hB hN ha
  go_enter Tryz.func134, Tryz.ntmps134
  go_wp2
  refine wp_scope_once 0 rfl ?_
  go_wp2
  go_step3
  refine ⟨rfl, ?_⟩
  go_wp2_with fail
  refine (join_any _ 1 cap (zs.take 1) _ (HR.out.kept (boxbox_below _ _ _)) HB.out (by decide)).mono ?_
  rintro e w0 ⟨rfl, rfl⟩
  rw [HN.out]
  go_wp2_with fail
  refine (amiss_any ⟨4, N, ⟨#[]⟩⟩ _).mono ?_
  rintro e w1 ⟨rfl, hb1⟩
  rw [HA.out]
  have HX := Lib.hid (two_boxes hb1)
  have x0 := HX.out.1.cell 0
  have x1 := HX.out.1.cell 1
  have x2 := HX.out.1.cell 2
  have f0 := HX.out.1.frozen 0
  have f1 := HX.out.1.frozen 1
  have f2 := HX.out.1.frozen 2
  have y0 := HX.out.2.1.cell 0
  have y1 := HX.out.2.1.cell 1
  have y2 := HX.out.2.1.cell 2
  have hs := HX.out.2.2.2
  clear hb1
  go_wp2
  rw [Exit.noGoto_ret]
  exact bodyPost_ret (v := .tuple #[.agg #[.int .i64 4, .int .i64 N, .string ⟨#[]⟩], .int .i64 1, .int .i64 0]) (by simp [results, Tryz.results134, go_sem, x0, x1, x2]) rfl (read_good _ _ ⟨4, N, ⟨#[]⟩⟩ 1 (((HX.out.2.2.1.setCell (by simp) _).setCell (by simp) _).setCell (by simp) _))
theorem read_whole_short (ad : Option Addr) (len cap : Nat) (w : World) (h1 : len < 8) :
    Calls Tryz.prog 134 #[.int .i64 2, .slice ad len cap] w (ReadPost w (.bad 20)) := by
  have hl1 : (len : Int) < 8 := by omega
  go_enter Tryz.func134, Tryz.ntmps134
  go_wp2
  refine wp_scope_once 0 rfl ?_
  go_wp2
  go_step3
  refine ⟨rfl, ?_⟩
  go_wp2
  rw [Exit.noGoto_ret]
  exact bodyPost_ret (v := .tuple #[.agg #[.int .i64 0, .int .i64 0, .string ⟨#[]⟩], .int .i64 0, .int .i64 20]) (by simp [results, Tryz.results134, go_sem]) rfl (read_bad _ _ _ (boxbox_below _ _ _))
theorem read_whole_bad (b off len cap : Nat) (zs : List Int) (w : World) (hR : Reads .u8 w (some ⟨b, off, none⟩) len zs) (hB : Bys zs) (hc : len ≤ cap) (h1 : 8 ≤ len) (N a : Int) (hN : wrap64 (num (zs.take 8)) = N) (ha : ams ⟨2, N, ⟨#[]⟩⟩ = a) (hz : a ≠ 0) :
    Calls Tryz.prog 134 #[.int .i64 2, .slice (some ⟨b, off, none⟩) len cap] w (ReadPost w (.bad a)) := by
  have HR := Lib.hid (reads_take hR h1)
  have HB := Lib.hid (bys_take 8 hB)
  have HN := Lib.hid hN
  have HA := Lib.hid ha
  have hc1 : (8 : Int) ≤ (cap : Int) := by omega
  have hl1 : (8 : Int) ≤ (len : Int) := by omega
  have hz' : (a != 0) = true := by simpa using hz
  clear hR hB hN ha hz
  go_enter Tryz.func134, Tryz.ntmps134
  go_wp2
  refine wp_scope_once 0 rfl ?_
  go_wp2
  go_step3
  refine ⟨rfl, ?_⟩
  go_wp2_with fail
  refine (join_any _ 8 cap (zs.take 8) _ (HR.out.kept (boxbox_below _ _ _)) HB.out (by decide)).mono ?_
  rintro e w0 ⟨rfl, rfl⟩
  rw [HN.out]
  go_wp2_with fail
  refine (amiss_any ⟨2, N, ⟨#[]⟩⟩ _).mono ?_
  rintro e w1 ⟨rfl, hb1⟩
  rw [HA.out]
  have HX := Lib.hid (two_boxes hb1)
  have x0 := HX.out.1.cell 0
  have x1 := HX.out.1.cell 1
  have x2 := HX.out.1.cell 2
  have f0 := HX.out.1.frozen 0
  have f1 := HX.out.1.frozen 1
  have f2 := HX.out.1.frozen 2
  have hs := HX.out.2.2.2
  clear hb1
  go_wp2
  rw [Exit.noGoto_ret]
  exact bodyPost_ret (v := .tuple #[.agg #[.int .i64 0, .int .i64 0, .string ⟨#[]⟩], .int .i64 0, .int .i64 a]) (by simp [results, Tryz.results134, go_sem, x0, x1, x2]) rfl (read_bad _ _ _ (((HX.out.2.2.1.setCell (by simp) _).setCell (by simp) _).setCell (by simp) _))
theorem read_whole_good (b off len cap : Nat) (zs : List Int) (w : World) (hR : Reads .u8 w (some ⟨b, off, none⟩) len zs) (hB : Bys zs) (hc : len ≤ cap) (h1 : 8 ≤ len) (N : Int) (hN : wrap64 (num (zs.take 8)) = N) (ha : ams ⟨2, N, ⟨#[]⟩⟩ = 0) :
    Calls Tryz.prog 134 #[.int .i64 2, .slice (some ⟨b, off, none⟩) len cap] w (ReadPost w (.good ⟨2, N, ⟨#[]⟩⟩ 8)) := by
  have HR := Lib.hid (reads_take hR h1)
  have HB := Lib.hid (bys_take 8 hB)
  have HN := Lib.hid hN
  have HA := Lib.hid ha
  have hc1 : (8 : Int) ≤ (cap : Int) := by omega
  have hl1 : (8 : Int) ≤ (len : Int) := by omega
  clear hR hB hN ha
  go_enter Tryz.func134, Tryz.ntmps134
  go_wp2
  refine wp_scope_once 0 rfl ?_
  go_wp2
  go_step3
  refine ⟨rfl, ?_⟩
  go_wp2_with fail
  refine (join_any _ 8 cap (zs.take 8) _ (HR.out.kept (boxbox_below _ _ _)) HB.out (by decide)).mono ?_
  rintro e w0 ⟨rfl, rfl⟩
  rw [HN.out]
  go_wp2_with fail
  refine (amiss_any ⟨2, N, ⟨#[]⟩⟩ _).mono ?_
  rintro e w1 ⟨rfl, hb1⟩
  rw [HA.out]
  have HX := Lib.hid (two_boxes hb1)
  have x0 := HX.out.1.cell 0
  have x1 := HX.out.1.cell 1
  have x2 := HX.out.1.cell 2
  have f0 := HX.out.1.frozen 0
  have f1 := HX.out.1.frozen 1
  have f2 := HX.out.1.frozen 2
  have y0 := HX.out.2.1.cell 0
  have y1 := HX.out.2.1.cell 1
  have y2 := HX.out.2.1.cell 2
  have hs := HX.out.2.2.2
  clear hb1
  go_wp2
  rw [Exit.noGoto_ret]
  exact bodyPost_ret (v := .tuple #[.agg #[.int .i64 2, .int .i64 N, .string ⟨#[]⟩], .int .i64 8, .int .i64 0]) (by simp [results, Tryz.results134, go_sem, x0, x1, x2]) rfl (read_good _ _ ⟨2, N, ⟨#[]⟩⟩ 8 (((HX.out.2.2.1.setCell (by simp) _).setCell (by simp) _).setCell (by simp) _))
theorem read_text_short (ad : Option Addr) (len cap : Nat) (w : World) (h1 : len < 2) :
    Calls Tryz.prog 134 #[.int .i64 3, .slice ad len cap] w (ReadPost w (.bad 20)) := by
  have hl1 : (len : Int) < 2 := by omega
  go_enter Tryz.func134, Tryz.ntmps134
  go_wp2
  refine wp_scope_once 1 rfl ?_
  go_wp2
  go_step3
  refine ⟨rfl, ?_⟩
  go_wp2
  rw [Exit.noGoto_ret]
  exact bodyPost_ret (v := .tuple #[.agg #[.int .i64 0, .int .i64 0, .string ⟨#[]⟩], .int .i64 0, .int .i64 20]) (by simp [results, Tryz.results134, go_sem]) rfl (read_bad _ _ _ (boxbox_below _ _ _))
theorem read_text_long (b off len cap m : Nat) (zs : List Int) (w : World) (hR : Reads .u8 w (some ⟨b, off, none⟩) len zs) (hB : Bys zs) (hc : len ≤ cap) (h1 : 2 ≤ len) (hN : wrap64 (num (zs.take 2)) = (m : Int)) (hm : 1024 < m) (hm2 : m ≤ 65535) :
    Calls Tryz.prog 134 #[.int .i64 3, .slice (some ⟨b, off, none⟩) len cap] w (ReadPost w (.bad 22)) := by
  have HR := Lib.hid (reads_take hR h1)
  have HB := Lib.hid (bys_take 2 hB)
  have HN := Lib.hid hN
  have hc1 : (2 : Int) ≤ (cap : Int) := by omega
  have hl1 : (2 : Int) ≤ (len : Int) := by omega
  clear hR hB hN
  go_enter Tryz.func134, Tryz.ntmps134
  go_wp2
  refine wp_scope_once 1 rfl ?_
  go_wp2
  go_step3
  refine ⟨rfl, ?_⟩
  go_wp2_with fail
  refine (join_any _ 2 cap (zs.take 2) _ (HR.out.kept (boxbox_below _ _ _)) HB.out (by decide)).mono ?_
  rintro e w0 ⟨rfl, rfl⟩
  rw [HN.out]
  go_wp2
  rw [Exit.noGoto_ret]
  exact bodyPost_ret (v := .tuple #[.agg #[.int .i64 0, .int .i64 0, .string ⟨#[]⟩], .int .i64 0, .int .i64 22]) (by simp [results, Tryz.results134, go_sem]) rfl (read_bad _ _ _ (boxbox_below _ _ _))
theorem read_text_cut (b off len cap m : Nat) (zs : List Int) (w : World) (hR : Reads .u8 w (some ⟨b, off, none⟩) len zs) (hB : Bys zs) (hc : len ≤ cap) (h1 : 2 ≤ len) (hN : wrap64 (num (zs.take 2)) = (m : Int)) (hm : m ≤ 1024) (hl : len < 2 + m) :
    Calls Tryz.prog 134 #[.int .i64 3, .slice (some ⟨b, off, none⟩) len cap] w (ReadPost w (.bad 20)) := by
  have HR := Lib.hid (reads_take hR h1)
  have HB := Lib.hid (bys_take 2 hB)
  have HN := Lib.hid hN
  have hc1 : (2 : Int) ≤ (cap : Int) := by omega
  have hl1 : (2 : Int) ≤ (len : Int) := by omega
  have hl2 : (len : Int) < 2 + (m : Int) := by omega
  clear hR hB hN
  go_enter Tryz.func134, Tryz.ntmps134
  go_wp2
  refine wp_scope_once 1 rfl ?_
  go_wp2
  go_step3
  refine ⟨rfl, ?_⟩
  go_wp2_with fail
  refine (join_any _ 2 cap (zs.take 2) _ (HR.out.kept (boxbox_below _ _ _)) HB.out (by decide)).mono ?_
  rintro e w0 ⟨rfl, rfl⟩
  rw [HN.out]
  go_wp2
  rw [Exit.noGoto_ret]
  exact bodyPost_ret (v := .tuple #[.agg #[.int .i64 0, .int .i64 0, .string ⟨#[]⟩], .int .i64 0, .int .i64 20]) (by simp [results, Tryz.results134, go_sem]) rfl (read_bad _ _ _ (boxbox_below _ _ _))
end Go.Proofs.YtflgemlhocjipaaGreatDoor.Pq
namespace Go.Proofs.YtflgemlhocjipaaGreatDoor.Pq
set_option maxRecDepth 100000
open Go.ChangeShapes Go.WideShapes Go.ChangeAt Go.RowKit

theorem text_run {w W : World} {b off len m : Nat} {zs : List Int} (hR : Reads .u8 w (some ⟨b, off, none⟩) len zs) (hb : Below w.heap.size w W) (hl : 2 + m ≤ len) (c : Nat) :
    (convert 54 9 (.slice (some ⟨b, off + 2, none⟩) m c)).run Tryz.prog W = .ok (.string (strOfNums ((zs.drop 2).take m))) W := by
  obtain ⟨h1, h2⟩ := hR.kept hb
  refine run_convert_bytes_arg W 54 5 Tryz.underlying54 Tryz.underlying5 b (off + 2) m c _ (by rw [List.length_take, List.length_drop]; omega) (fun i hi => ?_) 9 Tryz.underlying9
  obtain ⟨b', off', e, hc⟩ := h2 (by omega)
  injection e with e
  injection e with e1 e2
  subst e1 e2
  rw [Nat.add_assoc, hc (2 + i) (by omega), List.getD_eq_getElem?_getD, List.getD_eq_getElem?_getD, List.getElem?_take, if_pos hi, List.getElem?_drop]
set_option maxHeartbeats 400000 in
theorem read_text_bare (b off : Nat) (zs : List Int) (w : World) (hR : Reads .u8 w (some ⟨b, off, none⟩) 2 zs) (hB : Bys zs) (hN : wrap64 (num (zs.take 2)) = 0) :
    Calls Tryz.prog 134 #[.int .i64 3, .slice (some ⟨b, off, none⟩) 2 2] w (ReadPost w (.good ⟨3, 0, ⟨#[]⟩⟩ 2)) := by
  have HR := Lib.hid (reads_take hR (Nat.le_refl 2))
  have HB := Lib.hid (bys_take 2 hB)
  have HN := Lib.hid hN
  have hcv : ∀ W : World, (convert 54 9 (.slice (some ⟨b, off, none⟩) 0 0)).run Tryz.prog W = .ok (.string ⟨#[]⟩) W := fun W =>
    run_convert_bytes_arg W 54 5 Tryz.underlying54 Tryz.underlying5 b off 0 0 [] rfl (fun i hi => absurd hi (by omega)) 9 Tryz.underlying9
  clear hR hB hN
  go_enter Tryz.func134, Tryz.ntmps134
  go_wp2
  refine wp_scope_once 1 rfl ?_
  go_wp2
  go_step3
  refine ⟨rfl, ?_⟩
  go_wp2_with fail
  refine (join_any _ 2 2 (zs.take 2) _ (HR.out.kept (boxbox_below _ _ _)) HB.out (by decide)).mono ?_
  rintro e w0 ⟨rfl, rfl⟩
  rw [HN.out]
  go_wp2
  rw [Exit.noGoto_ret]
  exact bodyPost_ret (v := .tuple #[.agg #[.int .i64 3, .int .i64 0, .string ⟨#[]⟩], .int .i64 2, .int .i64 0]) (by simp [results, Tryz.results134, go_sem]) rfl (read_good _ _ ⟨3, 0, ⟨#[]⟩⟩ 2 (boxbox_below _ _ _))
set_option maxHeartbeats 400000 in
theorem read_text_good (b off len cap m : Nat) (zs : List Int) (S : ByteArray) (w : World) (hR : Reads .u8 w (some ⟨b, off, none⟩) len zs) (hB : Bys zs) (hc : len ≤ cap) (h1 : 2 ≤ len) (hN : wrap64 (num (zs.take 2)) = (m : Int)) (hm : m ≤ 1024) (hl : 2 + m ≤ len) (hcap : ¬ cap = 2) (hS : strOfNums ((zs.drop 2).take m) = S) :
    Calls Tryz.prog 134 #[.int .i64 3, .slice (some ⟨b, off, none⟩) len cap] w (ReadPost w (.good ⟨3, 0, S⟩ (2 + m))) := by
  have HR := Lib.hid (reads_take hR h1)
  have HB := Lib.hid (bys_take 2 hB)
  have HN := Lib.hid hN
  have hc1 : (2 : Int) ≤ (cap : Int) := by omega
  have hl1 : (2 : Int) ≤ (len : Int) := by omega
  have hl2 : 2 + (m : Int) ≤ (len : Int) := by omega
  have hl3 : 2 + (m : Int) ≤ (cap : Int) := by omega
  have hcv := text_run hR (boxbox_below w (.cells #[.int .i64 0, .int .i64 0, .string ⟨#[]⟩] 112) (.cells #[.int .i64 3, .int .i64 0, .string ⟨#[]⟩] 112)) hl (cap - 2)
  rw [hS] at hcv
  clear hR hB hN hS
  go_enter Tryz.func134, Tryz.ntmps134
  go_wp2
  refine wp_scope_once 1 rfl ?_
  go_wp2
  go_step3
  refine ⟨rfl, ?_⟩
  go_wp2_with fail
  refine (join_any _ 2 cap (zs.take 2) _ (HR.out.kept (boxbox_below _ _ _)) HB.out (by decide)).mono ?_
  rintro e w0 ⟨rfl, rfl⟩
  rw [HN.out]
  go_wp2
  rw [Exit.noGoto_ret]
  exact bodyPost_ret (v := .tuple #[.agg #[.int .i64 3, .int .i64 0, .string S], .int .i64 (2 + (m : Int)), .int .i64 0]) (by simp [results, Tryz.results134, go_sem]) rfl (by
    have h := read_good w ((w.alloc (.cells #[.int .i64 3, .int .i64 0, .string S] 112)).alloc (.cells #[.int .i64 3, .int .i64 0, .string S] 112)) ⟨3, 0, S⟩ (2 + m) (boxbox_below _ _ _)
    rw [show ((2 + m : Nat) : Int) = 2 + (m : Int) by omega] at h
    exact h)
theorem wrap_small {x : Int} (h0 : 0 ≤ x) (h1 : x ≤ 9223372036854775807) : wrap64 x = x := by unfold wrap64; omega
/-- A number's field, read: what is amiss with it, or it. -/
theorem rd_num {k : Int} {zs : List Int} {N : Int} (hk : k = 1 ∨ k = 2 ∨ k = 4) (hB : Bys zs) (hl : wd k ≤ zs.length) (hN : N = wrap64 (num (zs.take (wd k)))) :
    rd k zs = if ams ⟨k, N, ⟨#[]⟩⟩ = 0 then .good ⟨k, N, ⟨#[]⟩⟩ (wd k) else .bad (ams ⟨k, N, ⟨#[]⟩⟩) := by
  have hnl : ¬ zs.length < wd k := by omega
  rcases hk with rfl | rfl | rfl
  · obtain ⟨a, r, rfl, h0, h1⟩ := num_one_bd hB hl
    have e1 : wd 1 = 1 := rfl
    rw [e1, num_one, wrap_small h0 (by omega)] at hN
    subst hN
    have ha : ams ⟨1, N, ⟨#[]⟩⟩ = 0 := by simp [ams, grt, size_empty]; omega
    rw [if_pos ha]
    unfold rd
    rw [if_neg (by simp), if_neg hnl, if_neg (by simp), if_pos (by simp), e1, num_one]
  · have e1 : wd 2 = 8 := rfl
    rw [e1] at hN hl
    obtain ⟨_, h0, h1⟩ := num_eight_bd hB hl
    unfold rd
    rw [if_neg (by simp), if_neg hnl]
    by_cases hb : big < num (zs.take 8)
    · have ha : ams ⟨2, N, ⟨#[]⟩⟩ = 21 := by
        unfold big at hb
        unfold wrap64 at hN
        simp only [ams, grt, big]
        rw [if_pos]
        by_cases hn : N < 0
        · exact .inl hn
        · right; left; simp; omega
      rw [if_pos (.inl ⟨rfl, hb⟩), ha]; rfl
    · have hbb : num (zs.take 8) ≤ 4611686018427387904 := by unfold big at hb; omega
      rw [wrap_small h0 (by omega)] at hN
      have ha : ams ⟨2, N, ⟨#[]⟩⟩ = 0 := by simp [ams, grt, big, size_empty]; omega
      rw [if_neg (by simp [hb]), if_pos (by simp), if_pos ha, e1, hN]
  · obtain ⟨a, r, rfl, h0, h1⟩ := num_one_bd hB hl
    have e1 : wd 4 = 1 := rfl
    rw [e1, num_one, wrap_small h0 (by omega)] at hN
    subst hN
    unfold rd
    rw [if_neg (by simp), if_neg hnl, num_one]
    by_cases hb : 1 < N
    · have ha : ams ⟨4, N, ⟨#[]⟩⟩ = 21 := by simp [ams, grt, size_empty]; omega
      rw [if_pos (.inr ⟨rfl, hb⟩), ha]; rfl
    · have ha : ams ⟨4, N, ⟨#[]⟩⟩ = 0 := by simp [ams, grt, size_empty]; omega
      rw [if_neg (by simp [hb]), if_pos (by simp), if_pos ha, e1, num_one]
theorem rd_short {k : Int} {zs : List Int} (hk : ¬ (k < 1 ∨ 4 < k)) (hl : zs.length < wd k) : rd k zs = .bad 20 := by
  unfold rd
  rw [if_neg hk, if_pos hl]
theorem read_any (k : Int) (ad : Option Addr) (len cap : Nat) (zs : List Int) (w : World) (hR : Reads .u8 w ad len zs) (hB : Bys zs) (hc : len ≤ cap) :
    Calls Tryz.prog 134 #[.int .i64 k, .slice ad len cap] w (ReadPost w (rd k zs)) := by
  have hl := hR.1
  by_cases hk : k < 1 ∨ 4 < k
  · have e : rd k zs = .bad 21 := by unfold rd; rw [if_pos hk]
    rw [e]; exact read_no k ad len cap w hk
  by_cases k1 : k = 1
  · subst k1
    by_cases hs : len < 1
    · rw [rd_short hk (by rw [hl]; exact hs)]; exact read_small_short ad len cap w hs
    · obtain ⟨b, off, rfl, _⟩ := hR.2 (by omega)
      rw [rd_num (.inl rfl) hB (by rw [hl]; show 1 ≤ len; omega) rfl]
      split
      · rename_i ha; exact read_small_good b off len cap zs w hR hB hc (by omega) _ rfl ha
      · rename_i ha; exact read_small_bad b off len cap zs w hR hB hc (by omega) _ _ rfl rfl ha
  by_cases k2 : k = 2
  · subst k2
    by_cases hs : len < 8
    · rw [rd_short hk (by rw [hl]; exact hs)]; exact read_whole_short ad len cap w hs
    · obtain ⟨b, off, rfl, _⟩ := hR.2 (by omega)
      rw [rd_num (.inr (.inl rfl)) hB (by rw [hl]; show 8 ≤ len; omega) rfl]
      split
      · rename_i ha; exact read_whole_good b off len cap zs w hR hB hc (by omega) _ rfl ha
      · rename_i ha; exact read_whole_bad b off len cap zs w hR hB hc (by omega) _ _ rfl rfl ha
  by_cases k4 : k = 4
  · subst k4
    by_cases hs : len < 1
    · rw [rd_short hk (by rw [hl]; exact hs)]; exact read_switch_short ad len cap w hs
    · obtain ⟨b, off, rfl, _⟩ := hR.2 (by omega)
      rw [rd_num (.inr (.inr rfl)) hB (by rw [hl]; show 1 ≤ len; omega) rfl]
      split
      · rename_i ha; exact read_switch_good b off len cap zs w hR hB hc (by omega) _ rfl ha
      · rename_i ha; exact read_switch_bad b off len cap zs w hR hB hc (by omega) _ _ rfl rfl ha
  obtain rfl : k = 3 := by omega
  by_cases hs : len < 2
  · rw [rd_short hk (by rw [hl]; exact hs)]; exact read_text_short ad len cap w hs
  obtain ⟨b, off, rfl, _⟩ := hR.2 (by omega)
  have hnum : ∃ m : Nat, num (zs.take 2) = (m : Int) ∧ m ≤ 65535 := by
    obtain ⟨a, c, r, rfl, h1, h2, h3, h4⟩ := num_two_bd hB (by omega)
    rw [num_two]
    exact ⟨(a * 256 + c).toNat, by omega, by omega⟩
  obtain ⟨m, hm, hm2⟩ := hnum
  have hN : wrap64 (num (zs.take 2)) = (m : Int) := by rw [hm]; exact wrap_small (by omega) (by omega)
  have hw : ¬ zs.length < wd 3 := by rw [hl]; show ¬ len < 2; omega
  unfold rd
  rw [if_neg (by simp), if_neg hw, if_neg (by simp), if_neg (by simp), hm]
  by_cases hlong : 1024 < (m : Int)
  · rw [if_pos hlong]
    exact read_text_long b off len cap m zs w hR hB hc (by omega) hN (by omega) hm2
  rw [if_neg hlong, hl]
  have et : (m : Int).toNat = m := by omega
  rw [et]
  by_cases hcut : len < 2 + m
  · rw [if_pos hcut]
    exact read_text_cut b off len cap m zs w hR hB hc (by omega) hN (by omega) hcut
  rw [if_neg hcut]
  by_cases hcap : cap = 2
  · subst hcap
    obtain rfl : m = 0 := by omega
    obtain rfl : len = 2 := by omega
    have e : strOfNums ((zs.drop 2).take 0) = ⟨#[]⟩ := by rw [List.take_zero]; rfl
    rw [e]
    exact read_text_bare b off zs w hR hB hN
  · exact read_text_good b off len cap m zs _ w hR hB hc (by omega) hN (by omega) (by omega) hcap rfl
theorem rd_ne {k : Int} {zs : List Int} {e : Int} (h : rd k zs = .bad e) : e ≠ 0 := by
  unfold rd at h
  repeat' split at h
  all_goals first
    | (injection h with h; subst h; decide)
    | cases h
end Go.Proofs.YtflgemlhocjipaaGreatDoor.Pq
