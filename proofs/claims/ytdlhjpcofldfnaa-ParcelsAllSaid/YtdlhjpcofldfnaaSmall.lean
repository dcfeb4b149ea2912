/-
  What New, Len, between, Apart, At return. Condition: the ends are ints.
-/
import Derived.Test.YtdlhjpcofldfnaaNet
namespace Go.Proofs.Ytdlhjpcofldfnaa
set_option maxRecDepth 100000
open Go.ChangeShapes Go.WideShapes Go.ChangeAt Go.RowKit

def NwPost (w : World) (e : Ending) (w' : World) : Prop := ∃ np mb, e = .returned (.pointer (some ⟨np, 0, none⟩)) ∧ NetW w' w.heap.size np mb (.slice none 0 0) [] [] ∧ Below w.heap.size w w'
theorem new_any (w : World) : Calls Try.prog 8 #[] w (NwPost w) := by
  have hmm := @run_makeMap Try.prog
  have HE : Hid (NwPost w (.returned (.pointer (some ⟨w.heap.size + 1, 0, none⟩))) ((w.alloc (.map #[] 0)).alloc (.cells #[.slice none 0 0, .map (some w.heap.size)] 51))) := Lib.hid (by
    have s1 : (w.alloc (.map #[] 0)).heap.size = w.heap.size + 1 := by simp
    have hb := new_block (w.alloc (.map #[] 0)) (.cells #[.slice none 0 0, .map (some w.heap.size)] 51)
    rw [s1] at hb
    refine ⟨w.heap.size + 1, w.heap.size, rfl, ⟨hb, Nat.le_succ _, Nat.le_refl _, ⟨rfl, .inl ⟨rfl, rfl⟩⟩, ⟨0, .map [], Nat.le_refl _, ownsMap_kept (World.ownsMap_made w _ _ _) ((box_below _ _).block _ (by rw [s1]; omega)), apok_nil⟩, (fun x hx => by cases hx), ⟨Nat.zero_le _, Nat.zero_le _⟩⟩, ?_⟩
    exact (box_below w _).alloc (by rw [s1]; omega) _)
  go_enter Try.func8, Try.ntmps8
  go_wp2_with fail
  go_ret
  exact HE.out
theorem len_any {w : World} {B np mb : Nat} {rv : Value} {L : List Pk} {ap : List (Int × Int)} (h : NetW w B np mb rv L ap) :
    Calls Try.prog 12 #[.pointer (some ⟨np, 0, none⟩)] w fun e w' => e = .returned (.int .i64 (L.length : Int)) ∧ w = w' := by
  obtain ⟨A, c, rfl, -, -, -⟩ := own_form h.row
  have c0 := cell_of h.here (j := 0) rfl
  clear h
  go_enter Try.func12, Try.ntmps12
  go_wp2_with fail
  go_ret
  exact ⟨rfl, rfl⟩
theorem between_any (a b : Int) (w : World) : Calls Try.prog 29 #[.int .i64 a, .int .i64 b] w fun e w' => e = .returned (kv a b) ∧ Below w.heap.size w w' := by
  obtain ⟨x, hx⟩ : ∃ x, min a b = x := ⟨_, rfl⟩
  obtain ⟨y, hy⟩ : ∃ y, max a b = y := ⟨_, rfl⟩
  have HK : Hid (kv a b = .agg #[.int .i64 x, .int .i64 y]) := Lib.hid (by unfold kv; rw [hx, hy])
  go_enter Try.func29, Try.ntmps29
  go_wp2_with fail
  exact bodyPost_ret (v := .agg #[.int .i64 x, .int .i64 y]) (by simp [results, Try.results29, go_sem]) rfl ⟨by rw [HK.out], box_below w _⟩
/-- What the region of Apart reads. -/
theorem zero65 (w : World) : (zeroValue 65).run Try.prog w = .ok (.agg #[]) w := by kernel_rfl
theorem apart_look {w : World} {B np mb : Nat} {rv : Value} {L : List Pk} {ap : List (Int × Int)} (h : NetW w B np mb rv L ap) {a b : Int} (ha : I64 a) (hb : I64 b) (w' : World) (hw : Below w.heap.size w w') :
    w'.cell? ⟨np, 1, none⟩ = some (.map (some mb)) ∧ (Instr.lookup 49 (.map (some mb)) (.agg #[.int .i64 (min a b), .int .i64 (max a b)]) true).run Try.prog w' = .ok (.tuple #[.agg #[], .bool (decide ((min a b, max a b) ∈ ap))]) w' := by
  have h' := h.kept hw
  refine ⟨cell_of h'.here (j := 1) rfl, ?_⟩
  obtain ⟨n, D, -, hm, hD⟩ := h'.map
  obtain ⟨l, hl⟩ := key_any a b ha hb
  obtain ⟨v, ps, hrun, hv⟩ := hm.look_ok law63 Try.underlying49 (zero65 w') (zd := .agg []) (zp := []) unitElem_mk hl
  obtain ⟨rfl, -⟩ := unitElem_inv hv
  rw [hD a b l hl] at hrun
  exact hrun
set_option maxHeartbeats 1000000 in
theorem apart_any {w : World} {B np mb : Nat} {rv : Value} {L : List Pk} {ap : List (Int × Int)} (h : NetW w B np mb rv L ap) {a b : Int} (ha : I64 a) (hb : I64 b) :
    Calls Try.prog 19 #[.pointer (some ⟨np, 0, none⟩), .int .i64 a, .int .i64 b] w fun e w' => e = .returned (.bool (decide ((min a b, max a b) ∈ ap))) ∧ Below w.heap.size w w' := by
  have HS := Lib.hid (apart_look h ha hb)
  have HB : Hid (∀ W, Calls Try.prog 29 #[.int .i64 a, .int .i64 b] W fun e w' => e = .returned (.agg #[.int .i64 (min a b), .int .i64 (max a b)]) ∧ Below W.heap.size W w') := Lib.hid (fun W => between_any a b W)
  obtain ⟨r, hr⟩ : ∃ r, r = decide ((min a b, max a b) ∈ ap) := ⟨_, rfl⟩
  obtain ⟨x, hx⟩ : ∃ x, x = min a b := ⟨_, rfl⟩
  obtain ⟨y, hy⟩ : ∃ y, y = max a b := ⟨_, rfl⟩
  rw [← hr] at HS ⊢
  rw [← hx, ← hy] at HS HB
  clear h ha hb hr hx hy
  go_enter Try.func19, Try.ntmps19
  go_wp2_with fail
  go_region_held3 (fun w' => w'.cell? ⟨np, 1, none⟩ = some (.map (some mb)) ∧ (Instr.lookup 49 (.map (some mb)) (.agg #[.int .i64 x, .int .i64 y]) true).run Try.prog w' = .ok (.tuple #[.agg #[], .bool r]) w')
    (first
      | exact HS.out _ (Below.refl _ _).drew
      | assumption
      | exact HS.out _ ((Below.refl w.heap.size w).drew.alloc (Nat.le_refl _) _)
      | exact HS.out _ (hb2.trans ((box_below w1 _).mono hb2.size)))
    (first
      | (go_at_call 29; (with_reducible refine (HB.out _).mono ?_); rintro e w1 ⟨rfl, hb1⟩; have hb2 : Below w.heap.size w w1 := (by first | exact (Below.refl _ _).drew.trans hb1 | exact ((Below.refl w.heap.size w).drew.alloc (Nat.le_refl _) _).trans (hb1.mono (box_below w.drew _).size)); have hS1 := HS.out w1 hb2))
  all_goals
    have HB2 := Lib.hid hb2
    clear hb2 hS1
    go_wp2_with fail
    go_ret
    first
      | exact ⟨rfl, HB2.out⟩
      | exact ⟨rfl, HB2.out.trans ((box_below w1 _).mono HB2.out.size)⟩
end Go.Proofs.Ytdlhjpcofldfnaa
