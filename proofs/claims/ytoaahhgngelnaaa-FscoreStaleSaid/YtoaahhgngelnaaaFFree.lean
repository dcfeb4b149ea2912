/-
  What Free returns. No condition.
-/
import Derived.Test.YtoaahhgngelnaaaFRen
import Derived.Maps.RangeWalk
namespace Go.Proofs.Ytoaahhgngelnaaa
set_option maxRecDepth 100000
open Go.ChangeShapes Go.WideShapes Go.ChangeAt Go.RowKit Go.Proofs.Sg Go.Proofs.Fz

/-- What those have that were met. -/
def metK (I : List Nod) (left : Lit → Bool) : Nat := (I.map (fun x => if left (.int .i64 (x.id : Int)) = true then 0 else x.d.K.length)).sum
theorem metK_all {I : List Nod} {left : Lit → Bool} (h : ∀ k, left k = false) : metK I left = used I := by
  unfold metK used
  congr 1
  apply List.map_congr_left
  intro x _
  rw [h, if_neg (by decide)]
theorem metK_none {I : List Nod} {left : Lit → Bool} (h : ∀ x ∈ I, left (.int .i64 (x.id : Int)) = true) : metK I left = 0 := by
  unfold metK
  rw [List.map_congr_left (g := fun _ => 0) (fun x hx => by rw [h x hx, if_pos rfl])]
  induction I with
  | nil => rfl
  | cons x l ih => rw [List.map_cons, List.sum_cons, ih (fun y hy => h y (List.mem_cons_of_mem _ hy))]
theorem same_int (a b : Int) : (Lit.int .i64 a).sameKey (.int .i64 b) = decide (a = b) := by
  rw [Bool.eq_iff_iff]; simp [Lit.sameKey]
theorem metK_step {I : List Nod} (hu : (I.map (fun x => x.id)).Nodup) {left : Lit → Bool} {x : Nod} (hx : x ∈ I) (hl : left (.int .i64 (x.id : Int)) = true) : metK I (fun z => left z && !z.sameKey (.int .i64 (x.id : Int))) = metK I left + x.d.K.length := by
  induction I with
  | nil => cases hx
  | cons y l ih =>
    rw [List.map_cons, List.nodup_cons] at hu
    have e : ∀ (g : Lit → Bool), metK (y :: l) g = (if g (.int .i64 (y.id : Int)) = true then 0 else y.d.K.length) + metK l g := fun g => by unfold metK; rw [List.map_cons, List.sum_cons]
    rw [e, e]
    rcases List.mem_cons.1 hx with rfl | hx
    · have h2 : metK l (fun z => left z && !z.sameKey (.int .i64 (x.id : Int))) = metK l left := by
        unfold metK
        congr 1
        apply List.map_congr_left
        intro z hz
        have hne : z.id ≠ x.id := fun e => hu.1 (by rw [← e]; exact List.mem_map.2 ⟨z, hz, rfl⟩)
        have : decide ((z.id : Int) = (x.id : Int)) = false := by simp; omega
        simp only [same_int, this, Bool.not_false, Bool.and_true]
      rw [h2]
      simp only [same_int, hl, decide_true, Bool.not_true, Bool.and_false]
      simp
      omega
    · have hne : y.id ≠ x.id := fun e => hu.1 (by rw [e]; exact List.mem_map.2 ⟨x, hx, rfl⟩)
      have : decide ((y.id : Int) = (x.id : Int)) = false := by simp; omega
      rw [ih hu.2 hx]
      simp only [same_int, this, Bool.not_false, Bool.and_true]
      omega
theorem metK_le {I : List Nod} {left : Lit → Bool} : metK I left ≤ used I := by
  unfold metK used
  induction I with
  | nil => simp
  | cons y l ih => simp only [List.map_cons, List.sum_cons]; split <;> omega
/-- What Free returns. -/
def FrPost (w : World) (f : Fst) (e : Ending) (w' : World) : Prop := e = .returned (.tuple #[.int .i64 ((f.room - used f.I : Nat) : Int), .int .i64 ((200 - f.I.length : Nat) : Int)]) ∧ Below w.heap.size w w'
set_option maxHeartbeats 4000000 in
theorem ffree_any {w : World} {bs : Nat} {Y : Lay} {f : Fst} (h : FM w bs Y f) (hg : Gd f) (hrm : f.room ≤ 9223372036854775807) : Calls Try.prog 21 #[pA Y.fp] w (FrPost w f) := by
  obtain ⟨D, hD, hsz, hhas, hat⟩ := h.map.ex
  obtain ⟨c0, c1⟩ := h.cells
  have HD := Lib.hid hD
  have HH := Lib.hid hhas
  have HAT := Lib.hid hat
  have HM := Lib.hid h
  have HG := Lib.hid hg
  have HRM := Lib.hid hrm
  have HROM := Lib.hid hg.rom
  clear h hg hrm hD hsz hhas hat
  go_enter Try.func21, Try.ntmps21
  go_wp2_with (first | (at_range; refine wpList_range_own _ rfl _ 62 rfl 3 66 lawI Try.underlying62 vR Y.mi (Maps.size D) D rfl HD.out ?_; intro w1 hrg1 hg1 hs1) | fail)
  go_frame
  have HRG := Lib.hid hrg1
  have HB1 : Hid (Below w.heap.size w w1) := Lib.hid ⟨hg1.os, hg1.tape, hg1.output, hg1.size, fun k hk => hg1.block k hk (by simp)⟩
  clear hrg1 hg1 hs1
  obtain ⟨r, hr⟩ : ∃ r, r = w.heap.size := ⟨_, rfl⟩
  rw [← hr] at HRG
  rw [← hr]
  have HR := Lib.hid hr
  clear hr
  go_wp2_with fail
  go_loopw [2] (fun v wr => ∃ (left : Lit → Bool) (cnt : Nat), Hid (wr.ranges Try.prog 3 vR Y.mi r (Maps.size D) D left cnt) ∧ ∃ z : Int, v = .int .i64 z ∧ Hid (z = (f.room : Int) - (metK f.I left : Int)) ∧ Hid (Below w.heap.size w wr) ∧ Hid (∀ a : Int, left (.int .i64 a) = true → (nget f.I a).isSome = true)) (fun v wr => wr.rangeLeft Y.mi r)
  case atStart =>
    exact ⟨_, _, HRG, _, rfl, Lib.hid (by rw [metK_none (fun x hx => by rw [HH.out, nget_of HG.out.ids hx]; rfl)]; omega), HB1, Lib.hid (fun a ha => by rw [HH.out] at ha; exact ha)⟩
  case round =>
    obtain ⟨left, cnt, HRG2, z, rfl, HZ, HB2, HLF⟩ := hrel
    go_wp2_with (first | (at_next; refine wpList_next_ranges _ rfl _ rfl 3 lawI vR (fun a : Int => Value.int .i64 a) (fun v : Value => v) (fun key kl hk => by obtain ⟨x, e, -⟩ := Maps.keyOf_int_inv Try.underlying3 hk; exact ⟨x, e⟩) (fun v y h => ⟨v, rfl⟩) Y.mi r (Maps.size D) D left cnt rfl HRG2.out ?_ ?_) | fail)
    · intro hc0 hl0
      have HE : Hid (z = ((f.room - used f.I : Nat) : Int)) := Lib.hid (by rw [HZ.out, metK_all hl0]; have := HROM.out; omega)
      have hm := HM.out.below HG.out.kind HB2.out
      have c1 := hm.cells.2
      have hlen := fun ty => hm.map.size ty
      obtain ⟨len, hle⟩ : ∃ l, f.I.length = l := ⟨_, rfl⟩
      rw [hle] at hlen
      have HLE := Lib.hid hle
      have hwz : IntKind.i64.wrap (200 - (len : Int)) = ((200 - len : Nat) : Int) := by rw [IntKind.wrap_i64]; have := HG.out.cnt; omega
      clear hc0 hl0 hm hle
      try go_frame
      go_wp2_with fail
      go_ret2
      rw [HE.out, ← HLE.out]
      exact ⟨rfl, HB2.out⟩
    · intro x c kl ya yb w2 cnt1 hkey hlk hv hatk hrg2 hlt hg2 hs2 hen
      obtain ⟨x', ex, rfl, -⟩ := Maps.keyOf_int_inv Try.underlying3 hkey
      injection ex with _ ex
      subst ex
      obtain ⟨nd, hnd⟩ := Option.isSome_iff_exists.1 (HLF.out x hlk)
      obtain ⟨hn1, hn2⟩ := nget_mem hnd
      have hc : c = pA (Y.ip nd.id) := by
        have h1 := hatk (.held (.pointer none))
        rw [HAT.out] at h1
        have h2 : DataW.held c = ya := congrArg Prod.fst (Option.some.inj hv)
        rw [← h2] at h1
        injection h1 with h1
        rw [← h1]
        unfold iP; rw [hnd]
      subst hc
      subst hn2
      have HB3 : Hid (Below w.heap.size w w2) := Lib.hid (HB2.out.trans ⟨hg2.os, hg2.tape, hg2.output, hg2.size, fun k hk => hg2.block k (Nat.lt_of_lt_of_le hk HB2.out.size) (by have := HR.out; simp; omega)⟩)
      have HRG3 := Lib.hid hrg2
      have HLT := Lib.hid hlt
      have hst := metK_step HG.out.ids hn1 hlk
      have hml := metK_le (I := f.I) (left := fun z => left z && !z.sameKey (.int .i64 (nd.id : Int)))
      obtain ⟨z3, hz3⟩ : ∃ v : Int, (f.room : Int) - (metK f.I (fun z => left z && !z.sameKey (.int .i64 (nd.id : Int))) : Int) = v := ⟨_, rfl⟩
      have HZ3 : Hid (z3 = (f.room : Int) - (metK f.I (fun z => left z && !z.sameKey (.int .i64 (nd.id : Int))) : Int)) := Lib.hid hz3.symm
      have HZE : Hid (z - (nd.d.K.length : Int) = z3 ∧ 0 ≤ z3 ∧ z3 ≤ 9223372036854775807) := Lib.hid ⟨by rw [HZ.out, ← hz3]; omega, by rw [← hz3]; have := HROM.out; omega, by rw [← hz3]; have := HRM.out; omega⟩
      have HLF3 : Hid (∀ a : Int, (fun z => left z && !z.sameKey (.int .i64 (nd.id : Int))) (.int .i64 a) = true → (nget f.I a).isSome = true) := Lib.hid (fun a ha => by simp only [Bool.and_eq_true] at ha; exact HLF.out a ha.1)
      have HND := Lib.hid hn1
      have hn := (HM.out.below HG.out.kind HB3.out).nod nd hn1
      have hkk := HG.out.kind nd hn1
      clear hkey hlk hv hatk hrg2 hlt hg2 hs2 hnd hn1 hst hml hz3
      try go_frame
      rcases hkk with hk | hk | hk
      · obtain ⟨-, -, -, -, -, c5⟩ := hn.cells
        rw [hold1 hk] at c5
        have ta := taSS
        have HBK := Lib.hid (blocks_any (hn.fil hk))
        have hwz : IntKind.i64.wrap (z - (nd.d.K.length : Int)) = z3 := by rw [IntKind.wrap_i64, HZE.out.1]; have := HZE.out.2; omega
        clear hn hk
        go_wp2_with fail
        refine HBK.out.mono ?_
        rintro e w' ⟨rfl, rfl⟩
        go_wp2_with fail
        go_roundw
        case rel => exact ⟨_, _, HRG3, _, rfl, HZ3, HB3, HLF3⟩
        case measure => rw [HRG3.out.left_eq, HRG2.out.left_eq]; exact HLT.out
      · have HZ4 : Hid (z = z3) := Lib.hid (by
          have h0 := (HG.out.dat nd HND.out).2 (by omega)
          have h1 := HZE.out.1
          rw [h0] at h1
          have h2 : (sh0.K.length : Int) = 0 := rfl
          omega)
        have HZ3' := HZ3
        rw [← HZ4.out] at HZ3'
        obtain ⟨-, -, -, -, -, c5⟩ := hn.cells
        rw [hold2 hk] at c5
        have ta := taFS
        clear hn hk
        go_wp2_with fail
        go_roundw
        case rel => exact ⟨_, _, HRG3, _, rfl, HZ3', HB3, HLF3⟩
        case measure => rw [HRG3.out.left_eq, HRG2.out.left_eq]; exact HLT.out
      · have HZ4 : Hid (z = z3) := Lib.hid (by
          have h0 := (HG.out.dat nd HND.out).2 (by omega)
          have h1 := HZE.out.1
          rw [h0] at h1
          have h2 : (sh0.K.length : Int) = 0 := rfl
          omega)
        have HZ3' := HZ3
        rw [← HZ4.out] at HZ3'
        obtain ⟨-, -, -, -, -, c5⟩ := hn.cells
        rw [hold3 hk] at c5
        have ta := taTS
        clear hn hk
        go_wp2_with fail
        go_roundw
        case rel => exact ⟨_, _, HRG3, _, rfl, HZ3', HB3, HLF3⟩
        case measure => rw [HRG3.out.left_eq, HRG2.out.left_eq]; exact HLT.out
end Go.Proofs.Ytoaahhgngelnaaa
