/-
  What crate.Split returns of a slice of bytes that reads: the bodies of the crates that stand in it in memory of their own, how many bytes are left, and the error of what is left. Conditions: the table's cells hold what its initialiser lays; the slice has no more than 2^20 bytes.
-/
import Derived.Test.YtkellgofdfpjpaaDoorIter
import Derived.Sort.QuietIn
namespace Go.Proofs.YtkellgofdfpjpaaDoor
open Go.ChangeShapes Go.WideShapes Go.ChangeAt Go.RowKit Go.Shelf Go.Proofs.Crc

attribute [local go_sem] Oper.semAt_some

/-- A slice of the call's own holds these bodies, each in memory of the call's own. -/
def Held (w : World) (base b1 : Nat) (v : Value) (xs : List El) : Prop :=
  w.ownsRow b1 22 1 v xs.length (xs.map (·.1)) ∧ ∀ x ∈ xs, w.ownsRow base 5 1 x.1 x.2.1 (x.2.2.map (Value.int .u8))
theorem own_kept {w w' : World} {base size n : Nat} {e : TypeId} {v : Value} {xs : List Value} {row : Option Nat} (h : w.ownsRow base e size v n xs) (hg : w.grownBy w' row) (hr : ∀ r, row = some r → ∃ o : Obj, w.heap[r]? = some o ∧ ∀ cur, o ≠ .cells cur e (0, 0)) : w'.ownsRow base e size v n xs := by
  refine h.kept hg ?_
  rcases h.2 with ⟨rfl, _⟩ | ⟨g, cap, cur, rfl, _, hgb, _⟩
  · exact .inl rfl
  · refine .inr fun e' => ?_
    obtain ⟨o, ho, hne⟩ := hr g (by rw [← e']; rfl)
    rw [hgb] at ho
    cases ho
    exact hne _ rfl
theorem Held.kept {w w' : World} {base b1 : Nat} {v : Value} {xs : List El} {row : Option Nat} (h : Held w base b1 v xs) (hg : w.grownBy w' row) (hr : ∀ r, row = some r → ∃ o : Obj, w.heap[r]? = some o ∧ (∀ cur, o ≠ .cells cur 22 (0, 0)) ∧ ∀ cur, o ≠ .cells cur 5 (0, 0)) : Held w' base b1 v xs :=
  ⟨own_kept h.1 hg fun r e => by obtain ⟨o, h1, h2, _⟩ := hr r e; exact ⟨o, h1, h2⟩, fun x hx => own_kept (h.2 x hx) hg fun r e => by obtain ⟨o, h1, _, h3⟩ := hr r e; exact ⟨o, h1, h3⟩⟩
theorem Held.below {w w' : World} {base b1 : Nat} {v : Value} {xs : List El} (h : Held w base b1 v xs) (hb : Below w.heap.size w w') : Held w' base b1 v xs :=
  ⟨own_below h.1 hb, fun x hx => own_below (h.2 x hx) hb⟩
theorem info31 : (Tryd.prog.info? 31).map (fun i => (i.zero, i.size, i.bytes)) = some (some (.slice none 0 0), 1, 24) := by kernel_rfl
/-- What the caller keeps between two rounds. -/
def SI (w : World) (zs : List Int) (cap : Nat) (pre : List El) (W : World) : Prop :=
  Below w.heap.size w W ∧ (∃ (A : Option Addr) (ln cp : Nat) (r : List Int), Cr zs (pre.map (·.2.2)) r ∧ Reads w A ln r ∧ ln ≤ cp ∧ cp ≤ cap ∧ Boxed W w.heap.size 22 (.slice A ln cp)) ∧
    ∃ v, Boxed W (w.heap.size + 1) 31 v ∧ Held W w.heap.size (w.heap.size + 1) v pre
theorem si_own (w : World) (zs : List Int) (cap B : Nat) (hB : w.heap.size + 1 < B) : OwnFrom B (SI w zs cap) := by
  rintro pre X Y row ⟨hb, ⟨A, ln, cp, r, h1, h2, h3, h4, h5⟩, v, h6, h7⟩ hg hr
  have hnot : ∀ r, row = some r → ∃ o : Obj, X.heap[r]? = some o ∧ (∀ cur, o ≠ .cells cur 22 (0, 0)) ∧ ∀ cur, o ≠ .cells cur 5 (0, 0) := fun r e => by
    obtain ⟨_, o, ho, hc⟩ := hr r e
    exact ⟨o, ho, fun cur e => (by subst e; cases hc), fun cur e => (by subst e; cases hc)⟩
  refine ⟨hb.grown hg hb.size (fun k e => by have := (hr k e).1; omega), ⟨A, ln, cp, r, h1, h2, h3, h4, h5.kept hg (fun e => by have := (hr _ e.symm).1; omega)⟩, v, h6.kept hg (fun e => by have := (hr _ e.symm).1; omega), h7.kept hg hnot⟩
theorem rx_own (w : World) (zs : List Int) (pre : List El) (x : El) (B : Nat) : OwnFrom B (fun (_ : Unit) W => RX w zs pre x W) := by
  rintro _ X Y row ⟨r, h1, h2, h3, h4⟩ hg hr
  exact ⟨r, h1, h2, h3, own_kept h4 hg fun r e => by
    obtain ⟨_, o, ho, hc⟩ := hr r e
    exact ⟨o, ho, fun cur e => by subst e; cases hc⟩⟩
theorem Cr.same {zs : List Int} {l l' : List (List Int)} {r r' : List Int} (h : Cr zs l r) (h' : Cr zs l' r') (hl : l.length = l'.length) : r = r' := by
  induction h generalizing l' with
  | nil zs =>
    cases h' with
    | nil => rfl
    | cons _ _ => simp at hl
  | cons h1 _ ih =>
    cases h' with
    | nil => simp at hl
    | cons h2 h3 =>
      rw [h1] at h2
      injection h2 with h2
      subst h2
      exact ih h3 (by simpa using hl)
theorem oncell {w : World} {B : Nat} {t : TypeId} {v : Value} (h : Boxed w B t v) : Boxed w B t v ∧ w.cell? ⟨B, 0, none⟩ = some v ∧ w.frozen? ⟨B, 0, none⟩ = false := ⟨h, h.cell, h.frozen⟩
/-- Behind the append: the box of the list, the box of what is left in the world of the store. -/
theorem si_mid {w W w1 : World} {v v' : Value} {pre : List El} {A : Option Addr} {ln cp m : Nat} {ys : List Value} {tmp : Obj} (hsz : w.heap.size + 1 ≤ W.heap.size) (hbx : Boxed W w.heap.size 22 (.slice A ln cp)) (hvx : Boxed W (w.heap.size + 1) 31 v) (hh : Held W w.heap.size (w.heap.size + 1) v pre)
    (hown : w1.ownsRow (w.heap.size + 1) 22 1 v' m ys) (hgrow : (W.alloc tmp).grownBy w1 v.ownBlock) :
    Boxed w1 (w.heap.size + 1) 31 v ∧ Boxed (w1.setCell ⟨w.heap.size + 1, 0, none⟩ v') w.heap.size 22 (.slice A ln cp) := by
  obtain ⟨h1, -, -, -, h5⟩ := hvx.appended (by decide) hh.1 hsz (Nat.le_refl _) hown hgrow
  exact ⟨h1, (h5.block w.heap.size (by omega)).trans hbx⟩
theorem si_next {w W w1 : World} {zs xs r : List Int} {cap : Nat} {v v' xv : Value} {pre : List El} {A A' : Option Addr} {ln cp k' c' m : Nat} {tmp : Obj} (hsz : w.heap.size + 1 ≤ W.heap.size)
    (hb : Below w.heap.size w W) (hbx : Boxed W w.heap.size 22 (.slice A ln cp)) (hvx : Boxed W (w.heap.size + 1) 31 v) (hh : Held W w.heap.size (w.heap.size + 1) v pre) (ho : W.ownsRow w.heap.size 5 1 xv m (xs.map (Value.int .u8)))
    (hcr : Cr zs (pre.map (·.2.2) ++ [xs]) r) (hr : Reads w A' k' r) (hc1 : k' ≤ c') (hc2 : c' ≤ cap)
    (hown : w1.ownsRow (w.heap.size + 1) 22 1 v' (pre.length + 1) (pre.map (·.1) ++ [xv])) (hgrow : (W.alloc tmp).grownBy w1 v.ownBlock) (B : Nat) :
    KeepsFrom B W ((w1.setCell ⟨w.heap.size + 1, 0, none⟩ v').setCell ⟨w.heap.size, 0, none⟩ (.slice A' k' c')) ∧
      SI w zs cap (pre ++ [(xv, m, xs)]) ((w1.setCell ⟨w.heap.size + 1, 0, none⟩ v').setCell ⟨w.heap.size, 0, none⟩ (.slice A' k' c')) := by
  obtain ⟨h1, h2, h3, h4, h5⟩ := hvx.appended (by decide) hh.1 hsz (Nat.le_refl _) hown hgrow
  have hbx2 : Boxed (w1.setCell ⟨w.heap.size + 1, 0, none⟩ v') w.heap.size 22 (.slice A ln cp) := (h5.block w.heap.size (by omega)).trans hbx
  have hg3 := grownBy_setCell' (w1.setCell ⟨w.heap.size + 1, 0, none⟩ v') w.heap.size (.slice A' k' c')
  have hbody : ∀ {u : Value} {n : Nat} {l : List Int}, W.ownsRow w.heap.size 5 1 u n (l.map (Value.int .u8)) → ((w1.setCell ⟨w.heap.size + 1, 0, none⟩ v').setCell ⟨w.heap.size, 0, none⟩ (.slice A' k' c')).ownsRow w.heap.size 5 1 u n (l.map (Value.int .u8)) := fun {u n l} h => by
    have ha := own_kept h (World.grownBy_alloc W tmp none) (fun r e => by cases e)
    have hb : w1.ownsRow w.heap.size 5 1 u n (l.map (Value.int .u8)) := own_kept ha hgrow fun r e => by
      rcases (hh.1.alloc tmp).2 with ⟨rfl, _⟩ | ⟨g, c, cur, rfl, _, hg, _⟩
      · simp [Value.ownBlock] at e
      · obtain rfl : g = r := by simpa [Value.ownBlock] using e
        exact ⟨_, hg, fun cur' e' => by injection e' with _ e2; exact absurd e2 (by decide)⟩
    have hc := own_kept hb (grownBy_setCell' w1 (w.heap.size + 1) v') fun r e => by
      cases e
      exact ⟨_, h1, fun cur' e' => by injection e' with _ e2; exact absurd e2 (by decide)⟩
    exact own_kept hc hg3 fun r e => by
      cases e
      exact ⟨_, hbx2, fun cur' e' => by injection e' with _ e2; exact absurd e2 (by decide)⟩
  have hb3 : Below w.heap.size w ((w1.setCell ⟨w.heap.size + 1, 0, none⟩ v').setCell ⟨w.heap.size, 0, none⟩ (.slice A' k' c')) :=
    (hb.trans (h5.mono (by omega))).setCell (p := ⟨w.heap.size, 0, none⟩) (Nat.le_refl _) _
  refine ⟨(h4.trans (KeepsOthers.setCell _ _ _)).from B, hb3, ⟨A', k', c', r, by rw [List.map_append]; exact hcr, hr, hc1, hc2, hbx2.set _⟩, v', h2.kept hg3 (fun e => by injection e with e; omega), ?_, ?_⟩
  · rw [List.map_append, List.length_append]
    exact h3.kept hg3 (by
      rcases h3.2 with ⟨rfl, _⟩ | ⟨g, c, cur, rfl, hgb, _, _⟩
      · exact .inl rfl
      · refine .inr fun e => ?_
        simp only [Value.ownBlock, Option.some.injEq] at e
        omega)
  · intro x hx
    rcases List.mem_append.1 hx with hx | hx
    · exact hbody (hh.2 x hx)
    · rcases List.mem_singleton.1 hx with rfl
      exact hbody ho
/-- What Split leaves. -/
def SplitPost (w : World) (zs : List Int) (e : Ending) (w' : World) : Prop :=
  ∃ (v : Value) (xs : List El) (r : List Int) (er : Int), e = .returned (.tuple #[v, .int .i64 (r.length : Int), .int .i64 (if er = 30 then 0 else er)]) ∧ Cr zs (xs.map (·.2.2)) r ∧ gt r = .bad er ∧ Held w' w.heap.size w.heap.size v xs ∧ Below w.heap.size w w'
theorem split_end {w w4 : World} {zs r : List Int} {er E : Int} {v : Value} {xs : List El} {ln D : Nat} (n : Nat) (hcr : Cr zs (xs.map (·.2.2)) r) (hg : gt r = .bad er) (hln : r.length = ln) (hh : Held w4 w.heap.size (w.heap.size + 1) v xs) (hb : Below w.heap.size w w4)
    (hK : w4.heap[D]? = some (.deferred (some []))) (hD : w.heap.size ≤ D) (hE : E = if er = 30 then 0 else er) : SplitPost w zs (.returned (.tuple #[v, .int .i64 (ln : Int), .int .i64 E])) ((w4.drewN n).putObj D (.deferred none)) := by
  subst hE hln
  have hh2 : Held (w4.drewN n) w.heap.size (w.heap.size + 1) v xs := hh.below (below_drewN (Below.refl _ _) n)
  have hg2 := grownBy_putObj' (w4.drewN n) D (.deferred none)
  have hh3 := hh2.kept hg2 (fun r e => by
    cases e
    exact ⟨_, hK, fun cur e => (by cases e), fun cur e => (by cases e)⟩)
  exact ⟨v, xs, r, er, rfl, hcr, hg, ⟨own_base hh3.1 (by omega), hh3.2⟩, (below_drewN hb n).grown hg2 (below_drewN hb n).size (fun k e => by cases e; exact hD)⟩
set_option maxRecDepth 100000 in
set_option maxHeartbeats 2000000 in
theorem split_any (ad : Option Addr) (len cap : Nat) (zs : List Int) (w : World) (hR : Reads w ad len zs) (hT : Table w) (hc : len ≤ cap) (hm : cap ≤ 9223372036854775807) (hl : len ≤ 1048576) :
    Calls Tryd.prog 13 #[.slice ad len cap] w (SplitPost w zs) := by
  have HR := Lib.hid hR
  have HT := Lib.hid hT
  clear hR hT
  obtain ⟨i0, hi, hz0, hz1, hz2⟩ := info_parts info22
  refine (callsIn_wide (n := 3)).1 ?_
  refine callsIn_of_wp_marks Tryd.func13 rfl trivial ?_ rfl
  simp only [Tryd.ntmps13, List.size_toArray, List.length_cons, List.length_nil, Nat.reduceAdd, Nat.reduceSub, Array.replicate_succ, Array.replicate_zero, List.push_toArray, List.append_toArray, List.nil_append, List.cons_append]
  gi_wp2
  refine ⟨trivial, ?_⟩
  refine (callsIn_wide.2 (crates_any ad len cap _)).mono ?_
  rintro e w' ⟨rfl, rfl⟩
  gi_wp2
  obtain ⟨w3, hw3⟩ : ∃ w3, w3 = ((w.alloc (.cells #[.slice ad len cap] 22)).alloc (.cells #[.slice none 0 0] 31)).alloc (.cells #[.slice ad len cap] 22) := ⟨_, rfl⟩
  rw [← hw3]
  have hs3 : w3.heap.size = w.heap.size + 3 := by rw [hw3]; simp
  have hb3 : Below w.heap.size w w3 := by rw [hw3]; exact (((Below.refl _ w).alloc (Nat.le_refl _) _).alloc (by simp) _).alloc (by simp; omega) _
  have x1 : Boxed w3 w.heap.size 22 (.slice ad len cap) := by rw [hw3]; exact ((Boxed.new w 22 _).alloc _).alloc _
  have x2 : Boxed w3 (w.heap.size + 1) 31 (.slice none 0 0) := by
    have h := Boxed.new (w.alloc (.cells #[.slice ad len cap] 22)) 31 (.slice none 0 0)
    rw [World.size_alloc] at h
    rw [hw3]; exact h.alloc _
  have x3 : Boxed w3 (w.heap.size + 1 + 1) 22 (.slice ad len cap) := by
    have h := Boxed.new ((w.alloc (.cells #[.slice ad len cap] 22)).alloc (.cells #[.slice none 0 0] 31)) 22 (.slice ad len cap)
    rw [World.size_alloc, World.size_alloc] at h
    rw [hw3]; exact h
  have hi0 : SI w zs cap [] w3 := ⟨hb3, ⟨ad, len, cap, zs, .nil _, HR.out, hc, Nat.le_refl _, x1⟩, .slice none 0 0, x2, World.ownsRow_nil _ _ _ _, fun _ h => by cases h⟩
  clear hw3 x1 x2
  refine range_on (n := 3) (gf := 24) (lb := #[.pointer (some ⟨w.heap.size + 1 + 1, 0, none⟩)]) (encs := encE) rfl (enters_of Tryd.func24 (by kernel_rfl) rfl) (fun _ => rfl) (R := RX w zs) (fun pre x => rx_own w zs pre x _) (S := SX zs) (I := SI w zs cap) (si_own w zs cap _ (by omega)) hi0 ?seq
    (fun x => { tmps := #[.slice ad len cap, .pointer (some ⟨w.heap.size, 0, none⟩), .slice none 0 0, .int .i64 0, .int .i64 0, .pointer (some ⟨w.heap.size + 1, 0, none⟩), x.1, .int .i64 ((x.2.1 : Int) + 12), undef, undef, undef, .slice ad len cap, .func (.func 24) #[] #[.pointer (some ⟨w.heap.size + 1 + 1, 0, none⟩)], x.1, .int .i64 ((x.2.1 : Int) + 12), undef, undef, undef, undef, undef, undef, undef, undef, undef, undef, undef, undef, undef, undef, undef, undef, undef, undef, undef], defers := [] }) ?assign ?body ?done
  case seq =>
    intro l J hJ hJI hY W hb h0
    exact iter_in w 2 l (w.heap.size + 1 + 1) (by omega) ad len cap zs HR.out HT.out hc hm J hJ (fun pre X h => (hJI pre X h).1) hY W ((hb.cell (p := ⟨w.heap.size + 1 + 1, 0, none⟩) (by show w.heap.size + 1 + 1 < w3.heap.size; omega)).trans x3.cell) h0
  case assign =>
    intro l x W K hK
    unfold encE
    gi_wp2
    exact hK
  case body =>
    rintro l pre ⟨xv, m, xs⟩ W ⟨hb, ⟨A, ln, cp, r, hcr, hr, hlc, hcc, hbx⟩, v, hvx, hheld⟩ ⟨r', hcr', hg, hxs, ho⟩
    obtain rfl : r' = r := hcr'.same hcr rfl
    have hg' : gt r' = .good m := hg
    have hxs' : xs = bod r' m := hxs
    have ho' : W.ownsRow w.heap.size 5 1 xv m (xs.map (Value.int .u8)) := ho
    obtain ⟨hg1, -, -, -, hg5, -⟩ := gt_good hr.bys hg'
    obtain ⟨A1, c1, rfl, -, -, -⟩ := own_reads ho' (by rw [hxs']; exact bod_bys m hr.bys)
    obtain ⟨A', c', hsl, hr2, hc1, hc2⟩ := sub_from hr hlc (m + 12) (by have := hr.1; omega)
    obtain ⟨k', hk'⟩ : ∃ k', k' = ln - (m + 12) := ⟨_, rfl⟩
    rw [← hk'] at hsl hr2 hc1
    have hsl' : ∀ W : World, (Instr.slice 22 (.slice A ln cp) (some (.int .i64 ((m : Int) + 12))) none none).run Tryd.prog W = .ok (.slice A' k' c') W := hsl
    have hcr2 := hcr.snoc hg'
    have hlen := hcr.length HR.out.bys
    rw [List.length_map, HR.out.1] at hlen
    have h63 : pre.length + 1 ≤ maxLen := by unfold maxLen; omega
    have h47 : (pre.length + 1) * 24 ≤ 140737488355328 := by omega
    have hbs := hb.size
    have hsz1 : w.heap.size + 1 ≤ W.heap.size := by have := hvx.lt; omega
    have hszt : w.heap.size + 1 ≤ (W.alloc (.cells #[.slice A1 m c1] 22)).heap.size := by simp; omega
    have hc0 := hvx.cell
    have hd0 := hbx.cell
    have HBX := Lib.hid hbx
    have HVX := Lib.hid hvx
    have HH := Lib.hid hheld
    have HB := Lib.hid hb
    have HO := Lib.hid ho'
    have HXS := Lib.hid hxs'
    have HCR2 := Lib.hid hcr2
    have HR2 := Lib.hid hr2
    clear hb hcr hr hbx hvx hheld hcr' hg hxs ho hg' hxs' ho' hsl hr2 hcr2 hk' hlen hg1 hg5
    gi_wp2_with (gi_at_builtin; refine wpListIn_append_own _ rfl _ _ 31 rfl (w.heap.size + 1) 22 i0 (.slice none 0 0) 1 24 Tryd.underlying31 hi hz0 hz1 hz2 rfl (by decide) v pre.length (pre.map (·.1)) rfl (HH.out.1.alloc _) ⟨W.heap.size, 0, none⟩ 1 1 [.slice A1 m c1] rfl rfl (cell_one_new _ _ _) (by simp [Value.oneCell']) h63 h47 hszt ?_; intro v' w1 hown' hgrow _; obtain ⟨g', cap', rfl⟩ := ownsRow_succ hown'; have hmid := si_mid hsz1 HBX.out HVX.out HH.out hown' hgrow; have f1 := hmid.1.cell; have f2 := hmid.1.frozen; have f3 := hmid.2.cell; have f4 := hmid.2.frozen; have HX := Lib.hid (si_next hsz1 HB.out HBX.out HVX.out HH.out HO.out (by rw [HXS.out]; exact HCR2.out) HR2.out hc1 (Nat.le_trans hc2 hcc) hown' hgrow w3.heap.size); clear hmid hown' hgrow)
    exact ⟨rfl, HX.out⟩
  case done =>
    rintro D xs W hD ⟨r, er, hcr, hg⟩ ⟨hb, ⟨A, ln, cp, r', hcr', hr, hlc, hcc, hbx⟩, v, hvx, hheld⟩ hK
    obtain rfl : r' = r := hcr'.same hcr rfl
    have hcpm : cp ≤ 9223372036854775807 := by omega
    have hd0 := hbx.cell
    have HBX := Lib.hid hbx
    have HVX := Lib.hid hvx
    have HH := Lib.hid hheld
    have HB := Lib.hid hb
    have HCR := Lib.hid hcr
    have HG := Lib.hid hg
    have HRD := Lib.hid hr
    have HK := Lib.hid hK
    clear hb hcr hr hbx hvx hheld hcr' hg hK
    gi_wp2
    refine ⟨trivial, ?_⟩
    refine (callsIn_wide.2 (get_any A ln cp r' W (HRD.out.kept HB.out) (HT.out.kept HB.out) hlc hcpm)).mono ?_
    intro e w4 hg4
    obtain ⟨rfl, hb4⟩ := hg4.1 er HG.out
    have hbx4 : Boxed w4 w.heap.size 22 (.slice A ln cp) := (hb4.block _ HBX.out.lt).trans HBX.out
    have hvx4 : Boxed w4 (w.heap.size + 1) 31 v := (hb4.block _ HVX.out.lt).trans HVX.out
    have k1 := hbx4.cell
    have k2 := hvx4.cell
    have HB4 := Lib.hid (HB.out.trans (hb4.mono HB.out.size))
    have HH4 := Lib.hid (HH.out.below hb4)
    have HK4 : Hid (w4.heap[D]? = some (.deferred (some []))) := Lib.hid ((hb4.block _ (Array.getElem?_eq_some_iff.1 HK.out).1).trans HK.out)
    clear hg4 hb4 hbx4 hvx4 hd0
    have hDw : w.heap.size ≤ D := by omega
    by_cases he : er = 30
    · subst he
      gi_wp2
      gi_quiet (fail)
      gi_wp2
      refine ⟨by simp, .inl ⟨_, _, rfl, run_takeDeferred (w := w4.drewN nq) HK4.out, ?_⟩⟩
      exact ⟨_, results_tmp3 (t := 2) (u := 3) (v := 4) rfl _ _ _, split_end nq HCR.out HG.out HRD.out.1 HH4.out HB4.out HK4.out hDw rfl⟩
    · have he' : (er == 30) = false := by simpa using he
      have HE := Lib.hid he
      clear he
      gi_wp2
      gi_quiet (fail)
      gi_wp2
      refine ⟨by simp, .inl ⟨_, _, rfl, run_takeDeferred (w := w4.drewN nq) HK4.out, ?_⟩⟩
      exact ⟨_, results_tmp3 (t := 2) (u := 3) (v := 4) rfl _ _ _, split_end nq HCR.out HG.out HRD.out.1 HH4.out HB4.out HK4.out hDw (by rw [if_neg HE.out])⟩
end Go.Proofs.YtkellgofdfpjpaaDoor
