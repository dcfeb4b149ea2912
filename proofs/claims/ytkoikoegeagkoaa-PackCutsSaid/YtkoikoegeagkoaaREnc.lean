/-
  What the document's own Encode returns of a slice of fields: their bytes, or the error of the first field with which something is amiss. Condition: the slice holds no more than 2^32 fields.
-/
import Derived.Test.YtkoikoegeagkoaaOne
namespace Go.Proofs.Ytkoikoegeagkoaa
open Go.ChangeShapes Go.WideShapes Go.ChangeAt Go.RowKit

theorem ints_cells {K : IntKind} {w : World} {b off len : Nat} {zs : List Int} (hR : Reads K w (some ⟨b, off, none⟩) len zs) : ∀ j u, (zs.map (Value.int K))[j]? = some u → w.cell? (Addr.add ⟨b, off, none⟩ j) = some u := by
  intro j u hu
  obtain ⟨h1, h2⟩ := hR
  rw [List.getElem?_map] at hu
  have hj : j < zs.length := by
    rcases Nat.lt_or_ge j zs.length with h | h
    · exact h
    · rw [List.getElem?_eq_none h] at hu; cases hu
  obtain ⟨b', off', e, hc⟩ := h2 (by omega)
  have e' := Option.some.inj e
  injection e' with eb eo
  subst eb eo
  rw [Go.WideShapes.add_plain, hc j (by omega)]
  rw [List.getElem?_eq_getElem hj] at hu
  rw [← hu, List.getD_eq_getElem?_getD, List.getElem?_eq_getElem hj]
  rfl
theorem ints_one (K : IntKind) (zs : List Int) : ∀ u ∈ zs.map (Value.int K), u.oneCell' = true := by
  intro u hu
  obtain ⟨z, _, rfl⟩ := List.mem_map.1 hu
  rfl
/-- Bytes that read, nil ones too, laid behind a row of the call's own. -/
theorem run_append_rd (w : World) (base ty : Nat) (i : TypeInfo) (hi : Try.prog.info? 5 = some i) (hz : i.zero = some (.int .u8 0)) (hsize : i.size = 1) (hby : i.bytes = 1)
    (v : Value) (n : Nat) (xs : List Value) (hown : w.ownsRow base 5 1 v n xs) (A : Option Addr) (m c : Nat) (zs : List Int) (hr : Reads .u8 w A m zs) (h47 : n + m ≤ 140737488355328) (hbase : base ≤ w.heap.size) :
    ∃ v' w', (Builtin.append_ #[24, 24] ty #[v, .slice A m c]).run Try.prog w = .ok v' w' ∧ w'.ownsRow base 5 1 v' (n + m) (xs ++ zs.map (Value.int .u8)) ∧ w.grownBy w' v.ownBlock := by
  rcases A with _ | ad
  · have hm : m = 0 := by
      rcases Nat.eq_zero_or_pos m with h0 | h0
      · exact h0
      · obtain ⟨b, off, h, _⟩ := hr.2 h0
        cases h
    subst hm
    have hn : zs = [] := List.eq_nil_of_length_eq_zero hr.1
    subst hn
    refine ⟨v, w, ?_, by simpa using hown, World.grownBy.refl w _⟩
    rcases hown.2 with ⟨rfl, rfl⟩ | ⟨g, cap, cur, rfl, _, _, hnc, _⟩
    · simp [Builtin.append_, run_underlying Try.underlying24, sizeOf, typeInfo, hi, Builtin.lenOf, Builtin.firstCells]
    · simp [Builtin.append_, run_underlying Try.underlying24, sizeOf, typeInfo, hi, Builtin.lenOf, Builtin.firstCells, hnc, storeCells]
  · have hcells : ∀ j u, (zs.map (Value.int .u8))[j]? = some u → w.cell? (ad.add j) = some u := by
      intro j u hu
      rcases Nat.eq_zero_or_pos m with h0 | h0
      · have hn : zs = [] := List.eq_nil_of_length_eq_zero (hr.1.trans h0)
        subst hn
        simp at hu
      · obtain ⟨b, off, h, _⟩ := hr.2 h0
        injection h with h
        subst h
        exact ints_cells hr j u hu
    obtain ⟨v', w', hrun, h2, h3, _⟩ := run_append_own (P := Try.prog) w base 24 ty 5 i (.int .u8 0) 1 1 Try.underlying24 hi hz hsize hby rfl (by decide) v n xs hown ad m c (zs.map (Value.int .u8)) (by rw [List.length_map, hr.1, Nat.mul_one]) hcells (ints_one .u8 zs) (by unfold maxLen; omega) (by omega) hbase
    exact ⟨v', w', hrun, h2, h3⟩
theorem wpList_append_rd {w : World} {ops : Array Oper} {rest : List Oper} {o : Oper} {a : Act} {Q : Exit → Act → World → Prop} (hgd : o.guard = none) (s x : Operand)
    (ho : o.op = .call { callee := .builtin .append, args := #[s, x], argTypes := #[24, 24] })
    (base : Nat) (i : TypeInfo) (hi : Try.prog.info? 5 = some i) (hz : i.zero = some (.int .u8 0)) (hsize : i.size = 1) (hby : i.bytes = 1)
    (v : Value) (n : Nat) (xs : List Value) (hs : a.eval s = v) (hown : w.ownsRow base 5 1 v n xs) (A : Option Addr) (m c : Nat) (zs : List Int) (hx : a.eval x = .slice A m c) (hr : Reads .u8 w A m zs) (h47 : n + m ≤ 140737488355328) (hbase : base ≤ w.heap.size)
    (h : ∀ v' w', w'.ownsRow base 5 1 v' (n + m) (xs ++ zs.map (Value.int .u8)) → w.grownBy w' v.ownBlock → wpList Try.prog ops Q rest (a.put o.dst v') w') : wpList Try.prog ops Q (o :: rest) a w := by
  refine wpList_plain hgd fun K hK => ?_
  obtain ⟨v', w', hrun, h2, h3⟩ := run_append_rd w base o.type i hi hz hsize hby v n xs hown A m c zs hr h47 hbase
  unfold Oper.wp execOp
  simp only [ho, resolve, invoke, builtin, Sem.run_bind, Sem.run_pure, Result.andThen_ok, List.map_toArray, List.map_cons, List.map_nil, hs, hx, hrun]
  exact hK _ _ (h v' w' h2 h3)
theorem renc_next {w wr w1 w2 : World} {len k n m : Nat} {fs : List Fld} {f : Fld} {v v2 : Value} (hl : fs.length = len) (hk : k < len) (he : errL (fs.take k) = 0) (hf : f = fs.getD k z0) (ha : ams f = 0) (hn : n = (bytL (fs.take k)).length) (hm : m = (oneB f).length)
    (ho1 : w1.ownsRow w.heap.size 5 1 v n ((bytL (fs.take k)).map (Value.int .u8))) (hb : Below w.heap.size w wr) (hb1 : Below wr.heap.size wr w1)
    (ho : w2.ownsRow w.heap.size 5 1 v2 (n + m) ((bytL (fs.take k)).map (Value.int .u8) ++ (oneB f).map (Value.int .u8))) (hg : w1.grownBy w2 v.ownBlock) : ERel w len fs v2 (.int .i64 ((k : Int) + 1)) w2 := by
  have e : oneB f = byts f := by unfold oneB; rw [if_pos ha]
  rw [e] at ho hm
  rw [← List.map_append, hm] at ho
  have hbs : Below w.heap.size w w1 := hb.trans (hb1.mono hb.size)
  refine enc_round (wr := w) hl hk he hf ha hn ho (Below.refl _ _) (hbs.grown hg hbs.size (own_ge ho1))
set_option maxHeartbeats 1000000 in
theorem rencode_any (ad : Option Addr) (len cap : Nat) (fs : List Fld) (w : World) (hR : FReads w ad len fs) (hm : len ≤ 4294967296) :
    Calls Try.prog 12 #[.slice ad len cap] w (EncPost w fs) := by
  obtain ⟨i0, hi, hz0, hz1, hz2⟩ := info_parts info5
  have hl := hR.1
  have HL := Lib.hid hl
  have HR := Lib.hid hR
  clear hR hl
  go_enter Try.func12, Try.ntmps12
  go_wp2
  go_loopw [4, 5] (fun v i wr => ERel w len fs v i wr) (fun _ i _ => len - (intOf i).toNat)
  case atStart => exact ⟨0, 0, by omega, rfl, rfl, rfl, World.ownsRow_nil _ _ _ _, Below.refl _ _⟩
  case round =>
    obtain ⟨k, n, hk, rfl, he, hn, hown, hb⟩ := hrel
    have HE := Lib.hid he
    have HN := Lib.hid hn
    have HO := Lib.hid hown
    have HB := Lib.hid hb
    have hbase := hb.size
    clear he hn hown hb
    by_cases hlt : k < len
    · obtain ⟨b, off, rfl, hc⟩ := (HR.out.kept HB.out).2 (by omega)
      obtain ⟨h1, h2, h3⟩ := hc k hlt
      obtain ⟨f, hf⟩ : ∃ f, f = fs.getD k z0 := ⟨_, rfl⟩
      rw [← hf] at h1 h2 h3
      have HF := Lib.hid hf
      clear hc hf
      go_wp2_with fail
      refine (one_any f _).mono ?_
      rintro e w1 ⟨A, m, c, rfl, hm1, hrd, hmc, hcm, hb1⟩
      obtain ⟨a, ha⟩ : ∃ a, a = ams f := ⟨_, rfl⟩
      rw [← ha]
      have HA := Lib.hid ha
      have HB1 := Lib.hid hb1
      have HM := Lib.hid hm1
      have HRD := Lib.hid hrd
      have HO1 : Hid (w1.ownsRow w.heap.size 5 1 u4 n ((bytL (fs.take k)).map (Value.int .u8))) := Lib.hid (own_below HO.out hb1)
      have hb1s := hb1.size
      have hnb : n ≤ 1026 * len := by
        have h1 := bytL_len HE.out
        have h2 : (fs.take k).length ≤ len := by rw [List.length_take]; omega
        have h3 : 1026 * (fs.take k).length ≤ 1026 * len := Nat.mul_le_mul_left _ h2
        rw [HN.out]; omega
      have hmb : m ≤ 1026 := by
        rw [HM.out]; unfold oneB
        split
        · rename_i hz; exact byts_len hz
        · simp
      clear ha hb1 hm1 hrd
      by_cases hz : a = 0
      · have hz' : (a != 0) = false := by simpa using hz
        have HZ : Hid (ams f = 0) := Lib.hid (by rw [← HA.out]; exact hz)
        have h47 : n + m ≤ 140737488355328 := by omega
        have hsz : w.heap.size ≤ w1.heap.size := by omega
        clear hz
        go_wp2_with (at_builtin; refine wpList_append_rd rfl (.tmp 25) (.tmp 26) rfl w.heap.size i0 hi hz0 hz1 hz2 u4 n ((bytL (fs.take k)).map (Value.int .u8)) rfl HO1.out A m c (oneB f) rfl HRD.out h47 hsz ?_; intro v2 w2 h4 h5; have HX := Lib.hid (renc_next HL.out hlt HE.out HF.out HZ.out HN.out HM.out HO1.out HB.out HB1.out h4 h5); clear h4 h5)
        go_roundw
        case rel => exact HX.out
        case measure => simp [intOf]; omega
      · have hz' : (a != 0) = true := by simpa using hz
        have HZ := Lib.hid hz
        clear hz
        go_wp2
        go_ret2
        exact enc_bad HL.out hlt HE.out (by rw [← HF.out]; exact HA.out) HZ.out (HB.out.trans (HB1.out.mono hbase))
    · obtain rfl : len = k := by omega
      go_wp2
      go_ret2
      exact enc_end HL.out HE.out HN.out HO.out HB.out
end Go.Proofs.Ytkoikoegeagkoaa
