/-
  What the document's own function for one field's bytes returns: the bytes, or what is amiss. No condition.
  What the document's own Encode returns of a slice of fields: their bytes, or the error of the first field with which something is amiss. Condition: the slice holds no more than 2^32 fields.
  What pack.join and the document's own number return of a slice of bytes that reads: the number that they are, the highest first, as far as 64 bits go. No condition.
-/
import Derived.Test.YtflgemlhocjipaaGreatDoorQKinds
namespace Go.Proofs.YtflgemlhocjipaaGreatDoor.Pq
set_option maxRecDepth 100000
open Go.ChangeShapes Go.WideShapes Go.ChangeAt Go.RowKit

def oneB (f : Fld) : List Int := if ams f = 0 then byts f else []
def OnePost (w : World) (f : Fld) (e : Ending) (w' : World) : Prop :=
  ∃ (A : Option Addr) (n c : Nat), e = .returned (.tuple #[.slice A n c, .int .i64 (ams f)]) ∧ n = (oneB f).length ∧ Reads .u8 w' A n (oneB f) ∧ n ≤ c ∧ c ≤ maxLen ∧ Below w.heap.size w w'
theorem one_good {w w' : World} {f : Fld} {v : Value} {n : Nat} {zs : List Int} (h : ams f = 0) (hz : zs = byts f) (ho : w'.ownsRow w.heap.size 5 1 v n (zs.map (Value.int .u8))) (hb : Below w.heap.size w w') : OnePost w f (.returned (.tuple #[v, .int .i64 0])) w' := by
  have e : oneB f = byts f := by unfold oneB; rw [if_pos h]
  subst hz
  have hl : n = (byts f).length := by have := ho.1; rw [List.length_map] at this; omega
  obtain ⟨A, c, rfl, h1, h2, h3⟩ := own_reads ho
  exact ⟨A, n, c, by rw [h], by rw [e]; exact hl, by rw [e]; exact h1, h2, h3, hb⟩
theorem box_below (w : World) (o : Obj) : Below w.heap.size w (w.alloc o) := (Below.refl _ _).alloc (Nat.le_refl _) _
theorem boxbox_below (w : World) (o p : Obj) : Below w.heap.size w ((w.alloc o).alloc p) := (box_below w o).alloc (by simp) p
end Go.Proofs.YtflgemlhocjipaaGreatDoor.Pq
namespace Go.Proofs.YtflgemlhocjipaaGreatDoor.Pq
set_option maxRecDepth 100000
open Go.ChangeShapes Go.WideShapes Go.ChangeAt Go.RowKit

theorem ints_cells {K : IntKind} {w : World} {b off len : Nat} {zs : List Int} (hR : Reads K w (some ⟨b, off, none⟩) len zs) : ∀ j u, (zs.map (Value.int K))[j]? = some u → w.cell? (Addr.add ⟨b, off, none⟩ j) = some u := by
  intro j u hu
  obtain ⟨h1, h2⟩ := hR
  rw [List.getElem?_map] at hu
  have hj : j < zs.length := by
    rcases Nat.lt_or_ge j zs.length with h | h
    · exact h
    · rw [List.getElem?_eq_none h] at hu; cases hu
  obtain ⟨b', off', e, hc⟩ := h2 (by omega)
  have e' := Option.some.inj e
  injection e' with eb eo
  subst eb eo
  rw [Go.WideShapes.add_plain, hc j (by omega)]
  rw [List.getElem?_eq_getElem hj] at hu
  rw [← hu, List.getD_eq_getElem?_getD, List.getElem?_eq_getElem hj]
  rfl
theorem ints_one (K : IntKind) (zs : List Int) : ∀ u ∈ zs.map (Value.int K), u.oneCell' = true := by
  intro u hu
  obtain ⟨z, _, rfl⟩ := List.mem_map.1 hu
  rfl
/-- Bytes that read, nil ones too, laid behind a row of the call's own. -/
theorem run_append_rd (w : World) (base ty : Nat) (i : TypeInfo) (hi : Tryz.prog.info? 5 = some i) (hz : i.zero = some (.int .u8 0)) (hsize : i.size = 1) (hby : i.bytes = 1)
    (v : Value) (n : Nat) (xs : List Value) (hown : w.ownsRow base 5 1 v n xs) (A : Option Addr) (m c : Nat) (zs : List Int) (hr : Reads .u8 w A m zs) (h47 : n + m ≤ 140737488355328) (hbase : base ≤ w.heap.size) :
    ∃ v' w', (Builtin.append_ #[54, 54] ty #[v, .slice A m c]).run Tryz.prog w = .ok v' w' ∧ w'.ownsRow base 5 1 v' (n + m) (xs ++ zs.map (Value.int .u8)) ∧ w.grownBy w' v.ownBlock := by
  rcases A with _ | ad
  · have hm : m = 0 := by
      rcases Nat.eq_zero_or_pos m with h0 | h0
      · exact h0
      · obtain ⟨b, off, h, _⟩ := hr.2 h0
        cases h
    subst hm
    have hn : zs = [] := List.eq_nil_of_length_eq_zero hr.1
    subst hn
    refine ⟨v, w, ?_, by simpa using hown, World.grownBy.refl w _⟩
    rcases hown.2 with ⟨rfl, rfl⟩ | ⟨g, cap, cur, rfl, _, _, hnc, _⟩
    · simp [Builtin.append_, run_underlying Tryz.underlying54, sizeOf, typeInfo, hi, Builtin.lenOf, Builtin.firstCells]
    · simp [Builtin.append_, run_underlying Tryz.underlying54, sizeOf, typeInfo, hi, Builtin.lenOf, Builtin.firstCells, hnc, storeCells]
  · have hcells : ∀ j u, (zs.map (Value.int .u8))[j]? = some u → w.cell? (ad.add j) = some u := by
      intro j u hu
      rcases Nat.eq_zero_or_pos m with h0 | h0
      · have hn : zs = [] := List.eq_nil_of_length_eq_zero (hr.1.trans h0)
        subst hn
        simp at hu
      · obtain ⟨b, off, h, _⟩ := hr.2 h0
        injection h with h
        subst h
        exact ints_cells hr j u hu
    obtain ⟨v', w', hrun, h2, h3, _⟩ := run_append_own (P := Tryz.prog) w base 54 ty 5 i (.int .u8 0) 1 1 Tryz.underlying54 hi hz hsize hby rfl (by decide) v n xs hown ad m c (zs.map (Value.int .u8)) (by rw [List.length_map, hr.1, Nat.mul_one]) hcells (ints_one .u8 zs) (by unfold maxLen; omega) (by omega) hbase
    exact ⟨v', w', hrun, h2, h3⟩
theorem wpList_append_rd {w : World} {ops : Array Oper} {rest : List Oper} {o : Oper} {a : Act} {Q : Exit → Act → World → Prop} (hgd : o.guard = none) (s x : Operand)
    (ho : o.op = .call { callee := .builtin .append, args := #[s, x], argTypes := #[54, 54] })
    (base : Nat) (i : TypeInfo) (hi : Tryz.prog.info? 5 = some i) (hz : i.zero = some (.int .u8 0)) (hsize : i.size = 1) (hby : i.bytes = 1)
    (v : Value) (n : Nat) (xs : List Value) (hs : a.eval s = v) (hown : w.ownsRow base 5 1 v n xs) (A : Option Addr) (m c : Nat) (zs : List Int) (hx : a.eval x = .slice A m c) (hr : Reads .u8 w A m zs) (h47 : n + m ≤ 140737488355328) (hbase : base ≤ w.heap.size)
    (h : ∀ v' w', w'.ownsRow base 5 1 v' (n + m) (xs ++ zs.map (Value.int .u8)) → w.grownBy w' v.ownBlock → wpList Tryz.prog ops Q rest (a.put o.dst v') w') : wpList Tryz.prog ops Q (o :: rest) a w := by
  refine wpList_plain hgd fun K hK => ?_
  obtain ⟨v', w', hrun, h2, h3⟩ := run_append_rd w base o.type i hi hz hsize hby v n xs hown A m c zs hr h47 hbase
  unfold Oper.wp execOp
  simp only [ho, resolve, invoke, builtin, Sem.run_bind, Sem.run_pure, Result.andThen_ok, List.map_toArray, List.map_cons, List.map_nil, hs, hx, hrun]
  exact hK _ _ (h v' w' h2 h3)
end Go.Proofs.YtflgemlhocjipaaGreatDoor.Pq
namespace Go.Proofs.YtflgemlhocjipaaGreatDoor.Pq
set_option maxRecDepth 100000
open Go.ChangeShapes Go.WideShapes Go.ChangeAt Go.RowKit

theorem join_bits (N z : Int) (h0 : 0 ≤ z) (h1 : z ≤ 255) : bits .or .i64 (wrap64 (wrap64 N * 256)) z = wrap64 (N * 256 + z) := by
  have e : bits .or .i64 (wrap64 (wrap64 N * 256)) z = IntKind.i64.wrap (((BitVec.ofInt 64 (wrap64 (wrap64 N * 256)) ||| BitVec.ofInt 64 z).toNat : Nat) : Int) := rfl
  rw [e, IntKind.wrap_i64, BitVec.toNat_or, BitVec.toNat_ofInt, BitVec.toNat_ofInt]
  have e1 : (wrap64 (wrap64 N * 256) % ((2 ^ 64 : Nat) : Int)).toNat = (N % 72057594037927936).toNat <<< 8 := by
    rw [Nat.shiftLeft_eq]; unfold wrap64; simp only [Nat.reducePow]; omega
  have e2 : (z % ((2 ^ 64 : Nat) : Int)).toNat = z.toNat := by simp only [Nat.reducePow]; omega
  rw [e1, e2, ← Nat.shiftLeft_add_eq_or_of_lt (show z.toNat < 2 ^ 8 by omega), Nat.shiftLeft_eq]
  unfold wrap64
  omega
theorem num_snoc (l : List Int) (z : Int) : num (l ++ [z]) = num l * 256 + z := by simp [num]
theorem take_next (zs : List Int) (k : Nat) (h : k < zs.length) : zs.take (k + 1) = zs.take k ++ [zs.getD k 0] := by
  rw [List.take_succ_eq_append_getElem h, List.getD_eq_getElem?_getD, List.getElem?_eq_getElem h]; rfl
theorem num_next (zs : List Int) (k : Nat) (h : k < zs.length) : num (zs.take (k + 1)) = num (zs.take k) * 256 + zs.getD k 0 := by rw [take_next zs k h, num_snoc]
theorem bys_getD {zs : List Int} (h : Bys zs) (k : Nat) : 0 ≤ zs.getD k 0 ∧ zs.getD k 0 ≤ 255 := by
  rw [List.getD_eq_getElem?_getD]
  by_cases hk : k < zs.length
  · rw [List.getElem?_eq_getElem hk]; exact h _ (List.getElem_mem hk)
  · rw [List.getElem?_eq_none (by omega)]; decide
theorem join_any (ad : Option Addr) (len cap : Nat) (zs : List Int) (w : World) (hR : Reads .u8 w ad len zs) (hB : Bys zs) (hm : len ≤ 9223372036854775807) :
    Calls Tryz.prog 158 #[.slice ad len cap] w fun e w' => e = .returned (.int .i64 (wrap64 (num zs))) ∧ w = w' := by
  have hl := hR.1
  have HL := Lib.hid hl
  have HR := Lib.hid hR
  have HB := Lib.hid hB
  clear hR hB hl
  go_enter Tryz.func158, Tryz.ntmps158
  go_wp2
  go_loop [3, 8] (fun c i => ∃ (k : Nat) (n : Int), k ≤ len ∧ i = .int .i64 k ∧ c = .int .i64 n ∧ n = wrap64 (num (zs.take k))) (fun _ i => len - (intOf i).toNat)
  case atStart => exact ⟨0, 0, Nat.zero_le _, rfl, rfl, by simp [num, wrap64]⟩
  case round =>
    obtain ⟨k, n, hk, rfl, rfl, hn⟩ := hrel
    have HN := Lib.hid hn
    clear hn
    by_cases hlt : k < len
    · obtain ⟨b, off, rfl, hcell⟩ := HR.out.2 (by omega)
      have hx := hcell k hlt
      have hz := bys_getD HB.out k
      obtain ⟨z, hzz⟩ : ∃ z, z = zs.getD k 0 := ⟨_, rfl⟩
      rw [← hzz] at hx hz
      have hz0 := hz.1
      have hz1 := hz.2
      obtain ⟨y, hy⟩ : ∃ y, y = wrap64 (num (zs.take (k + 1))) := ⟨_, rfl⟩
      have HY := Lib.hid hy
      have e1 : bits .or .i64 (wrap64 (n * 256)) z = y := by
        rw [hy, num_next zs k (by rw [HL.out]; exact hlt), ← hzz, HN.out, join_bits _ _ hz0 hz1]
      clear hzz hz hcell hy
      go_wp2
      go_round
      case rel => exact ⟨k + 1, y, by omega, by go_num, rfl, HY.out⟩
      case measure => simp [intOf]; omega
    · obtain rfl : k = len := by omega
      go_wp2
      go_ret
      exact ⟨ret_i64 (by rw [HN.out, List.take_of_length_le (by rw [HL.out]; exact Nat.le_refl _)]), rfl⟩
theorem ret_u64 {a b : Int} (h : a = b) : Ending.returned (.int .u64 a) = .returned (.int .u64 b) := by rw [h]
theorem number_any (ad : Option Addr) (len cap : Nat) (zs : List Int) (w : World) (hR : Reads .u8 w ad len zs) (hB : Bys zs) (hm : len ≤ 9223372036854775807) :
    Calls Tryz.prog 102 #[.slice ad len cap] w fun e w' => e = .returned (.int .u64 (num zs % 18446744073709551616)) ∧ w = w' := by
  have hl := hR.1
  have HL := Lib.hid hl
  have HR := Lib.hid hR
  have HB := Lib.hid hB
  clear hR hB hl
  go_enter Tryz.func102, Tryz.ntmps102
  go_wp2
  go_loop [3, 4] (fun c i => ∃ (k : Nat) (n : Int), k ≤ len ∧ i = .int .i64 k ∧ c = .int .u64 n ∧ 0 ≤ n ∧ n = num (zs.take k) % 18446744073709551616) (fun _ i => len - (intOf i).toNat)
  case atStart => exact ⟨0, 0, Nat.zero_le _, rfl, rfl, by omega, rfl⟩
  case round =>
    obtain ⟨k, n, hk, rfl, rfl, hn0, hn⟩ := hrel
    have HN := Lib.hid hn
    clear hn
    by_cases hlt : k < len
    · obtain ⟨b, off, rfl, hcell⟩ := HR.out.2 (by omega)
      have hx := hcell k hlt
      have hz := bys_getD HB.out k
      obtain ⟨z, hzz⟩ : ∃ z, z = zs.getD k 0 := ⟨_, rfl⟩
      rw [← hzz] at hx hz
      have hz0 := hz.1
      have hz1 := hz.2
      obtain ⟨y, hy⟩ : ∃ y, y = num (zs.take (k + 1)) % 18446744073709551616 := ⟨_, rfl⟩
      have hy0 : 0 ≤ y := by omega
      have HY := Lib.hid hy
      have e1 : IntKind.u64.wrap (IntKind.u64.wrap (n * 256) + z) = y := by
        have := HN.out
        rw [hy, num_next zs k (by rw [HL.out]; exact hlt), ← hzz, IntKind.wrap_u64, IntKind.wrap_u64]; omega
      clear hzz hz hcell hy
      go_wp2
      go_round
      case rel => exact ⟨k + 1, y, by omega, by go_num, rfl, hy0, HY.out⟩
      case measure => simp [intOf]; omega
    · obtain rfl : k = len := by omega
      go_wp2
      go_ret
      exact ⟨ret_u64 (by rw [HN.out, List.take_of_length_le (by rw [HL.out]; exact Nat.le_refl _)]), rfl⟩
end Go.Proofs.YtflgemlhocjipaaGreatDoor.Pq
