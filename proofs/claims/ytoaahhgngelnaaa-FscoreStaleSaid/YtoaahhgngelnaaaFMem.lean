/-
  A file system in memory: its box, its map of inodes, their boxes, folders and names; what a call leaves of the rest. No condition.
-/
import Derived.Test.YtoaahhgngelnaaaFMath4
import Derived.Test.YtoaahhgngelnaaaTMap
import Derived.Maps.OwnIn
import Derived.Lib.Strings
namespace Go.Proofs.Ytoaahhgngelnaaa
set_option maxRecDepth 100000
open Go.ChangeShapes Go.WideShapes Go.ChangeAt Go.RowKit Go.Proofs.Sg Go.Proofs.Fz

abbrev B (l : Txt) : ByteArray := ⟨l.toArray⟩
abbrev L (s : ByteArray) : Txt := s.data.toList
theorem LB (l : Txt) : L (B l) = l := by simp
theorem BL (s : ByteArray) : B (L s) = s := by simp
theorem B_size (l : Txt) : (B l).size = l.length := by rw [Lib.size_eq]
theorem L_len (s : ByteArray) : (L s).length = s.size := (Lib.size_eq s).symm
theorem toL (s : ByteArray) : s.toList = L s := Lib.toList_data s
theorem L_inj {s t : ByteArray} (h : L s = L t) : s = t := by rw [← BL s, ← BL t, h]

/-! ### Maps of whole values -/
def vR (v : Value) : Option (DataW Value × List MemPlace) := some (.held v, [])
theorem vR_mk (v : Value) : vR v = some (.held v, []) := rfl
theorem vR_inv {v u : Value} {ps : List MemPlace} (h : vR v = some (.held u, ps)) : v = u := by
  have h2 := congrArg Prod.fst (Option.some.inj h)
  injection h2
theorem lawS : Go.Maps.Keyed Try.prog 9 := Go.Maps.string_keyed Try.underlying9
theorem key_int {a : Int} (h1 : -9223372036854775808 ≤ a) (h2 : a ≤ 9223372036854775807) : keyOf Try.prog 3 (.int .i64 a) = some (.int .i64 a) :=
  Go.Maps.keyOf_int_mk Try.underlying3 (by
    unfold Lit.wf; simp
    exact ⟨by rw [show IntKind.i64.min = -9223372036854775808 from rfl]; omega, by omega⟩)
theorem key_str {s : ByteArray} (h : s.size ≤ maxLen) : keyOf Try.prog 9 (.string s) = some (.string (L s)) :=
  Go.WideMaps.keyOf_string_mk (P := Try.prog) (k := 9) Try.underlying9 h
theorem zeroPI (w : World) : (zeroValue 66).run Try.prog w = .ok (.pointer none) w := by kernel_rfl
theorem zeroHd (w : World) : (zeroValue 40).run Try.prog w = .ok (.agg #[.int .i64 0, .int .i64 0]) w := by kernel_rfl
abbrev pA (n : Nat) : Value := .pointer (some ⟨n, 0, none⟩)
abbrev hV (h : Hd) : Value := .agg #[.int .i64 h.id, .int .i64 h.gen]
def iP (I : List Nod) (ip : Nat → Nat) (i : Int) : Value := match nget I i with
  | some x => pA (ip x.id)
  | none => .pointer none
/-- The map of inodes. -/
structure IMap (w : World) (mb : Nat) (I : List Nod) (ip : Nat → Nat) : Prop where
  ex : ∃ M : DataW Value, w.ownsMap Try.prog 3 vR mb (Maps.size M) M ∧ Maps.size M = I.length ∧ (∀ a : Int, Maps.has M (.int .i64 a) = (nget I a).isSome) ∧ ∀ a : Int, M.atKey (.int .i64 a) (.held (.pointer none)) = .held (iP I ip a)
/-- The map of a folder's names. -/
structure NMap (w : World) (mb : Nat) (I : List Nod) (N : List Nm) (d : Nat) : Prop where
  ex : ∃ M : DataW Value, w.ownsMap Try.prog 9 vR mb (Maps.size M) M ∧ Maps.size M = many N d ∧ (∀ s : Txt, Maps.has M (.string s) = decide (entry N d s ≠ 0)) ∧ ∀ s : Txt, M.atKey (.string s) (.held (hV hd0)) = .held (hV (hdO I (entry N d s)))
theorem tightV {k : TypeId} {w : World} {mb n : Nat} {D : DataW Value} (h : w.ownsMap Try.prog k vR mb n D) : w.ownsMap Try.prog k vR mb (Maps.size D) D := tightM h
theorem IMap.lt {w : World} {mb : Nat} {I : List Nod} {ip : Nat → Nat} (h : IMap w mb I ip) : mb < w.heap.size := by
  obtain ⟨M, h1, -⟩ := h.ex
  exact World.ownsMap.lt h1
theorem NMap.lt {w : World} {mb d : Nat} {I : List Nod} {N : List Nm} (h : NMap w mb I N d) : mb < w.heap.size := by
  obtain ⟨M, h1, -⟩ := h.ex
  exact World.ownsMap.lt h1
theorem IMap.is_map {w : World} {mb : Nat} {I : List Nod} {ip : Nat → Nat} (h : IMap w mb I ip) : ∃ es clock, w.heap[mb]? = some (.map es clock) := by
  obtain ⟨M, ⟨es, clock, h1, _⟩, -⟩ := h.ex
  exact ⟨es, clock, h1⟩
theorem NMap.is_map {w : World} {mb d : Nat} {I : List Nod} {N : List Nm} (h : NMap w mb I N d) : ∃ es clock, w.heap[mb]? = some (.map es clock) := by
  obtain ⟨M, ⟨es, clock, h1, _⟩, -⟩ := h.ex
  exact ⟨es, clock, h1⟩
theorem IMap.keep {w w' : World} {mb : Nat} {I : List Nod} {ip : Nat → Nat} (h : IMap w mb I ip) (hb : w'.heap[mb]? = w.heap[mb]?) : IMap w' mb I ip := by
  obtain ⟨M, ⟨es, clock, h1, h2⟩, h3⟩ := h.ex
  exact ⟨M, ⟨es, clock, hb.trans h1, h2⟩, h3⟩
theorem NMap.keep {w w' : World} {mb d : Nat} {I : List Nod} {N : List Nm} (h : NMap w mb I N d) (hb : w'.heap[mb]? = w.heap[mb]?) : NMap w' mb I N d := by
  obtain ⟨M, ⟨es, clock, h1, h2⟩, h3⟩ := h.ex
  exact ⟨M, ⟨es, clock, hb.trans h1, h2⟩, h3⟩
theorem IMap.congr {w : World} {mb : Nat} {I J : List Nod} {ip jp : Nat → Nat} (h : IMap w mb I ip) (hl : J.length = I.length) (he : ∀ a : Int, (nget J a).isSome = (nget I a).isSome) (hp : ∀ a : Int, iP J jp a = iP I ip a) : IMap w mb J jp := by
  obtain ⟨M, h1, h2, h3, h4⟩ := h.ex
  exact ⟨M, h1, h2.trans hl.symm, fun a => (h3 a).trans (he a).symm, fun a => by rw [h4, hp]⟩
theorem NMap.congr {w : World} {mb d : Nat} {I J : List Nod} {N K : List Nm} (h : NMap w mb I N d) (hm : many K d = many N d) (he : ∀ s, entry K d s = entry N d s) (hp : ∀ s, hdO J (entry N d s) = hdO I (entry N d s)) : NMap w mb J K d := by
  obtain ⟨M, h1, h2, h3, h4⟩ := h.ex
  exact ⟨M, h1, h2.trans hm.symm, fun s => by rw [h3, he], fun s => by rw [h4, he, hp]⟩
theorem IMap.look {w : World} {mb : Nat} {I : List Nod} {ip : Nat → Nat} (h : IMap w mb I ip) {a : Int} (h1 : -9223372036854775808 ≤ a) (h2 : a ≤ 9223372036854775807) :
    (Instr.lookup 62 (.map (some mb)) (.int .i64 a) false).run Try.prog w = .ok (iP I ip a) w := by
  obtain ⟨M, g1, g2, g3, g4⟩ := h.ex
  obtain ⟨v, ps, e1, e2⟩ := World.ownsMap.lookup (t := 62) (e := 66) g1 lawI Try.underlying62 (zeroPI w) (vR_mk (.pointer none)) (key_int h1 h2)
  rw [g4] at e2
  rw [e1, vR_inv e2]
theorem IMap.size {w : World} {mb : Nat} {I : List Nod} {ip : Nat → Nat} (h : IMap w mb I ip) (ty : TypeId) : (Builtin.len_ #[62] ty #[.map (some mb)]).run Try.prog w = .ok (.int .i64 (I.length : Int)) w := by
  obtain ⟨M, g1, g2, -⟩ := h.ex
  have := World.ownsMap.len (e := 66) g1 Try.underlying62 ty
  rw [g2] at this
  exact this
theorem NMap.look {w : World} {mb d : Nat} {I : List Nod} {N : List Nm} (h : NMap w mb I N d) {s : ByteArray} (hs : s.size ≤ maxLen) :
    (∀ b, decide (entry N d (L s) ≠ 0) = b → (Instr.lookup 79 (.map (some mb)) (.string s) true).run Try.prog w = .ok (.tuple #[hV (hdO I (entry N d (L s))), .bool b]) w) ∧
    (Instr.lookup 79 (.map (some mb)) (.string s) false).run Try.prog w = .ok (hV (hdO I (entry N d (L s)))) w := by
  obtain ⟨M, g1, g2, g3, g4⟩ := h.ex
  refine ⟨fun b hb => ?_, ?_⟩
  · obtain ⟨v, ps, e1, e2⟩ := World.ownsMap.look_ok (t := 79) (e := 40) g1 lawS Try.underlying79 (zeroHd w) (vR_mk (hV hd0)) (key_str hs)
    rw [g4] at e2
    rw [e1, vR_inv e2, g3, hb]
  · obtain ⟨v, ps, e1, e2⟩ := World.ownsMap.lookup (t := 79) (e := 40) g1 lawS Try.underlying79 (zeroHd w) (vR_mk (hV hd0)) (key_str hs)
    rw [g4] at e2
    rw [e1, vR_inv e2]
theorem NMap.size {w : World} {mb d : Nat} {I : List Nod} {N : List Nm} (h : NMap w mb I N d) (ty : TypeId) : (Builtin.len_ #[79] ty #[.map (some mb)]).run Try.prog w = .ok (.int .i64 (many N d : Int)) w := by
  obtain ⟨M, g1, g2, -⟩ := h.ex
  have := World.ownsMap.len (e := 40) g1 Try.underlying79 ty
  rw [g2] at this
  exact this
abbrev upd (f : Nat → Nat) (i v : Nat) : Nat → Nat := fun j => if j = i then v else f j
theorem IMap.store {w : World} {mb : Nat} {I : List Nod} {ip : Nat → Nat} (h : IMap w mb I ip) {x : Nod} (hx : nget I (x.id : Int) = none) (hid : x.id ≤ 1000) (hl : I.length ≤ 1000) (q : Nat) :
    ∃ w', (Instr.mapUpdate 62 (.map (some mb)) (.int .i64 (x.id : Int)) (pA q)).run Try.prog w = .ok () w' ∧ IMap w' mb (setI I x) (upd ip x.id q) ∧ w.grownBy w' (some mb) := by
  obtain ⟨M, g1, g2, g3, g4⟩ := h.ex
  obtain ⟨w', e1, e2, e3⟩ := World.ownsMap.store (t := 62) (e := 66) g1 lawI Try.underlying62 (by unfold maxLen; omega) (key_int (a := (x.id : Int)) (by omega) (by omega)) (vR_mk (pA q))
  have hkl : WideAt.IsKeyLit (.int .i64 (x.id : Int)) := by trivial
  refine ⟨w', e1, ⟨M.put (.int .i64 (x.id : Int)) (.held (pA q)), tightV e2, ?_, fun a => ?_, fun a => ?_⟩, e3.grown⟩
  · rw [Maps.size_put (g1.tidy lawI), g3, hx, g2, len_setI_new hx]; simp
  · rw [nget_setI]
    by_cases ha : (x.id : Int) = a
    · subst ha; rw [Maps.has_put_same g1.isMap hkl, if_pos rfl]; rfl
    · rw [Maps.has_put_other (by intro e; injection e with _ e; exact ha e.symm), g3, if_neg ha]
  · unfold iP
    rw [nget_setI]
    by_cases ha : (x.id : Int) = a
    · subst ha
      rw [Maps.atKey_put_same g1.isMap hkl, if_pos rfl]
      simp [upd]
    · rw [Maps.atKey_put_other (by intro e; injection e with _ e; exact ha e.symm), g4, if_neg ha]
      unfold iP
      rcases hq : nget I a with _ | y
      · rfl
      · have hy := (nget_mem hq).2
        have : y.id ≠ x.id := by omega
        simp [upd, this]
theorem IMap.drop {w : World} {mb : Nat} {I : List Nod} {ip : Nat → Nat} (h : IMap w mb I ip) (hn : (I.map (fun x => x.id)).Nodup) {x : Nod} (hx : x ∈ I) (hid : x.id ≤ 1000) (ty : TypeId) :
    ∃ w', (Builtin.delete_ #[62, 3] ty #[.map (some mb), .int .i64 (x.id : Int)]).run Try.prog w = .ok (.tuple #[]) w' ∧ IMap w' mb (gone I x.id) ip ∧ w.grownBy w' (some mb) := by
  obtain ⟨M, g1, g2, g3, g4⟩ := h.ex
  obtain ⟨w', e1, e2, e3⟩ := World.ownsMap.drop (t := 62) (e := 66) g1 lawI Try.underlying62 (key_int (a := (x.id : Int)) (by omega) (by omega)) ty
  refine ⟨w', e1, ⟨M.del (.int .i64 (x.id : Int)), tightV e2, ?_, fun a => ?_, fun a => ?_⟩, e3.grown⟩
  · have h1 := Maps.size_del (g1.tidy lawI) (k := .int .i64 (x.id : Int))
    rw [g3, nget_of hn hx] at h1
    have h2 := len_gone hn hx
    simp at h1
    omega
  · rw [nget_gone]
    by_cases ha : (x.id : Int) = a
    · subst ha; rw [Maps.has_del_same, if_pos rfl]; rfl
    · rw [Maps.has_del_other (by intro e; injection e with _ e; exact ha e.symm), g3, if_neg ha]
  · unfold iP
    rw [nget_gone]
    by_cases ha : (x.id : Int) = a
    · subst ha
      rw [Maps.atKey_del_same, if_pos rfl]
    · rw [Maps.atKey_del_other (by intro e; injection e with _ e; exact ha e.symm), g4, if_neg ha]
      rfl
theorem NMap.store {w : World} {mb d : Nat} {I : List Nod} {N : List Nm} (h : NMap w mb I N d) {s : ByteArray} (hs : s.size ≤ maxLen) (h0 : entN N d (L s) = none) {i : Nat} (hi : i ≠ 0) (hl : N.length ≤ 4611686018427387904) :
    ∃ w', (Instr.mapUpdate 79 (.map (some mb)) (.string s) (hV (hdO I i))).run Try.prog w = .ok () w' ∧ NMap w' mb I (addn N d (L s) i) d ∧ w.grownBy w' (some mb) := by
  have hmn := many_le N d
  obtain ⟨M, g1, g2, g3, g4⟩ := h.ex
  obtain ⟨w', e1, e2, e3⟩ := World.ownsMap.store (t := 79) (e := 40) g1 lawS Try.underlying79 (by unfold maxLen; omega) (key_str hs) (vR_mk (hV (hdO I i)))
  have hkl : WideAt.IsKeyLit (.string (L s)) := by trivial
  refine ⟨w', e1, ⟨M.put (.string (L s)) (.held (hV (hdO I i))), tightV e2, ?_, fun a => ?_, fun a => ?_⟩, e3.grown⟩
  · rw [Maps.size_put (g1.tidy lawS), g3, entry_none h0, g2, count_addn]; simp
  · rw [entry_addn h0]
    by_cases ha : L s = a
    · subst ha; rw [Maps.has_put_same g1.isMap hkl, if_pos ⟨rfl, rfl⟩]; simp [hi]
    · rw [Maps.has_put_other (by intro e; injection e with e; exact ha e.symm), g3, if_neg (fun e => ha e.2)]
  · rw [entry_addn h0]
    by_cases ha : L s = a
    · subst ha; rw [Maps.atKey_put_same g1.isMap hkl, if_pos ⟨rfl, rfl⟩]
    · rw [Maps.atKey_put_other (by intro e; injection e with e; exact ha e.symm), g4, if_neg (fun e => ha e.2)]
theorem NMap.drop {w : World} {mb : Nat} {I : List Nod} {N : List Nm} {n : Nm} (h : NMap w mb I N n.dir) {s : ByteArray} (hs : s.size ≤ maxLen) (he : L s = n.nm) (hu : N.Pairwise (fun a b => ¬ (a.dir = b.dir ∧ a.nm = b.nm))) (hz : ∀ a ∈ N, a.id ≠ 0) (hn : n ∈ N) (ty : TypeId) :
    ∃ w', (Builtin.delete_ #[79, 9] ty #[.map (some mb), .string s]).run Try.prog w = .ok (.tuple #[]) w' ∧ NMap w' mb I (unnm N n.dir n.nm) n.dir ∧ w.grownBy w' (some mb) := by
  obtain ⟨M, g1, g2, g3, g4⟩ := h.ex
  obtain ⟨w', e1, e2, e3⟩ := World.ownsMap.drop (t := 79) (e := 40) g1 lawS Try.underlying79 (key_str hs) ty
  rw [he] at e2
  refine ⟨w', e1, ⟨M.del (.string n.nm), tightV e2, ?_, fun a => ?_, fun a => ?_⟩, e3.grown⟩
  · have h1 := Maps.size_del (g1.tidy lawS) (k := .string n.nm)
    have h2 := entry_of hu hn
    have h3 := hz n hn
    rw [g3, h2] at h1
    have h4 := many_unnm hu hn n.dir
    simp [h3] at h1 h4
    omega
  · rw [entry_unnm]
    by_cases ha : n.nm = a
    · subst ha; rw [Maps.has_del_same, if_pos ⟨rfl, rfl⟩]; rfl
    · rw [Maps.has_del_other (by intro e; injection e with e; exact ha e.symm), g3, if_neg (fun e => ha e.2)]
  · rw [entry_unnm]
    by_cases ha : n.nm = a
    · subst ha; rw [Maps.atKey_del_same, if_pos ⟨rfl, rfl⟩]; rfl
    · rw [Maps.atKey_del_other (by intro e; injection e with e; exact ha e.symm), g4, if_neg (fun e => ha e.2)]

/-! ### The whole -/
structure Lay where
  fp : Nat
  mi : Nat
  ip : Nat → Nat
  hp : Nat → Nat
  mp : Nat → Nat
/-- The blocks that a file system has. -/
def foot (Y : Lay) (I : List Nod) (k : Nat) : Prop := k = Y.fp ∨ k = Y.mi ∨ ∃ x ∈ I, k = Y.ip x.id ∨ (x.kind ≠ 3 ∧ (k = Y.hp x.id ∨ k = Y.mp x.id))
def holdV (Y : Lay) (x : Nod) : Value := if x.kind = 1 then .iface 76 (pA (Y.hp x.id)) else if x.kind = 2 then .iface 78 (pA (Y.hp x.id)) else .iface 82 (.string (B x.tg))
/-- An inode in memory. -/
structure NdW (w : World) (bs : Nat) (Y : Lay) (I : List Nod) (N : List Nm) (x : Nod) : Prop where
  box : w.heap[Y.ip x.id]? = some (.cells #[.int .i64 (x.id : Int), .int .i64 (x.gen : Int), .int .i64 x.mode, .int .i64 (links I N x : Int), .int .i64 x.time, holdV Y x] 75 (0, 0))
  fil : x.kind = 1 → SW w bs (Y.hp x.id) (Y.mp x.id) x.d
  fol : x.kind = 2 → w.heap[Y.hp x.id]? = some (.cells #[.int .i64 (x.par : Int), .int .i64 (genO I x.par : Int), .map (some (Y.mp x.id))] 81 (0, 0)) ∧ NMap w (Y.mp x.id) I N x.id
def gcell (G : List Nat) (i : Nat) : Value := .int .i64 (G.getD i 0 : Int)
def fsCells (r : Nat) (mi : Nat) (G : List Nat) : List Value := .int .i64 (r : Int) :: .map (some mi) :: (List.range 201).map (gcell G)
structure FM (w : World) (bs : Nat) (Y : Lay) (f : Fst) : Prop where
  here : w.heap[Y.fp]? = some (.cells (fsCells f.room Y.mi f.G).toArray 65 (0, 0))
  map : IMap w Y.mi f.I Y.ip
  nod : ∀ x ∈ f.I, NdW w bs Y f.I f.N x
  iinj : ∀ x ∈ f.I, ∀ y ∈ f.I, Y.ip x.id = Y.ip y.id → x.id = y.id
  hinj : ∀ x ∈ f.I, ∀ y ∈ f.I, x.kind ≠ 3 → y.kind ≠ 3 → Y.hp x.id = Y.hp y.id → x.id = y.id
  minj : ∀ x ∈ f.I, ∀ y ∈ f.I, x.kind ≠ 3 → y.kind ≠ 3 → Y.mp x.id = Y.mp y.id → x.id = y.id
  mim : ∀ x ∈ f.I, x.kind ≠ 3 → Y.mp x.id ≠ Y.mi
  ge : ∀ k, foot Y f.I k → bs ≤ k
/-- What a call leaves: all blocks but the file system's own. -/
structure FK (Y : Lay) (I : List Nod) (w w' : World) : Prop where
  os : w'.os = w.os
  tape : w'.tape = w.tape
  output : w'.output = w.output
  size : w.heap.size ≤ w'.heap.size
  block : ∀ k, k < w.heap.size → ¬ foot Y I k → w'.heap[k]? = w.heap[k]?
/-- .. and what the file system has then was its own, or is new. -/
def Fresh (Y : Lay) (I : List Nod) (w : World) (Z : Lay) (J : List Nod) : Prop := ∀ k, foot Z J k → foot Y I k ∨ w.heap.size ≤ k
theorem FK.of_below {Y : Lay} {I : List Nod} {w w' : World} (h : Below w.heap.size w w') : FK Y I w w' := ⟨h.os, h.tape, h.output, h.size, fun k hk _ => h.block k hk⟩
theorem FK.of_gb {Y : Lay} {I : List Nod} {w w' : World} {b : Nat} (h : w.grownBy w' (some b)) (hb : foot Y I b) : FK Y I w w' := ⟨h.os, h.tape, h.output, h.size, fun k hk hn => h.block k hk (by simp; exact fun e => hn (e ▸ hb))⟩
theorem FK.trans {Y Z : Lay} {I J : List Nod} {a b c : World} (h : FK Y I a b) (hf : Fresh Y I a Z J) (k : FK Z J b c) : FK Y I a c :=
  ⟨k.os.trans h.os, k.tape.trans h.tape, k.output.trans h.output, Nat.le_trans h.size k.size, fun j hj hn => (k.block j (Nat.lt_of_lt_of_le hj h.size) (fun e => (hf j e).elim hn (fun g => by omega))).trans (h.block j hj hn)⟩
theorem Fresh.refl {Y : Lay} {I : List Nod} {w : World} : Fresh Y I w Y I := fun _ h => .inl h
theorem Fresh.trans {Y Z V : Lay} {I J K : List Nod} {a b : World} (h : Fresh Y I a Z J) (hs : a.heap.size ≤ b.heap.size) (k : Fresh Z J b V K) : Fresh Y I a V K := fun j hj => (k j hj).elim (h j) (fun g => .inr (by omega))
theorem NdW.keep {w w' : World} {bs : Nat} {Y : Lay} {I : List Nod} {N : List Nm} {x : Nod} (h : NdW w bs Y I N x) (h1 : w'.heap[Y.ip x.id]? = w.heap[Y.ip x.id]?) (h2 : x.kind = 1 ∨ x.kind = 2 → w'.heap[Y.hp x.id]? = w.heap[Y.hp x.id]? ∧ w'.heap[Y.mp x.id]? = w.heap[Y.mp x.id]?) : NdW w' bs Y I N x :=
  ⟨h1.trans h.box, fun hk => by
    have hs := h.fil hk
    obtain ⟨g1, g2⟩ := h2 (.inl hk)
    exact ⟨g1.trans hs.here, hs.map.keep g2, hs.good, hs.gsp, hs.gmb⟩, fun hk => by
    obtain ⟨g1, g2⟩ := h2 (.inr hk)
    exact ⟨g1.trans (h.fol hk).1, (h.fol hk).2.keep g2⟩⟩
theorem NdW.lts {w : World} {bs : Nat} {Y : Lay} {I : List Nod} {N : List Nm} {x : Nod} (h : NdW w bs Y I N x) : Y.ip x.id < w.heap.size ∧ (x.kind = 1 ∨ x.kind = 2 → Y.hp x.id < w.heap.size ∧ Y.mp x.id < w.heap.size) :=
  ⟨blk_lt h.box, fun hk => by
    rcases hk with hk | hk
    · exact ⟨(h.fil hk).lts, (h.fil hk).map.lt⟩
    · exact ⟨blk_lt (h.fol hk).1, (h.fol hk).2.lt⟩⟩
theorem FM.keep {w w' : World} {bs : Nat} {Y : Lay} {f : Fst} (h : FM w bs Y f) (hb : ∀ k, foot Y f.I k → w'.heap[k]? = w.heap[k]?) : FM w' bs Y f :=
  ⟨(hb _ (.inl rfl)).trans h.here, h.map.keep (hb _ (.inr (.inl rfl))), fun x hx => (h.nod x hx).keep (hb _ (.inr (.inr ⟨x, hx, .inl rfl⟩))) (fun hk => ⟨hb _ (.inr (.inr ⟨x, hx, .inr ⟨by omega, .inl rfl⟩⟩)), hb _ (.inr (.inr ⟨x, hx, .inr ⟨by omega, .inr rfl⟩⟩))⟩), h.iinj, h.hinj, h.minj, h.mim, h.ge⟩
theorem FM.foot_lt {w : World} {bs : Nat} {Y : Lay} {f : Fst} (h : FM w bs Y f) (hk : ∀ x ∈ f.I, x.kind = 1 ∨ x.kind = 2 ∨ x.kind = 3) : ∀ k, foot Y f.I k → k < w.heap.size := by
  rintro k (rfl | rfl | ⟨x, hx, rfl | ⟨h3, rfl | rfl⟩⟩)
  · exact blk_lt h.here
  · exact h.map.lt
  · exact (h.nod x hx).lts.1
  · exact ((h.nod x hx).lts.2 (by have := hk x hx; omega)).1
  · exact ((h.nod x hx).lts.2 (by have := hk x hx; omega)).2
theorem FM.below {w w' : World} {bs : Nat} {Y : Lay} {f : Fst} (h : FM w bs Y f) (hk : ∀ x ∈ f.I, x.kind = 1 ∨ x.kind = 2 ∨ x.kind = 3) (hb : Below w.heap.size w w') : FM w' bs Y f := h.keep (fun k hf => hb.block k (h.foot_lt hk k hf))
/-- Another file system stays. -/
theorem FM.other {w w' : World} {bs : Nat} {Y Z : Lay} {f : Fst} {J : List Nod} (h : FM w bs Y f) (hk : ∀ x ∈ f.I, x.kind = 1 ∨ x.kind = 2 ∨ x.kind = 3) (hf : FK Z J w w') (hd : ∀ k, foot Y f.I k → ¬ foot Z J k) : FM w' bs Y f :=
  h.keep (fun k hk2 => hf.block k (h.foot_lt hk k hk2) (hd k hk2))
theorem FK.below {Y : Lay} {I : List Nod} {w w' : World} {bs : Nat} (h : FK Y I w w') (hge : ∀ k, foot Y I k → bs ≤ k) (hb : bs ≤ w.heap.size) : Below bs w w' := ⟨h.os, h.tape, h.output, h.size, fun k hk => h.block k (by omega) (fun e => by have := hge k e; omega)⟩
end Go.Proofs.Ytoaahhgngelnaaa
