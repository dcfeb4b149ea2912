/-
  What List returns: the names in a folder, rising. Condition: how much was done.
-/
import Derived.Test.YtoaahhgngelnaaaFLook
import Derived.Test.YtoaahhgngelnaaaFHangM
import Derived.Test.YtoaahhgngelnaaaTIter
namespace Go.Proofs.Ytoaahhgngelnaaa
set_option maxRecDepth 100000
open Go.ChangeShapes Go.WideShapes Go.ChangeAt Go.RowKit Go.Proofs.Sg Go.Proofs.Fz

theorem nkeys_any (mb : Nat) (W : World) : Calls Try.prog 48 #[.map (some mb)] W fun e w' => e = .returned (.func (.func 57) #[] #[.pointer (some ⟨W.heap.size, 0, none⟩)]) ∧ W.alloc (.cells #[.map (some mb)] 79) = w' :=
  (callsIn_wide.1 (maps_Keys_any (some mb) W)).mono fun _ _ h => ⟨h.1, h.2.symm⟩
def nmcells (l : List Txt) : List Value := l.map (fun s => .string (B s))
def SnPost (l : List Txt) (w : World) (e : Ending) (w' : World) : Prop := ∃ v, e = .returned v ∧ w'.ownsRow w.heap.size 9 1 v l.length (nmcells l) ∧ Below w.heap.size w w'
theorem sort_lt {ss qs : List Txt} (h : ss.Perm qs) (hq : qs.Pairwise (· < ·)) : ss.mergeSort leB = qs := by
  rw [mergeSort_of_perm h]
  have tr : ∀ a b c : List UInt8, leB a b = true → leB b c = true → leB a c = true := fun a b c h1 h2 => by simp only [leB, decide_eq_true_eq] at *; exact List.le_trans h1 h2
  have tt : ∀ a b : List UInt8, (leB a b || leB b a) = true := fun a b => by simp only [leB, Bool.or_eq_true, decide_eq_true_eq]; exact List.le_total a b
  refine List.Perm.eq_of_pairwise (le := fun a b => leB a b = true) (fun a b _ _ h1 h2 => ?_) (List.pairwise_mergeSort tr tt qs) (hq.imp fun {a b} h => ?_) (List.mergeSort_perm qs leB)
  · simp only [leB, decide_eq_true_eq] at h1 h2
    exact List.le_antisymm h1 h2
  · simp only [leB, decide_eq_true_eq]
    exact List.le_of_lt h
theorem nsorted_any {w : World} {mb d : Nat} {I : List Nod} {N : List Nm} (h : NMap w mb I N d) (hu : N.Pairwise (fun a b => ¬ (a.dir = b.dir ∧ a.nm = b.nm))) (hz : ∀ n ∈ N, n.id ≠ 0) (hl : N.length ≤ 2000000) :
    Calls Try.prog 47 #[.func (.func 57) #[] #[.pointer (some ⟨w.heap.size, 0, none⟩)]] (w.alloc (.cells #[.map (some mb)] 79)) (SnPost (lsN N d) (w.alloc (.cells #[.map (some mb)] 79))) := by
  have hlen := many_le N d
  have hsrt := srt_lsN hu d
  obtain ⟨M, hm, hs, hh, -⟩ := h.ex
  refine (callsIn_wide.1 (slices_Sorted_keys mb _ M vR w hm (by rw [hs]; unfold maxLen; omega) (by rw [hs]; omega))).mono ?_
  rintro e w' ⟨v, ss, rfl, hp, hrow, -, hb⟩
  obtain ⟨es, hD, hpw, _⟩ := hm.entries lawS
  obtain ⟨es', hD', hko⟩ := hm.keysOf
  obtain rfl : es = es' := by rw [hD] at hD'; simpa using hD'
  have hnd : (lsN N d).Nodup := hsrt.imp (fun {a b} h1 h2 => by subst h2; exact List.lt_irrefl _ h1)
  have hp2 : (lsN N d).Perm (strKeys M) := by
    rw [hD]
    refine perm_strKeys hpw (fun p hp => by obtain ⟨v, hv⟩ := hko p hp; obtain ⟨x, _, hx, _⟩ := Maps.keyOf_str Try.underlying9 hv; exact ⟨x, hx⟩) hnd (fun x => ?_)
    rw [← hD, hh, mem_lsN, decide_eq_true_iff]
    constructor
    · rintro ⟨n, hn, e1, e2⟩; rw [← e1, ← e2, entry_of hu hn]; exact hz n hn
    · intro h0
      obtain ⟨n, hn, e1, e2, -⟩ := entry_some h0
      exact ⟨n, hn, e1, e2⟩
  have e1 := sort_lt (hp.trans hp2.symm) hsrt
  have e2 : ss.length = (lsN N d).length := (hp.trans hp2.symm).length_eq
  change w'.ownsRow _ _ _ _ _ ((ss.mergeSort leB).map encStr) at hrow
  rw [e1, e2] at hrow
  exact ⟨v, rfl, hrow, hb⟩
/-- The names of a handle's folder. -/
def lsF (f : Fst) (d : Hd) : List Txt × Int := match fol f.I d with
  | .inl e => ([], e)
  | .inr x => (lsN f.N x.id, 0)
def LsPost (w : World) (l : List Txt) (c : Int) (e : Ending) (w' : World) : Prop := ∃ v, e = .returned (.tuple #[v, .int .i64 c]) ∧ w'.ownsRow w.heap.size 9 1 v l.length (nmcells l) ∧ Below w.heap.size w w'
set_option maxHeartbeats 4000000 in
theorem flist_any {w : World} {bs : Nat} {Y : Lay} {f : Fst} (h : FM w bs Y f) (hg : Gd f) (hl : f.N.length ≤ 2000000) (d : Hd) (hd : HdOk d) :
    Calls Try.prog 25 #[pA Y.fp, hV d] w (LsPost w (lsF f d).1 (lsF f d).2) := by
  obtain ⟨w2, hw2⟩ : ∃ W, W = w.alloc (.cells #[.int .i64 d.id, .int .i64 d.gen] 40) := ⟨_, rfl⟩
  obtain ⟨q, eq⟩ : ∃ q, q = w.heap.size := ⟨_, rfl⟩
  have hb2 : Below w.heap.size w w2 := by rw [hw2]; exact box_below w _
  have hq : w2.heap[q]? = some (.cells #[.int .i64 d.id, .int .i64 d.gen] 40 (0, 0)) := by rw [hw2, eq]; exact new_block w _
  have HW2 := Lib.hid hw2
  have EQ := Lib.hid eq
  have HB2 := Lib.hid hb2
  have h2 := h.below hg.kind hb2
  have HM2 := Lib.hid h2
  have HG := Lib.hid hg
  have HNL := Lib.hid hl
  have HF := Lib.hid (open_any h2 hg d hd)
  have q0 := cell_of hq (j := 0) rfl
  have q1 := cell_of hq (j := 1) rfl
  clear h hg hd h2 hw2 eq hb2 hq hl
  go_enter Try.func25, Try.ntmps25
  go_upto_region 1 with fail
  rw [← HW2.out, ← EQ.out]
  rcases hq2 : fol f.I d with c | x
  · have hc := fol_inl hq2
    rw [opV_inl hq2] at HF
    have HQ2 := Lib.hid hq2
    clear hq2
    rcases hc with rfl | rfl
    · go_wp2_with fail
      refine HF.out.mono ?_
      rintro e w4 ⟨rfl, hb4⟩
      obtain ⟨w5, hw5⟩ : ∃ W, W = w4.alloc (.cells #[.pointer none, .pointer none] 84) := ⟨_, rfl⟩
      obtain ⟨p, hp⟩ : ∃ k, k = w4.heap.size := ⟨_, rfl⟩
      have hb5 : Below w2.heap.size w2 w5 := by rw [hw5]; exact hb4.trans ((box_below w4 _).mono hb4.size)
      have hbx : w5.heap[p]? = some (.cells #[.pointer none, .pointer none] 84 (0, 0)) := by rw [hw5, hp]; exact new_block w4 _
      have HB5 : Hid (Below w.heap.size w w5) := Lib.hid (HB2.out.trans (hb5.mono HB2.out.size))
      have HM5 := Lib.hid (HM2.out.below HG.out.kind hb5)
      have p0 := cell_of hbx (j := 0) rfl
      have p1 := cell_of hbx (j := 1) rfl
      have HW5 := Lib.hid hw5
      have HP := Lib.hid hp
      clear hb4 hb5 hw5 hp hbx
      go_upto_region 2 with fail
      rw [← HW5.out, ← HP.out]
      have HE : Hid (LsPost w (lsF f d).1 (lsF f d).2 (.returned (.tuple #[.slice none 0 0, .int .i64 175])) w5) := Lib.hid (by
        have e : lsF f d = ([], 175) := by unfold lsF; rw [HQ2.out]
        rw [e]
        exact ⟨_, rfl, World.ownsRow_nil _ _ _ _, HB5.out⟩)
      go_wp2_with fail
      exact bodyPost_ret (results_tmp2 (t := 4) (u := 5) rfl _ _ _) rfl HE.out
    · go_wp2_with fail
      refine HF.out.mono ?_
      rintro e w4 ⟨rfl, hb4⟩
      obtain ⟨w5, hw5⟩ : ∃ W, W = w4.alloc (.cells #[.pointer none, .pointer none] 84) := ⟨_, rfl⟩
      obtain ⟨p, hp⟩ : ∃ k, k = w4.heap.size := ⟨_, rfl⟩
      have hb5 : Below w2.heap.size w2 w5 := by rw [hw5]; exact hb4.trans ((box_below w4 _).mono hb4.size)
      have hbx : w5.heap[p]? = some (.cells #[.pointer none, .pointer none] 84 (0, 0)) := by rw [hw5, hp]; exact new_block w4 _
      have HB5 : Hid (Below w.heap.size w w5) := Lib.hid (HB2.out.trans (hb5.mono HB2.out.size))
      have HM5 := Lib.hid (HM2.out.below HG.out.kind hb5)
      have p0 := cell_of hbx (j := 0) rfl
      have p1 := cell_of hbx (j := 1) rfl
      have HW5 := Lib.hid hw5
      have HP := Lib.hid hp
      clear hb4 hb5 hw5 hp hbx
      go_upto_region 2 with fail
      rw [← HW5.out, ← HP.out]
      have HE : Hid (LsPost w (lsF f d).1 (lsF f d).2 (.returned (.tuple #[.slice none 0 0, .int .i64 173])) w5) := Lib.hid (by
        have e : lsF f d = ([], 173) := by unfold lsF; rw [HQ2.out]
        rw [e]
        exact ⟨_, rfl, World.ownsRow_nil _ _ _ _, HB5.out⟩)
      go_wp2_with fail
      exact bodyPost_ret (results_tmp2 (t := 4) (u := 5) rfl _ _ _) rfl HE.out
  · have HDM := Lib.hid (fol_inr hq2)
    have HLS : Hid (lsF f d = (lsN f.N x.id, 0)) := Lib.hid (by unfold lsF; rw [hq2])
    rw [opV_inr hq2] at HF
    clear hq2
    go_wp2_with fail
    refine HF.out.mono ?_
    rintro e w4 ⟨rfl, hb4⟩
    obtain ⟨w5, hw5⟩ : ∃ W, W = w4.alloc (.cells #[pA (Y.ip x.id), pA (Y.hp x.id)] 84) := ⟨_, rfl⟩
    obtain ⟨p, hp⟩ : ∃ k, k = w4.heap.size := ⟨_, rfl⟩
    have hb5 : Below w2.heap.size w2 w5 := by rw [hw5]; exact hb4.trans ((box_below w4 _).mono hb4.size)
    have hbx : w5.heap[p]? = some (.cells #[pA (Y.ip x.id), pA (Y.hp x.id)] 84 (0, 0)) := by rw [hw5, hp]; exact new_block w4 _
    have HB5 : Hid (Below w.heap.size w w5) := Lib.hid (HB2.out.trans (hb5.mono HB2.out.size))
    have HM5 := Lib.hid (HM2.out.below HG.out.kind hb5)
    have p0 := cell_of hbx (j := 0) rfl
    have p1 := cell_of hbx (j := 1) rfl
    have HW5 := Lib.hid hw5
    have HP := Lib.hid hp
    clear hb4 hb5 hw5 hp hbx
    go_upto_region 2 with fail
    rw [← HW5.out, ← HP.out]
    obtain ⟨f0, f1, f2⟩ := HM5.out.folder HDM.out.1 HDM.out.2.1
    obtain ⟨mb, hmb⟩ : ∃ k, k = Y.mp x.id := ⟨_, rfl⟩
    rw [← hmb] at f2
    have HK := Lib.hid (nkeys_any mb w5)
    have HNM : Hid (NMap w5 mb f.I f.N x.id) := Lib.hid (by rw [hmb]; exact ((HM5.out.nod x HDM.out.1).fol HDM.out.2.1).2)
    have HSO := Lib.hid (nsorted_any HNM.out HG.out.nmu HG.out.nz HNL.out)
    clear hmb
    go_wp2_with fail
    refine HK.out.mono ?_
    rintro e w6 ⟨rfl, hw6⟩
    have HB6 : Hid (Below w.heap.size w w6) := Lib.hid (by rw [← hw6]; exact HB5.out.trans ((box_below w5 _).mono HB5.out.size))
    rw [hw6] at HSO
    clear hw6
    go_wp2_with fail
    refine HSO.out.mono ?_
    rintro e w7 ⟨v, rfl, hrow, hb7⟩
    have HE : Hid (LsPost w (lsF f d).1 (lsF f d).2 (.returned (.tuple #[v, .int .i64 0])) w7) := Lib.hid (by
      rw [HLS.out]
      exact ⟨_, rfl, own_base hrow HB6.out.size, HB6.out.trans (hb7.mono HB6.out.size)⟩)
    clear hrow hb7
    go_wp2_with fail
    exact bodyPost_ret (results_tmp2 (t := 4) (u := 5) rfl _ _ _) rfl HE.out
end Go.Proofs.Ytoaahhgngelnaaa
