/-
  The document's Kids. Conditions: memory holds the list; it is not long, nor are its paths.
-/
import Derived.Test.YtflgemlhocjipaaGreatDoorRef4
namespace Go.Proofs.YtflgemlhocjipaaGreatDoor
set_option maxRecDepth 100000
open Go.ChangeShapes Go.WideShapes Go.ChangeAt Go.RowKit Go.Proofs.Zn Go.Proofs.Zt

/-- The document's children of a path: none where it is not. -/
def kidsR (T : Tr) (p : Txt) : List Txt := if (get T p).isSome then kids T p else []
def RkPost (T : Tr) (p : Txt) (w : World) (e : Ending) (w' : World) : Prop := ∃ v, e = .returned (.tuple #[v, .bool (get T p).isSome]) ∧ w'.ownsRow w.heap.size 9 1 v (kidsR T p).length (scells (kidsR T p)) ∧ Below w.heap.size w w'
set_option maxHeartbeats 4000000 in
theorem rkids_any {w : World} {A : Option Addr} {n c : Nat} {T : Tr} (h : Rd ncell 9 w A n T) (hn : n ≤ 1000000) (hp : ∀ z ∈ T, z.path.length ≤ 2097152) (p : Txt) :
    Calls Tryz.prog 166 #[.slice A n c, .string (B p)] w (RkPost T p w) := by
  obtain ⟨i0, hi, hz0, hz1, hz2⟩ := info_parts infoS
  have HGE := Lib.hid (rget_any (c := c) h hn p)
  have HR := Lib.hid h
  have HPL := Lib.hid hp
  unfold RgPost ndv at HGE
  obtain ⟨pz, hpz⟩ : ∃ x, (get T p).getD nd0 = x := ⟨_, rfl⟩
  obtain ⟨is, his⟩ : ∃ b, (get T p).isSome = b := ⟨_, rfl⟩
  rw [hpz, his] at HGE
  have HIS := Lib.hid his
  clear h hp hpz his
  go_enter Tryz.func166, Tryz.ntmps166
  go_wp2_with fail
  refine HGE.out.mono ?_
  rintro e w1 ⟨rfl, hb1⟩
  obtain ⟨w2, hw2⟩ : ∃ w2, w2 = w1.alloc (.cells #[.string (B pz.path), .string (B pz.data), .int .i64 pz.cr, .int .i64 pz.ch, .int .i64 pz.kd, .int .i64 pz.ver, .int .i64 pz.ks, .int .i64 pz.own, .int .i64 pz.nx] 132) := ⟨_, rfl⟩
  have hb2 : Below w1.heap.size w1 w2 := by rw [hw2]; exact box_below w1 _
  have HB2 := Lib.hid (hb1.trans (hb2.mono hb1.size))
  have HW2 := Lib.hid hw2
  clear hb1 hb2 hw2
  go_upto_region 2 with fail
  rw [← HW2.out]
  cases is with
  | false =>
    have HE : Hid (RkPost T p w (.returned (.tuple #[.slice none 0 0, .bool false])) w2) := Lib.hid ⟨_, by rw [HIS.out], by unfold kidsR; rw [HIS.out]; exact ⟨rfl, .inl ⟨rfl, rfl⟩⟩, HB2.out⟩
    go_wp2_with fail
    go_loopw [8, 9] (fun l i wr => l = .slice none 0 0 ∧ i = .int .i64 0 ∧ wr = w2) (fun _ _ _ => 0)
    case atStart => exact ⟨rfl, rfl, rfl⟩
    case round =>
      obtain ⟨rfl, rfl, rfl⟩ := hrel
      by_cases h0 : 0 < n
      · go_wp2_with fail
        go_ret2
        exact HE.out
      · go_wp2_with fail
        go_ret2
        exact HE.out
  | true =>
    have HKR : Hid (kidsR T p = kids T p) := Lib.hid (by unfold kidsR; rw [if_pos HIS.out])
    go_wp2_with fail
    go_loopw [8, 9] (fun l i wr => ∃ k : Nat, k ≤ n ∧ i = .int .i64 k ∧ Hid (wr.ownsRow w2.heap.size 9 1 l (kids (T.take k) p).length (scells (kids (T.take k) p))) ∧ Hid (Below w2.heap.size w2 wr)) (fun _ i _ => n - (intOf i).toNat)
    case atStart => exact ⟨0, Nat.zero_le _, rfl, Lib.hid ⟨rfl, .inl ⟨rfl, rfl⟩⟩, Lib.hid (Below.refl _ _)⟩
    case round =>
      obtain ⟨k, hk, rfl, HO, HX⟩ := hrel
      by_cases hlt : k < n
      · obtain ⟨b, off, z, rfl, hz, hc⟩ := (HR.out.below (HB2.out.trans (HX.out.mono HB2.out.size))).at hlt
        have HWS := Lib.hid (kids_step hz p)
        have hzl := HPL.out z (List.mem_of_getElem? hz)
        have HPA := Lib.hid (rparent_any (B z.path) wr (by rw [B_size]; exact hzl))
        have HC := Lib.hid hc
        simp only [LB] at HPA
        obtain ⟨po, hpo⟩ : ∃ b, parentOk z.path = b := ⟨_, rfl⟩
        obtain ⟨pp, hpp⟩ : ∃ b, parent z.path = b := ⟨_, rfl⟩
        obtain ⟨bb, hbb⟩ : ∃ b, base z.path = b := ⟨_, rfl⟩
        rw [hpo, hpp] at HPA
        rw [hpo, hpp, hbb] at HWS
        have HBB := Lib.hid hbb
        have HZL := Lib.hid hzl
        have a0 : wr.cell? ⟨b, off + k * 9, none⟩ = some (.string (B z.path)) := hc 0 _ rfl
        clear hz hc hpo hpp hbb hzl
        go_wp2_with fail
        refine HPA.out.mono ?_
        rintro e w5 ⟨rfl, hb5⟩
        have HX5 := Lib.hid (HX.out.trans (hb5.mono HX.out.size))
        have HO5 := Lib.hid (own_below HO.out hb5)
        have a5 := (hb5.cell (p := ⟨b, off + k * 9, none⟩) (cell_lt a0)).trans a0
        clear hb5 a0
        cases po with
        | false =>
          rw [if_neg (fun h => by cases h.1), List.append_nil] at HWS
          go_wp2_with fail
          go_roundw
          case rel => exact ⟨k + 1, hlt, by go_num, Lib.hid (by rw [HWS.out]; exact HO5.out), HX5⟩
          case measure => simp [intOf]; omega
        | true =>
          by_cases he : pp = p
          · have t1 : (pp == p) = true := by simpa using he
            rw [if_pos ⟨rfl, he⟩] at HWS
            have HBA := Lib.hid (rbase_any (B z.path) w5 (by rw [B_size]; exact HZL.out))
            simp only [LB] at HBA
            rw [HBB.out] at HBA
            clear he
            go_wp2_with fail
            refine HBA.out.mono ?_
            rintro e w6 ⟨rfl, hb6⟩
            have HX6 := Lib.hid (HX5.out.trans (hb6.mono HX5.out.size))
            have HO6 := Lib.hid (own_below HO5.out hb6)
            have ho := HO6.out
            have hsz := HX6.out.size
            have hln := rkids_len T p k
            clear hb6 a5
            go_wp2_with (at_builtin; refine wpList_append_own _ rfl _ _ 40 rfl w2.heap.size 9 i0 _ 1 16 Tryz.underlying40 hi hz0 hz1 hz2 rfl (by decide) _ _ _ rfl (ho.alloc _) ⟨w6.heap.size, 0, none⟩ 1 1 (scell bb) rfl rfl (World.news_of_block (new_block w6 _)) (scells_one [bb]) (by unfold maxLen at *; omega) (by omega) (by simp; omega) ?_; intro v' w7 hown' hg7 hnil7)
            have HB7 := Lib.hid ((HX6.out.alloc hsz _).grown hg7 (by simp; omega) (fun j hj => (HO6.out.lt j hj).1))
            have HO7 := Lib.hid hown'
            clear hown' hg7 hnil7 ho
            go_roundw
            case rel => exact ⟨k + 1, hlt, by go_num, Lib.hid (by rw [HWS.out, scells_append, List.length_append]; exact HO7.out), HB7⟩
            case measure => simp [intOf]; omega
          · have t1 : (pp == p) = false := by simpa using he
            rw [if_neg (fun h => he h.2), List.append_nil] at HWS
            clear he a5
            go_wp2_with fail
            go_roundw
            case rel => exact ⟨k + 1, hlt, by go_num, Lib.hid (by rw [HWS.out]; exact HO5.out), HX5⟩
            case measure => simp [intOf]; omega
      · have hkn : k = n := by omega
        have HE := Lib.hid HO.out
        rw [hkn, List.take_of_length_le (by rw [HR.out.len]; exact Nat.le_refl _), ← HKR.out] at HE
        have HF : Hid (RkPost T p w (.returned (.tuple #[u8, .bool true])) wr) := Lib.hid ⟨_, by rw [HIS.out], own_base HE.out HB2.out.size, HB2.out.trans (HX.out.mono HB2.out.size)⟩
        clear hkn
        go_wp2_with fail
        go_ret2
        exact HF.out
end Go.Proofs.YtflgemlhocjipaaGreatDoor
