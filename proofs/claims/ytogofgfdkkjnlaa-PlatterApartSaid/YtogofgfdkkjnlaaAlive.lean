/-
  What the laws' own test of life returns: true. No condition.
-/
import Derived.Test.YtogofgfdkkjnlaaSub
import Derived.Test.YtogofgfdkkjnlaaCrash
import Derived.Test.YtogofgfdkkjnlaaRead
import Derived.Test.YtogofgfdkkjnlaaSync
import Derived.Lib.SlBytesConst
namespace Go.Proofs.Ytogofgfdkkjnlaa
open Go.ChangeShapes Go.WideShapes Go.ChangeAt Go.RowKit

def dA1 : Dk := (doD (newD 2) 0 0 0 [97, 98]).1
def dA2 : Dk := (doD dA1 2 0 0 []).1
def dA3 : Dk := (doD dA2 0 0 0 [120, 121, 122]).1
def dA4 : Dk := crash dA3 0 1
theorem life1 : dA1.wait.length = 1 ∧ dA2.wait.length = 0 ∧ dA3.wait.length = 1 ∧ dA3.firm.length = 2 := by decide +kernel
theorem life2 : (doD dA4 1 0 0 []).2.2 = 0 := by decide +kernel
theorem life3 : (doD dA4 1 0 0 []).2.1.length = 64 := by decide +kernel
theorem life4 : (doD dA4 1 0 0 []).2.1.take 3 = [120, 98, 0] := by decide +kernel
theorem life5 : (doD (newD 2) 0 0 0 [97, 98]).2.2 = 0 := by decide +kernel
theorem life6 : (doD dA1 2 0 0 []).2.2 = 0 := by decide +kernel
theorem life7 : (doD dA2 0 0 0 [120, 121, 122]).2.2 = 0 := by decide +kernel
set_option maxHeartbeats 1000000 in
theorem alive_any (w : World) : Calls Try.prog 9 #[] w fun e w' => e = .returned (.bool true) ∧ Below w.heap.size w w' := by
  have kc := fun (w : World) (C : Array Value) (n c : Nat) => Lib.run_convert_bytes_const (P := Try.prog) w 36 5 C n c Try.underlying36 Try.underlying5
  go_enter Try.func9, Try.ntmps9
  go_wp2_with fail
  refine (new_any 2 2 _ (by decide) (.inr rfl)).mono ?_
  rintro e w1 ⟨p, rfl, hp1, hb1⟩
  have HB1 := Lib.hid hb1
  have HP1 := Lib.hid (hp1.kept (box_below w1 (.cells #[.int .u8 97, .int .u8 98] 5 (2, 3))))
  have HR1 := Lib.hid (reads_kp (B := w.heap.size) (zs := [97, 98]) (len := 2) (new_block w1 (.cells #[.int .u8 97, .int .u8 98] 5 (2, 3))) rfl rfl (by intro z hz; simp at hz; omega))
  have HK1 := Lib.hid (Kp.of_below (box_below w1 (.cells #[.int .u8 97, .int .u8 98] 5 (2, 3))) hb1.size)
  clear hp1 hb1
  go_wp2_with fail
  refine (write_any w.heap.size p (newD 2) 0 _ 2 2 [97, 98] _ HP1.out HR1.out (by decide)).mono ?_
  rintro e w2 ⟨rfl, hp2, hk2⟩
  rw [life5]
  have HP2 : Hid (PDisk w2 w.heap.size p dA1) := Lib.hid hp2
  have HB2 := Lib.hid (HB1.out.trans (HK1.out.trans hk2).below)
  clear hp2 hk2
  go_wp2_with fail
  refine (sync_any w.heap.size p dA1 w2 HP2.out).mono ?_
  rintro e w3 ⟨rfl, hp3, hk3⟩
  rw [life6]
  have HP3' : Hid (PDisk w3 w.heap.size p dA2) := Lib.hid hp3
  have HB3 := Lib.hid (HB2.out.trans hk3.below)
  have HP3 := Lib.hid (HP3'.out.kept (box_below w3 (.cells #[.int .u8 120, .int .u8 121, .int .u8 122] 5 (3, 4))))
  have HR3 := Lib.hid (reads_kp (B := w.heap.size) (zs := [120, 121, 122]) (len := 3) (new_block w3 (.cells #[.int .u8 120, .int .u8 121, .int .u8 122] 5 (3, 4))) rfl rfl (by intro z hz; simp at hz; omega))
  have HK3 := Lib.hid (Kp.of_below (box_below w3 (.cells #[.int .u8 120, .int .u8 121, .int .u8 122] 5 (3, 4))) HB3.out.size)
  clear hp3 hk3
  go_wp2_with fail
  refine (write_any w.heap.size p dA2 0 _ 3 3 [120, 121, 122] _ HP3.out HR3.out (by rw [life1.2.1]; decide)).mono ?_
  rintro e w4 ⟨rfl, hp4, hk4⟩
  rw [life7]
  have HP4 : Hid (PDisk w4 w.heap.size p dA3) := Lib.hid hp4
  have HB4 := Lib.hid (HB3.out.trans (HK3.out.trans hk4).below)
  clear hp4 hk4
  go_wp2_with fail
  refine (crash_any w.heap.size p dA3 0 1 w4 HP4.out (by rw [life1.2.2.2]; decide) (by rw [life1.2.2.1]; decide)).mono ?_
  rintro e w5 ⟨q, rfl, hp5, hb5⟩
  have HP5 : Hid (PDisk w5 w4.heap.size q dA4) := Lib.hid hp5
  have HQ5 := Lib.hid (pending_any w.heap.size p dA3 w5 (HP4.out.kept hb5))
  have HB5 := Lib.hid (HB4.out.trans (hb5.mono HB4.out.size))
  clear hp5 hb5
  go_wp2_with fail
  refine HQ5.out.mono ?_
  rintro e w6 ⟨rfl, rfl⟩
  rw [life1.2.2.1]
  go_wp2_with fail
  refine (read_any w4.heap.size q dA4 0 w5 HP5.out).mono ?_
  rintro e w7 ⟨A, len, c, rfl, hr, hlc, -, hb7, -⟩
  have hlen : len = 64 := by rw [← hr.1, life3]
  subst hlen
  obtain ⟨A', c', hsl, hr', -, -⟩ := sub_to hr hlc 3 (by decide)
  rw [life4] at hr'
  have hcv := conv_reads (c := c') hr'
  have es : strOfNums [120, 98, 0] = ⟨#[120, 98, 0]⟩ := rfl
  rw [es] at hcv
  rw [life2]
  have hsl' : ∀ W : World, (Instr.slice 36 (.slice A 64 c) none (some (.int .i64 3)) none).run Try.prog W = .ok (.slice A' 3 c') W := hsl
  have HB7 := Lib.hid (HB5.out.trans (hb7.mono HB5.out.size))
  clear hr hr' hlc hsl hb7 es
  go_wp2
  go_ret
  exact ⟨rfl, HB7.out⟩
end Go.Proofs.Ytogofgfdkkjnlaa
