/-
 A text turned into bytes. Condition: it is no longer than memory bears.
-/
import Derived.Lib.ConvBytes
import Derived.Test.YtlppinfjdnhlbaaGreatDoorOMath
import Derived.Test.YtlppinfjdnhlbaaGreatDoorOToE
import Derived.Test.YtlppinfjdnhlbaaGreatDoorQRSome
import Derived.Test.YtlppinfjdnhlbaaGreatDoorKRight2
namespace Go.Proofs.YtlppinfjdnhlbaaGreatDoor
set_option maxRecDepth 100000
open Go.ChangeShapes Go.WideShapes Go.ChangeAt Go.RowKit Go.Proofs.Rk
open Pq (Fld FReads Reads fcs ams errL bytL sm dc Sm Bys byts)

theorem conv_str (s : ByteArray) (W : World) : (convert 9 82 (.string s)).run Tryz.prog W = .ok (.slice (some ⟨W.heap.size,0,none⟩) s.size (grownCap W s.size 0 5)) (Lib.bytesWorld W 5 s) :=
 Lib.run_convert_string_bytes W 9 82 5 s Tryz.underlying9 Tryz.underlying82 Tryz.underlying5
theorem conv_below (s : ByteArray) (W : World) (e : TypeId) : Below W.heap.size W (Lib.bytesWorld W e s) :=
 ⟨rfl,rfl,rfl,by rw [Lib.bytesWorld_size]; omega,fun k hk => Lib.bytesWorld_at_old W e s k hk⟩
theorem conv_reads8 (s : ByteArray) (W : World) (e : TypeId) : Reads .u8 (Lib.bytesWorld W e s) (some ⟨W.heap.size,0,none⟩) s.size (Pq.sb s):=by
 have hl : (Pq.sb s).length = s.size:=by unfold Pq.sb; rw [List.length_map]; rfl
 refine ⟨hl,fun _ => ⟨_,_,rfl,fun i hi => ?_⟩⟩
 rw [Nat.zero_add,Lib.bytesWorld_cell W e s i hi]
 unfold Pq.sb
 have hi' : i < s.data.toList.length:=by simpa using hi
 rw [List.getD_eq_getElem?_getD,List.getD_eq_getElem?_getD,List.getElem?_map,List.getElem?_eq_getElem hi']
 rfl
theorem conv_bys (s : ByteArray) : Bys (Pq.sb s):=fun z hz => by
 obtain ⟨c,_,rfl⟩:=List.mem_map.1 hz
 have:=c.toNat_lt
 omega
theorem conv_all (s : ByteArray) (W : World) (hs : s.size <= maxLen) : ∃ W2 g m,(convert 9 82 (.string s)).run Tryz.prog W = .ok (.slice (some ⟨g,0,none⟩) s.size m) W2 /\ Below W.heap.size W W2 /\ Reads .u8 W2 (some ⟨g,0,none⟩) s.size (Pq.sb s) /\ s.size <= m /\ m <= maxLen :=
 ⟨_,_,_,conv_str s W,conv_below s W _,conv_reads8 s W _,grownCap_ge W s.size 0 _,grownCap_le_maxLen W s.size 0 _ hs⟩
end Go.Proofs.YtlppinfjdnhlbaaGreatDoor
