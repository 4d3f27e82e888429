/- The examples at the head of all statements of layer 1. -/
import Derived.Test.YtjnldgijnpgckaaCodB
import Derived.Test.YtjnldgijnpgckaaCodE
import Derived.Test.YtjnldgijnpgckaaStr
import Derived.Test.YtjnldgijnpgckaaCodS
import Derived.Lib.SlBytesConst
namespace Go.Proofs.Ytjnldgijnpgckaa
open Go.RowKit Go.Own
namespace Cod

def RetTrue (w : World) (e : Ending) (w' : World) : Prop := e = .returned (.bool true) ∧ Below w.heap.size w w'

/-- a new slice of two bytes -/
theorem view_two (w : World) (a b : UInt8) (t : TypeId) (fz : Nat × Nat) : View (w.alloc (.cells #[.int .u8 (a.toNat : Int), .int .u8 (b.toNat : Int)] t fz)) (fun k => k = w.heap.size) (some ⟨w.heap.size, 0, none⟩) [a, b] := by
  refine .inr ⟨w.heap.size, 0, rfl, rfl, by simp, fun j hj => ?_⟩
  have hb : (w.alloc (.cells #[.int .u8 (a.toNat : Int), .int .u8 (b.toNat : Int)] t fz)).heap[w.heap.size]? = some (.cells #[.int .u8 (a.toNat : Int), .int .u8 (b.toNat : Int)] t fz) := heap_alloc_new w _
  match j, hj with
  | 0, _ => exact cell_of_block (i := 0 + 0) hb rfl
  | 1, _ => exact cell_of_block (i := 0 + 1) hb rfl
  | n + 2, h => simp at h; omega

set_option maxHeartbeats 1000000 in
theorem shown_any (w : World) : Calls Try.prog 9 #[] w (RetTrue w) := by
  have kc := fun (wx : World) (C : Array Value) (n c : Nat) => Lib.run_convert_bytes_const (P := Try.prog) wx 27 5 C n c Try.underlying27 Try.underlying5
  go_enter Try.func9, Try.ntmps9
  go_wp2_with (fail)
  refine (newWriter_any 99 w (by omega)).mono ?_
  rintro e w1 ⟨p, S1, rfl, hW, hs⟩
  have H1 : Hid (St w.heap.size w w1 [AW p ⟨99, [], 0⟩]) := (St.start w).new (AW p ⟨99, [], 0⟩) hW hs
  clear hW hs
  go_wp2_with (fail)
  refine (newWriter_any 3 w1 (by omega)).mono ?_
  rintro e w2 ⟨q, S2, rfl, hW, hs⟩
  have H2 : Hid (St w.heap.size w w2 [AW q ⟨3, [], 0⟩, AW p ⟨99, [], 0⟩]) := H1.out.new (AW q ⟨3, [], 0⟩) hW hs
  clear hW hs H1
  go_wp2_with (fail)
  obtain ⟨S, hS, hB, put⟩ := H2.out.at 1 rfl
  have PUT := Lib.hid put
  refine (num_any S p ⟨99, [], 0⟩ 258 3 w2 hS (by simp)).mono ?_
  clear put hS hB
  rintro e w3 ⟨rfl, S', hW, hs⟩
  have H3 : Hid (St w.heap.size w w3 [AW q ⟨3, [], 0⟩, AW p ⟨99, [2, 1, 0], 0⟩]) := PUT.out S' w3 (AW p ⟨99, [2, 1, 0], 0⟩) hW hs
  clear hW hs PUT H2
  go_wp2_with (fail)
  have HV := Lib.hid (view_two w3 97 98 5 (2, 3))
  obtain ⟨S, hS, hB, put⟩ := H3.out.at 1 rfl
  have PUT := Lib.hid put
  have hlt := (AW p _).lt hS
  refine (blob_any S _ p ⟨99, [2, 1, 0], 0⟩ _ [97, 98] 2 _ (Wr.keep hS ((Step.refl (fun _ => False) w3).alloc _) (fun _ _ h => h)) HV.out (fun k hk h => by have := hlt k h; omega) (by simp) (by simp)).mono ?_
  rintro e w4 ⟨rfl, S', hW, hs⟩
  have H4 : Hid (St w.heap.size w w4 [AW q ⟨3, [], 0⟩, AW p ⟨99, [2, 1, 0, 2, 0, 97, 98], 0⟩]) := PUT.out S' w4 (AW p ⟨99, [2, 1, 0, 2, 0, 97, 98], 0⟩) hW (((Step.refl S w3).alloc _).trans hs)
  clear hW hs PUT HV H3 put hS hB hlt
  go_wp2_with (fail)
  have HV := Lib.hid (view_two w4 97 98 5 (2, 3))
  obtain ⟨S, hS, hB, put⟩ := H4.out.at 0 rfl
  have PUT := Lib.hid put
  have hlt := (AW q _).lt hS
  refine (blob_any S _ q ⟨3, [], 0⟩ _ [97, 98] 2 _ (Wr.keep hS ((Step.refl (fun _ => False) w4).alloc _) (fun _ _ h => h)) HV.out (fun k hk h => by have := hlt k h; omega) (by simp) (by simp)).mono ?_
  rintro e w5 ⟨rfl, S', hW, hs⟩
  have H5 : Hid (St w.heap.size w w5 [AW q ⟨3, [], 4⟩, AW p ⟨99, [2, 1, 0, 2, 0, 97, 98], 0⟩]) := PUT.out S' w5 (AW q ⟨3, [], 4⟩) hW (((Step.refl S w4).alloc _).trans hs)
  clear hW hs PUT HV H4 put hS hB hlt
  go_wp2_with (fail)
  obtain ⟨S, hS, hB, put⟩ := H5.out.at 1 rfl
  refine (out_any S p ⟨99, [2, 1, 0, 2, 0, 97, 98], 0⟩ w5 hS (by simp)).mono ?_
  clear put hS hB
  rintro e w6 ⟨ao, cap, T, rfl, hr, -, hs⟩
  have H6 : Hid (St w.heap.size w w6 [AB ao 7 cap [2, 1, 0, 2, 0, 97, 98], AW q ⟨3, [], 4⟩, AW p ⟨99, [2, 1, 0, 2, 0, 97, 98], 0⟩]) := H5.out.new (AB ao 7 cap [2, 1, 0, 2, 0, 97, 98]) hr hs
  clear hr hs H5
  go_wp2_with (fail)
  obtain ⟨S, hS, hB, put⟩ := H6.out.at 1 rfl
  refine (out_any S q ⟨3, [], 4⟩ w6 hS (by simp)).mono ?_
  clear put hS hB
  rintro e w7 ⟨ao2, cap2, T, rfl, hr, -, hs⟩
  have H7 : Hid (St w.heap.size w w7 [AB ao 7 cap [2, 1, 0, 2, 0, 97, 98], AW q ⟨3, [], 4⟩, AW p ⟨99, [2, 1, 0, 2, 0, 97, 98], 0⟩]) := H6.out.quiet hs
  clear hr hs H6
  obtain ⟨S, hS, hB, put⟩ := H7.out.at 0 rfl
  have hstr := run_str (P := Try.prog) 27 5 9 Try.underlying27 Try.underlying5 Try.underlying9 (AB.view hS) cap
  have hstr' : (convert 27 9 (.slice ao 7 cap)).run Try.prog w7 = .ok (.string (strB [2, 1, 0, 2, 0, 97, 98])) w7 := hstr
  have hcs : (strB [2, 1, 0, 2, 0, 97, 98]).toList = [2, 1, 0, 2, 0, 97, 98] := strB_toList _
  clear hstr put hS hB
  go_wp2_with (fail)
  go_ret
  exact ⟨rfl, H7.out.below⟩

end Cod
end Go.Proofs.Ytjnldgijnpgckaa
