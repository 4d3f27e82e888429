/- CodecNil: the walk. -/
import Derived.Test.YtjnldgijnpgckaaLaw1
import Derived.Test.YtjnldgijnpgckaaIn
namespace Go.Proofs.Ytjnldgijnpgckaa
open Go.RowKit Go.Own
namespace Cod

set_option maxHeartbeats 1000000 in
theorem walk_nil (a0 : Int) (w0 : (Lit.int .i64 a0).wf = true) (ao : Option Addr) (len cap : Nat) (l : List UInt8) {W : World} (hl : inBytes l W.heap.size W [.slice ao len cap]) :
    Calls Try.prog 7 #[.int .i64 a0, .slice ao len cap] W (RetTrue W) := by
  clear hl w0
  go_enter Try.func7, Try.ntmps7
  go_wp2

  refine bodyPost_ret (results_none rfl _ _ _) rfl ?_
  go_wp2
  refine bodyPost_ret (results_none rfl _ _ _) rfl ?_
  go_wp2
  refine bodyPost_ret (results_none rfl _ _ _) rfl ?_
  go_wp2_with (first | (go_at_call 9; refine (shown_any W).mono ?_; rintro e w1 ⟨rfl, hb⟩; have HB := Lib.hid hb; clear hb) | go_in)
  go_ret
  exact ⟨rfl, HB.out⟩

end Cod
end Go.Proofs.Ytjnldgijnpgckaa
