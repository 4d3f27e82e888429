/- Contracts of package codec: what each function does to a writer and a reader in memory. -/
import Derived.Test.YtphdpjfkpidofaaRows
import Derived.Test.YtphdpjfkpidofaaOwn
import Derived.WalkKit
import Derived.Deep.QuietTactic
import Derived.BigQuiet
import Derived.Deep.RegionLaw
import Derived.Deep.DeepMust
import Derived.Lib.Hide
namespace Go.Proofs.Ytphdpjfkpidofaa
open Go.RowKit Go.Own

theorem Try.infoU8 : (Try.prog.info? 5).map (fun i => (i.zero, i.size, i.bytes)) = some (some (.int .u8 0), 1, 1) := by kernel_rfl

namespace Cod

/-- the many lowest bytes of n, the least significant one first -/
def le (n : Nat) : Nat → List UInt8
  | 0 => []
  | k + 1 => le n k ++ [UInt8.ofNat (n / 2 ^ (8 * k))]
theorem le_len (n k : Nat) : (le n k).length = k := by induction k <;> simp [le, *]

theorem le_byte (n k : Nat) : IntKind.u8.wrap ((n : Int) / 2 ^ (8 * (k : Int)).toNat) = ((UInt8.ofNat (n / 2 ^ (8 * k))).toNat : Int) := by
  have e : (8 * (k : Int)).toNat = 8 * k := by omega
  rw [e, IntKind.wrap_u8]
  simp

/-- a writer as plain data: its room, what was written, its first error -/
structure WS where
  room : Int
  xs : List UInt8
  err : Int

def WS.lay (s : WS) (bs : List UInt8) : WS := if s.err ≠ 0 then s else if s.room - s.xs.length < bs.length then { s with err := 4 } else { s with xs := s.xs ++ bs }
def WS.num (s : WS) (n : Nat) (many : Int) : WS := if s.err ≠ 0 then s else if many < 0 ∨ 8 < many then { s with err := 1 } else s.lay (le n many.toNat)
def WS.blob (s : WS) (bs : List UInt8) : WS := if s.err ≠ 0 then s else if 65535 < bs.length then { s with err := 4 } else s.lay (le bs.length 2 ++ bs)

end Cod
end Go.Proofs.Ytphdpjfkpidofaa
