/- Contracts of package codec: the reader's methods. -/
import Derived.Test.YtphdpjfkpidofaaCodC
namespace Go.Proofs.Ytphdpjfkpidofaa
open Go.RowKit Go.Own
namespace Cod

def RS.num (r : RS) (many : Int) : Nat × RS :=
  if r.err ≠ 0 then (0, r) else if many < 0 ∨ 8 < many then (0, ⟨r.l, 1⟩) else if (r.l.length : Int) < many then (0, ⟨r.l, 10⟩) else (Cod.num (r.l.take many.toNat), ⟨r.l.drop many.toNat, 0⟩)
def RS.raw (r : RS) (n : Int) : List UInt8 × RS :=
  if r.err ≠ 0 then ([], r) else if n < 0 then ([], ⟨r.l, 1⟩) else if (r.l.length : Int) < n then ([], ⟨r.l, 10⟩) else (r.l.take n.toNat, ⟨r.l.drop n.toNat, 0⟩)
def blobSz (l : List UInt8) (most : Int) : Nat × Int :=
  if l.length < 2 then (0, 10) else if max most 0 < (Cod.num (l.take 2) : Int) then (0, 4) else if l.length - 2 < Cod.num (l.take 2) then (0, 10) else (Cod.num (l.take 2), 0)
def RS.blob (r : RS) (most : Int) : List UInt8 × RS :=
  if r.err ≠ 0 then ([], r) else if (blobSz r.l most).2 ≠ 0 then ([], ⟨r.l, (blobSz r.l most).2⟩) else ((r.l.drop 2).take (blobSz r.l most).1, ⟨(r.l.drop 2).drop (blobSz r.l most).1, 0⟩)
def RS.fin (r : RS) : Int := if r.err = 0 ∧ r.l ≠ [] then 11 else r.err

end Cod
end Go.Proofs.Ytphdpjfkpidofaa
