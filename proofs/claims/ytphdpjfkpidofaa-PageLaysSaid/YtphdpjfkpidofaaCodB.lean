/- Contracts of package codec: NewWriter, Num, Raw, Blob, Out. -/
import Derived.Test.YtphdpjfkpidofaaCodA
namespace Go.Proofs.Ytphdpjfkpidofaa
open Go.RowKit Go.Own
namespace Cod

end Cod
end Go.Proofs.Ytphdpjfkpidofaa
