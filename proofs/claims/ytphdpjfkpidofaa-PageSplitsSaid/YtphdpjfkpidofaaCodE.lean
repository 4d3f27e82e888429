/- Contracts of package codec: the reader's Raw and Blob. -/
import Derived.Test.YtphdpjfkpidofaaCodD
namespace Go.Proofs.Ytphdpjfkpidofaa
open Go.RowKit Go.Own
namespace Cod

end Cod
end Go.Proofs.Ytphdpjfkpidofaa
