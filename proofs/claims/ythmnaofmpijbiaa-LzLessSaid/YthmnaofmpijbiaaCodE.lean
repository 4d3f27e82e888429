/- Contracts of package codec: the reader's Raw and Blob. -/
import Derived.Test.YthmnaofmpijbiaaCodD
namespace Go.Proofs.Ythmnaofmpijbiaa
open Go.RowKit Go.Own
namespace Cod

end Cod
end Go.Proofs.Ythmnaofmpijbiaa
