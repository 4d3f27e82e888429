/- Contracts of package codec: NewWriter, Num, Raw, Blob, Out. -/
import Derived.Test.YthmnaofmpijbiaaCodA
namespace Go.Proofs.Ythmnaofmpijbiaa
open Go.RowKit Go.Own
namespace Cod

end Cod
end Go.Proofs.Ythmnaofmpijbiaa
